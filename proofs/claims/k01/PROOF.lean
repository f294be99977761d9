import PyProof.Rows.All
import Wide.All
import OpenK.AllK
import Wide.FinOn
import HandS.ForMost
import HandS.ForExc
import HandS.Wide
import HandS.Gcd
import HandS.IsInst
import HandS.Evl
import HandS.TupLe
import HandS.Style
import HandS.Defaults
import HandS.TryOnly
import HandS.Star
import HandS.Deep
import HandS.ExcInit
import HandS.ExcField
import HandS.WordsExc
import HandS.Text
import HandS.StrMore
import HandS.FStr
import HandS.Codes
import KE.IntTextText
import PyProof.StrLawsAffix
import HandS.Rev
import HandS.RevTup
import PyProof.ListNew
import PyProof.StrBlock2
import PyProof.Rows.StrMul
import HandS.MakeKw
import HandS.MakeKwOnly
import HandS.Head0
import HandS.Head1
import HandS.Head2
import HandS.Head3
import HandS.HeadHook1
import HandS.HeadHook2
import HandS.HeadEnd
import PySem.Challenge.RW_farheld_k01_whole_ratios_reckoned
set_option Elab.async false
set_option linter.all false
set_option maxRecDepth 100000
set_option maxHeartbeats 4000000
/-! Programs over data (numbers, truths, texts, lists and tuples that nobody changes): what an expression comes to, as a datum, over heaps that only grow. -/
namespace Dat
open PySem L2 Evl
section
variable {X : Cx}
/-- // by any number other than 0 of less than 9000 bits -/
def CDivA (_ j : Int) : Prop := j ≠ 0 ∧ j.natAbs.log2 < 9000
theorem op_fdivA : OpR X (binaryOp .FloorDiv) (rI CDivA fun i j => .int (i.fdiv j)) := opI fun i j _ _ _ _ _ hc q => PyProof.Rows.floordiv_int hc.1 q (.inl (PyProof.noPylong_of_log2 hc.2))
end
section
variable {K : PySem.W.Frag}
mutual
theorem dp_grow {H H' : Hp} (e : Ex H H') : ∀ (d : PyData) (v : V), Dp K H v d → Dp K H' v d
  | .none, _, h => by
    cases h
    exact .non
  | .bool b, _, h => by
    cases h
    exact .bl b
  | .int i, _, h => by
    cases h
    exact .int i
  | .str x, _, h => by
    cases h
    exact .str x
  | .list ds, _, h => by
    cases h with
    | lst hs ha => exact .lst (ex_l e hs) (dps_grow e ds _ ha)
  | .tuple ds, _, h => by
    cases h with
    | tup hs ha => exact .tup (ex_t e hs) (dps_grow e ds _ ha)
  | .dict _, _, h => by cases h
theorem dps_grow {H H' : Hp} (e : Ex H H') : ∀ (ds : List PyData) (vs : List V), DpAll K H vs ds → DpAll K H' vs ds
  | [], _, h => by
    cases h
    exact .nil
  | d :: ds, _, h => by
    cases h with
    | cons h1 h2 => exact .cons (dp_grow e d _ h1) (dps_grow e ds _ h2)
end
theorem dps_len {H : Hp} : ∀ {vs : List V} {ds : List PyData}, DpAll K H vs ds → vs.length = ds.length
  | _, _, .nil => rfl
  | _, _, .cons _ t => by rw [List.length_cons, List.length_cons, dps_len t]
theorem dps_get {H : Hp} : ∀ {vs : List V} {ds : List PyData} {i : Nat} {d : PyData}, DpAll K H vs ds → ds[i]? = some d → ∃ v, vs[i]? = some v ∧ Dp K H v d
  | _, _, i, d, .nil, e => by cases e
  | _, _, 0, d, .cons h _, e => by
    cases e
    exact ⟨_, rfl, h⟩
  | _, _, i + 1, d, .cons _ t, e => dps_get (i := i) (d := d) t e
theorem dps_back {H : Hp} : ∀ {vs : List V} {ds : List PyData} {i : Nat} {v : V}, DpAll K H vs ds → vs[i]? = some v → ∃ d, ds[i]? = some d ∧ Dp K H v d
  | _, _, i, v, .nil, e => by cases e
  | _, _, 0, v, .cons h _, e => by
    cases e
    exact ⟨_, rfl, h⟩
  | _, _, i + 1, v, .cons _ t, e => dps_back (i := i) (v := v) t e
theorem dps_at {H : Hp} {vs : List V} {ds : List PyData} {i : Int} {d : PyData} (h : DpAll K H vs ds) (e : atI ds i = some d) : ∃ v, atI vs i = some v ∧ Dp K H v d := by
  unfold atI at e ⊢
  rw [dps_len h]
  cases q : ixN ds.length i with
  | none =>
    rw [q] at e
    cases e
  | some j =>
    rw [q] at e
    exact dps_get h e
theorem dps_app {H : Hp} : ∀ {vs ws : List V} {ds es : List PyData}, DpAll K H vs ds → DpAll K H ws es → DpAll K H (vs ++ ws) (ds ++ es)
  | _, _, _, _, .nil, t => t
  | _, _, _, _, .cons h r, t => .cons h (dps_app r t)

/-! ### judgements -/
def EvD (K : PySem.W.Frag) (te : TE) (σ : L2.St) (H : Hp) (d : PyData) : Prop := ∀ H1, Ex H H1 → ∀ Q : VK, (∀ v H2, Ex H1 H2 → Dp K H2 v d → Q v H2) → te σ H1 Q
def EvDs (K : PySem.W.Frag) (ta : TA) (σ : L2.St) (H : Hp) (ds : List PyData) : Prop := ∀ H1, Ex H H1 → ∀ Q : List V → Hp → Prop, (∀ vs H2, Ex H1 H2 → DpAll K H2 vs ds → Q vs H2) → ta σ H1 Q
def EvB (tt : TT) (σ : L2.St) (H : Hp) (b : Bool) : Prop := ∀ H1, Ex H H1 → ∀ Q : Bool → Hp → Prop, (∀ H2, Ex H1 H2 → Q b H2) → tt σ H1 Q
/-- the slot i holds the datum d -/
def Sl (K : PySem.W.Frag) (σ : L2.St) (H : Hp) (i : Nat) (d : PyData) : Prop := ∃ v, σ[i]? = some (some v) ∧ Dp K H v d
variable {σ : L2.St} {H H' : Hp} {te tb tx : TE} {ta : TA} {t u : TT} {d e : PyData} {ds : List PyData}
theorem EvD.mono (x : Ex H H') (h : EvD K te σ H d) : EvD K te σ H' d := fun H1 a Q q => h H1 (x.trans a) Q q
theorem EvB.mono {b : Bool} (x : Ex H H') (h : EvB t σ H b) : EvB t σ H' b := fun H1 a Q q => h H1 (x.trans a) Q q
theorem d_var {i : Nat} (h : Sl K σ H i d) : EvD K (tVar i) σ H d := fun H1 x Q k => by
  obtain ⟨v, hs, hv⟩ := h
  exact ⟨v, hs, k v H1 (Ex.refl H1) (dp_grow x _ _ hv)⟩
theorem d_c {v : V} (h : ∀ H, Dp K H v d) : EvD K (tC v) σ H d := fun H1 _ Q k => k _ H1 (Ex.refl H1) (h _)
theorem d_int {i : Int} : EvD K (tC (.int i)) σ H (.int i) := d_c fun _ => .int i
theorem d_bl {b : Bool} : EvD K (tC (.bl b)) σ H (.bool b) := d_c fun _ => .bl b
theorem d_non : EvD K (tC .non) σ H .none := d_c fun _ => .non
theorem d_str {x : Str} : EvD K (tC (.str x)) σ H (.str x) := d_c fun _ => .str x
theorem ds_nil : EvDs K tNil σ H [] := fun H1 _ Q k => k [] H1 (Ex.refl H1) .nil
theorem ds_cons (h : EvD K te σ H d) (r : EvDs K ta σ H ds) : EvDs K (tCons te ta) σ H (d :: ds) := fun H1 x Q k =>
  h H1 x _ fun v H2 x2 hv => r H2 (x.trans x2) _ fun vs H3 x3 hvs => k _ H3 (x2.trans x3) (.cons (dp_grow x3 _ _ hv) hvs)
theorem d_tup (h : EvDs K ta σ H ds) (hl : ds.length ≤ 1000) : EvD K (tTup ta) σ H (.tuple ds) := fun H1 x Q k =>
  h H1 x _ fun vs H2 x2 hvs => ⟨sz_of (by rw [dps_len hvs]; omega), fun p hp => k _ _ (x2.trans (Ex.new hp)) (.tup (st_of upd_same) (dps_grow (Ex.new hp) _ _ hvs))⟩
theorem d_lst (h : EvDs K ta σ H ds) (hl : ds.length ≤ 1000) : EvD K (tLst ta) σ H (.list ds) := fun H1 x Q k =>
  h H1 x _ fun vs H2 x2 hvs => ⟨sz_of (by rw [dps_len hvs]; omega), fun p hp => k _ _ (x2.trans (Ex.new hp)) (.lst (sq_of upd_same) (dps_grow (Ex.new hp) _ _ hvs))⟩
/-- a two-place operation over ints -/
theorem d_I {C : Int → Int → Prop} {g : Int → Int → V} {i j : Int} (h : EvD K te σ H (.int i)) (r : EvD K tb σ H (.int j)) (hc : C i j) (hg : ∀ H, Dp K H (g i j) d) : EvD K (tOp (rI C g) te tb) σ H d := fun H1 x Q k =>
  h H1 x _ fun v H2 x2 hv => r H2 (x.trans x2) _ fun w H3 x3 hw => by
    cases hv
    cases hw
    exact ⟨i, j, rfl, rfl, hc, k _ H3 (x2.trans x3) (hg _)⟩
theorem d_I0 {g : Int → Int → V} {i j : Int} (h : EvD K te σ H (.int i)) (r : EvD K tb σ H (.int j)) (hg : ∀ H, Dp K H (g i j) d) : EvD K (tOp (rI0 g) te tb) σ H d := fun H1 x Q k =>
  h H1 x _ fun v H2 x2 hv => r H2 (x.trans x2) _ fun w H3 x3 hw => by
    cases hv
    cases hw
    exact ⟨i, j, rfl, rfl, k _ H3 (x2.trans x3) (hg _)⟩
section
variable {i j : Int}
theorem d_add (h : EvD K te σ H (.int i)) (r : EvD K tb σ H (.int j)) : EvD K (tOp (rI0 fun i j => .int (i + j)) te tb) σ H (.int (i + j)) := d_I0 h r fun _ => .int _
theorem d_sub (h : EvD K te σ H (.int i)) (r : EvD K tb σ H (.int j)) : EvD K (tOp (rI0 fun i j => .int (i - j)) te tb) σ H (.int (i - j)) := d_I0 h r fun _ => .int _
theorem d_mul (h : EvD K te σ H (.int i)) (r : EvD K tb σ H (.int j)) (hc : CMulW i j) : EvD K (tOp (rI CMulW fun i j => .int (i * j)) te tb) σ H (.int (i * j)) := d_I h r hc fun _ => .int _
theorem d_fdiv (h : EvD K te σ H (.int i)) (r : EvD K tb σ H (.int j)) (hc : CDivA i j) : EvD K (tOp (rI CDivA fun i j => .int (i.fdiv j)) te tb) σ H (.int (i.fdiv j)) := d_I h r hc fun _ => .int _
theorem d_mod (h : EvD K te σ H (.int i)) (r : EvD K tb σ H (.int j)) (hc : 0 < j) : EvD K (tOp (rI (fun _ j => 0 < j) fun i j => .int (i % j)) te tb) σ H (.int (i % j)) := d_I h r hc fun _ => .int _
theorem d_lt (h : EvD K te σ H (.int i)) (r : EvD K tb σ H (.int j)) : EvD K (tOp (rI0 fun i j => .bl (decide (i < j))) te tb) σ H (.bool (decide (i < j))) := d_I0 h r fun _ => .bl _
theorem d_le (h : EvD K te σ H (.int i)) (r : EvD K tb σ H (.int j)) : EvD K (tOp (rI0 fun i j => .bl (decide (i ≤ j))) te tb) σ H (.bool (decide (i ≤ j))) := d_I0 h r fun _ => .bl _
theorem d_gt (h : EvD K te σ H (.int i)) (r : EvD K tb σ H (.int j)) : EvD K (tOp (rI0 fun i j => .bl (decide (j < i))) te tb) σ H (.bool (decide (j < i))) := d_I0 h r fun _ => .bl _
theorem d_ge (h : EvD K te σ H (.int i)) (r : EvD K tb σ H (.int j)) : EvD K (tOp (rI0 fun i j => .bl (decide (j ≤ i))) te tb) σ H (.bool (decide (j ≤ i))) := d_I0 h r fun _ => .bl _
theorem d_eqI (h : EvD K te σ H (.int i)) (r : EvD K tb σ H (.int j)) : EvD K (tOp rEq te tb) σ H (.bool (decide (i = j))) := fun H1 x Q k =>
  h H1 x _ fun v H2 x2 hv => r H2 (x.trans x2) _ fun w H3 x3 hw => by
    cases hv
    cases hw
    refine ⟨rfl, ?_⟩
    have z : decide (V.int i = V.int j) = decide (i = j) := by
      by_cases q : i = j
      · subst q
        rw [decide_eq_true rfl, decide_eq_true rfl]
      · rw [decide_eq_false q, decide_eq_false (fun z => q (V.int.inj z))]
    rw [z]
    exact k _ H3 (x2.trans x3) (.bl _)
theorem d_neI (h : EvD K te σ H (.int i)) (r : EvD K tb σ H (.int j)) : EvD K (tOp rNe te tb) σ H (.bool (decide (i ≠ j))) := fun H1 x Q k =>
  h H1 x _ fun v H2 x2 hv => r H2 (x.trans x2) _ fun w H3 x3 hw => by
    cases hv
    cases hw
    refine ⟨rfl, ?_⟩
    have z : (!decide (V.int i = V.int j)) = decide (i ≠ j) := by
      by_cases q : i = j
      · subst q
        rw [decide_eq_true rfl, decide_eq_false (fun z => z rfl)]
        rfl
      · rw [decide_eq_true q, decide_eq_false (fun z => q (V.int.inj z))]
        rfl
    rw [z]
    exact k _ H3 (x2.trans x3) (.bl _)
theorem d_neg (h : EvD K te σ H (.int i)) : EvD K (tUn (rU fun i => .int (-i)) te) σ H (.int (-i)) := fun H1 x Q k =>
  h H1 x _ fun v H2 x2 hv => by
    cases hv
    exact ⟨i, rfl, k _ H2 x2 (.int _)⟩
theorem d_abs (h : EvD K te σ H (.int i)) : EvD K (tCB (fun xs H Q => ∃ i, xs = [.int i] ∧ Q (.int (if i < 0 then -i else i)) H) (tCons te tNil)) σ H (.int (i.natAbs : Int)) := fun H1 x Q k =>
  h H1 x _ fun v H2 x2 hv => by
    cases hv
    refine ⟨i, rfl, ?_⟩
    have z : (if i < 0 then -i else i) = (i.natAbs : Int) := by
      split <;> omega
    rw [z]
    exact k _ H2 x2 (.int _)
theorem d_toInt (h : EvD K te σ H (.int i)) : EvD K (tCB (fun xs H Q => (∃ i, xs = [.int i] ∧ Q (.int i) H) ∨ ∃ k, xs = [.bl k] ∧ Q (.int (if k then 1 else 0)) H) (tCons te tNil)) σ H (.int i) := fun H1 x Q k =>
  h H1 x _ fun v H2 x2 hv => by
    cases hv
    exact .inl ⟨i, rfl, k _ H2 x2 (.int _)⟩
theorem d_toIntB {b : Bool} (h : EvD K te σ H (.bool b)) : EvD K (tCB (fun xs H Q => (∃ i, xs = [.int i] ∧ Q (.int i) H) ∨ ∃ k, xs = [.bl k] ∧ Q (.int (if k then 1 else 0)) H) (tCons te tNil)) σ H (.int (if b then 1 else 0)) := fun H1 x Q k =>
  h H1 x _ fun v H2 x2 hv => by
    cases hv
    exact .inr ⟨b, rfl, k _ H2 x2 (.int _)⟩
theorem d_gcd (h : EvD K te σ H (.int i)) (r : EvD K tb σ H (.int j)) : EvD K (tCB rGcd (tCons te (tCons tb tNil))) σ H (.int ((Nat.gcd i.natAbs j.natAbs : Nat) : Int)) := fun H1 x Q k =>
  h H1 x _ fun v H2 x2 hv => r H2 (x.trans x2) _ fun w H3 x3 hw => by
    cases hv
    cases hw
    exact ⟨i, j, rfl, k _ H3 (x2.trans x3) (.int _)⟩
/-- t[i], xs[i] -/
theorem d_ixT (h : EvD K te σ H (.tuple ds)) (r : EvD K tb σ H (.int i)) (e : atI ds i = some d) : EvD K (tOp (rIxT K) te tb) σ H d := fun H1 x Q k =>
  h H1 x _ fun v H2 x2 hv => r H2 (x.trans x2) _ fun w H3 x3 hw => by
    cases dp_grow x3 _ _ hv with
    | tup hs ha =>
      cases hw
      obtain ⟨z, hz, hd⟩ := dps_at ha e
      exact ⟨_, _, i, z, rfl, rfl, hs, hz, k _ H3 (x2.trans x3) hd⟩
theorem d_ixL (h : EvD K te σ H (.list ds)) (r : EvD K tb σ H (.int i)) (e : atI ds i = some d) : EvD K (tOp (rIxL K) te tb) σ H d := fun H1 x Q k =>
  h H1 x _ fun v H2 x2 hv => r H2 (x.trans x2) _ fun w H3 x3 hw => by
    cases dp_grow x3 _ _ hv with
    | lst hs ha =>
      cases hw
      obtain ⟨z, hz, hd⟩ := dps_at ha e
      exact ⟨_, _, i, z, rfl, rfl, hs, hz, k _ H3 (x2.trans x3) hd⟩
theorem d_lenL (h : EvD K te σ H (.list ds)) : EvD K (tCB (fun xs H Q => ∃ p ys, xs = [.ref p] ∧ (SqL K H p ys ∨ SqT K H p ys) ∧ Q (.int ys.length) H) (tCons te tNil)) σ H (.int ds.length) := fun H1 x Q k =>
  h H1 x _ fun v H2 x2 hv => by
    cases hv with
    | lst hs ha =>
      refine ⟨_, _, rfl, .inl hs, ?_⟩
      rw [dps_len ha]
      exact k _ H2 x2 (.int _)
theorem d_lenT (h : EvD K te σ H (.tuple ds)) : EvD K (tCB (fun xs H Q => ∃ p ys, xs = [.ref p] ∧ (SqL K H p ys ∨ SqT K H p ys) ∧ Q (.int ys.length) H) (tCons te tNil)) σ H (.int ds.length) := fun H1 x Q k =>
  h H1 x _ fun v H2 x2 hv => by
    cases hv with
    | tup hs ha =>
      refine ⟨_, _, rfl, .inr hs, ?_⟩
      rw [dps_len ha]
      exact k _ H2 x2 (.int _)
end
/-- == and != of data -/
theorem d_eqD (h : EvD K te σ H d) (r : EvD K tb σ H e) (hd : SeqAt.shaped d = true) (he : SeqAt.shaped e = true) : EvD K (tOp (rEqD K) te tb) σ H (.bool (PyData.eqv d e)) := fun H1 x Q k =>
  h H1 x _ fun v H2 x2 hv => r H2 (x.trans x2) _ fun w H3 x3 hw => ⟨d, e, dp_grow x3 _ _ hv, hw, hd, he, k _ H3 (x2.trans x3) (.bl _)⟩
theorem d_neD (h : EvD K te σ H d) (r : EvD K tb σ H e) (hd : SeqAt.shaped d = true) (he : SeqAt.shaped e = true) : EvD K (tOp (rNeD K) te tb) σ H (.bool (!PyData.eqv d e)) := fun H1 x Q k =>
  h H1 x _ fun v H2 x2 hv => r H2 (x.trans x2) _ fun w H3 x3 hw => ⟨d, e, dp_grow x3 _ _ hv, hw, hd, he, k _ H3 (x2.trans x3) (.bl _)⟩
def isNone : PyData → Bool
  | .none => true
  | _ => false
theorem dec_none {v : V} {H : Hp} (h : Dp K H v d) : decide (v = V.non) = isNone d := by
  cases h <;> rfl
theorem d_isN (h : EvD K te σ H d) : EvD K (tOp (fun x y H Q => y = .non ∧ Q (.bl (decide (x = .non))) H) te (tC .non)) σ H (.bool (isNone d)) := fun H1 x Q k =>
  h H1 x _ fun v H2 x2 hv => ⟨rfl, by
    rw [dec_none hv]
    exact k _ H2 x2 (.bl _)⟩
theorem d_notN (h : EvD K te σ H d) : EvD K (tOp (fun x y H Q => y = .non ∧ Q (.bl (!decide (x = .non))) H) te (tC .non)) σ H (.bool (!isNone d)) := fun H1 x Q k =>
  h H1 x _ fun v H2 x2 hv => ⟨rfl, by
    rw [dec_none hv]
    exact k _ H2 x2 (.bl _)⟩
theorem d_isB {a b : Bool} (h : EvD K te σ H (.bool a)) (r : EvD K tb σ H (.bool b)) : EvD K (tOp (fun x y H Q => ∃ a b, x = .bl a ∧ y = .bl b ∧ Q (.bl (decide (a = b))) H) te tb) σ H (.bool (decide (a = b))) := fun H1 x Q k =>
  h H1 x _ fun v H2 x2 hv => r H2 (x.trans x2) _ fun w H3 x3 hw => by
    cases hv
    cases hw
    exact ⟨a, b, rfl, rfl, k _ H3 (x2.trans x3) (.bl _)⟩
/-! ### truths -/
theorem d_and {a b : Bool} (h : EvD K te σ H (.bool a)) (r : a = true → EvD K tb σ H (.bool b)) : EvD K (tAndV te tb) σ H (.bool (a && b)) := fun H1 x Q k =>
  h H1 x _ fun v H2 x2 hv => by
    cases hv
    refine ⟨a, rfl, ?_⟩
    cases a with
    | true =>
      show tb σ H2 Q
      exact r rfl H2 (x.trans x2) Q fun v H3 x3 hv => k v H3 (x2.trans x3) hv
    | false =>
      show Q (.bl false) H2
      exact k _ H2 x2 (.bl _)
theorem d_or {a b : Bool} (h : EvD K te σ H (.bool a)) (r : a = false → EvD K tb σ H (.bool b)) : EvD K (tOrV te tb) σ H (.bool (a || b)) := fun H1 x Q k =>
  h H1 x _ fun v H2 x2 hv => by
    cases hv
    refine ⟨a, rfl, ?_⟩
    cases a with
    | false =>
      show tb σ H2 Q
      exact r rfl H2 (x.trans x2) Q fun v H3 x3 hv => k v H3 (x2.trans x3) hv
    | true =>
      show Q (.bl true) H2
      exact k _ H2 x2 (.bl _)
theorem d_not {a : Bool} (h : EvD K te σ H (.bool a)) : EvD K (tNotV te) σ H (.bool (!a)) := fun H1 x Q k =>
  h H1 x _ fun v H2 x2 hv => by
    cases hv
    exact ⟨a, rfl, k _ H2 x2 (.bl _)⟩
theorem b_test {b : Bool} (h : EvD K te σ H (.bool b)) : EvB (tTest te) σ H b := fun H1 x Q k => h H1 x _ fun v H2 x2 hv => by
  cases hv
  exact ⟨b, rfl, k H2 x2⟩
theorem b_val {b : Bool} (h : EvD K te σ H (.bool b)) : EvB (tB te) σ H b := fun H1 x Q k => h H1 x _ fun v H2 x2 hv => by
  cases hv
  exact ⟨b, rfl, k H2 x2⟩
theorem b_not {a : Bool} (h : EvB t σ H a) : EvB (tNot t) σ H (!a) := fun H1 x Q k => h H1 x _ fun H2 x2 => k H2 x2
theorem b_and {a b : Bool} (h : EvB t σ H a) (r : a = true → EvB u σ H b) : EvB (tAnd t u) σ H (a && b) := fun H1 x Q k => h H1 x _ fun H2 x2 => by
  cases a with
  | true =>
    show u σ H2 Q
    exact r rfl H2 (x.trans x2) Q fun H3 x3 => k H3 (x2.trans x3)
  | false =>
    show Q false H2
    exact k H2 x2
theorem b_or {a b : Bool} (h : EvB t σ H a) (r : a = false → EvB u σ H b) : EvB (tOr t u) σ H (a || b) := fun H1 x Q k => h H1 x _ fun H2 x2 => by
  cases a with
  | false =>
    show u σ H2 Q
    exact r rfl H2 (x.trans x2) Q fun H3 x3 => k H3 (x2.trans x3)
  | true =>
    show Q true H2
    exact k H2 x2
theorem d_if {b : Bool} (h : EvB t σ H b) (r1 : b = true → EvD K te σ H d) (r2 : b = false → EvD K tb σ H d) : EvD K (tIf t te tb) σ H d := fun H1 x Q k => h H1 x _ fun H2 x2 => by
  cases b with
  | true =>
    show te σ H2 Q
    exact r1 rfl H2 (x.trans x2) Q fun v H3 x3 hv => k v H3 (x2.trans x3) hv
  | false =>
    show tb σ H2 Q
    exact r2 rfl H2 (x.trans x2) Q fun v H3 x3 hv => k v H3 (x2.trans x3) hv
theorem d_ite {b : Bool} (h : EvB t σ H b) (r1 : b = true → EvD K te σ H d) (r2 : b = false → EvD K tb σ H e) : EvD K (tIf t te tb) σ H (if b = true then d else e) := fun H1 x Q k => h H1 x _ fun H2 x2 => by
  cases b with
  | true =>
    show te σ H2 Q
    exact r1 rfl H2 (x.trans x2) Q fun v H3 x3 hv => k v H3 (x2.trans x3) (by rw [if_pos rfl]; exact hv)
  | false =>
    show tb σ H2 Q
    exact r2 rfl H2 (x.trans x2) Q fun v H3 x3 hv => k v H3 (x2.trans x3) (by rw [if_neg Bool.false_ne_true]; exact hv)
theorem d_is (h : EvD K te σ H d) (q : d = e) : EvD K te σ H e := q ▸ h
theorem b_is {a b : Bool} (h : EvB t σ H a) (q : a = b) : EvB t σ H b := q ▸ h
/-! ### kinds -/
/-- the name of a datum's type -/
def kind : PyData → String
  | .none => "NoneType"
  | .bool _ => "bool"
  | .int _ => "int"
  | .str _ => "str"
  | .list _ => "list"
  | .tuple _ => "tuple"
  | .dict _ => "dict"
theorem tyx_of {v : V} {H : Hp} (h : Dp K H v d) : TyX K H v (.type (kind d)) := by
  cases h with
  | non => exact .base .non
  | bl b => exact .base (.bl b)
  | int i => exact .base (.int i)
  | str x => exact .base (.str x)
  | lst hs _ =>
    rcases hs with (h | ⟨o, h⟩) | ⟨o, its, n, h, hc, _⟩
    · exact .base (.lst h)
    · exact .base (.frz h)
    · exact .kList h hc
  | tup hs _ =>
    rcases hs with (h | ⟨o, h⟩) | ⟨o, its, n, h, hc, _⟩
    · exact .base (.tup h)
    · exact .fTuple h
    · exact .kTuple h hc
theorem d_isi {c : String} {b : Bool} (h : EvD K te σ H d) (e : kitB (kind d) c = some b) : EvD K (tCB (rIsi K) (tCons te (tCons (tC (.ty c)) tNil))) σ H (.bool b) := fun H1 x Q k =>
  h H1 x _ fun v H2 x2 hv => ⟨v, .ty c, _, _, b, rfl, .ty c, tyx_of hv, kit_ty e, k _ H2 x2 (.bl _)⟩
/-- isinstance(x, (T, U)) -/
theorem d_isiT {c c' : String} {b b' : Bool} (h : EvD K te σ H d) (e : kitB (kind d) c = some b) (e' : kitB (kind d) c' = some b') : EvD K (tCB (rIsiT K) (tCons te (tCons (tTup (tCons (tC (.ty c)) (tCons (tC (.ty c')) tNil))) tNil))) σ H (.bool (b || b')) := fun H1 x Q k =>
  h H1 x _ fun v H2 x2 hv => ⟨sz_of (by show 2 ≤ 100000; decide), fun p hp => ⟨v, p, [.ty c, .ty c'], _, [.type c, .type c'], b || b', rfl, upd_same, .cons (.ty c) (.cons (.ty c') .nil), tyx_of (dp_grow (Ex.new hp) _ _ hv), by
    unfold PySem.W.kitAny PySem.W.kitAny PySem.W.kitAny
    rw [kit_ty e, kit_ty e']
    cases b <;> cases b' <;> rfl, k _ _ (x2.trans (Ex.new hp)) (.bl _)⟩⟩
/-! ### calls -/
/-- a def that makes of data a datum -/
def spD (K : PySem.W.Frag) (n : Nat) (f : List PyData → PyData → Prop) : Sp := fun vs H Q _ => ∃ ds d, ds.length = n ∧ DpAll K H vs ds ∧ f ds d ∧ ∀ v H', Ex H H' → Dp K H' v d → Q v H'
theorem d_call {n : Nat} {f : List PyData → PyData → Prop} {E : XK} (h : EvDs K ta σ H ds) (hl : ds.length = n) (hf : f ds d) : EvD K (tCall (spD K n f) [] E ta) σ H d := fun H1 x Q k =>
  h H1 x _ fun vs H2 x2 hvs => by
    refine ⟨ds, d, hl, ?_, hf, fun v H' x' hv => k v H' (x2.trans x') hv⟩
    rw [List.append_nil]
    exact hvs
/-! ### statements -/
variable {D : Ends} {tu tw : TS}
theorem z_set {i : Nat} {ts : TS} (h : EvD K te σ H d) (k : ∀ v H1, Ex H H1 → Dp K H1 v d → ts D (σ.set i (some v)) H1) : tSeq (tAsg te (gName i)) ts D σ H := h H (Ex.refl H) _ k
theorem z_if {b : Bool} {ts : TS} (h : EvB t σ H b) (k1 : b = true → ∀ H1, Ex H H1 → tu { D with nx := ts D } σ H1) (k2 : b = false → ∀ H1, Ex H H1 → tw { D with nx := ts D } σ H1) : tSeq (tIfS t tu tw) ts D σ H := h H (Ex.refl H) _ fun H1 x => by
  cases b with
  | true =>
    show tu _ σ H1
    exact k1 rfl H1 x
  | false =>
    show tw _ σ H1
    exact k2 rfl H1 x
theorem z_if1 {b : Bool} (h : EvB t σ H b) (k1 : b = true → ∀ H1, Ex H H1 → tu D σ H1) (k2 : b = false → ∀ H1, Ex H H1 → tw D σ H1) : tIfS t tu tw D σ H := h H (Ex.refl H) _ fun H1 x => by
  cases b with
  | true =>
    show tu D σ H1
    exact k1 rfl H1 x
  | false =>
    show tw D σ H1
    exact k2 rfl H1 x
theorem z_ret (h : EvD K te σ H d) (k : ∀ v H1, Ex H H1 → Dp K H1 v d → D.rt v H1) : tRet te D σ H := h H (Ex.refl H) _ k
theorem z_set1 {i : Nat} (h : EvD K te σ H d) (k : ∀ v H1, Ex H H1 → Dp K H1 v d → D.nx (σ.set i (some v)) H1) : tAsg te (gName i) D σ H := h H (Ex.refl H) _ k
theorem z_next (h : D.nx σ H) : tNext D σ H := h
theorem x_set {i : Nat} {v : V} {ts : TS} (h : ∀ Q : VK, Q v H → te σ H Q) (k : ts D (σ.set i (some v)) H) : tSeq (tAsg te (gName i)) ts D σ H := h _ k
theorem z_while {c : TT} {ts : TS} (Pv : L2.St → Hp → Prop) (μ : L2.St → Hp → Nat) (h0 : Pv σ H)
    (hs : ∀ σ1 H1, Pv σ1 H1 → c σ1 H1 fun b H2 => if b = true then tu { D with nx := fun σ2 H3 => Pv σ2 H3 ∧ μ σ2 H3 < μ σ1 H1, ct := fun σ2 H3 => Pv σ2 H3 ∧ μ σ2 H3 < μ σ1 H1, bk := ts D } σ1 H2 else ts D σ1 H2)
    (mono : ∀ σ1 H1 Q Q', (∀ b H2, Q b H2 → Q' b H2) → c σ1 H1 Q → c σ1 H1 Q') : tSeq (tWhile c tu) ts D σ H := while_by (D := { D with nx := ts D }) Pv μ h0 hs mono
theorem Sl.mono {i : Nat} (x : Ex H H') (h : Sl K σ H i d) : Sl K σ H' i d := by
  obtain ⟨v, hs, hv⟩ := h
  exact ⟨v, hs, dp_grow x _ _ hv⟩
/-- x, y = t (a tuple of two) -/
theorem g_two {i j : Nat} {v : V} {a b : PyData} {Q : L2.St → Hp → Prop} {n : Nat} (hv : Dp K H v (.tuple [a, b])) (hn : n = 2) (k : ∀ x y, Dp K H x a → Dp K H y b → Q ((σ.set i (some x)).set j (some y)) H) : gTup K n (gCons (gName i) (gCons (gName j) gNil)) v σ H Q := by
  cases hv with
  | tup hs ha =>
    cases ha with
    | cons h1 t1 =>
      cases t1 with
      | cons h2 t2 =>
        cases t2
        exact ⟨_, _, rfl, hs, hn.symm, _, _, rfl, _, _, rfl, rfl, k _ _ h1 h2⟩
end
end Dat
/-! Ratios: what their defs promise. -/
namespace Dat
open PySem L2 Evl
/-! ### a def as its callers know it -/
structure Def (P : Program) (w : World) (K : PySem.W.Frag) (mg : Str → Option Value) (base : Heap) (CX : CXT) (k : Nat) (x : Str) (ps : List Str) (sp : Sp) : Prop where
  ex : ∃ (f : Addr) (fd : FuncData), FnOk P w K mg base CX k f fd ps sp ∧ mg x = some (.ref f) ∧ PySem.W.keepIn K (.ref f) = true ∧ Binds K fd ps []
section
variable {X : Cx} {CX : CXT} {k : Nat} {ps : List Str} {sp : Sp} {E : XK} {x : Str} {p pos : Pos} {e : Expr} {es : List Expr} {t : TA}
theorem pe_dcall (D : Def X.prog X.w X.K X.mg X.base CX k x ps sp) (hr : Room k X.A) (hx : Passes CX X E) (ha : PA X (e :: es) t) (hg : Gl X x := by rfl)
    (hdb : (x == ("__debug__" : Str)) = false := by decide) (he : starEach (e :: es) X.env = (false, eval e X.env) :: starEach es X.env := by rfl) (hpl : (backTo pos (starEach es X.env)).any (·.1) = false := by rfl) :
    PE X (.Call (.Name x p) (e :: es) [] pos) (tCall sp [] E t) := by
  obtain ⟨f, fd, F, hm, hk, hb⟩ := D.ex
  exact pe_call F hr hg hm hk hb .nil hx ha hdb he hpl
end
structure Bl (mg : Str → Option Value) : Prop where
  b_int : mg "int" = none
  b_abs : mg "abs" = none
  b_len : mg "len" = none
  b_range : mg "range" = none
  b_isinstance : mg "isinstance" = none
  b_any : mg "any" = none
  b_all : mg "all" = none
  b_bool : mg "bool" = none
  b_str : mg "str" = none
  b_tuple : mg "tuple" = none
  b_list : mg "list" = none
  b_enumerate : mg "enumerate" = none
  g_gcd : mg "gcd" = some (.builtin "math.gcd")
section
variable {K : PySem.W.Frag}
theorem dps_cons {H : Hp} {vs : List V} {d : PyData} {ds : List PyData} (h : DpAll K H vs (d :: ds)) : ∃ v ws, vs = v :: ws ∧ Dp K H v d ∧ DpAll K H ws ds := by
  cases h with
  | cons h1 h2 => exact ⟨_, _, rfl, h1, h2⟩
theorem dps_nil {H : Hp} {vs : List V} (h : DpAll K H vs []) : vs = [] := by
  cases h
  rfl
end
/-! ### ratios -/
abbrev rat (p q : Int) : PyData := .tuple [.int p, .int q]
/-- the two parts in lowest terms, the bottom above 0 -/
def lowP (t b : Int) : Int := if b < 0 then (-t) / (Nat.gcd t.natAbs b.natAbs : Nat) else t / (Nat.gcd t.natAbs b.natAbs : Nat)
def lowQ (t b : Int) : Int := if b < 0 then (-b) / (Nat.gcd t.natAbs b.natAbs : Nat) else b / (Nat.gcd t.natAbs b.natAbs : Nat)
abbrev lowest (t b : Int) : PyData := rat (lowP t b) (lowQ t b)
abbrev B : Nat := 1500
def fLowest (ds : List PyData) (d : PyData) : Prop := ∃ t b : Int, ds = [.int t, .int b] ∧ b ≠ 0 ∧ b.natAbs < 2 ^ 4000 ∧ d = lowest t b
def two (f : Int → Int → Int → Int → PyData) (ds : List PyData) (d : PyData) : Prop := ∃ p q r s : Int, ds = [rat p q, rat r s] ∧ q ≠ 0 ∧ s ≠ 0 ∧ p.natAbs < 2 ^ B ∧ q.natAbs < 2 ^ B ∧ r.natAbs < 2 ^ B ∧ s.natAbs < 2 ^ B ∧ d = f p q r s
def fPlus := two fun p q r s => lowest (p * s + r * q) (q * s)
def fMinus := two fun p q r s => lowest (p * s - r * q) (q * s)
def fTimes := two fun p q r s => lowest (p * r) (q * s)
def fLess := two fun p q r s => .bool (decide (p * s < r * q))
def one1 (f : Int → Int → PyData) (ds : List PyData) (d : PyData) : Prop := ∃ p q : Int, ds = [rat p q] ∧ d = f p q
def fNegative := one1 fun p q => rat (-p) q
def fSize := one1 fun p q => rat (p.natAbs : Int) q
def fFloor (ds : List PyData) (d : PyData) : Prop := ∃ p q : Int, ds = [rat p q] ∧ q ≠ 0 ∧ q.natAbs < 2 ^ B ∧ d = .int (p.fdiv q)
theorem mul_ne {q s : Int} (h : q ≠ 0) (h' : s ≠ 0) : q * s ≠ 0 := Int.mul_ne_zero h h'
theorem small_mul {q s : Int} (h : q.natAbs < 2 ^ B) (h' : s.natAbs < 2 ^ B) : (q * s).natAbs < 2 ^ 4000 := Nat.lt_of_lt_of_le (wide_lt h h') (Nat.pow_le_pow_right (by decide) (by decide))
theorem div_ok {i j : Int} {n : Nat} (h : j ≠ 0) (h' : j.natAbs < 2 ^ n) (h0 : 0 < n := by decide) (h9 : n ≤ 9000 := by decide) : CDivA i j := ⟨h, Nat.lt_of_lt_of_le (PySem.Flt.log2_lt_of h0 h') h9⟩
theorem gcd_pos {t b : Int} (h : b ≠ 0) : 0 < Nat.gcd t.natAbs b.natAbs := Nat.gcd_pos_of_pos_right _ (by omega)
theorem div_g {i t b : Int} (h : b ≠ 0) (h' : b.natAbs < 2 ^ 4000) : CDivA i ((Nat.gcd t.natAbs b.natAbs : Nat) : Int) := by
  have h1 := gcd_pos (t := t) h
  have h2 : Nat.gcd t.natAbs b.natAbs ≤ b.natAbs := Nat.gcd_le_right _ (by omega)
  exact div_ok (n := 4000) (by omega) (by show Nat.gcd t.natAbs b.natAbs < _; exact Nat.lt_of_le_of_lt h2 h')
theorem div_ng {i t b : Int} (h : b ≠ 0) (h' : b.natAbs < 2 ^ 4000) : CDivA i (-((Nat.gcd t.natAbs b.natAbs : Nat) : Int)) := by
  have h1 := gcd_pos (t := t) h
  have h2 : Nat.gcd t.natAbs b.natAbs ≤ b.natAbs := Nat.gcd_le_right _ (by omega)
  exact div_ok (n := 4000) (by omega) (by rw [Int.natAbs_neg]; show Nat.gcd t.natAbs b.natAbs < _; exact Nat.lt_of_le_of_lt h2 h')
theorem fdiv_neg_g {t : Int} {g : Nat} (h : 0 < g) : t.fdiv (-(g : Int)) = (-t) / (g : Int) := by
  have z := Int.neg_fdiv_neg (-t) (g : Int)
  rw [Int.neg_neg] at z
  rw [z, Int.fdiv_eq_ediv_of_nonneg _ (by omega)]
theorem low_neg {t b : Int} (h : b ≠ 0) (c : decide (b < 0) = true) : PyData.tuple [.int (t.fdiv (-((Nat.gcd t.natAbs b.natAbs : Nat) : Int))), .int (b.fdiv (-((Nat.gcd t.natAbs b.natAbs : Nat) : Int)))] = lowest t b := by
  have c' := of_decide_eq_true c
  have h1 := gcd_pos (t := t) h
  show _ = rat (lowP t b) (lowQ t b)
  unfold lowP lowQ
  rw [if_pos c', if_pos c', fdiv_neg_g h1, fdiv_neg_g h1]
theorem low_pos {t b : Int} (c : decide (b < 0) = false) : PyData.tuple [.int (t.fdiv ((Nat.gcd t.natAbs b.natAbs : Nat) : Int)), .int (b.fdiv ((Nat.gcd t.natAbs b.natAbs : Nat) : Int))] = lowest t b := by
  have c' := of_decide_eq_false c
  show _ = rat (lowP t b) (lowQ t b)
  unfold lowP lowQ
  rw [if_neg c', if_neg c', Int.fdiv_eq_ediv_of_nonneg _ (by omega), Int.fdiv_eq_ediv_of_nonneg _ (by omega)]
def fCompare := two fun p q r s => .int (if p * s - r * q = 0 then 0 else if 0 < p * s - r * q then 1 else -1)
theorem cmp_zero {g : Int} (c : decide (g = 0) = true) : PyData.int 0 = .int (if g = 0 then 0 else if 0 < g then 1 else -1) := by
  rw [if_pos (of_decide_eq_true c)]
theorem cmp_sign {g : Int} (c : decide (g = 0) = false) : (if decide (0 < g) = true then PyData.int 1 else .int (-1)) = .int (if g = 0 then 0 else if 0 < g then 1 else -1) := by
  rw [if_neg (of_decide_eq_false c)]
  by_cases h : 0 < g
  · rw [if_pos h, if_pos (decide_eq_true h)]
  · rw [if_neg h, if_neg (by rw [decide_eq_false h]; decide)]
end Dat
/-! Ratios as the core's Rat: sums and products as the program works them out. -/
namespace Dat
open PySem L2 Evl
abbrev ratR (x : Rat) : PyData := rat x.num (x.den : Int)
/-- both parts below 2 ^ n -/
def Sz (n : Nat) (x : Rat) : Prop := x.num.natAbs < 2 ^ n ∧ x.den < 2 ^ n
theorem Sz.mono {n m : Nat} {x : Rat} (h : Sz n x) (l : n ≤ m) : Sz m x :=
  ⟨Nat.lt_of_lt_of_le h.1 (Nat.pow_le_pow_right (by decide) l), Nat.lt_of_lt_of_le h.2 (Nat.pow_le_pow_right (by decide) l)⟩
theorem norm_num (N : Int) (D : Nat) (h : D ≠ 0) : (Rat.normalize N D h).num = N / (Nat.gcd N.natAbs D : Nat) := by
  rw [Rat.normalize_eq]
theorem norm_den (N : Int) (D : Nat) (h : D ≠ 0) : (Rat.normalize N D h).den = D / Nat.gcd N.natAbs D := by
  rw [Rat.normalize_eq]
theorem low_norm (N : Int) (D : Nat) (h : D ≠ 0) : lowest N (D : Int) = ratR (Rat.normalize N D h) := by
  show rat (lowP N D) (lowQ N D) = rat _ _
  rw [norm_num, norm_den]
  unfold lowP lowQ
  rw [if_neg (by omega), if_neg (by omega), Int.natAbs_natCast]
  rfl
theorem sz_norm {n : Nat} (N : Int) (D : Nat) (h : D ≠ 0) (h1 : N.natAbs < 2 ^ n) (h2 : D < 2 ^ n) : Sz n (Rat.normalize N D h) := by
  constructor
  · rw [norm_num]
    refine Nat.lt_of_le_of_lt ?_ h1
    rw [Int.natAbs_ediv_of_dvd (Int.ofNat_dvd_left.mpr (Nat.gcd_dvd_left _ _))]
    exact Nat.div_le_self _ _
  · rw [norm_den]
    exact Nat.lt_of_le_of_lt (Nat.div_le_self _ _) h2
theorem mul_lt2 {a b n m : Nat} (h : a < 2 ^ n) (h' : b < 2 ^ m) : a * b < 2 ^ (n + m) := by
  rw [Nat.pow_add]
  exact Nat.mul_lt_mul'' h h'
theorem sz_add {n m : Nat} {x y : Rat} (h : Sz n x) (h' : Sz m y) : Sz (n + m + 1) (x + y) := by
  rw [Rat.add_def]
  have e : (2 : Nat) ^ (n + m + 1) = 2 ^ (n + m) + 2 ^ (n + m) := by
    rw [Nat.pow_succ]
    omega
  have h1 : (x.num * y.den).natAbs < 2 ^ (n + m) := by
    rw [Int.natAbs_mul, Int.natAbs_natCast]
    exact mul_lt2 h.1 h'.2
  have h2 : (y.num * x.den).natAbs < 2 ^ (n + m) := by
    rw [Int.natAbs_mul, Int.natAbs_natCast, Nat.mul_comm]
    exact mul_lt2 h.2 h'.1
  refine sz_norm _ _ _ ?_ ?_
  · have := Int.natAbs_add_le (x.num * y.den) (y.num * x.den)
    omega
  · have := mul_lt2 h.2 h'.2
    omega
theorem sz_mul {n m : Nat} {x y : Rat} (h : Sz n x) (h' : Sz m y) : Sz (n + m) (x * y) := by
  rw [Rat.mul_def]
  refine sz_norm _ _ _ ?_ ?_
  · rw [Int.natAbs_mul]
    exact mul_lt2 h.1 h'.1
  · exact mul_lt2 h.2 h'.2
theorem rat_of {r : Rat} {C D : Int} (h : r.num = C) (h' : (r.den : Int) = D) : ratR r = rat C D := by
  show rat r.num (r.den : Int) = _
  rw [h, h']
theorem joined1 {x y : Rat} (g : Nat.gcd x.den y.den = 1) : ratR (x + y) = rat (x.num * y.den + y.num * x.den) ((x.den : Int) * y.den) := by
  have e : x + y = Rat.add x y := rfl
  rw [e]
  unfold Rat.add
  simp only [g, dite_true]
  rfl
theorem joined2 {x y : Rat} (g : Nat.gcd x.den y.den ≠ 1) : ratR (x + y) =
    rat ((x.num * ((y.den / Nat.gcd x.den y.den : Nat) : Int) + y.num * ((x.den / Nat.gcd x.den y.den : Nat) : Int)) / (Nat.gcd (x.num * ((y.den / Nat.gcd x.den y.den : Nat) : Int) + y.num * ((x.den / Nat.gcd x.den y.den : Nat) : Int)).natAbs (Nat.gcd x.den y.den) : Nat))
      (((x.den / Nat.gcd x.den y.den : Nat) : Int) * ((y.den / Nat.gcd (x.num * ((y.den / Nat.gcd x.den y.den : Nat) : Int) + y.num * ((x.den / Nat.gcd x.den y.den : Nat) : Int)).natAbs (Nat.gcd x.den y.den) : Nat) : Int)) := by
  have e : x + y = Rat.add x y := rfl
  rw [e]
  unfold Rat.add
  simp only [g, dite_false, Rat.maybeNormalize_eq]
  refine rat_of ?_ ?_
  · show Int.divExact _ _ (Int.ofNat_dvd_left.mpr (Nat.gcd_dvd_left _ _)) = _
    rw [Int.divExact_eq_tdiv, Int.tdiv_eq_ediv_of_dvd (Int.ofNat_dvd_left.mpr (Nat.gcd_dvd_left _ _))]
  · have hd : Nat.gcd (x.num * ((y.den / Nat.gcd x.den y.den : Nat) : Int) + y.num * ((x.den / Nat.gcd x.den y.den : Nat) : Int)).natAbs (Nat.gcd x.den y.den) ∣ y.den := Nat.dvd_trans (Nat.gcd_dvd_right _ _) (Nat.gcd_dvd_right _ _)
    rw [← Int.natCast_mul, ← Nat.mul_div_assoc _ hd]
theorem timesR {x y : Rat} : ratR (x * y) = rat ((x.num / (Nat.gcd x.num.natAbs y.den : Nat)) * (y.num / (Nat.gcd y.num.natAbs x.den : Nat))) (((x.den / Nat.gcd y.num.natAbs x.den : Nat) : Int) * ((y.den / Nat.gcd x.num.natAbs y.den : Nat) : Int)) := by
  have e : x * y = Rat.mul x y := rfl
  rw [e]
  unfold Rat.mul
  refine rat_of ?_ ?_
  · show Int.divExact _ _ (Int.ofNat_dvd_left.mpr (Nat.gcd_dvd_left _ _)) * Int.divExact _ _ (Int.ofNat_dvd_left.mpr (Nat.gcd_dvd_left _ _)) = _
    rw [Int.divExact_eq_tdiv, Int.divExact_eq_tdiv, Int.tdiv_eq_ediv_of_dvd (Int.ofNat_dvd_left.mpr (Nat.gcd_dvd_left _ _)), Int.tdiv_eq_ediv_of_dvd (Int.ofNat_dvd_left.mpr (Nat.gcd_dvd_left _ _))]
  · show ((Nat.divExact _ _ (Nat.gcd_dvd_right _ _) * Nat.divExact _ _ (Nat.gcd_dvd_right _ _) : Nat) : Int) = _
    rw [Int.natCast_mul]
    rfl
theorem rat_ext {x y : Rat} (h : ratR x = ratR y) : x = y := by
  injection h with h
  injection h with h1 h
  injection h with h2 _
  injection h1 with h1
  injection h2 with h2
  exact Rat.ext h1 (by omega)
end Dat
namespace Dat
open PySem L2 Evl
def isIntD : PyData → Bool
  | .int _ => true
  | .bool _ => true
  | _ => false
def isBoolD : PyData → Bool
  | .bool _ => true
  | _ => false
def isTupD : PyData → Bool
  | .tuple _ => true
  | _ => false
theorem kit_int (d : PyData) : kitB (kind d) "int" = some (isIntD d) := by cases d <;> rfl
theorem kit_bool (d : PyData) : kitB (kind d) "bool" = some (isBoolD d) := by cases d <;> rfl
theorem kit_tuple (d : PyData) : kitB (kind d) "tuple" = some (isTupD d) := by cases d <;> rfl
abbrev FunV (K : PySem.W.Frag) (x : Str) (st : Stmt) (dvs : List V) (f : Addr) (fd : FuncData) : Prop := FunD K x x (defArgs st) (defBody st) (defScope st) dvs [] f fd
/-- a limit: none, or a whole number -/
def Lim (d : PyData) : Prop := d = .none ∨ ∃ i, d = .int i
def above : PyData → Int → Bool
  | .int l, n => decide (l ≤ n)
  | _, _ => true
def below : PyData → Int → Bool
  | .int h, n => decide (n ≤ h)
  | _, _ => true
def wholeIn : PyData → PyData → PyData → Bool
  | .int n, lo, hi => above lo n && below hi n
  | _, _, _ => false
def fWhole (ds : List PyData) (d : PyData) : Prop := ∃ t lo hi, ds = [t, lo, hi] ∧ Lim lo ∧ Lim hi ∧ d = .bool (wholeIn t lo hi)
def leD : PyData → PyData → Bool
  | .int l, .int n => decide (l ≤ n)
  | _, _ => true
section
variable {K : PySem.W.Frag} {te tb : TE} {σ : L2.St} {H : Hp} {t lo hi : PyData}
theorem whole_int (c : (!isIntD t || isBoolD t) = false) : ∃ n, t = .int n := by
  cases t <;> first | exact ⟨_, rfl⟩ | cases c
theorem le_lo (l : Lim lo) (c0 : isNone lo = false) (c : (!isIntD t || isBoolD t) = false) (h : EvD K te σ H lo) (r : EvD K tb σ H t) : EvD K (tOp (rI0 fun i j => .bl (decide (i ≤ j))) te tb) σ H (.bool (leD lo t)) := by
  obtain ⟨n, rfl⟩ := whole_int c
  rcases l with rfl | ⟨i, rfl⟩
  · cases c0
  · exact d_le h r
theorem le_hi (l : Lim hi) (c0 : isNone hi = false) (c : (!isIntD t || isBoolD t) = false) (h : EvD K te σ H t) (r : EvD K tb σ H hi) : EvD K (tOp (rI0 fun i j => .bl (decide (i ≤ j))) te tb) σ H (.bool (leD t hi)) := by
  obtain ⟨n, rfl⟩ := whole_int c
  rcases l with rfl | ⟨i, rfl⟩
  · cases c0
  · exact d_le h r
theorem whole_no (c : (!isIntD t || isBoolD t) = true) : wholeIn t lo hi = false := by
  cases t <;> first | rfl | cases c
theorem whole_yes (l1 : Lim lo) (l2 : Lim hi) (c : (!isIntD t || isBoolD t) = false) : ((isNone lo || leD lo t) && (isNone hi || leD t hi)) = wholeIn t lo hi := by
  obtain ⟨n, rfl⟩ := whole_int c
  rcases l1 with rfl | ⟨i, rfl⟩ <;> rcases l2 with rfl | ⟨j, rfl⟩ <;> rfl
end
end Dat
namespace Dat
open PySem L2 Evl
def fJoined (ds : List PyData) (d : PyData) : Prop := ∃ x y : Rat, ds = [ratR x, .int y.num, .int (y.den : Int)] ∧ Sz B x ∧ Sz B y ∧ d = ratR (x + y)
def fPlusR (ds : List PyData) (d : PyData) : Prop := ∃ x y : Rat, ds = [ratR x, ratR y] ∧ Sz B x ∧ Sz B y ∧ d = ratR (x + y)
def fTimesR (ds : List PyData) (d : PyData) : Prop := ∃ x y : Rat, ds = [ratR x, ratR y] ∧ Sz B x ∧ Sz B y ∧ d = ratR (x * y)
theorem nz {g : Nat} (h : 0 < g) : ((g : Nat) : Int) ≠ 0 := by omega
theorem fdiv_nat (a g : Nat) : PyData.int ((a : Int).fdiv (g : Int)) = .int ((a / g : Nat) : Int) := by
  rw [Int.fdiv_eq_ediv_of_nonneg _ (by omega)]
  rfl
theorem fdiv_int (a : Int) (g : Nat) : PyData.int (a.fdiv (g : Int)) = .int (a / (g : Int)) := by
  rw [Int.fdiv_eq_ediv_of_nonneg _ (by omega)]
theorem nat_of {a : Nat} (c : decide ((a : Int) = 1) = true) : a = 1 := by
  have := of_decide_eq_true c
  omega
theorem nat_ne {a : Nat} (c : decide ((a : Int) = 1) = false) : a ≠ 1 := by
  have := of_decide_eq_false c
  omega
theorem div_lt {x : Int} {g n : Nat} (h : g ∣ x.natAbs) (h' : x.natAbs < 2 ^ n) : (x / (g : Int)).natAbs < 2 ^ n := by
  rw [Int.natAbs_ediv_of_dvd (Int.ofNat_dvd_left.mpr h)]
  exact Nat.lt_of_le_of_lt (Nat.div_le_self _ _) h'
theorem den_mul (x y : Rat) : (x.den : Int) * (y.den : Int) ≠ 0 := Int.mul_ne_zero (by have := x.den_pos; omega) (by have := y.den_pos; omega)
theorem low_add (x y : Rat) : ratR (x + y) = lowest (x.num * y.den + y.num * x.den) ((x.den : Int) * y.den) := by
  rw [Rat.add_def, ← low_norm, Int.natCast_mul]
theorem low_mul (x y : Rat) : ratR (x * y) = lowest (x.num * y.num) ((x.den : Int) * y.den) := by
  rw [Rat.mul_def, ← low_norm, Int.natCast_mul]
end Dat
namespace K01
open PySem L2 Evl Dat
def topS (i : Nat) : Stmt := PySem.Challenge.pw_farheld_k01_whole_ratios_reckoned.main.body.getD i (.Pass ⟨0, 0, 0, 0⟩)
section
variable {P : Program} {w : World} {K : PySem.W.Frag} {mg : Str → Option Value} {base : Heap}
abbrev s_is_whole : Stmt := topS 9
abbrev N_is_whole : List Str := ["thing", "low", "high"]
theorem sc_is_whole : FnScope N_is_whole ["thing", "low", "high"] (defScope s_is_whole) := ⟨rfl, rfl, rfl, by decide +kernel, rfl, by decide +kernel, by decide +kernel⟩
theorem ok_is_whole {f : Addr} {fd : FuncData} (F : FunV K "is_whole" s_is_whole [.non, .non] f fd) (T : Bl mg)  : FnOk P w K mg base CX0 1 f fd ["thing", "low", "high"] (spD K 3 fWhole) := by
  refine F.ok sc_is_whole (fun vs H Q E h => ?_) (fun cdv A outer s H vs Q E hr h => ?_)
  · obtain ⟨ds, d, hl, hd, _⟩ := h
    exact (dps_len hd).trans hl
  · obtain ⟨ds, d, hl, hd, hf, k⟩ := h
    obtain ⟨t, lo, hi, rfl, l1, l2, rfl⟩ := hf
    obtain ⟨v_thing, vs, rfl, h_thing, hd⟩ := dps_cons hd
    obtain ⟨v_low, vs, rfl, h_low, hd⟩ := dps_cons hd
    obtain ⟨v_high, vs, rfl, h_high, hd⟩ := dps_cons hd
    obtain rfl := dps_nil hd
    have ex : Ex H H := Ex.refl H
    refine ⟨_, (pss_cons (ps_if (PW.pt (pw_or (pt_not (pt_val (pe_callB call_isi (by rfl) T.b_isinstance (by decide +kernel) (pa_cons (pv 0) (pa_cons (pe_bltn (v := .ty "int") (by rfl) T.b_int (by decide +kernel) rfl) pa_nil))))) (pw_or1 (pt_val (pe_callB call_isi (by rfl) T.b_isinstance (by decide +kernel) (pa_cons (pv 0) (pa_cons (pe_bltn (v := .ty "bool") (by rfl) T.b_bool (by decide +kernel) rfl) pa_nil))))))) (pss_one (ps_ret pe_bl)) pss_nil)
    (pss_one (ps_ret (pe_and (pe_or (pe_cmpR op_isN (pv 1) pe_non (nomark _)) (pe_one (pe_cmpR op_le (pv 1) (pv 0) (nomark _)))) (pe_one (pe_or (pe_cmpR op_isN (pv 2) pe_non (nomark _)) (pe_one (pe_cmpR op_le (pv 0) (pv 2) (nomark _))))))))), ?_⟩
    refine z_if (σ := [some (v_thing), some (v_low), some (v_high)]) (b_or (b_not (b_val (d_isi (d_var ⟨_, rfl, h_thing⟩) (kit_int _)))) (fun c_0 => (b_val (d_isi (d_var ⟨_, rfl, h_thing⟩) (kit_bool _))))) (fun c4 H1 e => ?_) (fun c4 H1 e => ?_)
    · replace h_thing := dp_grow e _ _ h_thing
      replace h_low := dp_grow e _ _ h_low
      replace h_high := dp_grow e _ _ h_high
      replace ex := ex.trans e
      refine z_ret (K := K) (σ := [some (v_thing), some (v_low), some (v_high)]) d_bl fun v H1 e h => ?_
      replace ex := ex.trans e
      exact k v _ ex (by first | (rw [whole_no (by assumption)]; exact h) | (rw [← whole_yes l1 l2 (by assumption)]; exact h))
    · replace h_thing := dp_grow e _ _ h_thing
      replace h_low := dp_grow e _ _ h_low
      replace h_high := dp_grow e _ _ h_high
      replace ex := ex.trans e
      refine z_next ?_
      refine z_ret (K := K) (σ := [some (v_thing), some (v_low), some (v_high)]) (d_and (d_or (d_isN (d_var ⟨_, rfl, h_low⟩)) (fun c_0 => (le_lo l1 (by assumption) (by assumption) (d_var ⟨_, rfl, h_low⟩) (d_var ⟨_, rfl, h_thing⟩)))) (fun c_0 => (d_or (d_isN (d_var ⟨_, rfl, h_high⟩)) (fun c_0 => (le_hi l2 (by assumption) (by assumption) (d_var ⟨_, rfl, h_thing⟩) (d_var ⟨_, rfl, h_high⟩)))))) fun v H1 e h => ?_
      replace ex := ex.trans e
      exact k v _ ex (by first | (rw [whole_no (by assumption)]; exact h) | (rw [← whole_yes l1 l2 (by assumption)]; exact h))

end
end K01
namespace K01
open PySem L2 Evl Dat
section
variable {P : Program} {w : World} {K : PySem.W.Frag} {mg : Str → Option Value} {base : Heap}
abbrev s_joined : Stmt := topS 15
abbrev N_joined : List Str := ["one", "top", "bottom", "shared", "part", "total", "rest"]
theorem sc_joined : FnScope N_joined ["one", "top", "bottom"] (defScope s_joined) := ⟨rfl, rfl, rfl, by decide +kernel, rfl, by decide +kernel, by decide +kernel⟩
theorem ok_joined {f : Addr} {fd : FuncData} (F : Fun K "_joined" "_joined" s_joined f fd) (T : Bl mg)  : FnOk P w K mg base CX0 1 f fd ["one", "top", "bottom"] (spD K 3 fJoined) := by
  refine F.ok sc_joined (fun vs H Q E h => ?_) (fun cdv A outer s H vs Q E hr h => ?_)
  · obtain ⟨ds, d, hl, hd, _⟩ := h
    exact (dps_len hd).trans hl
  · obtain ⟨ds, d, hl, hd, hf, k⟩ := h
    obtain ⟨x, y, rfl, ⟨bxn, bxd⟩, ⟨byn, byd⟩, rfl⟩ := hf
    replace bxd : (x.den : Int).natAbs < 2 ^ B := bxd
    replace byd : (y.den : Int).natAbs < 2 ^ B := byd
    have g0 : 0 < Nat.gcd x.den y.den := Nat.gcd_pos_of_pos_left _ x.den_pos
    have gb : (((Nat.gcd x.den y.den : Nat) : Int)).natAbs < 2 ^ B := Nat.lt_of_le_of_lt (Nat.gcd_le_left _ x.den_pos) bxd
    have bpx : (((x.den / Nat.gcd x.den y.den : Nat) : Int)).natAbs < 2 ^ B := Nat.lt_of_le_of_lt (Nat.div_le_self _ _) bxd
    have bpy : (((y.den / Nat.gcd x.den y.den : Nat) : Int)).natAbs < 2 ^ B := Nat.lt_of_le_of_lt (Nat.div_le_self _ _) byd
    have r0 : ∀ t : Int, 0 < Nat.gcd t.natAbs (Nat.gcd x.den y.den) := fun t => Nat.gcd_pos_of_pos_right _ g0
    have rb : ∀ t : Int, (((Nat.gcd t.natAbs (Nat.gcd x.den y.den) : Nat) : Int)).natAbs < 2 ^ B := fun t => Nat.lt_of_le_of_lt (Nat.gcd_le_right _ g0) gb
    have bpr : ∀ t : Int, (((y.den / Nat.gcd t.natAbs (Nat.gcd x.den y.den) : Nat) : Int)).natAbs < 2 ^ B := fun t => Nat.lt_of_le_of_lt (Nat.div_le_self _ _) byd
    obtain ⟨v_one, vs, rfl, h_one, hd⟩ := dps_cons hd
    obtain ⟨v_top, vs, rfl, h_top, hd⟩ := dps_cons hd
    obtain ⟨v_bottom, vs, rfl, h_bottom, hd⟩ := dps_cons hd
    obtain rfl := dps_nil hd
    have ex : Ex H H := Ex.refl H
    refine ⟨_, (pss_cons (ps_set (i := 3) sc_joined.nd rfl (Or.inl rfl) (pe_callBfun cr_gcd (by rfl) T.g_gcd (pa_cons (pe_ix (r := rIxT K) ix_tup (pv 0) pe_int (fun _ _ => rfl)) (pa_cons (pv 2) pa_nil))))
    (pss_cons (ps_if (pt_cmpR op_eq (pv 3) pe_int (nomark _)) (pss_one (ps_ret (pe_tup (pa_cons (pe_op op_add (pe_op op_mulW (pe_ix (r := rIxT K) ix_tup (pv 0) pe_int (fun _ _ => rfl)) (pv 2)) (pe_op op_mulW (pv 1) (pe_ix (r := rIxT K) ix_tup (pv 0) pe_int (fun _ _ => rfl)))) (pa_cons (pe_op op_mulW (pe_ix (r := rIxT K) ix_tup (pv 0) pe_int (fun _ _ => rfl)) (pv 2)) pa_nil))))) pss_nil)
    (pss_cons (ps_set (i := 4) sc_joined.nd rfl (Or.inl rfl) (pe_op op_fdivA (pe_ix (r := rIxT K) ix_tup (pv 0) pe_int (fun _ _ => rfl)) (pv 3)))
    (pss_cons (ps_set (i := 5) sc_joined.nd rfl (Or.inl rfl) (pe_op op_add (pe_op op_mulW (pe_ix (r := rIxT K) ix_tup (pv 0) pe_int (fun _ _ => rfl)) (pe_op op_fdivA (pv 2) (pv 3))) (pe_op op_mulW (pv 1) (pv 4))))
    (pss_cons (ps_set (i := 6) sc_joined.nd rfl (Or.inl rfl) (pe_callBfun cr_gcd (by rfl) T.g_gcd (pa_cons (pv 5) (pa_cons (pv 3) pa_nil))))
    (pss_one (ps_ret (pe_tup (pa_cons (pe_op op_fdivA (pv 5) (pv 6)) (pa_cons (pe_op op_mulW (pv 4) (pe_op op_fdivA (pv 2) (pv 6))) pa_nil)))))))))), ?_⟩
    refine z_set (K := K) (σ := [some (v_one), some (v_top), some (v_bottom), none, none, none, none]) (d_gcd (d_ixT (d_var ⟨_, rfl, h_one⟩) d_int rfl) (d_var ⟨_, rfl, h_bottom⟩)) fun v_shared1 H1 e h' => ?_
    replace h_one := dp_grow e _ _ h_one
    replace h_top := dp_grow e _ _ h_top
    replace h_bottom := dp_grow e _ _ h_bottom
    replace ex := ex.trans e
    have h_shared := h'
    clear h'
    refine z_if (σ := [some (v_one), some (v_top), some (v_bottom), some v_shared1, none, none, none]) (b_test (d_eqI (d_var ⟨_, rfl, h_shared⟩) d_int)) (fun c4 H1 e => ?_) (fun c4 H1 e => ?_)
    · replace h_one := dp_grow e _ _ h_one
      replace h_top := dp_grow e _ _ h_top
      replace h_bottom := dp_grow e _ _ h_bottom
      replace h_shared := dp_grow e _ _ h_shared
      replace ex := ex.trans e
      refine z_ret (K := K) (σ := [some (v_one), some (v_top), some (v_bottom), some v_shared1, none, none, none]) (d_tup (ds_cons (d_add (d_mul (d_ixT (d_var ⟨_, rfl, h_one⟩) d_int rfl) (d_var ⟨_, rfl, h_bottom⟩) (wide_mul (by assumption) (by assumption) (by decide) (by decide) (by decide))) (d_mul (d_var ⟨_, rfl, h_top⟩) (d_ixT (d_var ⟨_, rfl, h_one⟩) d_int rfl) (wide_mul (by assumption) (by assumption) (by decide) (by decide) (by decide)))) (ds_cons (d_mul (d_ixT (d_var ⟨_, rfl, h_one⟩) d_int rfl) (d_var ⟨_, rfl, h_bottom⟩) (wide_mul (by assumption) (by assumption) (by decide) (by decide) (by decide))) ds_nil)) (by show 2 ≤ 1000; decide)) fun v H1 e h => ?_
      replace ex := ex.trans e
      have h' : Dp K H1 v (ratR (x + y)) := by first | (rw [joined1 (nat_of c4)]; exact h) | (rw [joined2 (nat_ne c4)]; exact h)
      exact k v _ ex h'
    · replace h_one := dp_grow e _ _ h_one
      replace h_top := dp_grow e _ _ h_top
      replace h_bottom := dp_grow e _ _ h_bottom
      replace h_shared := dp_grow e _ _ h_shared
      replace ex := ex.trans e
      refine z_next ?_
      refine z_set (K := K) (σ := [some (v_one), some (v_top), some (v_bottom), some v_shared1, none, none, none]) (d_is (d_fdiv (d_ixT (d_var ⟨_, rfl, h_one⟩) d_int rfl) (d_var ⟨_, rfl, h_shared⟩) (div_ok (n := B) (nz g0) gb (by decide) (by decide))) (fdiv_nat _ _)) fun v_part2 H1 e h' => ?_
      replace h_one := dp_grow e _ _ h_one
      replace h_top := dp_grow e _ _ h_top
      replace h_bottom := dp_grow e _ _ h_bottom
      replace h_shared := dp_grow e _ _ h_shared
      replace ex := ex.trans e
      have h_part := h'
      clear h'
      refine z_set (K := K) (σ := [some (v_one), some (v_top), some (v_bottom), some v_shared1, some v_part2, none, none]) (d_add (d_mul (d_ixT (d_var ⟨_, rfl, h_one⟩) d_int rfl) (d_is (d_fdiv (d_var ⟨_, rfl, h_bottom⟩) (d_var ⟨_, rfl, h_shared⟩) (div_ok (n := B) (nz g0) gb (by decide) (by decide))) (fdiv_nat _ _)) (wide_mul (by assumption) (by assumption) (by decide) (by decide) (by decide))) (d_mul (d_var ⟨_, rfl, h_top⟩) (d_var ⟨_, rfl, h_part⟩) (wide_mul (by assumption) (by assumption) (by decide) (by decide) (by decide)))) fun v_total3 H1 e h' => ?_
      replace h_one := dp_grow e _ _ h_one
      replace h_top := dp_grow e _ _ h_top
      replace h_bottom := dp_grow e _ _ h_bottom
      replace h_shared := dp_grow e _ _ h_shared
      replace h_part := dp_grow e _ _ h_part
      replace ex := ex.trans e
      have h_total := h'
      clear h'
      refine z_set (K := K) (σ := [some (v_one), some (v_top), some (v_bottom), some v_shared1, some v_part2, some v_total3, none]) (d_gcd (d_var ⟨_, rfl, h_total⟩) (d_var ⟨_, rfl, h_shared⟩)) fun v_rest4 H1 e h' => ?_
      replace h_one := dp_grow e _ _ h_one
      replace h_top := dp_grow e _ _ h_top
      replace h_bottom := dp_grow e _ _ h_bottom
      replace h_shared := dp_grow e _ _ h_shared
      replace h_part := dp_grow e _ _ h_part
      replace h_total := dp_grow e _ _ h_total
      replace ex := ex.trans e
      have h_rest := h'
      clear h'
      refine z_ret (K := K) (σ := [some (v_one), some (v_top), some (v_bottom), some v_shared1, some v_part2, some v_total3, some v_rest4]) (d_tup (ds_cons (d_is (d_fdiv (d_var ⟨_, rfl, h_total⟩) (d_var ⟨_, rfl, h_rest⟩) (div_ok (n := B) (nz (r0 _)) (rb _) (by decide) (by decide))) (fdiv_int _ _)) (ds_cons (d_mul (d_var ⟨_, rfl, h_part⟩) (d_is (d_fdiv (d_var ⟨_, rfl, h_bottom⟩) (d_var ⟨_, rfl, h_rest⟩) (div_ok (n := B) (nz (r0 _)) (rb _) (by decide) (by decide))) (fdiv_nat _ _)) (wide_mul (by assumption) (bpr _) (by decide) (by decide) (by decide))) ds_nil)) (by show 2 ≤ 1000; decide)) fun v H1 e h => ?_
      replace ex := ex.trans e
      have h' : Dp K H1 v (ratR (x + y)) := by first | (rw [joined1 (nat_of c4)]; exact h) | (rw [joined2 (nat_ne c4)]; exact h)
      exact k v _ ex h'

abbrev s_plus : Stmt := topS 13
abbrev N_plus : List Str := ["one", "other"]
theorem sc_plus : FnScope N_plus ["one", "other"] (defScope s_plus) := ⟨rfl, rfl, rfl, by decide +kernel, rfl, by decide +kernel, by decide +kernel⟩
theorem ok_plus {f : Addr} {fd : FuncData} (F : Fun K "plus" "plus" s_plus f fd) (T : Bl mg) (D_joined : Def P w K mg base CX0 1 "_joined" ["one", "top", "bottom"] (spD K 3 fJoined)) : FnOk P w K mg base CX0 2 f fd ["one", "other"] (spD K 2 fPlusR) := by
  refine F.ok sc_plus (fun vs H Q E h => ?_) (fun cdv A outer s H vs Q E hr h => ?_)
  · obtain ⟨ds, d, hl, hd, _⟩ := h
    exact (dps_len hd).trans hl
  · obtain ⟨ds, d, hl, hd, hf, k⟩ := h
    obtain ⟨x, y, rfl, ⟨bxn, bxd⟩, ⟨byn, byd⟩, rfl⟩ := hf
    replace bxd : (x.den : Int).natAbs < 2 ^ B := bxd
    replace byd : (y.den : Int).natAbs < 2 ^ B := byd
    obtain ⟨v_one, vs, rfl, h_one, hd⟩ := dps_cons hd
    obtain ⟨v_other, vs, rfl, h_other, hd⟩ := dps_cons hd
    obtain rfl := dps_nil hd
    have ex : Ex H H := Ex.refl H
    refine ⟨_, (pss_one (ps_ret (pe_dcall D_joined (hr.mono (by decide)) pass0 (pa_cons (pv 0) (pa_cons (pe_ix (r := rIxT K) ix_tup (pv 1) pe_int (fun _ _ => rfl)) (pa_cons (pe_ix (r := rIxT K) ix_tup (pv 1) pe_int (fun _ _ => rfl)) pa_nil)))))), ?_⟩
    refine z_ret (K := K) (σ := [some (v_one), some (v_other)]) (d_call (ds_cons (d_var ⟨_, rfl, h_one⟩) (ds_cons (d_ixT (d_var ⟨_, rfl, h_other⟩) d_int rfl) (ds_cons (d_ixT (d_var ⟨_, rfl, h_other⟩) d_int rfl) ds_nil))) rfl ⟨x, y, rfl, ⟨bxn, bxd⟩, ⟨byn, byd⟩, rfl⟩) fun v H1 e h => ?_
    replace ex := ex.trans e
    exact k v _ ex h

abbrev s_times : Stmt := topS 16
abbrev N_times : List Str := ["one", "other", "left", "right"]
theorem sc_times : FnScope N_times ["one", "other"] (defScope s_times) := ⟨rfl, rfl, rfl, by decide +kernel, rfl, by decide +kernel, by decide +kernel⟩
theorem ok_times {f : Addr} {fd : FuncData} (F : Fun K "times" "times" s_times f fd) (T : Bl mg)  : FnOk P w K mg base CX0 1 f fd ["one", "other"] (spD K 2 fTimesR) := by
  refine F.ok sc_times (fun vs H Q E h => ?_) (fun cdv A outer s H vs Q E hr h => ?_)
  · obtain ⟨ds, d, hl, hd, _⟩ := h
    exact (dps_len hd).trans hl
  · obtain ⟨ds, d, hl, hd, hf, k⟩ := h
    obtain ⟨x, y, rfl, ⟨bxn, bxd⟩, ⟨byn, byd⟩, rfl⟩ := hf
    replace bxd : (x.den : Int).natAbs < 2 ^ B := bxd
    replace byd : (y.den : Int).natAbs < 2 ^ B := byd
    have l0 : 0 < Nat.gcd x.num.natAbs y.den := Nat.gcd_pos_of_pos_right _ y.den_pos
    have q0 : 0 < Nat.gcd y.num.natAbs x.den := Nat.gcd_pos_of_pos_right _ x.den_pos
    have lb : (((Nat.gcd x.num.natAbs y.den : Nat) : Int)).natAbs < 2 ^ B := Nat.lt_of_le_of_lt (Nat.gcd_le_right _ y.den_pos) byd
    have qb : (((Nat.gcd y.num.natAbs x.den : Nat) : Int)).natAbs < 2 ^ B := Nat.lt_of_le_of_lt (Nat.gcd_le_right _ x.den_pos) bxd
    have b1 := div_lt (g := Nat.gcd x.num.natAbs y.den) (Nat.gcd_dvd_left _ _) bxn
    have b2 := div_lt (g := Nat.gcd y.num.natAbs x.den) (Nat.gcd_dvd_left _ _) byn
    have b3 : (((x.den / Nat.gcd y.num.natAbs x.den : Nat) : Int)).natAbs < 2 ^ B := Nat.lt_of_le_of_lt (Nat.div_le_self _ _) bxd
    have b4 : (((y.den / Nat.gcd x.num.natAbs y.den : Nat) : Int)).natAbs < 2 ^ B := Nat.lt_of_le_of_lt (Nat.div_le_self _ _) byd
    obtain ⟨v_one, vs, rfl, h_one, hd⟩ := dps_cons hd
    obtain ⟨v_other, vs, rfl, h_other, hd⟩ := dps_cons hd
    obtain rfl := dps_nil hd
    have ex : Ex H H := Ex.refl H
    refine ⟨_, (pss_cons (ps_set (i := 2) sc_times.nd rfl (Or.inl rfl) (pe_callBfun cr_gcd (by rfl) T.g_gcd (pa_cons (pe_ix (r := rIxT K) ix_tup (pv 0) pe_int (fun _ _ => rfl)) (pa_cons (pe_ix (r := rIxT K) ix_tup (pv 1) pe_int (fun _ _ => rfl)) pa_nil))))
    (pss_cons (ps_set (i := 3) sc_times.nd rfl (Or.inl rfl) (pe_callBfun cr_gcd (by rfl) T.g_gcd (pa_cons (pe_ix (r := rIxT K) ix_tup (pv 1) pe_int (fun _ _ => rfl)) (pa_cons (pe_ix (r := rIxT K) ix_tup (pv 0) pe_int (fun _ _ => rfl)) pa_nil))))
    (pss_one (ps_ret (pe_tup (pa_cons (pe_op op_mulW (pe_op op_fdivA (pe_ix (r := rIxT K) ix_tup (pv 0) pe_int (fun _ _ => rfl)) (pv 2)) (pe_op op_fdivA (pe_ix (r := rIxT K) ix_tup (pv 1) pe_int (fun _ _ => rfl)) (pv 3))) (pa_cons (pe_op op_mulW (pe_op op_fdivA (pe_ix (r := rIxT K) ix_tup (pv 0) pe_int (fun _ _ => rfl)) (pv 3)) (pe_op op_fdivA (pe_ix (r := rIxT K) ix_tup (pv 1) pe_int (fun _ _ => rfl)) (pv 2))) pa_nil))))))), ?_⟩
    refine z_set (K := K) (σ := [some (v_one), some (v_other), none, none]) (d_gcd (d_ixT (d_var ⟨_, rfl, h_one⟩) d_int rfl) (d_ixT (d_var ⟨_, rfl, h_other⟩) d_int rfl)) fun v_left5 H1 e h' => ?_
    replace h_one := dp_grow e _ _ h_one
    replace h_other := dp_grow e _ _ h_other
    replace ex := ex.trans e
    have h_left := h'
    clear h'
    refine z_set (K := K) (σ := [some (v_one), some (v_other), some v_left5, none]) (d_gcd (d_ixT (d_var ⟨_, rfl, h_other⟩) d_int rfl) (d_ixT (d_var ⟨_, rfl, h_one⟩) d_int rfl)) fun v_right6 H1 e h' => ?_
    replace h_one := dp_grow e _ _ h_one
    replace h_other := dp_grow e _ _ h_other
    replace h_left := dp_grow e _ _ h_left
    replace ex := ex.trans e
    have h_right := h'
    clear h'
    refine z_ret (K := K) (σ := [some (v_one), some (v_other), some v_left5, some v_right6]) (d_tup (ds_cons (d_mul (d_is (d_fdiv (d_ixT (d_var ⟨_, rfl, h_one⟩) d_int rfl) (d_var ⟨_, rfl, h_left⟩) (div_ok (n := B) (nz l0) lb (by decide) (by decide))) (fdiv_int _ _)) (d_is (d_fdiv (d_ixT (d_var ⟨_, rfl, h_other⟩) d_int rfl) (d_var ⟨_, rfl, h_right⟩) (div_ok (n := B) (nz q0) qb (by decide) (by decide))) (fdiv_int _ _)) (wide_mul (by assumption) (by assumption) (by decide) (by decide) (by decide))) (ds_cons (d_mul (d_is (d_fdiv (d_ixT (d_var ⟨_, rfl, h_one⟩) d_int rfl) (d_var ⟨_, rfl, h_right⟩) (div_ok (n := B) (nz q0) qb (by decide) (by decide))) (fdiv_nat _ _)) (d_is (d_fdiv (d_ixT (d_var ⟨_, rfl, h_other⟩) d_int rfl) (d_var ⟨_, rfl, h_left⟩) (div_ok (n := B) (nz l0) lb (by decide) (by decide))) (fdiv_nat _ _)) (wide_mul (by assumption) (by assumption) (by decide) (by decide) (by decide))) ds_nil)) (by show 2 ≤ 1000; decide)) fun v H1 e h => ?_
    replace ex := ex.trans e
    rw [timesR] at k
    exact k v _ ex h

abbrev s_L_plus : Stmt := topS 35
abbrev N_L_plus : List Str := ["a", "b"]
theorem sc_L_plus : FnScope N_L_plus ["a", "b"] (defScope s_L_plus) := ⟨rfl, rfl, rfl, by decide +kernel, rfl, by decide +kernel, by decide +kernel⟩
theorem ok_L_plus {f : Addr} {fd : FuncData} (F : Fun K "_law_plus" "_law_plus" s_L_plus f fd) (T : Bl mg) (D_law_ratio : Def P w K mg base CX0 1 "_law_ratio" ["top", "bottom"] (spD K 2 fLowest)) : FnOk P w K mg base CX0 2 f fd ["a", "b"] (spD K 2 fPlusR) := by
  refine F.ok sc_L_plus (fun vs H Q E h => ?_) (fun cdv A outer s H vs Q E hr h => ?_)
  · obtain ⟨ds, d, hl, hd, _⟩ := h
    exact (dps_len hd).trans hl
  · obtain ⟨ds, d, hl, hd, hf, k⟩ := h
    obtain ⟨x, y, rfl, ⟨bxn, bxd⟩, ⟨byn, byd⟩, rfl⟩ := hf
    replace bxd : (x.den : Int).natAbs < 2 ^ B := bxd
    replace byd : (y.den : Int).natAbs < 2 ^ B := byd
    obtain ⟨v_a, vs, rfl, h_a, hd⟩ := dps_cons hd
    obtain ⟨v_b, vs, rfl, h_b, hd⟩ := dps_cons hd
    obtain rfl := dps_nil hd
    have ex : Ex H H := Ex.refl H
    refine ⟨_, (pss_one (ps_ret (pe_dcall D_law_ratio (hr.mono (by decide)) pass0 (pa_cons (pe_op op_add (pe_op op_mulW (pe_ix (r := rIxT K) ix_tup (pv 0) pe_int (fun _ _ => rfl)) (pe_ix (r := rIxT K) ix_tup (pv 1) pe_int (fun _ _ => rfl))) (pe_op op_mulW (pe_ix (r := rIxT K) ix_tup (pv 1) pe_int (fun _ _ => rfl)) (pe_ix (r := rIxT K) ix_tup (pv 0) pe_int (fun _ _ => rfl)))) (pa_cons (pe_op op_mulW (pe_ix (r := rIxT K) ix_tup (pv 0) pe_int (fun _ _ => rfl)) (pe_ix (r := rIxT K) ix_tup (pv 1) pe_int (fun _ _ => rfl))) pa_nil))))), ?_⟩
    refine z_ret (K := K) (σ := [some (v_a), some (v_b)]) (d_call (ds_cons (d_add (d_mul (d_ixT (d_var ⟨_, rfl, h_a⟩) d_int rfl) (d_ixT (d_var ⟨_, rfl, h_b⟩) d_int rfl) (wide_mul (by assumption) (by assumption) (by decide) (by decide) (by decide))) (d_mul (d_ixT (d_var ⟨_, rfl, h_b⟩) d_int rfl) (d_ixT (d_var ⟨_, rfl, h_a⟩) d_int rfl) (wide_mul (by assumption) (by assumption) (by decide) (by decide) (by decide)))) (ds_cons (d_mul (d_ixT (d_var ⟨_, rfl, h_a⟩) d_int rfl) (d_ixT (d_var ⟨_, rfl, h_b⟩) d_int rfl) (wide_mul (by assumption) (by assumption) (by decide) (by decide) (by decide))) ds_nil)) rfl ⟨_, _, rfl, den_mul x y, small_mul bxd byd, low_add x y⟩) fun v H1 e h => ?_
    replace ex := ex.trans e
    exact k v _ ex h

abbrev s_L_times : Stmt := topS 36
abbrev N_L_times : List Str := ["a", "b"]
theorem sc_L_times : FnScope N_L_times ["a", "b"] (defScope s_L_times) := ⟨rfl, rfl, rfl, by decide +kernel, rfl, by decide +kernel, by decide +kernel⟩
theorem ok_L_times {f : Addr} {fd : FuncData} (F : Fun K "_law_times" "_law_times" s_L_times f fd) (T : Bl mg) (D_law_ratio : Def P w K mg base CX0 1 "_law_ratio" ["top", "bottom"] (spD K 2 fLowest)) : FnOk P w K mg base CX0 2 f fd ["a", "b"] (spD K 2 fTimesR) := by
  refine F.ok sc_L_times (fun vs H Q E h => ?_) (fun cdv A outer s H vs Q E hr h => ?_)
  · obtain ⟨ds, d, hl, hd, _⟩ := h
    exact (dps_len hd).trans hl
  · obtain ⟨ds, d, hl, hd, hf, k⟩ := h
    obtain ⟨x, y, rfl, ⟨bxn, bxd⟩, ⟨byn, byd⟩, rfl⟩ := hf
    replace bxd : (x.den : Int).natAbs < 2 ^ B := bxd
    replace byd : (y.den : Int).natAbs < 2 ^ B := byd
    obtain ⟨v_a, vs, rfl, h_a, hd⟩ := dps_cons hd
    obtain ⟨v_b, vs, rfl, h_b, hd⟩ := dps_cons hd
    obtain rfl := dps_nil hd
    have ex : Ex H H := Ex.refl H
    refine ⟨_, (pss_one (ps_ret (pe_dcall D_law_ratio (hr.mono (by decide)) pass0 (pa_cons (pe_op op_mulW (pe_ix (r := rIxT K) ix_tup (pv 0) pe_int (fun _ _ => rfl)) (pe_ix (r := rIxT K) ix_tup (pv 1) pe_int (fun _ _ => rfl))) (pa_cons (pe_op op_mulW (pe_ix (r := rIxT K) ix_tup (pv 0) pe_int (fun _ _ => rfl)) (pe_ix (r := rIxT K) ix_tup (pv 1) pe_int (fun _ _ => rfl))) pa_nil))))), ?_⟩
    refine z_ret (K := K) (σ := [some (v_a), some (v_b)]) (d_call (ds_cons (d_mul (d_ixT (d_var ⟨_, rfl, h_a⟩) d_int rfl) (d_ixT (d_var ⟨_, rfl, h_b⟩) d_int rfl) (wide_mul (by assumption) (by assumption) (by decide) (by decide) (by decide))) (ds_cons (d_mul (d_ixT (d_var ⟨_, rfl, h_a⟩) d_int rfl) (d_ixT (d_var ⟨_, rfl, h_b⟩) d_int rfl) (wide_mul (by assumption) (by assumption) (by decide) (by decide) (by decide))) ds_nil)) rfl ⟨_, _, rfl, den_mul x y, small_mul bxd byd, low_mul x y⟩) fun v H1 e h => ?_
    replace ex := ex.trans e
    exact k v _ ex h

end
end K01
namespace Dat
open PySem L2 Evl
structure DefV (P : Program) (w : World) (K : PySem.W.Frag) (mg : Str → Option Value) (base : Heap) (CX : CXT) (k : Nat) (x : Str) (ps : List Str) (dvs : List V) (sp : Sp) : Prop where
  ex : ∃ (f : Addr) (fd : FuncData) (ds : List Value), FnOk P w K mg base CX k f fd ps sp ∧ mg x = some (.ref f) ∧ PySem.W.keepIn K (.ref f) = true ∧ Binds K fd ps ds ∧ Vals dvs ds
section
variable {X : Cx} {CX : CXT} {k : Nat} {ps : List Str} {sp : Sp} {E : XK} {x : Str} {p pos : Pos} {e : Expr} {es : List Expr} {t : TA} {dvs : List V}
theorem pe_dcallV (D : DefV X.prog X.w X.K X.mg X.base CX k x ps dvs sp) (hr : Room k X.A) (hx : Passes CX X E) (ha : PA X (e :: es) t) (hg : Gl X x := by rfl)
    (hdb : (x == ("__debug__" : Str)) = false := by decide) (he : starEach (e :: es) X.env = (false, eval e X.env) :: starEach es X.env := by rfl) (hpl : (backTo pos (starEach es X.env)).any (·.1) = false := by rfl) :
    PE X (.Call (.Name x p) (e :: es) [] pos) (tCall sp dvs E t) := by
  obtain ⟨f, fd, ds, F, hm, hk, hb, hv⟩ := D.ex
  exact pe_call F hr hg hm hk hb hv hx ha hdb he hpl
end
/-- x, y = a tuple of two -/
theorem z_two {K : PySem.W.Frag} {te : TE} {σ : L2.St} {H : Hp} {D : Ends} {ts : TS} {i j : Nat} {a b : PyData} {n : Nat} (h : EvD K te σ H (.tuple [a, b])) (k : ∀ x y H1, Ex H H1 → Dp K H1 x a → Dp K H1 y b → ts D ((σ.set i (some x)).set j (some y)) H1) (hn : n = 2 := by rfl) : tSeq (tAsg te (gTup K n (gCons (gName i) (gCons (gName j) gNil)))) ts D σ H := h H (Ex.refl H) _ fun v H1 e hv => g_two hv hn fun x y hx hy => k x y H1 e hx hy
theorem d_callV {K : PySem.W.Frag} {ta : TA} {σ : L2.St} {H : Hp} {ds es : List PyData} {d : PyData} {n : Nat} {f : List PyData → PyData → Prop} {E : XK} {dvs : List V} (h : EvDs K ta σ H ds) (hv : ∀ H, DpAll K H dvs es) (hl : (ds ++ es).length = n) (hf : f (ds ++ es) d) : EvD K (tCall (spD K n f) dvs E ta) σ H d := fun H1 x Q k =>
  h H1 x _ fun vs H2 x2 hvs => ⟨ds ++ es, d, hl, dps_app hvs (hv H2), hf, fun v H' x' hv => k v H' (x2.trans x') hv⟩
section
variable {P : Program} {w : World} {K : PySem.W.Frag} {mg : Str → Option Value} {base : Heap} {x : Str} {st : Stmt} {dvs : List V} {f : Addr} {fd : FuncData} {k : Nat} {ps : List Str} {sp : Sp} {CX : CXT}
theorem defV (F : FunV K x st dvs f fd) (ok : FnOk P w K mg base CX k f fd ps sp) (hm : mg x = some (.ref f)) (n j : Nat) (hd : dvs ≠ []) (hn : n + (dvs.length - j) = ps.length)
    (h : ∀ (T : Addr) (kV doc pm : Value) (an : Option Addr) (cdv ct : Value) (us its : List Value), us.length = n → its.length = dvs.length →
      ∃ k, bindArgs (PySem.W.fnOf x x (defArgs st) (defBody st) (defScope st) (.ref T) kV doc pm an cdv ct) ⟨us, []⟩ = seqItems? (.ref T) >>= k ∧ k (some its.toArray) = pure (ps.zip (us ++ its.drop j))) : DefV P w K mg base CX k x ps (dvs.drop j) sp := by
  obtain ⟨ds, hv, hb⟩ := F.binds1 n j hd hn h
  exact ⟨f, fd, ds, ok, hm, F.kp, hb, hv⟩
end
end Dat
namespace K01
open PySem L2 Evl Dat
section
variable {P : Program} {w : World} {K : PySem.W.Frag} {mg : Str → Option Value} {base : Heap}
abbrev psW : List Str := ["thing", "low", "high"]
abbrev DW (P : Program) (w : World) (K : PySem.W.Frag) (mg : Str → Option Value) (base : Heap) (dvs : List V) : Prop := DefV P w K mg base CX0 1 "is_whole" psW dvs (spD K 3 fWhole)
theorem dw1 {f : Addr} {fd : FuncData} (F : FunV K "is_whole" s_is_whole [.non, .non] f fd) (T : Bl mg) (hm : mg "is_whole" = some (.ref f)) : DW P w K mg base [.non, .non] :=
  defV F (ok_is_whole F T) hm 1 0 (by decide) rfl fun _ _ _ _ _ _ _ us its hl hi => match us, its, hl, hi with | [_], [_, _], _, _ => ⟨_, rfl, rfl⟩
theorem dw2 {f : Addr} {fd : FuncData} (F : FunV K "is_whole" s_is_whole [.non, .non] f fd) (T : Bl mg) (hm : mg "is_whole" = some (.ref f)) : DW P w K mg base [.non] :=
  defV F (ok_is_whole F T) hm 2 1 (by decide) rfl fun _ _ _ _ _ _ _ us its hl hi => match us, its, hl, hi with | [_, _], [_, _], _, _ => ⟨_, rfl, rfl⟩
theorem dw3 {f : Addr} {fd : FuncData} (F : FunV K "is_whole" s_is_whole [.non, .non] f fd) (T : Bl mg) (hm : mg "is_whole" = some (.ref f)) : DW P w K mg base [] :=
  defV F (ok_is_whole F T) hm 3 2 (by decide) rfl fun _ _ _ _ _ _ _ us its hl hi => match us, its, hl, hi with | [_, _, _], [_, _], _, _ => ⟨_, rfl, rfl⟩
end
end K01
namespace Dat
open PySem L2 Evl
/-! ### is it a ratio -/
def lenNe : PyData → Bool
  | .tuple ds => decide ((ds.length : Int) ≠ 2)
  | _ => false
def gcd1 : PyData → PyData → Bool
  | .int p, .int q => decide (((Nat.gcd p.natAbs q.natAbs : Nat) : Int) = 1)
  | _, _ => true
def ratB (a b : PyData) : Bool := wholeIn a .none .none && (wholeIn b (.int 1) .none && gcd1 a b)
def ratD : PyData → Bool
  | .tuple [a, b] => ratB a b
  | _ => false
def fIsRatio (ds : List PyData) (d : PyData) : Prop := ∃ t, ds = [t] ∧ d = .bool (ratD t)
section
variable {K : PySem.W.Frag} {te tb : TE} {σ : L2.St} {H : Hp} {t a b : PyData}
theorem ne_len (c0 : (!isTupD t) = false) (h : EvD K te σ H t) : EvD K (tOp rNe (tCB (fun xs H Q => ∃ p ys, xs = [.ref p] ∧ (SqL K H p ys ∨ SqT K H p ys) ∧ Q (.int ys.length) H) (tCons te tNil)) (tC (.int 2))) σ H (.bool (lenNe t)) := by
  cases t <;> first | cases c0 | skip
  exact d_neI (d_lenT h) d_int
theorem two_of (c : (!isTupD t || lenNe t) = false) : ∃ a b, t = .tuple [a, b] := by
  cases t <;> first | cases c | skip
  rename_i ds
  have c2 : decide ((ds.length : Int) ≠ 2) = false := c
  have c3 := of_decide_eq_false c2
  have c4 : ds.length = 2 := by omega
  match ds, c4 with
  | [a, b], _ => exact ⟨a, b, rfl⟩
theorem rat_no (c : (!isTupD t || lenNe t) = true) : ratD t = false := by
  cases t <;> first | rfl | skip
  rename_i ds
  have c2 : decide ((ds.length : Int) ≠ 2) = true := c
  have c3 := of_decide_eq_true c2
  match ds, c3 with
  | [], _ => rfl
  | [_], _ => rfl
  | [_, _], c3 => exact absurd rfl c3
  | _ :: _ :: _ :: _, _ => rfl
theorem int_of {lo hi : PyData} (c : wholeIn a lo hi = true) : ∃ n, a = .int n := by
  cases a <;> first | exact ⟨_, rfl⟩ | cases c
theorem eq_gcd (c0 : wholeIn a .none .none = true) (c1 : wholeIn b (.int 1) .none = true) (h : EvD K te σ H a) (r : EvD K tb σ H b) : EvD K (tOp rEq (tCB rGcd (tCons te (tCons tb tNil))) (tC (.int 1))) σ H (.bool (gcd1 a b)) := by
  obtain ⟨p, rfl⟩ := int_of c0
  obtain ⟨q, rfl⟩ := int_of c1
  exact d_eqI (d_gcd h r) d_int
end
end Dat
namespace K01
open PySem L2 Evl Dat
section
variable {P : Program} {w : World} {K : PySem.W.Frag} {mg : Str → Option Value} {base : Heap}
abbrev s_is_ratio : Stmt := topS 10
abbrev N_is_ratio : List Str := ["thing", "top", "bottom"]
theorem sc_is_ratio : FnScope N_is_ratio ["thing"] (defScope s_is_ratio) := ⟨rfl, rfl, rfl, by decide +kernel, rfl, by decide +kernel, by decide +kernel⟩
theorem ok_is_ratio {f : Addr} {fd : FuncData} (F : Fun K "is_ratio" "is_ratio" s_is_ratio f fd) (T : Bl mg) (D_w1 : DW P w K mg base [.non, .non]) (D_w2 : DW P w K mg base [.non]) : FnOk P w K mg base CX0 2 f fd ["thing"] (spD K 1 fIsRatio) := by
  refine F.ok sc_is_ratio (fun vs H Q E h => ?_) (fun cdv A outer s H vs Q E hr h => ?_)
  · obtain ⟨ds, d, hl, hd, _⟩ := h
    exact (dps_len hd).trans hl
  · obtain ⟨ds, d, hl, hd, hf, k⟩ := h
    obtain ⟨t, rfl, rfl⟩ := hf
    obtain ⟨v_thing, vs, rfl, h_thing, hd⟩ := dps_cons hd
    obtain rfl := dps_nil hd
    have ex : Ex H H := Ex.refl H
    refine ⟨_, (pss_cons (ps_if (PW.pt (pw_or (pt_not (pt_val (pe_callB call_isi (by rfl) T.b_isinstance (by decide +kernel) (pa_cons (pv 0) (pa_cons (pe_bltn (v := .ty "tuple") (by rfl) T.b_tuple (by decide +kernel) rfl) pa_nil))))) (pw_or1 (pt_cmpR op_ne (pe_callB call_len_seq (by rfl) T.b_len (by decide +kernel) (pa_cons (pv 0) pa_nil)) pe_int (nomark _))))) (pss_one (ps_ret pe_bl)) pss_nil)
    (pss_cons (ps_asg (pv 0) (pg_tup rfl (pgs_cons (pg_name (i := 1) sc_is_ratio.nd rfl (Or.inl rfl)) (pgs_cons (pg_name (i := 2) sc_is_ratio.nd rfl (Or.inl rfl)) pgs_nil))) rfl)
    (pss_one (ps_ret (pe_and (pe_dcallV D_w1 (hr.mono (by decide)) pass0 (pa_cons (pv 1) pa_nil)) (pe_and (pe_dcallV D_w2 (hr.mono (by decide)) pass0 (pa_cons (pv 2) (pa_cons pe_int pa_nil))) (pe_one (pe_cmpR op_eq (pe_callBfun cr_gcd (by rfl) T.g_gcd (pa_cons (pv 1) (pa_cons (pv 2) pa_nil))) pe_int (nomark _))))))))), ?_⟩
    refine z_if (σ := [some (v_thing), none, none]) (b_or (b_not (b_val (d_isi (d_var ⟨_, rfl, h_thing⟩) (kit_tuple _)))) (fun c_0 => b_test (ne_len c_0 (d_var ⟨_, rfl, h_thing⟩)))) (fun c4 H1 e => ?_) (fun c4 H1 e => ?_)
    · replace ex := ex.trans e
      refine z_ret (K := K) (σ := [some (v_thing), none, none]) d_bl fun v H1 e h => ?_
      exact k v _ (ex.trans e) (by rw [rat_no c4]; exact h)
    · obtain ⟨a, b, rfl⟩ := two_of c4
      replace h_thing := dp_grow e _ _ h_thing
      replace ex := ex.trans e
      refine z_next ?_
      refine z_two (K := K) (σ := [some (v_thing), none, none]) (d_var ⟨_, rfl, h_thing⟩) fun x y H1 e hx hy => ?_
      replace ex := ex.trans e
      refine z_ret (K := K) (σ := [some (v_thing), some x, some y]) (d_and (d_callV (ds_cons (d_var ⟨_, rfl, hx⟩) ds_nil) (fun _ => .cons .non (.cons .non .nil)) rfl ⟨_, _, _, rfl, .inl rfl, .inl rfl, rfl⟩) (fun c_0 =>
        d_and (d_callV (ds_cons (d_var ⟨_, rfl, hy⟩) (ds_cons d_int ds_nil)) (fun _ => .cons .non .nil) rfl ⟨_, _, _, rfl, .inr ⟨_, rfl⟩, .inl rfl, rfl⟩) (fun c_1 => eq_gcd c_0 c_1 (d_var ⟨_, rfl, hx⟩) (d_var ⟨_, rfl, hy⟩)))) fun v H1 e h => ?_
      exact k v _ (ex.trans e) h
end
end K01
namespace Dat
open PySem L2 Evl
section
variable {K : PySem.W.Frag} {te : TE} {σ : L2.St} {H : Hp} {D : Ends} {tb ts : TS} {j : Nat} {ds : List PyData}
/-- for x in a list: the invariant by the turn -/
theorem z_forL (h : EvD K te σ H (.list ds)) (Pv : Nat → L2.St → Hp → Prop) (h0 : ∀ H1, Ex H H1 → Pv 0 σ H1)
    (step : ∀ i d v σ' H' (D' : Ends), ds[i]? = some d → Ex H H' → Pv i σ' H' → Dp K H' v d → (∀ σ2 H2, Ex H' H2 → Pv (i + 1) σ2 H2 → D'.nx σ2 H2) → tb D' (σ'.set j (some v)) H')
    (fin : ∀ σ' H', Ex H H' → Pv ds.length σ' H' → ts D σ' H') : tSeq (tFor (iList K te) (gName j) tb) ts D σ H := h H (Ex.refl H) _ fun v H1 e hv => by
  cases hv with
  | lst hs ha =>
    rename_i a vs
    refine ⟨a, rfl, ⟨vs, hs⟩, ?_⟩
    have hl := dps_len ha
    refine for_list (fun i σ' H' => Ex H1 H' ∧ Pv i σ' H') ⟨Ex.refl H1, h0 _ e⟩ (fun i σ' H' _ p => ex_l p.1 hs) (fun i x σ' H' hx p => ?_) (fun σ' H' p => fin σ' H' (e.trans p.1) (by rw [← hl]; exact p.2))
    obtain ⟨d, hd, hxd⟩ := dps_back ha hx
    exact step i d x σ' H' _ hd (e.trans p.1) p.2 (dp_grow p.1 _ _ hxd) fun σ2 H2 e2 p2 => ⟨p.1.trans e2, p2⟩
/-- for x in a tuple -/
theorem z_forT (h : EvD K te σ H (.tuple ds)) (Pv : Nat → L2.St → Hp → Prop) (h0 : ∀ H1, Ex H H1 → Pv 0 σ H1)
    (step : ∀ i d v σ' H' (D' : Ends), ds[i]? = some d → Ex H H' → Pv i σ' H' → Dp K H' v d → (∀ σ2 H2, Ex H' H2 → Pv (i + 1) σ2 H2 → D'.nx σ2 H2) → tb D' (σ'.set j (some v)) H')
    (fin : ∀ σ' H', Ex H H' → Pv ds.length σ' H' → ts D σ' H') : tSeq (tFor (iTup K te) (gName j) tb) ts D σ H := h H (Ex.refl H) _ fun v H1 e hv => by
  cases hv with
  | tup hs ha =>
    rename_i a vs
    refine ⟨a, rfl, ⟨vs, hs⟩, ?_⟩
    have hl := dps_len ha
    refine for_tup (fun i σ' H' => Ex H1 H' ∧ Pv i σ' H') ⟨Ex.refl H1, h0 _ e⟩ (fun i σ' H' _ p => ex_t p.1 hs) (fun i x σ' H' hx p => ?_) (fun σ' H' p => fin σ' H' (e.trans p.1) (by rw [← hl]; exact p.2))
    obtain ⟨d, hd, hxd⟩ := dps_back ha hx
    exact step i d x σ' H' _ hd (e.trans p.1) p.2 (dp_grow p.1 _ _ hxd) fun σ2 H2 e2 p2 => ⟨p.1.trans e2, p2⟩
end
end Dat
namespace Dat
open PySem L2 Evl
section
variable {K : PySem.W.Frag} {te tb : TE} {σ : L2.St} {H : Hp} {ta : TA} {t a b d : PyData}
theorem ev_bl {x : Bool} (h : EvD K te σ H (.bool x)) : Ev te σ H (.bl x) := fun H1 e Q q => h H1 e _ fun v H2 e2 hv => by
  cases hv
  exact q H2 e2
theorem eva_int {i : Int} (h : EvDs K ta σ H [.int i]) : EvA ta σ H [.int i] := fun H1 e Q q => h H1 e _ fun vs H2 e2 hv => by
  obtain ⟨x, ws, rfl, h1, hv⟩ := dps_cons hv
  obtain rfl := dps_nil hv
  cases h1
  exact q H2 e2
/-- all([.. for i in range(n)]) of truths -/
theorem d_allR {j n : Nat} {vs : List Nat} (f : Nat → Bool) (h : EvDs K ta σ H [.int (n : Int)]) (hn : n ≤ 40000) (hw : ∀ x, wipe ((wipe σ vs).set j (some x)) vs = wipe σ vs)
    (he : ∀ (i : Nat) H1, Ex H H1 → i < n → EvD K te ((wipe σ vs).set j (some (.int (i : Int)))) H1 (.bool (f i))) :
    EvD K (tCB (rAll K) (tCons (tLc (iRng1 ta) (gName j) tYes te vs) tNil)) σ H (.bool ((List.range n).all f)) := fun H1 e Q k => by
  show tLc (iRng1 ta) (gName j) tYes te vs σ H1 (fun v H2 => rAll K [v] H2 Q)
  exact el_lcR1 (t := tYes) (fun _ => true) (fun i => .bl (f i)) (eva_int h) ⟨by omega, by omega⟩ hw (fun i H2 _ _ H3 e3 R r => r H3 (Ex.refl H3)) (fun i H2 e2 hi _ => ev_bl (he i H2 e2 (by omega))) H1 e _ fun p H2 hp e2 hv => by
    have hg : given ((n : Int).toNat) (fun _ => true) (fun i => V.bl (f i)) = ((List.range n).map f).map V.bl := by
      unfold given
      rw [Int.toNat_natCast, List.filter_eq_self.mpr (fun _ _ => rfl), List.map_map]
      rfl
    rw [hg] at hv
    refine ⟨p, (List.range n).map f, rfl, .inl (.inl hv), ?_⟩
    have e9 : ((List.range n).map f).all id = (List.range n).all f := by
      rw [List.all_map]
      rfl
    rw [e9]
    exact k _ _ e2 (.bl _)
end
end Dat
namespace Dat
open PySem L2 Evl
/-! ### the law's own comparison -/
def isStrD : PyData → Bool
  | .str _ => true
  | _ => false
theorem kit_str (d : PyData) : kitB (kind d) "str" = some (isStrD d) := by cases d <;> rfl
def lenSame : PyData → PyData → Bool
  | .tuple es, .tuple ds => decide ((es.length : Int) = ds.length)
  | _, _ => true
def allI (f : PyData → PyData → Bool) : PyData → PyData → Bool
  | .tuple es, .tuple ds => (List.range ds.length).all fun i => f (es.getD i .none) (ds.getD i .none)
  | _, _ => true
def sameN : Nat → PyData → PyData → Bool
  | 0, _, _ => false
  | n + 1, a, b => if isTupD b then (isTupD a && (lenSame a b && allI (sameN n) a b)) else if (isBoolD b || isBoolD a) then (isBoolD b && (isBoolD a && PyData.eqv a b)) else if isIntD b then (isIntD a && PyData.eqv a b) else if isStrD b then (isStrD a && PyData.eqv a b) else (isNone a && isNone b)
def depN : Nat → PyData → Prop
  | 0, _ => False
  | n + 1, .tuple ds => ds.length ≤ 1000 ∧ ∀ i, i < ds.length → depN n (ds.getD i .none)
  | _ + 1, _ => True
def fSame (n : Nat) (ds : List PyData) (d : PyData) : Prop := ∃ a b, ds = [a, b] ∧ depN n b ∧ d = .bool (sameN n a b)
theorem atI_nat {α : Type} {l : List α} {i : Nat} {x : α} (h : i < l.length) : atI l (i : Int) = some (l.getD i x) := by
  unfold atI
  have e : ixN l.length (i : Int) = some i := by
    unfold ixN
    rw [if_pos (by omega), if_pos (by omega), Int.toNat_natCast]
  rw [e]
  show l[i]? = _
  rw [List.getD_eq_getElem?_getD, List.getElem?_eq_getElem h]
  rfl
section
variable {K : PySem.W.Frag} {te tb : TE} {σ : L2.St} {H : Hp} {a b : PyData}
theorem eq_bools (c : isBoolD b = true) (c0 : isBoolD a = true) (h : EvD K te σ H a) (r : EvD K tb σ H b) : EvD K (tOp (rEqD K) te tb) σ H (.bool (PyData.eqv a b)) := by
  cases b <;> first | cases c | skip
  cases a <;> first | cases c0 | skip
  exact d_eqD h r rfl rfl
theorem eq_ints (c : isIntD b = true) (c0 : isIntD a = true) (h : EvD K te σ H a) (r : EvD K tb σ H b) : EvD K (tOp (rEqD K) te tb) σ H (.bool (PyData.eqv a b)) := by
  cases b <;> first | cases c | skip
  all_goals (cases a <;> first | exact d_eqD h r rfl rfl | cases c0)
theorem eq_strs (c : isStrD b = true) (c0 : isStrD a = true) (h : EvD K te σ H a) (r : EvD K tb σ H b) : EvD K (tOp rEq te tb) σ H (.bool (PyData.eqv a b)) := by
  cases b <;> first | cases c | skip
  cases a <;> first | cases c0 | skip
  rename_i y x
  exact fun H1 x0 Q k => h H1 x0 _ fun v H2 x2 hv => r H2 (x0.trans x2) _ fun w H3 x3 hw => by
    cases hv
    cases hw
    refine ⟨rfl, ?_⟩
    have z : decide (V.str x = V.str y) = PyData.eqv (.str x) (.str y) := by
      show _ = (x == y)
      by_cases q : x = y
      · subst q
        rw [decide_eq_true rfl, beq_self_eq_true]
      · rw [decide_eq_false (fun z => q (V.str.inj z)), beq_eq_false_iff_ne.mpr q]
    rw [z]
    exact k _ H3 (x2.trans x3) (.bl _)
theorem tup_of (c : isTupD a = true) : ∃ ds, a = .tuple ds := by
  cases a <;> first | exact ⟨_, rfl⟩ | cases c
end
end Dat
namespace K01
open PySem L2 Evl Dat
section
variable {P : Program} {w : World} {K : PySem.W.Frag} {mg : Str → Option Value} {base : Heap}
abbrev s_L_same : Stmt := topS 41
abbrev N_L_same : List Str := ["told", "due", "k"]
theorem sc_L_same : FnScope N_L_same ["told", "due"] (defScope s_L_same) := ⟨rfl, rfl, rfl, by decide +kernel, rfl, by decide +kernel, by decide +kernel⟩

theorem ok_L_same1 {n : Nat} {f : Addr} {fd : FuncData} (F : Fun K "_law_same" "_law_same" s_L_same f fd) (T : Bl mg) (D_law_same : Def P w K mg base CX0 n "_law_same" ["told", "due"] (spD K 2 (fSame n))) : FnOk P w K mg base CX0 (n + 1) f fd ["told", "due"] (spD K 2 (fSame (n + 1))) := by
  refine F.ok sc_L_same (fun vs H Q E h => ?_) (fun cdv A outer s H vs Q E hr h => ?_)
  · obtain ⟨ds, d, hl, hd, _⟩ := h
    exact (dps_len hd).trans hl
  · obtain ⟨ds, d, hl, hd, hf, k⟩ := h
    obtain ⟨a, b, rfl, hdep, rfl⟩ := hf
    obtain ⟨v_told, vs, rfl, h_told, hd⟩ := dps_cons hd
    obtain ⟨v_due, vs, rfl, h_due, hd⟩ := dps_cons hd
    obtain rfl := dps_nil hd
    refine ⟨_, (pss_cons (ps_if (pt_val (pe_callB call_isi (by rfl) T.b_isinstance (by decide +kernel) (pa_cons (pv 1) (pa_cons (pe_bltn (v := .ty "tuple") (by rfl) T.b_tuple (by decide +kernel) rfl) pa_nil)))) (pss_one (ps_ret (pe_and (pe_callB call_isi (by rfl) T.b_isinstance (by decide +kernel) (pa_cons (pv 0) (pa_cons (pe_bltn (v := .ty "tuple") (by rfl) T.b_tuple (by decide +kernel) rfl) pa_nil))) (pe_and (pe_cmpR op_eq (pe_callB call_len_seq (by rfl) T.b_len (by decide +kernel) (pa_cons (pv 0) pa_nil)) (pe_callB call_len_seq (by rfl) T.b_len (by decide +kernel) (pa_cons (pv 1) pa_nil)) (nomark _)) (pe_one (pe_callB (cr_all rfl) (by rfl) T.b_all (by decide +kernel) (pa_cons (pe_lc (own := [("k", 2)]) (g := gName 2) rfl sc_L_same.nd (pi_range1 rfl T.b_range (pa_cons (pe_callB call_len_seq (by rfl) T.b_len (by decide +kernel) (pa_cons (pv 1) pa_nil)) pa_nil)) (blkOk_by (own := [("k", 2)]) (N := N_L_same) (sc := defScope s_L_same) (by decide +kernel)) (fun _ _ _ _ _ => pg_name (i := 2) sc_L_same.nd rfl (Or.inl rfl)) (fun _ _ _ _ _ => pts_nil) (fun _ _ _ _ _ => (pe_dcall D_law_same (hr.mono (Nat.le_refl _)) pass0 (pa_cons (pe_ix (r := rIxT K) ix_tup (pv 0) (pv 2) (fun _ _ => rfl)) (pa_cons (pe_ix (r := rIxT K) ix_tup (pv 1) (pv 2) (fun _ _ => rfl)) pa_nil))))) pa_nil))))))) pss_nil)
    (pss_cons (ps_if (PW.pt (pw_or (pt_val (pe_callB call_isi (by rfl) T.b_isinstance (by decide +kernel) (pa_cons (pv 1) (pa_cons (pe_bltn (v := .ty "bool") (by rfl) T.b_bool (by decide +kernel) rfl) pa_nil)))) (pw_or1 (pt_val (pe_callB call_isi (by rfl) T.b_isinstance (by decide +kernel) (pa_cons (pv 0) (pa_cons (pe_bltn (v := .ty "bool") (by rfl) T.b_bool (by decide +kernel) rfl) pa_nil))))))) (pss_one (ps_ret (pe_and (pe_callB call_isi (by rfl) T.b_isinstance (by decide +kernel) (pa_cons (pv 1) (pa_cons (pe_bltn (v := .ty "bool") (by rfl) T.b_bool (by decide +kernel) rfl) pa_nil))) (pe_and (pe_callB call_isi (by rfl) T.b_isinstance (by decide +kernel) (pa_cons (pv 0) (pa_cons (pe_bltn (v := .ty "bool") (by rfl) T.b_bool (by decide +kernel) rfl) pa_nil))) (pe_one (pe_cmpR (op_eqD hr.units) (pv 0) (pv 1) (nomark _))))))) pss_nil)
    (pss_cons (ps_if (pt_val (pe_callB call_isi (by rfl) T.b_isinstance (by decide +kernel) (pa_cons (pv 1) (pa_cons (pe_bltn (v := .ty "int") (by rfl) T.b_int (by decide +kernel) rfl) pa_nil)))) (pss_one (ps_ret (pe_and (pe_callB call_isi (by rfl) T.b_isinstance (by decide +kernel) (pa_cons (pv 0) (pa_cons (pe_bltn (v := .ty "int") (by rfl) T.b_int (by decide +kernel) rfl) pa_nil))) (pe_one (pe_cmpR (op_eqD hr.units) (pv 0) (pv 1) (nomark _)))))) pss_nil)
    (pss_cons (ps_if (pt_val (pe_callB call_isi (by rfl) T.b_isinstance (by decide +kernel) (pa_cons (pv 1) (pa_cons (pe_bltn (v := .ty "str") (by rfl) T.b_str (by decide +kernel) rfl) pa_nil)))) (pss_one (ps_ret (pe_and (pe_callB call_isi (by rfl) T.b_isinstance (by decide +kernel) (pa_cons (pv 0) (pa_cons (pe_bltn (v := .ty "str") (by rfl) T.b_str (by decide +kernel) rfl) pa_nil))) (pe_one (pe_cmpR op_eq (pv 0) (pv 1) (nomark _)))))) pss_nil)
    (pss_one (ps_ret (pe_and (pe_cmpR op_isN (pv 0) pe_non (nomark _)) (pe_one (pe_cmpR op_isN (pv 1) pe_non (nomark _)))))))))), ?_⟩
    refine z_if (σ := [some v_told, some v_due, none]) (b_val (d_isi (d_var ⟨_, rfl, h_due⟩) (kit_tuple _))) (fun c H1 e => ?_) (fun c H1 e => z_next ?_)
    · have V0 : EvD K (tVar 0) [some v_told, some v_due, none] H1 a := d_var ⟨_, rfl, dp_grow e _ _ h_told⟩
      have V1 : EvD K (tVar 1) [some v_told, some v_due, none] H1 b := d_var ⟨_, rfl, dp_grow e _ _ h_due⟩
      have ev : sameN (n + 1) a b = (isTupD a && (lenSame a b && allI (sameN n) a b)) := if_pos c
      rw [ev] at k
      obtain ⟨ds, rfl⟩ := tup_of c
      refine z_ret (K := K) (σ := [some v_told, some v_due, none]) (d_and (d_isi V0 (kit_tuple _)) (fun c0 => d_and (b := allI (sameN n) a (.tuple ds)) (d_is (d := .bool (lenSame a (.tuple ds))) ?_ rfl) (fun c1 => ?_))) fun v H2 e2 h => k v _ (e.trans e2) h
      · obtain ⟨es, rfl⟩ := tup_of c0
        exact d_eqI (d_lenT V0) (d_lenT V1)
      · obtain ⟨es, rfl⟩ := tup_of c0
        have hl : es.length = ds.length := by
          have z := of_decide_eq_true c1
          omega
        refine d_allR (n := ds.length) (fun i => sameN n (es.getD i .none) (ds.getD i .none)) (ds_cons (d_lenT V1) ds_nil) (by have := hdep.1; omega) (fun _ => rfl) (fun i H2 e2 hi => ?_)
        have W0 : EvD K (tVar 0) [some v_told, some v_due, some (.int (i : Int))] H2 (.tuple es) := d_var ⟨_, rfl, dp_grow (e.trans e2) _ _ h_told⟩
        have W1 : EvD K (tVar 1) [some v_told, some v_due, some (.int (i : Int))] H2 (.tuple ds) := d_var ⟨_, rfl, dp_grow (e.trans e2) _ _ h_due⟩
        have W2 : EvD K (tVar 2) [some v_told, some v_due, some (.int (i : Int))] H2 (.int (i : Int)) := d_var ⟨_, rfl, .int _⟩
        exact d_call (ds_cons (d_ixT W0 W2 (atI_nat (by omega))) (ds_cons (d_ixT W1 W2 (atI_nat hi)) ds_nil)) rfl ⟨_, _, rfl, hdep.2 i hi, rfl⟩
    have V0 : EvD K (tVar 0) [some v_told, some v_due, none] H1 a := d_var ⟨_, rfl, dp_grow e _ _ h_told⟩
    have V1 : EvD K (tVar 1) [some v_told, some v_due, none] H1 b := d_var ⟨_, rfl, dp_grow e _ _ h_due⟩
    have nt : ¬ (isTupD b = true) := by rw [c]; decide
    have ev : sameN (n + 1) a b = (if (isBoolD b || isBoolD a) = true then (isBoolD b && (isBoolD a && PyData.eqv a b)) else if isIntD b = true then (isIntD a && PyData.eqv a b) else if isStrD b = true then (isStrD a && PyData.eqv a b) else (isNone a && isNone b)) := if_neg nt
    rw [ev] at k
    refine z_if (σ := [some v_told, some v_due, none]) (b_or (b_val (d_isi V1 (kit_bool _))) (fun _ => b_val (d_isi V0 (kit_bool _)))) (fun c2 H2 e2 => ?_) (fun c2 H2 e2 => z_next ?_)
    · rw [if_pos c2] at k
      exact z_ret (K := K) (d_and (d_isi (V1.mono e2) (kit_bool _)) (fun c3 => d_and (d_isi (V0.mono e2) (kit_bool _)) (fun c4 => eq_bools c3 c4 (V0.mono e2) (V1.mono e2)))) fun v H3 e3 h => k v _ ((e.trans e2).trans e3) h
    rw [if_neg (by rw [c2]; decide)] at k
    refine z_if (σ := [some v_told, some v_due, none]) (b_val (d_isi (V1.mono e2) (kit_int _))) (fun c3 H3 e3 => ?_) (fun c3 H3 e3 => z_next ?_)
    · rw [if_pos c3] at k
      exact z_ret (K := K) (d_and (d_isi (V0.mono (e2.trans e3)) (kit_int _)) (fun c4 => eq_ints c3 c4 (V0.mono (e2.trans e3)) (V1.mono (e2.trans e3)))) fun v H4 e4 h => k v _ (((e.trans e2).trans e3).trans e4) h
    rw [if_neg (by rw [c3]; decide)] at k
    refine z_if (σ := [some v_told, some v_due, none]) (b_val (d_isi (V1.mono (e2.trans e3)) (kit_str _))) (fun c4 H4 e4 => ?_) (fun c4 H4 e4 => z_next ?_)
    · rw [if_pos c4] at k
      exact z_ret (K := K) (d_and (d_isi (V0.mono ((e2.trans e3).trans e4)) (kit_str _)) (fun c5 => eq_strs c4 c5 (V0.mono ((e2.trans e3).trans e4)) (V1.mono ((e2.trans e3).trans e4)))) fun v H5 e5 h => k v _ ((((e.trans e2).trans e3).trans e4).trans e5) h
    rw [if_neg (by rw [c4]; decide)] at k
    exact z_ret (K := K) (d_and (d_isN (V0.mono ((e2.trans e3).trans e4))) (fun _ => d_isN (V1.mono ((e2.trans e3).trans e4)))) fun v H5 e5 h => k v _ ((((e.trans e2).trans e3).trans e4).trans e5) h
end
end K01
namespace Dat
open PySem L2 Evl
/-- data of truths, ints, texts, None and short tuples of them, of a depth below n -/
def goodN : Nat → PyData → Bool
  | 0, _ => false
  | n + 1, .tuple ds => decide (ds.length ≤ 1000) && ds.all fun d => goodN n d
  | _ + 1, .none => true
  | _ + 1, .bool _ => true
  | _ + 1, .int _ => true
  | _ + 1, .str _ => true
  | _ + 1, _ => false
theorem getD_mem {ds : List PyData} {i : Nat} (h : i < ds.length) : ds.getD i .none ∈ ds := by
  rw [List.getD_eq_getElem?_getD, List.getElem?_eq_getElem h]
  exact List.getElem_mem h
theorem good_dep : ∀ {n : Nat} {d : PyData}, goodN n d = true → depN n d
  | 0, _, h => by cases h
  | n + 1, d, h => by
    cases d with
    | tuple ds =>
      obtain ⟨h1, h2⟩ := Bool.and_eq_true_iff.mp (show (decide (ds.length ≤ 1000) && ds.all fun d => goodN n d) = true from h)
      exact ⟨of_decide_eq_true h1, fun i hi => good_dep (List.all_eq_true.mp h2 _ (getD_mem hi))⟩
    | _ => trivial
theorem good_same : ∀ {n : Nat} {d : PyData}, goodN n d = true → sameN n d d = true
  | 0, _, h => by cases h
  | n + 1, d, h => by
    cases d with
    | tuple ds =>
      obtain ⟨h1, h2⟩ := Bool.and_eq_true_iff.mp (show (decide (ds.length ≤ 1000) && ds.all fun d => goodN n d) = true from h)
      show (true && (decide ((ds.length : Int) = ds.length) && (List.range ds.length).all fun i => sameN n (ds.getD i .none) (ds.getD i .none))) = true
      rw [decide_eq_true rfl, Bool.true_and, Bool.true_and, List.all_eq_true]
      intro i hi
      exact good_same (List.all_eq_true.mp h2 _ (getD_mem (List.mem_range.mp hi)))
    | none => rfl
    | bool b =>
      show (true && (true && (b == b))) = true
      rw [beq_self_eq_true]
      rfl
    | int i =>
      show (true && (i == i)) = true
      rw [beq_self_eq_true]
      rfl
    | str x =>
      show (true && (x == x)) = true
      rw [beq_self_eq_true]
      rfl
    | list _ => cases h
    | dict _ => cases h
end Dat
namespace K01
open PySem L2 Evl Dat
section
variable {P : Program} {w : World} {K : PySem.W.Frag} {mg : Str → Option Value} {base : Heap}
theorem def_L_same {f : Addr} {fd : FuncData} (F : Fun K "_law_same" "_law_same" s_L_same f fd) (T : Bl mg) (hm : mg "_law_same" = some (.ref f)) (kp : PySem.W.keepIn K (.ref f) = true) (hb : Binds K fd ["told", "due"] []) : ∀ n, Def P w K mg base CX0 n "_law_same" ["told", "due"] (spD K 2 (fSame n))
  | 0 => ⟨f, fd, ⟨fun vs H Q E h => by
      obtain ⟨ds, d, _, _, ⟨a, b, _, hd, _⟩, _⟩ := h
      exact hd.elim, fun A outer s H args us vs Q E _ _ _ _ h => by
      obtain ⟨ds, d, _, _, ⟨a, b, _, hd, _⟩, _⟩ := h
      exact hd.elim⟩, hm, kp, hb⟩
  | n + 1 => ⟨f, fd, ok_L_same1 F T (def_L_same F T hm kp hb n), hm, kp, hb⟩
end
end K01
namespace K01
open PySem L2 Evl Dat
section
variable {P : Program} {w : World} {K : PySem.W.Frag} {mg : Str → Option Value} {base : Heap}
abbrev s_Lratio : Stmt := topS 34
abbrev N_Lratio : List Str := ["top", "bottom", "one", "other"]
theorem sc_Lratio : FnScope N_Lratio ["top", "bottom"] (defScope s_Lratio) := ⟨rfl, rfl, rfl, by decide +kernel, rfl, by decide +kernel, by decide +kernel⟩
theorem ok_Lratio {f : Addr} {fd : FuncData} (F : Fun K "_law_ratio" "_law_ratio" s_Lratio f fd) (T : Bl mg) : FnOk P w K mg base CX0 1 f fd ["top", "bottom"] (spD K 2 fLowest) := by
  refine F.ok sc_Lratio (fun vs H Q E h => ?_) (fun cdv A outer s H vs Q E hr h => ?_)
  · obtain ⟨ds, d, hl, hd, _⟩ := h
    exact (dps_len hd).trans hl
  · obtain ⟨ds, d, hl, hd, hf, k⟩ := h
    obtain ⟨t, b, rfl, b0, bb, rfl⟩ := hf
    obtain ⟨v_top, vs, rfl, h_top, hd⟩ := dps_cons hd
    obtain ⟨v_bottom, vs, rfl, h_bottom, hd⟩ := dps_cons hd
    obtain rfl := dps_nil hd
    cases h_top
    cases h_bottom
    refine ⟨_, Evl.pss_cut (ps_if (pt_cmpR op_lt (pv 1) pe_int (nomark _)) (pss_cons (ps_set (i := 0) sc_Lratio.nd rfl (Or.inl rfl) (pe_un un_neg (pv 0))) (pss_one (ps_set (i := 1) sc_Lratio.nd rfl (Or.inl rfl) (pe_un un_neg (pv 1))))) pss_nil)
      (pss_cons (ps_set (i := 2) sc_Lratio.nd rfl (Or.inl rfl) (pe_callB call_abs (by rfl) T.b_abs (by decide +kernel) (pa_cons (pv 0) pa_nil)))
      (pss_cons (ps_set (i := 3) sc_Lratio.nd rfl (Or.inl rfl) (pv 1))
      (pss_cons (ps_while PassesOwn.never (pt_truth (pv 2) (fun _ => rfl)) (pss_one (ps_par (i := 2) (j := 3) rfl sc_Lratio.nd rfl rfl (by decide) rfl rfl (pa_cons (pe_op op_mod (pe_callTy call_int1 (by rfl) T.b_int (by decide +kernel) (pa_cons (pv 3) pa_nil)) (pv 2)) (pa_cons (pv 2) pa_nil)) (by rfl))))
      (pss_one (ps_ret (pe_tup (pa_cons (pe_op op_fdivA (pv 0) (pv 3)) (pa_cons (pe_op op_fdivA (pv 1) (pv 3)) pa_nil)))))))), ?_⟩
    refine ⟨fun σ' H' => σ' = [some (.int (if b < 0 then -t else t)), some (.int (if b < 0 then -b else b)), none, none] ∧ H' = H, ?_, ?_⟩
    · refine ⟨_, rfl, _, _, rfl, rfl, _, rfl, ?_⟩
      refine ite2 (fun c => ?_) (fun c => ?_)
      · have c' := of_decide_eq_true c
        refine ⟨_, rfl, _, rfl, _, rfl, _, rfl, ?_, rfl⟩
        rw [if_pos c', if_pos c']
        rfl
      · have c' : ¬ b < 0 := fun z => c (decide_eq_true z)
        refine ⟨?_, rfl⟩
        rw [if_neg c', if_neg c']
        rfl
    · rintro σ' H' ⟨rfl, rfl⟩
      have hb : 0 < (if b < 0 then -b else b) := by split <;> omega
      have hg : Nat.gcd (if b < 0 then -t else t).natAbs (if b < 0 then -b else b).natAbs = Nat.gcd t.natAbs b.natAbs := by
        split <;> simp
      have hlow : lowest t b = rat ((if b < 0 then -t else t) / (Nat.gcd t.natAbs b.natAbs : Nat)) ((if b < 0 then -b else b) / (Nat.gcd t.natAbs b.natAbs : Nat)) := by
        show rat (lowP t b) (lowQ t b) = _
        unfold lowP lowQ
        by_cases c : b < 0
        · simp only [if_pos c]
        · simp only [if_neg c]
      have hbb : (if b < 0 then -b else b).natAbs < 2 ^ 4000 := by
        split
        · rw [Int.natAbs_neg]
          exact bb
        · exact bb
      rw [hlow] at k
      rw [← hg] at k
      generalize (if b < 0 then -t else t) = t' at k
      generalize (if b < 0 then -b else b) = b' at k hb hbb
      clear hg hlow b0 bb
      have ha : (if t' < 0 then -t' else t') = (t'.natAbs : Int) := by split <;> omega
      refine x_set (v := .int (t'.natAbs : Int)) (fun Q q => ⟨_, rfl, t', rfl, by rw [ha]; exact q⟩) ?_
      refine x_set (v := .int b') (fun Q q => ⟨_, rfl, q⟩) ?_
      show tSeq (tWhile _ _) _ _ [some (.int t'), some (.int b'), some (.int (t'.natAbs : Int)), some (.int b')] _
      refine z_while (fun σ' H1 => H1 = H' ∧ ∃ x y : Nat, σ' = [some (.int t'), some (.int b'), some (.int x), some (.int y)] ∧ 0 < y ∧ Nat.gcd x y = Nat.gcd t'.natAbs b'.natAbs) (fun σ' _ => match σ' with | [_, _, some (.int x), _] => x.toNat | _ => 0) ?_ ?_ ?_
      · have hy : b' = ((b'.toNat : Nat) : Int) := by omega
        refine ⟨rfl, t'.natAbs, b'.toNat, ?_, by omega, ?_⟩
        · show [some (V.int t'), some (V.int b'), some (V.int (t'.natAbs : Int)), some (V.int b')] = _
          rw [← hy]
        · have : b'.toNat = b'.natAbs := by omega
          rw [this]
      · rintro σ' H1 ⟨rfl, x, y, rfl, hy, hgc⟩
        refine ⟨_, rfl, _, rfl, ?_⟩
        by_cases hx : x = 0
        · subst hx
          refine iteF ?_
          have hgy : y = Nat.gcd t'.natAbs b'.natAbs := by
            rw [← hgc, Nat.gcd_zero_left]
          have hyb : y ≤ b'.natAbs := by
            rw [hgy]
            exact Nat.gcd_le_right _ (by omega)
          have hdiv : ∀ i : Int, CDivA i ((y : Nat) : Int) := fun i => div_ok (n := 4000) (by omega) (Nat.lt_of_le_of_lt hyb hbb)
          refine ⟨_, rfl, _, rfl, _, _, rfl, rfl, hdiv _, _, rfl, _, rfl, _, _, rfl, rfl, hdiv _, by show 2 ≤ sizeLine; decide, fun p hp => ?_⟩
          refine k _ _ (Ex.new hp) (.tup (st_of upd_same) (.cons ?_ (.cons ?_ .nil)))
          · rw [← hgy, ← Int.fdiv_eq_ediv_of_nonneg _ (by omega)]
            exact .int _
          · rw [← hgy, ← Int.fdiv_eq_ediv_of_nonneg _ (by omega)]
            exact .int _
        · have hne : (((x : Nat) : Int) != 0) = true := by
            rw [bne_iff_ne]
            omega
          rw [hne]
          refine iteT ?_
          refine ⟨_, rfl, .inl ⟨_, rfl, _, rfl, _, _, rfl, rfl, (by show (0 : Int) < (x : Int); omega), _, rfl, _, _, rfl, ?_⟩⟩
          refine ⟨⟨rfl, y % x, x, ?_, by omega, ?_⟩, ?_⟩
          · show [some (V.int t'), some (V.int b'), some (V.int ((y : Int) % (x : Int))), some (V.int (x : Int))] = _
            rw [← Int.natCast_emod]
          · rw [← hgc, Nat.gcd_comm x y, ← Nat.gcd_rec, Nat.gcd_comm]
          · show ((y : Int) % (x : Int)).toNat < ((x : Nat) : Int).toNat
            rw [← Int.natCast_emod]
            exact Nat.mod_lt _ (by omega)
      · rintro σ' H1 Q1 Q2 hQ ⟨v, h1, kk, h2, h3⟩
        exact ⟨v, h1, kk, h2, hQ _ _ h3⟩
end
end K01
namespace K01
open PySem L2 Evl Dat
section
variable {X : Cx} {CX : CXT} {k : Nat} {ps : List Str} {sp : Sp} {E : XK} {x : Str} {p pos : Pos} {e : Expr} {es : List Expr} {t : TA}
theorem pe_dcall0 (D : Def X.prog X.w X.K X.mg X.base CX k x ps sp) (hr : Room k X.A) (hx : Passes CX X E) (hg : Gl X x := by rfl) (hdb : (x == ("__debug__" : Str)) = false := by decide) :
    PE X (.Call (.Name x p) [] [] pos) (tCall sp [] E tNil) := by
  obtain ⟨f, fd, F, hm, hk, hb⟩ := D.ex
  exact pe_call0 F hr hg hm hk hb .nil hx hdb
end
/-- a hand at h: its cells at c (never changed), and three numbers -/
def HandOk (H : Hp) (h c : Addr) (ns : List Int) : Prop := ∃ (p r t : Int), H h = some (.lst [.ref c, .int p, .int r, .int t]) ∧ H c = some (.lst (ns.map V.int)) ∧
  ns.length ≤ 63 ∧ (∀ n ∈ ns, 0 ≤ n) ∧ 0 ≤ p ∧ p ≤ 64 ∧ 0 ≤ r ∧ 0 ≤ t ∧ t < 2147483629
def spMix : Sp := fun vs H Q _ => ∃ n k : Int, vs = [.int n, .int k] ∧ 0 ≤ n ∧ n < 2147483647 ∧ 0 ≤ k ∧ k ≤ 1000 ∧ ∀ r, Q (.int r) H
def spHand (K : PySem.W.Frag) : Sp := fun vs H Q _ => ∃ (a : Addr) (ns : List Int), vs = [.ref a] ∧ SqL K H a (ns.map V.int) ∧ ns.length ≤ 63 ∧
  ∀ H' h c ms, Same H H' → H h = none → H c = none → HandOk H' h c ms → Q (.ref h) H'
def spDraw : Sp := fun vs H Q _ => ∃ (h c : Addr) (ns : List Int) (many : Int), vs = [.ref h, .int many] ∧ 0 < many ∧ many.natAbs < 2 ^ 1000 ∧ HandOk H h c ns ∧
  ∀ r H', 0 ≤ r → r < many → HandOk H' h c ns → (∀ a, a ≠ h → H' a = H a) → Q (.int r) H'
section
variable {P : Program} {w : World} {K : PySem.W.Frag} {mg : Str → Option Value} {base : Heap}
abbrev s_mix : Stmt := topS 31
abbrev N_mix : List Str := ["number", "turn", "once", "twice"]
theorem sc_mix : FnScope N_mix ["number", "turn"] (defScope s_mix) := ⟨rfl, rfl, rfl, by decide +kernel, rfl, by decide +kernel, by decide +kernel⟩
theorem ok_mix {f : Addr} {fd : FuncData} (F : Fun K "_law_mix" "_law_mix" s_mix f fd) (T : Bl mg) : FnOk P w K mg base CX0 1 f fd ["number", "turn"] spMix := by
  refine F.ok sc_mix (fun vs H Q E h => ?_) (fun cdv A outer s H vs Q E hr h => ?_)
  · obtain ⟨n, k, rfl, _⟩ := h
    rfl
  · obtain ⟨n, k, rfl, n0, n1, k0, k1, q⟩ := h
    refine ⟨_, (pss_cons (ps_set (i := 2) sc_mix.nd rfl (Or.inl rfl) (pe_op op_mod (pe_callTy call_int1 (by rfl) T.b_int (by decide +kernel) (pa_cons (pe_op op_add (pe_op op_add (pe_op op_mul (pv 0) pe_int) (pe_op op_mul (pv 1) pe_int)) pe_int) pa_nil)) pe_int))
    (pss_cons (ps_set (i := 3) sc_mix.nd rfl (Or.inl rfl) (pe_op op_mod (pe_callTy call_int1 (by rfl) T.b_int (by decide +kernel) (pa_cons (pe_op op_add (pe_op op_add (pe_op op_mul (pv 2) (pv 2)) (pe_op op_mul (pe_op op_fdiv (pv 2) pe_int) pe_int)) (pe_op op_mul (pv 1) pe_int)) pa_nil)) pe_int))
    (pss_one (ps_ret (pe_op op_fdiv (pe_op op_mod (pe_callTy call_int1 (by rfl) T.b_int (by decide +kernel) (pa_cons (pe_op op_add (pe_op op_fdiv (pe_op op_mul (pv 3) (pv 3)) pe_int) (pv 2)) pa_nil)) pe_int) pe_int))))), ?_⟩
    refine ⟨_, rfl, _, _, rfl, rfl, .inr (by decide), _, rfl, _, _, rfl, rfl, .inr (by decide), _, _, rfl, rfl, _, _, rfl, rfl, .inl ⟨_, rfl, _, _, rfl, rfl, (by show (0 : Int) < 2147483647; decide), ?_⟩⟩
    generalize ho : (n * 48271 + k * 16807 + 11) % 2147483647 = once
    have o0 : 0 ≤ once := by omega
    have o1 : once < 2147483647 := by omega
    refine ⟨_, rfl, _, rfl, _, _, rfl, rfl, .inl ⟨by omega, by omega⟩, _, rfl, _, _, rfl, rfl, ⟨by decide, by decide⟩, _, _, rfl, rfl, .inr (by decide), _, _, rfl, rfl, _, rfl, _, _, rfl, rfl, .inr (by decide), _, _, rfl, rfl, .inl ⟨_, rfl, _, _, rfl, rfl, (by show (0 : Int) < 2147483399; decide), ?_⟩⟩
    generalize ht : (once * once + once / 127 * 40692 + k * 69621) % 2147483399 = twice
    have t0 : 0 ≤ twice := by omega
    have t1 : twice < 2147483399 := by omega
    refine ⟨_, rfl, _, rfl, _, _, rfl, rfl, .inl ⟨by omega, by omega⟩, _, _, rfl, rfl, ⟨by decide, by decide⟩, _, rfl, _, _, rfl, rfl, .inl ⟨_, rfl, _, _, rfl, rfl, (by show (0 : Int) < 2147483563; decide), _, _, rfl, rfl, ⟨by decide, by decide⟩, q _⟩⟩
end
section
variable {P : Program} {w : World} {K : PySem.W.Frag} {mg : Str → Option Value} {base : Heap}
abbrev s_draw : Stmt := topS 33
abbrev N_draw : List Str := ["hand", "many", "cell", "rest"]
theorem sc_draw : FnScope N_draw ["hand", "many"] (defScope s_draw) := ⟨rfl, rfl, rfl, by decide +kernel, rfl, by decide +kernel, by decide +kernel⟩
theorem ok_draw {f : Addr} {fd : FuncData} (F : Fun K "_law_draw" "_law_draw" s_draw f fd) (T : Bl mg) (D_law_mix : Def P w K mg base CX0 1 "_law_mix" ["number", "turn"] spMix) : FnOk P w K mg base CX0 2 f fd ["hand", "many"] spDraw := by
  refine F.ok sc_draw (fun vs H Q E h => ?_) (fun cdv A outer s H vs Q E hr h => ?_)
  · obtain ⟨a, c, ns, many, rfl, _⟩ := h
    rfl
  · obtain ⟨a, c, ns, many, rfl, m0, m1, ⟨p, r, t, hH, hC, hl, hns, p0, p1, r0, t0, t1⟩, q⟩ := h
    refine ⟨_, (Evl.pss_cut (ps_if (PW.pt (pw_and (pt_cmpR op_eq (pe_ix ix_list (pv 0) pe_int (fun _ _ => rfl)) pe_int (nomark _)) (pw_and1 (pt_cmpR op_lt (pe_ix ix_list (pv 0) pe_int (fun _ _ => rfl)) (pe_callB call_len_seq (by rfl) T.b_len (by decide +kernel) (pa_cons (pe_ix ix_list (pv 0) pe_int (fun _ _ => rfl)) pa_nil)) (nomark _))))) (pss_cons (ps_set (i := 2) sc_draw.nd rfl (Or.inl rfl) (pe_ix ix_list (pe_ix ix_list (pv 0) pe_int (fun _ _ => rfl)) (pe_ix ix_list (pv 0) pe_int (fun _ _ => rfl)) (fun _ _ => rfl)))
    (pss_cons (ps_asg (pe_op op_add (pe_ix ix_list (pv 0) pe_int (fun _ _ => rfl)) pe_int) (pg_sub (pv 0) pe_int set_list) rfl)
    (pss_cons (ps_if (pt_cmpR op_lt (pv 2) (pe_op op_pow pe_int pe_int) (nomark _)) (pss_one (ps_ret (pe_op op_mod (pe_callTy call_int1 (by rfl) T.b_int (by decide +kernel) (pa_cons (pe_dcall D_law_mix (hr.mono (by decide)) pass0 (pa_cons (pe_op op_mod (pe_callTy call_int1 (by rfl) T.b_int (by decide +kernel) (pa_cons (pv 2) pa_nil)) pe_int) (pa_cons (pe_ix ix_list (pv 0) pe_int (fun _ _ => rfl)) pa_nil))) pa_nil)) (pv 1)))) pss_nil)
    (pss_one (ps_asg (pv 2) (pg_sub (pv 0) pe_int set_list) rfl))))) pss_nil)
    (pss_cons (ps_if (pt_cmpR op_gt (pe_ix ix_list (pv 0) pe_int (fun _ _ => rfl)) pe_int (nomark _)) (pss_cons (ps_set (i := 3) sc_draw.nd rfl (Or.inl rfl) (pe_ix ix_list (pv 0) pe_int (fun _ _ => rfl)))
    (pss_cons (ps_asg (pe_op op_fdivW (pv 3) (pv 1)) (pg_sub (pv 0) pe_int set_list) rfl)
    (pss_one (ps_ret (pe_op op_mod (pe_callTy call_int1 (by rfl) T.b_int (by decide +kernel) (pa_cons (pv 3) pa_nil)) (pv 1)))))) pss_nil)
    (pss_cons (ps_asg (pe_op op_mod (pe_callTy call_int1 (by rfl) T.b_int (by decide +kernel) (pa_cons (pe_op op_add (pe_ix ix_list (pv 0) pe_int (fun _ _ => rfl)) pe_int) pa_nil)) pe_int) (pg_sub (pv 0) pe_int set_list) rfl)
    (pss_one (ps_ret (pe_op op_mod (pe_callTy call_int1 (by rfl) T.b_int (by decide +kernel) (pa_cons (pe_dcall D_law_mix (hr.mono (by decide)) pass0 (pa_cons (pe_ix ix_list (pv 0) pe_int (fun _ _ => rfl)) (pa_cons (pe_ix ix_list (pv 0) pe_int (fun _ _ => rfl)) pa_nil))) pa_nil)) (pv 1))))))), ?_⟩
    have nca : c ≠ a := fun e => by
      rw [e, hH] at hC
      have := Option.some.inj hC
      injection this with e1
      cases ns with
      | nil => cases e1
      | cons n l =>
        rw [List.map_cons] at e1
        injection e1 with e2
        cases e2
    have nac : a ≠ c := fun e => nca e.symm
    refine ⟨fun σ' H' => ∃ (v2 : Option V) (p r t : Int), σ' = [some (.ref a), some (.int many), v2, none] ∧ H' a = some (.lst [.ref c, .int p, .int r, .int t]) ∧ H' c = some (.lst (ns.map V.int)) ∧ (∀ b, b ≠ a → H' b = H b) ∧ 0 ≤ p ∧ p ≤ 64 ∧ 0 ≤ r ∧ 0 ≤ t ∧ t < 2147483629, ?_, ?_⟩
    · refine ⟨_, rfl, a, _, 2, _, rfl, rfl, SqL.of hH, rfl, rfl, _, rfl, ?_⟩
      refine ite2 (fun e1 => ?_) (fun e1 => ?_)
      · refine ⟨_, rfl, a, _, 1, _, rfl, rfl, SqL.of hH, rfl, _, rfl, a, _, 0, _, rfl, rfl, SqL.of hH, rfl, c, _, rfl, .inl (SqL.of hC), _, _, rfl, rfl, _, rfl, ?_⟩
        refine ite2 (fun e2 => ?_) (fun e2 => ?_)
        · have e2 := of_decide_eq_true e2
          rw [List.length_map] at e2
          have hi : p.toNat < ns.length := by omega
          have hp : ((p.toNat : Nat) : Int) = p := by omega
          have hat : atI (ns.map V.int) p = some (.int ns[p.toNat]) := by
            have h := atI_nat (xs := ns.map V.int) (j := p.toNat) (v := .int ns[p.toNat]) (by rw [List.getElem?_map, List.getElem?_eq_getElem hi]; rfl)
            rw [hp] at h
            exact h
          have hcell : 0 ≤ ns[p.toNat] := hns _ (List.getElem_mem hi)
          generalize ns[p.toNat] = cell at hat hcell
          refine ⟨_, rfl, a, _, 0, _, rfl, rfl, SqL.of hH, rfl, _, rfl, a, _, 1, _, rfl, rfl, SqL.of hH, rfl, c, _, p, _, rfl, rfl, SqL.of hC, hat, ?_⟩
          refine ⟨_, rfl, a, _, 1, _, rfl, rfl, SqL.of hH, rfl, _, _, rfl, rfl, _, rfl, a, _, 1, 1, rfl, rfl, hH, rfl, ?_⟩
          have hH1 : (upd H a (.lst [.ref c, .int (p + 1), .int r, .int t])) a = some (.lst [.ref c, .int (p + 1), .int r, .int t]) := upd_same
          have hC1 : (upd H a (.lst [.ref c, .int (p + 1), .int r, .int t])) c = some (.lst (ns.map V.int)) := (upd_ne nca).trans hC
          have hU : ∀ b, b ≠ a → (upd H a (.lst [.ref c, .int (p + 1), .int r, .int t])) b = H b := fun b hb => upd_ne hb
          show tSeq _ _ _ _ (upd H a (.lst [.ref c, .int (p + 1), .int r, .int t]))
          generalize upd H a (.lst [.ref c, .int (p + 1), .int r, .int t]) = H1 at hH1 hC1 hU
          refine ⟨_, rfl, _, _, rfl, rfl, ⟨by decide, by decide, by decide⟩, _, _, rfl, rfl, _, rfl, ?_⟩
          refine ite2 (fun e3 => ?_) (fun e3 => ?_)
          · refine ⟨_, rfl, .inl ⟨_, rfl, _, _, rfl, rfl, (by show (0 : Int) < 2147483647; decide), _, rfl, a, _, 1, _, rfl, rfl, SqL.of hH1, rfl, _, _, rfl, by omega, by omega, by omega, by omega, fun z => .inl ⟨_, rfl, _, rfl, _, _, rfl, rfl, m0, ?_⟩⟩⟩
            exact q _ _ (Int.emod_nonneg _ (by omega)) (Int.emod_lt_of_pos _ m0) ⟨p + 1, r, t, hH1, hC1, hl, hns, by omega, by omega, r0, t0, t1⟩ hU
          · refine ⟨_, rfl, _, rfl, a, _, 2, 2, rfl, rfl, hH1, rfl, ?_⟩
            exact ⟨_, p + 1, cell, t, rfl, upd_same, (upd_ne nca).trans hC1, fun b hb => (upd_ne hb).trans (hU b hb), by omega, by omega, hcell, t0, t1⟩
        · exact ⟨_, p, r, t, rfl, hH, hC, fun _ _ => rfl, p0, p1, r0, t0, t1⟩
      · exact ⟨_, p, r, t, rfl, hH, hC, fun _ _ => rfl, p0, p1, r0, t0, t1⟩
    · clear hH hC p0 p1 r0 t0 t1 p r t
      rintro σ' H1 ⟨v2, p, r, t, rfl, hH, hC, hU, p0, p1, r0, t0, t1⟩
      refine ⟨_, rfl, a, _, 2, _, rfl, rfl, SqL.of hH, rfl, _, _, rfl, rfl, _, rfl, ?_⟩
      refine ite2 (fun e1 => ?_) (fun e1 => ?_)
      · refine ⟨_, rfl, a, _, 2, _, rfl, rfl, SqL.of hH, rfl, ?_⟩
        refine ⟨_, rfl, _, rfl, _, _, rfl, rfl, wide_div m0 m1 (by decide) (by decide), _, rfl, a, _, 2, 2, rfl, rfl, hH, rfl, ?_⟩
        refine ⟨_, rfl, .inl ⟨_, rfl, _, rfl, _, _, rfl, rfl, m0, ?_⟩⟩
        exact q _ _ (Int.emod_nonneg _ (by omega)) (Int.emod_lt_of_pos _ m0) ⟨p, r / many, t, upd_same, (upd_ne nca).trans hC, hl, hns, p0, p1, Int.ediv_nonneg r0 (by omega), t0, t1⟩ fun b hb => (upd_ne hb).trans (hU b hb)
      · refine ⟨_, rfl, a, _, 3, _, rfl, rfl, SqL.of hH, rfl, _, _, rfl, rfl, .inl ⟨_, rfl, _, _, rfl, rfl, (by show (0 : Int) < 2147483629; decide), _, rfl, a, _, 3, 3, rfl, rfl, hH, rfl, ?_⟩⟩
        have hH1 : (upd H1 a (.lst [.ref c, .int p, .int r, .int ((t + 1) % 2147483629)])) a = some (.lst [.ref c, .int p, .int r, .int ((t + 1) % 2147483629)]) := upd_same
        have hC1 : (upd H1 a (.lst [.ref c, .int p, .int r, .int ((t + 1) % 2147483629)])) c = some (.lst (ns.map V.int)) := (upd_ne nca).trans hC
        refine ⟨_, rfl, a, _, 3, _, rfl, rfl, SqL.of hH1, rfl, _, rfl, a, _, 1, _, rfl, rfl, SqL.of hH1, rfl, _, _, rfl, by omega, by omega, by omega, by omega, fun z => .inl ⟨_, rfl, _, rfl, _, _, rfl, rfl, m0, ?_⟩⟩
        exact q _ _ (Int.emod_nonneg _ (by omega)) (Int.emod_lt_of_pos _ m0) ⟨p, r, (t + 1) % 2147483629, hH1, hC1, hl, hns, by omega, by omega, r0, by omega, by omega⟩ fun b hb => (upd_ne hb).trans (hU b hb)
end
theorem same_new {H : Hp} {p : Addr} {o : HO} (h : H p = none) : Same H (upd H p o) := fun b x e => by
  rw [upd_ne (ne_of_none e h)]
  exact e
theorem yes_turn {σ : L2.St} {H : Hp} {te : TE} {Q : VK} {B : Hp → Prop} (h : te σ H Q) : tYes σ H (fun b H3 => if b = true then te σ H3 Q else B H3) := by
  show (if true = true then te σ H Q else B H)
  rw [if_pos rfl]
  exact h
theorem for_enum {K : PySem.W.Frag} {a : Addr} {xs : List V} {g : TG} {tb : TS} {D : Ends} {σ : St} {H : Hp} (Pv : Nat → St → Hp → Prop) (h0 : Pv 0 σ H) (hl : ∀ i σ H, i ≤ xs.length → Pv i σ H → SqL K H a xs)
    (hs : ∀ (i : Nat) x σ H T, xs[i]? = some x → Pv i σ H → H T = none → g (.ref T) σ (upd H T (.tup [.int (i : Nat), x])) fun σ2 H2 => tb { D with nx := Pv (i + 1), ct := Pv (i + 1), bk := D.nx } σ2 H2) (hd : ∀ σ H, Pv xs.length σ H → D.nx σ H) :
    ∃ W : Nat → Nat → St → Hp → Prop, (∃ m, W 0 m σ H) ∧ ∀ i m σ H, W i m σ H →
      ((Ite K a).stop i H ∧ D.nx σ H) ∨ ((Ite K a).go i H ∧ ∃ N : St → Hp → Prop, (∀ σ' H', N σ' H' → ∃ m', m' < m ∧ W (i + 1) m' σ' H') ∧ ∀ x H', (Ite K a).yld i H x H' → g x σ H' fun σ2 H2 => tb { D with nx := N, ct := N, bk := D.nx } σ2 H2) := by
  refine ⟨fun i m σ H => m = xs.length - i ∧ i ≤ xs.length ∧ Pv i σ H, ⟨xs.length, by simp, Nat.zero_le _, h0⟩, ?_⟩
  rintro i m σ H ⟨rfl, hi, p⟩
  have q := hl i σ H hi p
  by_cases hlt : i < xs.length
  · refine .inr ⟨⟨xs, xs[i], q, by simp [hlt]⟩, Pv (i + 1), fun σ' H' p' => ⟨xs.length - (i + 1), by omega, rfl, hlt, p'⟩, fun x H' y => ?_⟩
    obtain ⟨T, x', rfl, nT, rfl, hx⟩ := y
    exact hs i x' σ H T (hx xs q) p nT
  · refine .inl ⟨⟨xs, q, by omega⟩, ?_⟩
    have e : i = xs.length := by omega
    subst e
    exact hd σ H p
section
variable {P : Program} {w : World} {K : PySem.W.Frag} {mg : Str → Option Value} {base : Heap}
abbrev s_hand : Stmt := topS 32
abbrev N_hand : List Str := ["script", "total", "k", "cell"]
theorem sc_hand : FnScope N_hand ["script"] (defScope s_hand) := ⟨rfl, rfl, rfl, by decide +kernel, rfl, by decide +kernel, by decide +kernel⟩
theorem ok_hand {f : Addr} {fd : FuncData} (F : Fun K "_law_hand" "_law_hand" s_hand f fd) (T : Bl mg) : FnOk P w K mg base CX0 1 f fd ["script"] (spHand K) := by
  refine F.ok sc_hand (fun vs H Q E h => ?_) (fun cdv A outer s H vs Q E hr h => ?_)
  · obtain ⟨a, ns, rfl, _⟩ := h
    rfl
  · obtain ⟨a, ns, rfl, hS, hl, q⟩ := h
    refine ⟨_, (pss_cons (ps_set (i := 1) sc_hand.nd rfl (Or.inl rfl) pe_int)
    (pss_cons (ps_for PassesOwn.never rfl (pi_enum (by rfl) T.b_enumerate (pa_cons (pv 0) pa_nil)) (pg_tup rfl (pgs_cons (pg_name (i := 2) sc_hand.nd rfl (Or.inl rfl)) (pgs_cons (pg_name (i := 3) sc_hand.nd rfl (Or.inl rfl)) pgs_nil))) (pss_one (ps_set (i := 1) sc_hand.nd rfl (Or.inl rfl) (pe_op op_mod (pe_callTy call_int1 (by rfl) T.b_int (by decide +kernel) (pa_cons (pe_op op_add (pe_op op_mul (pv 1) pe_int) (pe_op op_mul (pe_callTy call_int1 (by rfl) T.b_int (by decide +kernel) (pa_cons (pv 3) pa_nil)) (pe_op op_add (pv 2) pe_int))) pa_nil)) pe_int))))
    (pss_one (ps_ret (pe_lst (pa_cons (pe_lc (own := [("cell", 3)]) (g := gName 3) rfl sc_hand.nd (pi_list (pv 0)) (blkOk_by (own := [("cell", 3)]) (N := N_hand) (sc := defScope s_hand) (by decide +kernel)) (fun _ _ _ _ _ => pg_name (i := 3) sc_hand.nd rfl (Or.inl rfl)) (fun _ _ _ _ _ => pts_nil) (fun _ _ _ _ _ => (pe_callB call_abs (by rfl) T.b_abs (by decide +kernel) (pa_cons (pe_callTy call_int1 (by rfl) T.b_int (by decide +kernel) (pa_cons (pv 3) pa_nil)) pa_nil)))) (pa_cons pe_int (pa_cons pe_int (pa_cons (pv 1) pa_nil))))))))), ?_⟩
    refine ⟨.ref a, rfl, a, _, rfl, hS, ?_⟩
    refine for_enum (fun i σ' H' => ∃ (t : Int) (v2 v3 : Option V), σ' = [some (.ref a), some (.int t), v2, v3] ∧ Same H H' ∧ 0 ≤ t ∧ t < 2147483629) ⟨0, none, none, rfl, Same.refl _, by decide, by decide⟩ (fun i σ' H' _ ⟨_, _, _, _, sm, _⟩ => sm.seq hS) ?_ ?_
    · rintro i x σ' H' T hx ⟨t, v2, v3, rfl, sm, t0, t1⟩ nT
      obtain ⟨n, rfl⟩ : ∃ n, x = V.int n := by
        rw [List.getElem?_map] at hx
        cases e : ns[i]? with
        | none =>
          rw [e] at hx
          cases hx
        | some u =>
          rw [e] at hx
          exact ⟨u, (Option.some.inj hx).symm⟩
      refine ⟨T, _, rfl, .inl (.inl upd_same), rfl, _, _, rfl, _, _, rfl, rfl, ?_⟩
      refine ⟨_, rfl, _, _, rfl, rfl, .inr (by decide), _, rfl, .inl ⟨_, rfl, _, rfl, _, _, rfl, rfl, _, _, rfl, rfl, .inr ⟨by have := (List.getElem?_eq_some_iff.mp hx).1; rw [List.length_map] at this; omega, by have := (List.getElem?_eq_some_iff.mp hx).1; rw [List.length_map] at this; omega⟩, _, _, rfl, rfl, .inl ⟨_, rfl, _, _, rfl, rfl, (by show (0 : Int) < 2147483629; decide), ?_⟩⟩⟩
      exact ⟨_, _, _, rfl, sm.trans (same_new nT), Int.emod_nonneg _ (by decide), Int.emod_lt_of_pos _ (by decide)⟩
    · rintro σ' H1 ⟨t, v2, v3, rfl, sm, t0, t1⟩
      refine ⟨_, rfl, a, rfl, ⟨_, sm.seq hS⟩, fun D hD => ?_⟩
      refine lc_list (K := K) (xs := ns.map V.int) (fun i H' => Same H1 H' ∧ H' D = some (.lst (((ns.take i).map fun n => if n < 0 then -n else n).map V.int))) ⟨same_new hD, upd_same⟩ (fun i H' _ p => p.1.seq (sm.seq hS)) ?_ ?_
      · rintro i x H' hx ⟨sm', hd⟩
        obtain ⟨n, rfl, hn⟩ : ∃ n, x = V.int n ∧ ns[i]? = some n := by
          rw [List.getElem?_map] at hx
          cases e : ns[i]? with
          | none =>
            rw [e] at hx
            cases hx
          | some u =>
            rw [e] at hx
            exact ⟨u, (Option.some.inj hx).symm, rfl⟩
        have hlt : i < ns.length := (List.getElem?_eq_some_iff.mp hn).1
        refine ⟨rfl, yes_turn ?_⟩
        refine ⟨_, rfl, .inl ⟨_, rfl, _, rfl, _, hd, ?_, ?_, ?_⟩⟩
        · rw [List.length_map, List.length_map, List.length_take]
          exact Nat.lt_of_le_of_lt (Nat.min_le_left _ _) (small1000 (by omega))
        · exact fun b x e => by
            rw [upd_ne (ne_of_none e hD)]
            exact sm' _ _ e
        · rw [upd_same, List.take_add_one, hn, List.map_append, List.map_append]
          rfl
      · rintro H2 ⟨sm', hd⟩
        have hnot : (ns.map V.int).length = ns.length := List.length_map ..
        rw [hnot, List.take_length] at hd
        refine ⟨_, rfl, by show 4 ≤ sizeLine; decide, fun h hh => ?_⟩
        have nDh : D ≠ h := ne_of_none hd hh
        refine q _ h D (ns.map fun n => if n < 0 then -n else n) ?_ ?_ ?_ ⟨0, 0, t, upd_same, (upd_ne nDh).trans hd, by rw [List.length_map]; exact hl, ?_, by decide, by decide, by decide, t0, t1⟩
        · exact (sm.trans sm').trans (same_new hh)
        · exact sm.free (sm'.free hh)
        · exact sm.free hD
        · intro n hn
          obtain ⟨m, _, rfl⟩ := List.mem_map.mp hn
          split <;> omega
end
end K01
namespace Dat
open PySem L2 Evl
/-! ### one of two readings: a list or a tuple -/
def tAlt (t1 t2 : TE) : TE := fun σ H Q => t1 σ H Q ∨ t2 σ H Q
def gAlt (g1 g2 : TG) : TG := fun v σ H Q => g1 v σ H Q ∨ g2 v σ H Q
def iAlt (i1 i2 : TI) : TI := fun σ H R => i1 σ H R ∨ i2 σ H R
section
variable {X : Cx} {e tg : Expr}
theorem pe_alt {t1 t2 : TE} (h1 : PE X e t1) (h2 : PE X e t2) : PE X e (tAlt t1 t2) := ⟨fun pins s σ H Q I h => h.elim (h1.run pins s σ H Q I) (h2.run pins s σ H Q I)⟩
theorem pg_alt {t1 t2 : TG} (h1 : PG X e t1) (h2 : PG X e t2) : PG X e (gAlt t1 t2) := ⟨fun pins s σ H v u Q I r h => h.elim (h1.run pins s σ H v u Q I r) (h2.run pins s σ H v u Q I r)⟩
theorem pi_alt {t1 t2 : TI} (h1 : PI X tg e t1) (h2 : PI X tg e t2) : PI X tg e (iAlt t1 t2) := ⟨fun pins s σ H R I h => h.elim (h1.run pins s σ H R I) (h2.run pins s σ H R I)⟩
end
def sq : Bool → List PyData → PyData
  | true, ds => .tuple ds
  | false, ds => .list ds
section
variable {K : PySem.W.Frag} {te tb : TE} {σ : L2.St} {H : Hp} {D : Ends} {ts ty : TS} {ds : List PyData} {b : Bool} {a c d : PyData}
theorem d_ixS {i : Int} (h : EvD K te σ H (sq b ds)) (r : EvD K tb σ H (.int i)) (e : atI ds i = some d) : EvD K (tAlt (tOp (rIxT K) te tb) (tOp (rIxL K) te tb)) σ H d := fun H1 x Q k => by
  cases b with
  | true => exact .inl (d_ixT h r e H1 x Q k)
  | false => exact .inr (d_ixL h r e H1 x Q k)
theorem g_twoS {i j n : Nat} {v : V} {Q : L2.St → Hp → Prop} (hv : Dp K H v (sq b [a, c])) (hn : n = 2) (k : ∀ x y, Dp K H x a → Dp K H y c → Q ((σ.set i (some x)).set j (some y)) H) : gAlt (gTup K n (gCons (gName i) (gCons (gName j) gNil))) (gLst K n (gCons (gName i) (gCons (gName j) gNil))) v σ H Q := by
  cases b with
  | true => exact .inl (g_two hv hn k)
  | false =>
    refine .inr ?_
    cases hv with
    | lst hs ha =>
      cases ha with
      | cons h1 t1 =>
        cases t1 with
        | cons h2 t2 =>
          cases t2
          exact ⟨_, _, rfl, hs, hn.symm, _, _, rfl, _, _, rfl, rfl, k _ _ h1 h2⟩
/-- x, y = a list or tuple of two -/
theorem z_twoS {i j n : Nat} (h : EvD K te σ H (sq b [a, c])) (k : ∀ x y H1, Ex H H1 → Dp K H1 x a → Dp K H1 y c → ts D ((σ.set i (some x)).set j (some y)) H1) (hn : n = 2 := by rfl) :
    tSeq (tAsg te (gAlt (gTup K n (gCons (gName i) (gCons (gName j) gNil))) (gLst K n (gCons (gName i) (gCons (gName j) gNil))))) ts D σ H := h H (Ex.refl H) _ fun v H1 e hv => g_twoS hv hn fun x y hx hy => k x y H1 e hx hy
/-- for .. in a list or a tuple -/
theorem z_forS {tg : TG} (h : EvD K te σ H (sq b ds)) (Pv : Nat → L2.St → Hp → Prop) (h0 : ∀ H1, Ex H H1 → Pv 0 σ H1)
    (step : ∀ i d v σ' H' (D' : Ends), ds[i]? = some d → Ex H H' → Pv i σ' H' → Dp K H' v d → D'.rt = D.rt → (∀ σ2 H2, Ex H' H2 → Pv (i + 1) σ2 H2 → D'.nx σ2 H2) → tg v σ' H' fun σ2 H2 => ty D' σ2 H2)
    (fin : ∀ σ' H', Ex H H' → Pv ds.length σ' H' → ts D σ' H') : tSeq (tFor (iAlt (iList K te) (iTup K te)) tg ty) ts D σ H := by
  cases b with
  | false =>
    refine .inl (h H (Ex.refl H) _ fun v H1 e hv => ?_)
    cases hv with
    | lst hs ha =>
      rename_i a vs
      refine ⟨a, rfl, ⟨vs, hs⟩, ?_⟩
      have hl := dps_len ha
      refine for_list (fun i σ' H' => Ex H1 H' ∧ Pv i σ' H') ⟨Ex.refl H1, h0 _ e⟩ (fun i σ' H' _ p => ex_l p.1 hs) (fun i x σ' H' hx p => ?_) (fun σ' H' p => fin σ' H' (e.trans p.1) (by rw [← hl]; exact p.2))
      obtain ⟨d, hd, hxd⟩ := dps_back ha hx
      exact step i d x σ' H' _ hd (e.trans p.1) p.2 (dp_grow p.1 _ _ hxd) rfl fun σ2 H2 e2 p2 => ⟨p.1.trans e2, p2⟩
  | true =>
    refine .inr (h H (Ex.refl H) _ fun v H1 e hv => ?_)
    cases hv with
    | tup hs ha =>
      rename_i a vs
      refine ⟨a, rfl, ⟨vs, hs⟩, ?_⟩
      have hl := dps_len ha
      refine for_tup (fun i σ' H' => Ex H1 H' ∧ Pv i σ' H') ⟨Ex.refl H1, h0 _ e⟩ (fun i σ' H' _ p => ex_t p.1 hs) (fun i x σ' H' hx p => ?_) (fun σ' H' p => fin σ' H' (e.trans p.1) (by rw [← hl]; exact p.2))
      obtain ⟨d, hd, hxd⟩ := dps_back ha hx
      exact step i d x σ' H' _ hd (e.trans p.1) p.2 (dp_grow p.1 _ _ hxd) rfl fun σ2 H2 e2 p2 => ⟨p.1.trans e2, p2⟩
end
theorem take_next {α : Type} {l : List α} {i : Nat} {a : α} (h : l[i]? = some a) : l.take (i + 1) = l.take i ++ [a] := by
  rw [List.take_add_one, h]
  rfl
end Dat
namespace Dat
open PySem L2 Evl
/-! ### what stands but for one object that changes -/
def rem (H : Hp) (L : Addr) : Hp := fun a => if a = L then none else H a
section
variable {K : PySem.W.Frag} {H H2 : Hp} {L : Addr} {o : HO}
theorem rem_ne {a : Addr} (h : a ≠ L) : rem H L a = H a := if_neg h
theorem rem_self : rem H L L = none := if_pos rfl
theorem rem_ex : Ex (rem H L) H := fun a u e => by
  by_cases q : a = L
  · subst q
    rw [rem_self] at e
    cases e
  · rw [rem_ne q] at e
    exact e
theorem ex_rem (h : Ex H H2) : Ex (rem H L) (rem H2 L) := fun a u e => by
  by_cases q : a = L
  · subst q
    rw [rem_self] at e
    cases e
  · rw [rem_ne q] at e ⊢
    exact h a u e
theorem rem_upd : rem (upd H L o) L = rem H L := funext fun a => by
  by_cases q : a = L
  · subst q
    rw [rem_self, rem_self]
  · rw [rem_ne q, rem_ne q, upd_ne q]
theorem rem_new (h : H L = none) : rem (upd H L o) L = H := funext fun a => by
  by_cases q : a = L
  · subst q
    rw [rem_self, h]
  · rw [rem_ne q, upd_ne q]
mutual
def flat : PyData → Bool
  | .list _ => false
  | .dict _ => false
  | .tuple ds => flats ds
  | _ => true
def flats : List PyData → Bool
  | [] => true
  | d :: ds => flat d && flats ds
end
def NoTup (o : HO) : Prop := ∀ xs : List V, (o ≠ .tup xs) ∧ (∀ u, o ≠ .frz u (.tup xs))
theorem noTup_l {xs : List V} : NoTup (.lst xs) := fun _ => ⟨(fun e => by cases e), (fun _ e => by cases e)⟩
theorem noTup_d {kvs : List (Key × V)} : NoTup (.dK kvs) := fun _ => ⟨(fun e => by cases e), (fun _ e => by cases e)⟩
theorem st_rem {a : Addr} {xs : List V} (hL : H L = some o) (ho : NoTup o) (h : SqT K H a xs) : SqT K (rem H L) a xs := by
  rcases h with h | h
  · have ne : a ≠ L := fun q => by
      subst q
      rcases h with h | ⟨u, h⟩
      · rw [hL] at h
        exact (ho xs).1 (Option.some.inj h)
      · rw [hL] at h
        exact (ho xs).2 u (Option.some.inj h)
    refine .inl ?_
    rcases h with h | ⟨u, h⟩
    · exact .inl (by rw [rem_ne ne]; exact h)
    · exact .inr ⟨u, by rw [rem_ne ne]; exact h⟩
  · exact .inr h
mutual
theorem dp_rem (hL : H L = some o) (ho : NoTup o) : ∀ (d : PyData) (v : V), flat d = true → Dp K H v d → Dp K (rem H L) v d
  | .none, _, _, h => by
    cases h
    exact .non
  | .bool b, _, _, h => by
    cases h
    exact .bl b
  | .int i, _, _, h => by
    cases h
    exact .int i
  | .str x, _, _, h => by
    cases h
    exact .str x
  | .list ds, _, f, _ => by cases f
  | .tuple ds, _, f, h => by
    cases h with
    | tup hs ha => exact .tup (st_rem hL ho hs) (dps_rem hL ho ds _ f ha)
  | .dict _, _, f, _ => by cases f
theorem dps_rem (hL : H L = some o) (ho : NoTup o) : ∀ (ds : List PyData) (vs : List V), flats ds = true → DpAll K H vs ds → DpAll K (rem H L) vs ds
  | [], _, _, h => by
    cases h
    exact .nil
  | d :: ds, _, f, h => by
    have f' := Bool.and_eq_true_iff.mp f
    cases h with
    | cons h1 h2 => exact .cons (dp_rem hL ho d _ f'.1 h1) (dps_rem hL ho ds _ f'.2 h2)
end
end
section
variable {K : PySem.W.Frag} {te tb : TE} {ta : TA} {σ : L2.St} {H Hb : Hp} {D : Ends} {ts ty : TS} {ds : List PyData} {b : Bool} {a c d : PyData}
/-- for .. in a list or a tuple that stands in a heap Hb, whatever else changes -/
theorem z_forB {tg : TG} {v : V} (hv : Dp K Hb v (sq b ds)) (h : Ev te σ H v) (Pv : Nat → L2.St → Hp → Prop) (h0 : ∀ H1, Ex H H1 → Pv 0 σ H1) (hb : ∀ i σ' H', Pv i σ' H' → Ex Hb H')
    (step : ∀ i d x σ' H' (D' : Ends), ds[i]? = some d → Pv i σ' H' → Dp K Hb x d → D'.rt = D.rt → (∀ σ2 H2, Pv (i + 1) σ2 H2 → D'.nx σ2 H2) → tg x σ' H' fun σ2 H2 => ty D' σ2 H2)
    (fin : ∀ σ' H', Pv ds.length σ' H' → ts D σ' H') : tSeq (tFor (iAlt (iList K te) (iTup K te)) tg ty) ts D σ H := by
  cases b with
  | false =>
    refine .inl (h H (Ex.refl H) _ fun H1 e => ?_)
    cases hv with
    | lst hs ha =>
      rename_i a vs
      refine ⟨a, rfl, ⟨vs, ex_l (hb _ _ _ (h0 _ e)) hs⟩, ?_⟩
      have hl := dps_len ha
      refine for_list Pv (h0 _ e) (fun i σ' H' _ p => ex_l (hb _ _ _ p) hs) (fun i x σ' H' hx p => ?_) (fun σ' H' p => fin σ' H' (by rw [← hl]; exact p))
      obtain ⟨d, hd, hxd⟩ := dps_back ha hx
      exact step i d x σ' H' _ hd p hxd rfl fun σ2 H2 p2 => p2
  | true =>
    refine .inr (h H (Ex.refl H) _ fun H1 e => ?_)
    cases hv with
    | tup hs ha =>
      rename_i a vs
      refine ⟨a, rfl, ⟨vs, ex_t (hb _ _ _ (h0 _ e)) hs⟩, ?_⟩
      have hl := dps_len ha
      refine for_tup Pv (h0 _ e) (fun i σ' H' _ p => ex_t (hb _ _ _ p) hs) (fun i x σ' H' hx p => ?_) (fun σ' H' p => fin σ' H' (by rw [← hl]; exact p))
      obtain ⟨d, hd, hxd⟩ := dps_back ha hx
      exact step i d x σ' H' _ hd p hxd rfl fun σ2 H2 p2 => p2
/-- the item of a list or tuple, as it stands -/
theorem ev_ixS {i : Int} {v : V} (hx : Ex Hb H) (h : Ev te σ H v) (hv : Dp K Hb v (sq b ds)) (e : atI ds i = some d) : ∃ z, Dp K Hb z d ∧ Ev (tAlt (tOp (rIxT K) te (tC (.int i))) (tOp (rIxL K) te (tC (.int i)))) σ H z := by
  cases b with
  | true =>
    cases hv with
    | tup hs ha =>
      obtain ⟨z, hz, hd⟩ := dps_at ha e
      exact ⟨z, hd, fun H1 x Q k => .inl (h H1 x _ fun H2 x2 => ⟨_, _, i, z, rfl, rfl, ex_t (hx.trans (x.trans x2)) hs, hz, k _ x2⟩)⟩
  | false =>
    cases hv with
    | lst hs ha =>
      obtain ⟨z, hz, hd⟩ := dps_at ha e
      exact ⟨z, hd, fun H1 x Q k => .inr (h H1 x _ fun H2 x2 => ⟨_, _, i, z, rfl, rfl, ex_l (hx.trans (x.trans x2)) hs, hz, k _ x2⟩)⟩
theorem d_lenS (h : EvD K te σ H (sq b ds)) : EvD K (tCB (fun xs H Q => ∃ p ys, xs = [.ref p] ∧ (SqL K H p ys ∨ SqT K H p ys) ∧ Q (.int ys.length) H) (tCons te tNil)) σ H (.int ds.length) := by
  cases b with
  | true => exact d_lenT h
  | false => exact d_lenL h
theorem d_tupL (h : EvD K te σ H (.list ds)) : EvD K (tCB (fun xs H Q => ∃ p ys, xs = [.ref p] ∧ ((SqL K H p ys ∧ ∀ l, H l = none → Q (.ref l) (upd H l (.tup ys))) ∨ (SqT K H p ys ∧ Q (.ref p) H))) (tCons te tNil)) σ H (.tuple ds) := fun H1 x Q k =>
  h H1 x _ fun v H2 x2 hv => by
    cases hv with
    | lst hs ha => exact ⟨_, _, rfl, .inl ⟨hs, fun l hl => k _ _ (x2.trans (Ex.new hl)) (.tup (st_of upd_same) (dps_grow (Ex.new hl) _ _ ha))⟩⟩
end
def isListD : PyData → Bool
  | .list _ => true
  | _ => false
def isSeqD (d : PyData) : Bool := isListD d || isTupD d
theorem kit_list (d : PyData) : kitB (kind d) "list" = some (isListD d) := by cases d <;> rfl
def items : PyData → List PyData
  | .list ds => ds
  | .tuple ds => ds
  | _ => []
def coupleD (d : PyData) : Bool := isSeqD d && decide (((items d).length : Int) = 2)
theorem seq_of {t : PyData} (c : isSeqD t = true) : ∃ b, t = sq b (items t) := by
  cases t
  all_goals first | exact ⟨true, rfl⟩ | exact ⟨false, rfl⟩ | cases c
theorem items_sq (b : Bool) (ds : List PyData) : items (sq b ds) = ds := by cases b <;> rfl
theorem couple_of {t : PyData} (c : coupleD t = true) : ∃ b x y, t = sq b [x, y] := by
  obtain ⟨c1, c2⟩ := Bool.and_eq_true_iff.mp c
  obtain ⟨b, hb⟩ := seq_of c1
  have c3 := of_decide_eq_true c2
  generalize items t = ds at hb c3
  have c4 : ds.length = 2 := by omega
  match ds, c4 with
  | [x, y], _ => exact ⟨b, x, y, hb⟩
def fSeq (ds : List PyData) (d : PyData) : Prop := ∃ t, ds = [t, .int 0, .none] ∧ d = .bool (isSeqD t)
def fCouple (ds : List PyData) (d : PyData) : Prop := ∃ t, ds = [t] ∧ d = .bool (coupleD t)
def fSettled (ds : List PyData) (d : PyData) : Prop := ∃ t kp, ds = [t, kp] ∧ SeqAt.shaped t = true ∧ SeqAt.shaped kp = true ∧ d = if PyData.eqv t kp = true then t else kp
end Dat
namespace Dat
open PySem L2 Evl
section
variable {K : PySem.W.Frag} {te : TE} {σ : L2.St} {H : Hp} {D : Ends} {ts : TS} {d : PyData}
/-- xs.append(e) on the list at L -/
theorem z_append {L : Addr} {vs : List V} {i : Nat} (hσ : σ[i]? = some (some (.ref L))) (hL : H L = some (.lst vs)) (hl : vs.length ≤ 1000) (h : EvD K te σ H d) (k : ∀ v H2, Ex H H2 → Dp K H2 v d → ts D σ (upd H2 L (.lst (vs ++ [v])))) :
    tSeq (tDrop (tBM K "list" rAppend (tVar i) (tCons te tNil))) ts D σ H :=
  ⟨_, hσ, .inl ⟨rfl, _, SqL.of hL⟩, h H (Ex.refl H) _ fun v H2 e hv => ⟨L, vs, v, rfl, rfl, e _ _ hL, sz_lt (by omega), k v H2 e hv⟩⟩
theorem z_append1 {L : Addr} {vs : List V} {i : Nat} (hσ : σ[i]? = some (some (.ref L))) (hL : H L = some (.lst vs)) (hl : vs.length ≤ 1000) (h : EvD K te σ H d) (k : ∀ v H2, Ex H H2 → Dp K H2 v d → D.nx σ (upd H2 L (.lst (vs ++ [v])))) :
    tDrop (tBM K "list" rAppend (tVar i) (tCons te tNil)) D σ H :=
  ⟨_, hσ, .inl ⟨rfl, _, SqL.of hL⟩, h H (Ex.refl H) _ fun v H2 e hv => ⟨L, vs, v, rfl, rfl, e _ _ hL, sz_lt (by omega), k v H2 e hv⟩⟩
theorem drop_cons {α : Type} {l : List α} {i : Nat} {a : α} (h : l[i]? = some a) : l.drop i = a :: l.drop (i + 1) := by
  obtain ⟨hi, rfl⟩ := List.getElem?_eq_some_iff.mp h
  exact List.drop_eq_getElem_cons hi
/-- x = [] -/
theorem z_nil {i : Nat} (k : ∀ L, H L = none → ts D (σ.set i (some (.ref L))) (upd H L (.lst []))) : tSeq (tAsg (tLst tNil) (gName i)) ts D σ H := ⟨sz_of (by show 0 ≤ 100000; decide), fun L hL => k L hL⟩
end
end Dat
namespace Dat
open PySem L2 Evl
section
variable {X : Cx} {CX : CXT} {k : Nat} {f : Addr} {sp : Sp} {E : XK} {x : Str} {e : Expr} {es : List Expr} {t : TA} {p pos : Pos}
/-- f(e, ..) of a def known by FnR -/
theorem pe_callF (F : FnR X.prog X.w X.K X.mg X.base CX k f sp) (hr : Room k X.A) (hk : PySem.W.keepIn X.K (.ref f) = true) (hm : X.mg x = some (.ref f)) (hx : Passes CX X E) (ha : PA X (e :: es) t) (hg : Gl X x := by rfl)
    (hdb : (x == ("__debug__" : Str)) = false := by decide) (he : starEach (e :: es) X.env = (false, eval e X.env) :: starEach es X.env := by rfl) (hpl : (backTo pos (starEach es X.env)).any (·.1) = false := by rfl) :
    PE X (.Call (.Name x p) (e :: es) [] pos) (tCall sp [] E t) := by
  refine ⟨fun pins s σ H Q I h => ?_⟩
  refine wpAny_Call_Name_kw (ld_glob I hg hm ?_ hdb)
  refine PySem.W.callWith_K (h₀ := X.base) I.ok.mod.kin hk (thn (ha.run pos pins s σ H _ I h) fun us s1 ⟨vs, H1, I1, r, q⟩ => ⟨I1.kIn, ?_⟩) he hpl
  have q : sp (vs ++ []) H1 Q E := q
  rw [List.append_nil] at q
  exact wpAny_call (run_fnR F hr hx I1 r q)
end
section
variable {K : PySem.W.Frag} {te tb ty tx : TE} {tt : TT} {ta : TA} {σ : L2.St} {H Hb : Hp} {D : Ends} {ts : TS} {ds : List PyData} {b : Bool} {a c d z : PyData}
/-- d.get(k, x) -/
theorem d_dget2 {T : Addr} {kvs : List (Key × V)} {i : Nat} {k : Int} (hσ : σ[i]? = some (some (.ref T))) (hT : H T = some (.dK kvs)) (hy : EvD K ty σ H (.int k)) (hz : EvD K tx σ H z) (h1 : ∀ v, valV kvs (Sum.inl k) = some v → Dp K H v d) (h2 : valV kvs (Sum.inl k) = none → z = d) :
    EvD K (tDGet2 (tVar i) ty tx) σ H d := fun H1 x Q q => ⟨_, hσ, T, rfl, .inl ⟨kvs, .inl (x _ _ hT)⟩, hy H1 x _ fun v H2 x2 hv => hz H2 (x.trans x2) _ fun w H3 x3 hw => by
  cases hv
  have e := DGet.k (k := Sum.inl k) ((x.trans (x2.trans x3)) _ _ hT)
  refine ⟨_, e, ?_⟩
  cases o : valV kvs (Sum.inl k) with
  | some v => exact q _ _ (x2.trans x3) (dp_grow (x.trans (x2.trans x3)) _ _ (h1 v o))
  | none =>
    have := h2 o
    subst this
    exact q _ _ (x2.trans x3) hw⟩
/-- d[k] -/
theorem d_dget {T : Addr} {kvs : List (Key × V)} {i : Nat} {k : Int} {v : V} (hσ : σ[i]? = some (some (.ref T))) (hT : H T = some (.dK kvs)) (hy : EvD K ty σ H (.int k)) (h1 : valV kvs (Sum.inl k) = some v) (h2 : Dp K H v d) :
    EvD K (tDGet (tVar i) ty) σ H d := fun H1 x Q q => ⟨_, hσ, hy H1 x _ fun u H2 x2 hv => by
  cases hv
  have e := DGet.k (k := Sum.inl k) ((x.trans x2) _ _ hT)
  rw [h1] at e
  exact ⟨T, v, rfl, e, q _ _ x2 (dp_grow (x.trans x2) _ _ h2)⟩⟩
/-- d[k] = e, the last one of a block -/
theorem z_dput1 {T : Addr} {kvs : List (Key × V)} {i : Nat} {k : Int} (hσ : σ[i]? = some (some (.ref T))) (hT : H T = some (.dK kvs)) (hl : kvs.length ≤ 1000) (hv : EvD K te σ H d) (hy : ∀ H1, Ex H H1 → Ev ty σ H1 (.int k)) (q : ∀ v H2 H3, Ex H H2 → Dp K H2 v d → Ex H2 H3 → D.nx σ (upd H3 T (.dK (putK kvs (Sum.inl k) v)))) :
    sDPut (tVar i) ty te D σ H := hv H (Ex.refl H) _ fun v H2 x2 h => ⟨_, hσ, hy _ x2 H2 (Ex.refl H2) _ fun H3 x3 => ⟨T, _, rfl, DPut.k (k := Sum.inl k) ((x2.trans x3) _ _ hT) (sz_lt (by omega)), q v H2 H3 x2 h x3⟩⟩
theorem flat_map {l : List PyData} {g : PyData → PyData} (h : ∀ d ∈ l, flat (g d) = true) : flats (l.map g) = true := by
  induction l with
  | nil => rfl
  | cons d l ih =>
    show (flat (g d) && flats (l.map g)) = true
    rw [h d List.mem_cons_self, ih fun d hd => h d (List.mem_cons_of_mem _ hd)]
    rfl
theorem take_filter {α β : Type} {l : List α} {i : Nat} {a : α} {p : α → Bool} {g : α → β} (h : l[i]? = some a) : ((l.take (i + 1)).filter p).map g = ((l.take i).filter p).map g ++ if p a = true then [g a] else [] := by
  rw [take_next h, List.filter_append, List.map_append]
  congr 1
  by_cases q : p a = true
  · rw [if_pos q, List.filter_cons_of_pos q]
    rfl
  · rw [if_neg q, List.filter_cons_of_neg q]
    rfl
/-- [e for x in xs if t] over data, its items without lists -/
theorem d_lcL {j : Nat} {vs : List Nat} (p : PyData → Bool) (g : PyData → PyData) (h : EvD K tx σ H (.list ds)) (hn : ds.length ≤ 40000) (hw : ∀ x, wipe ((wipe σ vs).set j (some x)) vs = wipe σ vs)
    (hp : ∀ d v H1, Ex H H1 → d ∈ ds → Dp K H1 v d → EvB tt ((wipe σ vs).set j (some v)) H1 (p d)) (he : ∀ d v H1, Ex H H1 → d ∈ ds → p d = true → Dp K H1 v d → EvD K te ((wipe σ vs).set j (some v)) H1 (g d)) (hf : ∀ d ∈ ds, flat (g d) = true) :
    EvD K (tLc (iList K tx) (gName j) tt te vs) σ H (.list ((ds.filter p).map g)) := fun H1 e Q k => by
  refine h H1 e _ fun v H2 e2 hv => ?_
  cases hv with
  | lst hs ha =>
    rename_i a xs
    have hl := dps_len ha
    refine ⟨a, rfl, ⟨xs, hs⟩, fun D hD => ?_⟩
    refine lc_list (K := K) (xs := xs) (fun i H' => ∃ acc, H' D = some (.lst acc) ∧ acc.length ≤ i ∧ Ex H2 (rem H' D) ∧ DpAll K (rem H' D) acc (((ds.take i).filter p).map g)) ⟨[], upd_same, Nat.le_refl _, by rw [rem_new hD]; exact Ex.refl H2, .nil⟩ (fun i H' _ ⟨_, _, _, ex, _⟩ => ex_l (ex.trans rem_ex) hs) ?_ ?_
    · rintro i x H' hx ⟨acc, hacc, hlen, ex, hall⟩
      obtain ⟨d, hd, hxd⟩ := dps_back ha hx
      have hm := List.mem_of_getElem? hd
      have ex0 : Ex H H' := e.trans (e2.trans (ex.trans rem_ex))
      have hi : i < ds.length := (List.getElem?_eq_some_iff.mp hd).1
      have hx' := dp_grow (ex.trans rem_ex) _ _ hxd
      refine ⟨hw x, hp d x H' ex0 hm hx' H' (Ex.refl H') _ fun H3 e3 => ?_⟩
      cases c : p d with
      | true =>
        refine (if_pos rfl : _ = _) ▸ he d x H3 (ex0.trans e3) hm c (dp_grow e3 _ _ hx') H3 (Ex.refl H3) _ fun y H4 e4 hy => ?_
        have e34 := e3.trans e4
        refine ⟨acc, e34 _ _ hacc, sz_lt (by omega), acc ++ [y], upd_same, by rw [List.length_append]; exact Nat.succ_le_succ hlen, ?_, ?_⟩
        · rw [rem_upd]
          exact ex.trans (ex_rem e34)
        · rw [rem_upd, take_filter hd, if_pos c]
          exact dps_app (dps_grow (ex_rem e34) _ _ hall) (.cons (dp_rem (e34 _ _ hacc) noTup_l _ _ (hf d hm) hy) .nil)
      | false =>
        refine (if_neg Bool.false_ne_true : _ = _) ▸ ⟨acc, e3 _ _ hacc, by omega, ex.trans (ex_rem e3), ?_⟩
        rw [take_filter hd, if_neg (by rw [c]; decide), List.append_nil]
        exact dps_grow (ex_rem e3) _ _ hall
    · rintro H3 ⟨acc, hacc, _, ex, hall⟩
      rw [hl, List.take_length] at hall
      exact k _ _ (e2.trans (ex.trans rem_ex)) (.lst (SqL.of hacc) (dps_grow rem_ex _ _ hall))
/-- sorted(d) of a dict of ints -/
theorem d_sortedD {T : Addr} {kvs : List (Key × V)} {i : Nat} {ks : List Int} (hσ : σ[i]? = some (some (.ref T))) (hT : H T = some (.dK kvs)) (hk : kvs.map (·.1) = ks.map Sum.inl) (hl : ks.length < 64) :
    EvD K (tCB (fun xs H Q => ∃ (a : Addr) (kvs : List (Key × V)) (ks : List Int), xs = [.ref a] ∧ Rd H a (.dK kvs) ∧ kvs.map (·.1) = ks.map Sum.inl ∧ ks.length < 64 ∧
    ∀ (ys : List Int) (p : Addr), ys.Perm ks → ys.Pairwise (· ≤ ·) → H p = none → Q (.ref p) (upd H p (.lst (ys.map V.int)))) (tCons (tVar i) tNil)) σ H (.list ((PySem.W.sortI ks).map PyData.int)) := fun H1 x Q q =>
  ⟨_, hσ, T, kvs, ks, rfl, .inl (x _ _ hT), hk, hl, fun ys p hp hs hn => q _ _ (Ex.new hn) (.lst (SqL.of upd_same) (by
    rw [PySem.W.eq_sortI hp hs]
    generalize PySem.W.sortI ks = zs
    generalize upd H1 p _ = H2
    induction zs with
    | nil => exact .nil
    | cons y ys ih => exact .cons (.int y) ih))⟩
end
end Dat
namespace Dat
open PySem L2 Evl
section
variable {K : PySem.W.Frag} {te tb ty tx : TE} {tt : TT} {ta : TA} {σ : L2.St} {H Hb : Hp} {D : Ends} {ts : TS} {ds : List PyData} {b : Bool} {d : PyData}
/-- a new list that holds data, known apart from what stands elsewhere -/
def EvN (K : PySem.W.Frag) (te : TE) (σ : L2.St) (H : Hp) (ds : List PyData) : Prop := ∀ H1, Ex H H1 → ∀ Q : VK, (∀ p xs H2, H1 p = none → Ex H1 (rem H2 p) → H2 p = some (.lst xs) → DpAll K (rem H2 p) xs ds → Q (.ref p) H2) → te σ H1 Q
theorem evn_d (h : EvN K te σ H ds) : EvD K te σ H (.list ds) := fun H1 e Q k => h H1 e Q fun p xs H2 hp e2 hx ha => k _ _ (e2.trans rem_ex) (.lst (SqL.of hx) (dps_grow rem_ex _ _ ha))
theorem z_new {i : Nat} (h : EvN K te σ H ds) (k : ∀ p xs H2, H p = none → Ex H (rem H2 p) → H2 p = some (.lst xs) → DpAll K (rem H2 p) xs ds → ts D (σ.set i (some (.ref p))) H2) : tSeq (tAsg te (gName i)) ts D σ H := h H (Ex.refl H) _ k
/-- [e for i in range(n) if t] over data, its items without lists -/
theorem n_lcR {j n : Nat} {vs : List Nat} (p : Nat → Bool) (g : Nat → PyData) (h : EvDs K ta σ H [.int (n : Int)]) (hn : n ≤ 40000) (hw : ∀ x, wipe ((wipe σ vs).set j (some x)) vs = wipe σ vs)
    (hp : ∀ i H1, Ex H H1 → i < n → EvB tt ((wipe σ vs).set j (some (.int (i : Int)))) H1 (p i)) (he : ∀ i H1, Ex H H1 → i < n → p i = true → EvD K te ((wipe σ vs).set j (some (.int (i : Int)))) H1 (g i)) (hf : ∀ i, flat (g i) = true) :
    EvN K (tLc (iRng1 ta) (gName j) tt te vs) σ H (((List.range n).filter p).map g) := fun H1 e Q k => by
  refine h H1 e _ fun ws H2 e2 hv => ?_
  obtain ⟨x, ws, rfl, hx, hv⟩ := dps_cons hv
  obtain rfl := dps_nil hv
  cases hx
  refine ⟨(n : Int), rfl, by omega, by omega, fun D hD => ?_⟩
  refine lc_range (lo := 0) (n := (n : Int).toNat) (fun i H' => ∃ acc, H' D = some (.lst acc) ∧ acc.length ≤ i ∧ Ex H2 (rem H' D) ∧ DpAll K (rem H' D) acc (((List.range i).filter p).map g)) ⟨[], upd_same, Nat.le_refl _, by rw [rem_new hD]; exact Ex.refl H2, .nil⟩ ?_ ?_
  · rintro i H' hi ⟨acc, hacc, hlen, ex, hall⟩
    have hi : i < n := by omega
    have ex0 : Ex H H' := e.trans (e2.trans (ex.trans rem_ex))
    have z0 : (0 : Int) + (i : Int) = (i : Int) := Int.zero_add _
    rw [z0]
    refine ⟨hw _, hp i H' ex0 hi H' (Ex.refl H') _ fun H3 e3 => ?_⟩
    have ef : ((List.range (i + 1)).filter p).map g = ((List.range i).filter p).map g ++ if p i = true then [g i] else [] := by
      rw [List.range_succ, List.filter_append, List.map_append]
      congr 1
      by_cases q : p i = true
      · rw [if_pos q, List.filter_cons_of_pos q]
        rfl
      · rw [if_neg q, List.filter_cons_of_neg q]
        rfl
    cases c : p i with
    | true =>
      refine (if_pos rfl : _ = _) ▸ he i H3 (ex0.trans e3) hi c H3 (Ex.refl H3) _ fun y H4 e4 hy => ?_
      have e34 := e3.trans e4
      refine ⟨acc, e34 _ _ hacc, sz_lt (by omega), acc ++ [y], upd_same, by rw [List.length_append]; exact Nat.succ_le_succ hlen, ?_, ?_⟩
      · rw [rem_upd]
        exact ex.trans (ex_rem e34)
      · rw [rem_upd, ef, if_pos c]
        exact dps_app (dps_grow (ex_rem e34) _ _ hall) (.cons (dp_rem (e34 _ _ hacc) noTup_l _ _ (hf i) hy) .nil)
    | false =>
      refine (if_neg Bool.false_ne_true : _ = _) ▸ ⟨acc, e3 _ _ hacc, by omega, ex.trans (ex_rem e3), ?_⟩
      rw [ef, if_neg (by rw [c]; decide), List.append_nil]
      exact dps_grow (ex_rem e3) _ _ hall
  · rintro H3 ⟨acc, hacc, _, ex, hall⟩
    have en : (n : Int).toNat = n := Int.toNat_natCast n
    rw [en] at hall
    exact k D acc H3 (fresh_back e2 hD) (e2.trans ex) hacc hall
theorem dps_set {H : Hp} {d : PyData} {v : V} : ∀ {vs : List V} {ds : List PyData} {j : Nat}, DpAll K H vs ds → Dp K H v d → DpAll K H (vs.set j v) (ds.set j d)
  | _, _, _, .nil, _ => .nil
  | _, _, 0, .cons _ t, h => .cons h t
  | _, _, j + 1, .cons x t, h => .cons x (dps_set (j := j) t h)
/-- xs[i] = e, the last one of a block -/
theorem z_lput1 {S : Addr} {vs : List V} {i j : Nat} (hσ : σ[i]? = some (some (.ref S))) (hS : H S = some (.lst vs)) (hj : j < vs.length) (hv : EvD K te σ H d) (hy : ∀ H1, Ex H H1 → Ev ty σ H1 (.int (j : Int))) (q : ∀ v H2 H3, Ex H H2 → Dp K H2 v d → Ex H2 H3 → D.nx σ (upd H3 S (.lst (vs.set j v)))) :
    tAsg te (gSub (tVar i) ty rSetL) D σ H := hv H (Ex.refl H) _ fun v H2 x2 h => ⟨_, hσ, hy _ x2 H2 (Ex.refl H2) _ fun H3 x3 => ⟨S, vs, (j : Int), j, rfl, rfl, (x2.trans x3) _ _ hS, by
  unfold ixN
  rw [if_pos (by omega), if_pos (by omega), Int.toNat_natCast], q v H2 H3 x2 h x3⟩⟩
end
theorem hand_grow {H H' : Hp} {h c : Addr} {ns : List Int} (e : Ex H H') (hh : K01.HandOk H h c ns) : K01.HandOk H' h c ns := by
  obtain ⟨x, y, z, h1, h2, r⟩ := hh
  exact ⟨x, y, z, e _ _ h1, e _ _ h2, r⟩
end Dat
namespace Dat
open PySem L2 Evl
/-! ### plain lists: such as may stand beside + -/
def EvW (K : PySem.W.Frag) (te : TE) (σ : L2.St) (H : Hp) (ds : List PyData) : Prop := ∀ H1, Ex H H1 → ∀ Q : VK, (∀ p xs H2, Ex H1 H2 → H2 p = some (.lst xs) → DpAll K H2 xs ds → Q (.ref p) H2) → te σ H1 Q
section
variable {K : PySem.W.Frag} {te tb : TE} {t : TT} {ta : TA} {σ : L2.St} {H : Hp} {D : Ends} {ts : TS} {ds es : List PyData}
theorem w_d (h : EvW K te σ H ds) : EvD K te σ H (.list ds) := fun H1 e Q k => h H1 e Q fun p xs H2 e2 hx ha => k _ _ e2 (.lst (SqL.of hx) ha)
theorem w_lst (h : EvDs K ta σ H ds) (hl : ds.length ≤ 1000) : EvW K (tLst ta) σ H ds := fun H1 x Q k =>
  h H1 x _ fun vs H2 x2 hvs => ⟨sz_of (by rw [dps_len hvs]; omega), fun p hp => k p vs _ (x2.trans (Ex.new hp)) upd_same (dps_grow (Ex.new hp) _ _ hvs)⟩
theorem w_var {i : Nat} {p : Addr} {xs : List V} (hσ : σ[i]? = some (some (.ref p))) (hx : H p = some (.lst xs)) (ha : DpAll K H xs ds) : EvW K (tVar i) σ H ds := fun H1 e Q k => ⟨_, hσ, k p xs H1 (Ex.refl H1) (e _ _ hx) (dps_grow e _ _ ha)⟩
theorem w_cat (h : EvW K te σ H ds) (r : EvW K tb σ H es) (hl : ds.length ≤ 1000) (hl' : es.length ≤ 1000) : EvW K (tOp rCat te tb) σ H (ds ++ es) := fun H1 e Q k =>
  h H1 e _ fun p xs H2 e2 hx ha => r H2 (e.trans e2) _ fun q ys H3 e3 hy hb => ⟨p, q, xs, ys, rfl, rfl, e3 _ _ hx, hy, sz_of (by rw [dps_len ha, dps_len hb]; omega), fun n hn =>
    k n _ _ ((e2.trans e3).trans (Ex.new hn)) upd_same (dps_app (dps_grow (e3.trans (Ex.new hn)) _ _ ha) (dps_grow (Ex.new hn) _ _ hb))⟩
theorem w_if {b : Bool} (h : EvB t σ H b) (r1 : b = true → EvW K te σ H ds) (r2 : b = false → EvW K tb σ H ds) : EvW K (tIf t te tb) σ H ds := fun H1 x Q k => h H1 x _ fun H2 x2 => by
  cases b with
  | true =>
    show te σ H2 Q
    exact r1 rfl H2 (x.trans x2) Q fun p xs H3 x3 => k p xs H3 (x2.trans x3)
  | false =>
    show tb σ H2 Q
    exact r2 rfl H2 (x.trans x2) Q fun p xs H3 x3 => k p xs H3 (x2.trans x3)
theorem cut_last (vs : List V) : cutV vs none (some (-1)) = vs.dropLast := by
  have e1 : HT.sIx vs.length vs.length (some (-1)) = vs.length - 1 := by
    show (if (-1 : Int) < 0 then ((-1 : Int) + (vs.length : Int)).toNat else min ((-1 : Int).toNat) vs.length) = _
    rw [if_pos (by decide)]
    omega
  have e0 : HT.sIx vs.length 0 none = 0 := rfl
  unfold cutV
  rw [e1, e0, List.drop_zero, List.dropLast_eq_take, Nat.sub_zero]
theorem dps_take {H : Hp} : ∀ {vs : List V} {ds : List PyData} (n : Nat), DpAll K H vs ds → DpAll K H (vs.take n) (ds.take n)
  | _, _, 0, _ => .nil
  | _, _, _ + 1, .nil => .nil
  | _, _, n + 1, .cons h t => .cons h (dps_take n t)
/-- xs[:-1] -/
theorem w_init (h : EvW K te σ H ds) (r : EvD K tb σ H (.int (-1))) : EvW K (tSl (rSlL K) te tNoPart (tPart tb)) σ H ds.dropLast := fun H1 e Q k =>
  h H1 e _ fun p xs H2 e2 hx ha => r H2 (e.trans e2) _ fun v H3 e3 hv => by
    cases hv
    refine ⟨-1, rfl, p, xs, rfl, SqL.of (e3 _ _ hx), fun q hq => ?_⟩
    have z := k q _ _ ((e2.trans e3).trans (Ex.new (o := .lst (cutV xs none (some (-1)))) hq)) upd_same
    refine z ?_
    rw [cut_last, List.dropLast_eq_take, List.dropLast_eq_take, dps_len ha]
    exact dps_take _ (dps_grow (e3.trans (Ex.new hq)) _ _ ha)
/-- t[:1] of a couple -/
theorem d_one {a c : PyData} (h : EvD K te σ H (.tuple [a, c])) (r : EvD K tb σ H (.int 1)) : EvD K (tSl (rSlT K) te tNoPart (tPart tb)) σ H (.tuple [a]) := fun H1 e Q k =>
  h H1 e _ fun w H2 e2 hw => r H2 (e.trans e2) _ fun v H3 e3 hv => by
    cases hv
    cases dp_grow e3 _ _ hw with
    | tup hs ha =>
      obtain ⟨x, ws, rfl, hx, ha⟩ := dps_cons ha
      obtain ⟨y, ws, rfl, hy, ha⟩ := dps_cons ha
      obtain rfl := dps_nil ha
      refine ⟨1, rfl, _, _, rfl, hs, (fun z => absurd z.2 (by show ¬ ((1 : Nat) = 2); decide)), fun q hq => k _ _ ((e2.trans e3).trans (Ex.new hq)) (.tup (SqT.of upd_same) (.cons (dp_grow (Ex.new hq) _ _ hx) .nil))⟩
/-- t + u of tuples that are not empty -/
theorem d_catT (h : EvD K te σ H (.tuple ds)) (r : EvD K tb σ H (.tuple es)) (h1 : ds ≠ []) (h2 : es ≠ []) (hl : ds.length + es.length ≤ 1000) : EvD K (tOp (rCatT K) te tb) σ H (.tuple (ds ++ es)) := fun H1 e Q k =>
  h H1 e _ fun v H2 e2 hv => r H2 (e.trans e2) _ fun w H3 e3 hw => by
    cases dp_grow e3 _ _ hv with
    | tup hs ha =>
      cases hw with
      | tup hs' hb =>
        rename_i p xs q ys
        have n1 : xs ≠ [] := fun z => h1 (List.length_eq_zero_iff.mp (by rw [← dps_len ha, z]; rfl))
        have n2 : ys ≠ [] := fun z => h2 (List.length_eq_zero_iff.mp (by rw [← dps_len hb, z]; rfl))
        exact ⟨_, _, xs, ys, rfl, rfl, hs, hs', n1, sz_of (by rw [dps_len ha, dps_len hb]; omega), fun z => absurd z n2, fun _ n hn => k _ _ ((e2.trans e3).trans (Ex.new hn)) (.tup (SqT.of upd_same) (dps_app (dps_grow (Ex.new hn) _ _ ha) (dps_grow (Ex.new hn) _ _ hb)))⟩
theorem z_plain {i : Nat} (h : EvW K te σ H ds) (k : ∀ p xs H2, Ex H H2 → H2 p = some (.lst xs) → DpAll K H2 xs ds → ts D (σ.set i (some (.ref p))) H2) : tSeq (tAsg te (gName i)) ts D σ H := h H (Ex.refl H) _ k
end
end Dat
namespace Dat
open PySem L2 Evl
section
variable {K : PySem.W.Frag} {te tb : TE} {tt : TT} {ta : TA} {σ : L2.St} {H : Hp} {D : Ends} {ts ty : TS} {ds : List PyData} {d : PyData}
def rListOf (K : PySem.W.Frag) : List V → Hp → VK → Prop := fun xs H Q => ∃ p ys, xs = [.ref p] ∧ (SqL K H p ys ∨ SqT K H p ys) ∧ ∀ l, H l = none → Q (.ref l) (upd H l (.lst ys))
theorem z_spec {i : Nat} (S : V → Hp → Prop) (h : ∀ Q : VK, (∀ v H1, S v H1 → Q v H1) → te σ H Q) (k : ∀ v H1, S v H1 → ts D (σ.set i (some v)) H1) : tSeq (tAsg te (gName i)) ts D σ H := h _ k
/-- for x in range(n), whatever changes: S tells what the number is -/
theorem z_forA {j : Nat} (S : Int → Hp → Prop) (h : ∀ Q : List V → Hp → Prop, (∀ n H1, S n H1 → 0 ≤ n ∧ n ≤ 100000 → Q [.int n] H1) → ta σ H Q) (Pv : Int → Nat → L2.St → Hp → Prop) (p0 : ∀ n H1, S n H1 → Pv n 0 σ H1)
    (step : ∀ (n : Int) (i : Nat) σ' H' (D' : Ends), (i : Int) < n → Pv n i σ' H' → D'.rt = D.rt → (∀ σ2 H2, Pv n (i + 1) σ2 H2 → D'.nx σ2 H2) → ty D' (σ'.set j (some (.int (i : Int)))) H')
    (fin : ∀ n σ' H', 0 ≤ n → Pv n n.toNat σ' H' → ts D σ' H') : tSeq (tFor (iRng1 ta) (gName j) ty) ts D σ H := by
  refine h _ fun n H1 s hn => ⟨n, rfl, by omega, by omega, for_range (lo := 0) (n := n.toNat) (Pv n) (p0 n H1 s) (fun i σ' H' hi p => ?_) (fun σ' H' p => fin n σ' H' hn.1 p)⟩
  have e0 : (0 : Int) + (i : Int) = (i : Int) := Int.zero_add _
  rw [e0]
  exact step n i σ' H' _ (by omega) p rfl fun σ2 H2 p2 => p2
/-- for .. in a list or a tuple, the last one of a block -/
theorem z_forS1 {tg : TG} {b : Bool} (h : EvD K te σ H (sq b ds)) (Pv : Nat → L2.St → Hp → Prop) (h0 : ∀ H1, Ex H H1 → Pv 0 σ H1)
    (step : ∀ i d v σ' H' (D' : Ends), ds[i]? = some d → Ex H H' → Pv i σ' H' → Dp K H' v d → D'.rt = D.rt → (∀ σ2 H2, Ex H' H2 → Pv (i + 1) σ2 H2 → D'.nx σ2 H2) → tg v σ' H' fun σ2 H2 => ty D' σ2 H2)
    (fin : ∀ σ' H', Ex H H' → Pv ds.length σ' H' → D.nx σ' H') : tFor (iAlt (iList K te) (iTup K te)) tg ty D σ H := by
  cases b with
  | false =>
    refine .inl (h H (Ex.refl H) _ fun v H1 e hv => ?_)
    cases hv with
    | lst hs ha =>
      rename_i a vs
      refine ⟨a, rfl, ⟨vs, hs⟩, ?_⟩
      have hl := dps_len ha
      refine for_list (fun i σ' H' => Ex H1 H' ∧ Pv i σ' H') ⟨Ex.refl H1, h0 _ e⟩ (fun i σ' H' _ p => ex_l p.1 hs) (fun i x σ' H' hx p => ?_) (fun σ' H' p => fin σ' H' (e.trans p.1) (by rw [← hl]; exact p.2))
      obtain ⟨d, hd, hxd⟩ := dps_back ha hx
      exact step i d x σ' H' _ hd (e.trans p.1) p.2 (dp_grow p.1 _ _ hxd) rfl fun σ2 H2 e2 p2 => ⟨p.1.trans e2, p2⟩
  | true =>
    refine .inr (h H (Ex.refl H) _ fun v H1 e hv => ?_)
    cases hv with
    | tup hs ha =>
      rename_i a vs
      refine ⟨a, rfl, ⟨vs, hs⟩, ?_⟩
      have hl := dps_len ha
      refine for_tup (fun i σ' H' => Ex H1 H' ∧ Pv i σ' H') ⟨Ex.refl H1, h0 _ e⟩ (fun i σ' H' _ p => ex_t p.1 hs) (fun i x σ' H' hx p => ?_) (fun σ' H' p => fin σ' H' (e.trans p.1) (by rw [← hl]; exact p.2))
      obtain ⟨d, hd, hxd⟩ := dps_back ha hx
      exact step i d x σ' H' _ hd (e.trans p.1) p.2 (dp_grow p.1 _ _ hxd) rfl fun σ2 H2 e2 p2 => ⟨p.1.trans e2, p2⟩
/-- for x in a list of which only a property of its items is known -/
theorem z_forF {j : Nat} {b : Bool} (S : List PyData → Prop) (h : ∀ H1, Ex H H1 → ∀ Q : VK, (∀ v H2 l, Ex H1 H2 → Dp K H2 v (.list l) → S l → Q v H2) → te σ H1 Q) (Pv : Nat → L2.St → Hp → Prop) (h0 : ∀ H1, Ex H H1 → Pv 0 σ H1)
    (step : ∀ i d v σ' H' (D' : Ends) l, S l → d ∈ l → Ex H H' → Pv i σ' H' → Dp K H' v d → D'.rt = D.rt → (∀ σ2 H2, Ex H' H2 → Pv (i + 1) σ2 H2 → D'.nx σ2 H2) → ty D' (σ'.set j (some v)) H')
    (fin : ∀ σ' H', Ex H H' → (∃ n, Pv n σ' H') → ts D σ' H') : tSeq (tFor (iAlt (iList K te) (iTup K te)) (gName j) ty) ts D σ H := by
  refine .inl (h H (Ex.refl H) _ fun v H1 l e hv hS => ?_)
  cases hv with
  | lst hs ha =>
    rename_i a vs
    refine ⟨a, rfl, ⟨vs, hs⟩, ?_⟩
    refine for_list (fun i σ' H' => Ex H1 H' ∧ Pv i σ' H') ⟨Ex.refl H1, h0 _ e⟩ (fun i σ' H' _ p => ex_l p.1 hs) (fun i x σ' H' hx p => ?_) (fun σ' H' p => fin σ' H' (e.trans p.1) ⟨_, p.2⟩)
    obtain ⟨d, hd, hxd⟩ := dps_back ha hx
    exact step i d x σ' H' _ l hS (List.mem_of_getElem? hd) (e.trans p.1) p.2 (dp_grow p.1 _ _ hxd) rfl fun σ2 H2 e2 p2 => ⟨p.1.trans e2, p2⟩
/-- [list(x) for x in xs] of tuples -/
theorem d_lists {j : Nat} {vs : List Nat} {ws : List (List PyData)} (h : EvD K te σ H (.list (ws.map PyData.tuple))) (hn : ws.length ≤ 40000) (hj : j < σ.length) (hw : ∀ x, wipe ((wipe σ vs).set j (some x)) vs = wipe σ vs) (hl : ∀ x, ((wipe σ vs).set j (some x))[j]? = some (some x)) :
    EvD K (tLc (iList K te) (gName j) tYes (tCB (rListOf K) (tCons (tVar j) tNil)) vs) σ H (.list (ws.map PyData.list)) := fun H1 e Q k => by
  refine h H1 e _ fun v H2 e2 hv => ?_
  cases hv with
  | lst hs ha =>
    rename_i a xs
    have hlen := dps_len ha
    rw [List.length_map] at hlen
    refine ⟨a, rfl, ⟨xs, hs⟩, fun D hD => ?_⟩
    refine lc_list (K := K) (xs := xs) (fun i H' => ∃ acc, H' D = some (.lst acc) ∧ acc.length ≤ i ∧ Ex H2 (rem H' D) ∧ DpAll K (rem H' D) acc ((ws.take i).map PyData.list)) ⟨[], upd_same, Nat.le_refl _, by rw [rem_new hD]; exact Ex.refl H2, .nil⟩ (fun i H' _ ⟨_, _, _, ex, _⟩ => ex_l (ex.trans rem_ex) hs) ?_ ?_
    · rintro i x H' hx ⟨acc, hacc, hal, ex, hall⟩
      obtain ⟨d, hd, hxd⟩ := dps_back ha hx
      rw [List.getElem?_map] at hd
      obtain ⟨u, hu, rfl⟩ := Option.map_eq_some_iff.mp hd
      have hi : i < ws.length := (List.getElem?_eq_some_iff.mp hu).1
      refine ⟨hw x, K01.yes_turn ?_⟩
      cases hxd with
      | tup hts hta =>
        rename_i b ys
        refine ⟨_, hl _, b, ys, rfl, .inr (ex_t (ex.trans rem_ex) hts), fun l hlf => ?_⟩
        have nD : l ≠ D := fun q => by
          rw [q, hacc] at hlf
          cases hlf
        have e4 : Ex H' (upd H' l (.lst ys)) := Ex.new hlf
        refine ⟨acc, e4 _ _ hacc, sz_lt (by omega), acc ++ [.ref l], upd_same, by rw [List.length_append]; exact Nat.succ_le_succ hal, ?_, ?_⟩
        · rw [rem_upd]
          exact ex.trans (ex_rem e4)
        · rw [rem_upd, take_next hu, List.map_append]
          refine dps_app (dps_grow (ex_rem e4) _ _ hall) (.cons (.lst (SqL.of ?_) (dps_grow (ex.trans (ex_rem e4)) _ _ hta)) .nil)
          rw [rem_ne nD]
          exact upd_same
    · rintro H3 ⟨acc, hacc, _, ex, hall⟩
      rw [hlen, List.take_length] at hall
      exact k _ _ (e2.trans (ex.trans rem_ex)) (.lst (SqL.of hacc) (dps_grow rem_ex _ _ hall))
theorem d_isBb {a b : Bool} (h : EvD K te σ H (.bool a)) (r : EvD K tb σ H (.bool b)) : EvD K (tOp rIsB te tb) σ H (.bool (decide (a = b))) := fun H1 x Q k =>
  h H1 x _ fun v H2 x2 hv => r H2 (x.trans x2) _ fun w H3 x3 hw => by
    cases hv
    cases hw
    exact ⟨a, b, rfl, rfl, k _ H3 (x2.trans x3) (.bl _)⟩
theorem d_notBb {a b : Bool} (h : EvD K te σ H (.bool a)) (r : EvD K tb σ H (.bool b)) : EvD K (tOp rNotB te tb) σ H (.bool (!decide (a = b))) := fun H1 x Q k =>
  h H1 x _ fun v H2 x2 hv => r H2 (x.trans x2) _ fun w H3 x3 hw => by
    cases hv
    cases hw
    exact ⟨a, b, rfl, rfl, k _ H3 (x2.trans x3) (.bl _)⟩
theorem d_neB {a b : Bool} (h : EvD K te σ H (.bool a)) (r : EvD K tb σ H (.bool b)) : EvD K (tOp rNe te tb) σ H (.bool (!decide (a = b))) := fun H1 x Q k =>
  h H1 x _ fun v H2 x2 hv => r H2 (x.trans x2) _ fun w H3 x3 hw => by
    cases hv
    cases hw
    refine ⟨rfl, ?_⟩
    have z : (!decide (V.bl a = V.bl b)) = !decide (a = b) := by cases a <;> cases b <;> rfl
    rw [z]
    exact k _ H3 (x2.trans x3) (.bl _)
end
theorem canLay_of {d : PyData} (h : SeqAt.shaped d = true) : PyData.canLay0 d = true := SeqAt.canLay_of_shaped h
theorem eqv_self {d : PyData} (h : PyData.canLay0 d = true) : PyData.eqv d d = true := SeqAt.eqv_refl d h
theorem rem_upd2 {H : Hp} {h R : Addr} {o : HO} : rem (rem (upd H R o) h) R = rem (rem H h) R := funext fun a => by
  by_cases q : a = R
  · subst q
    rw [rem_self, rem_self]
  · rw [rem_ne q, rem_ne q]
    by_cases q2 : a = h
    · subst q2
      rw [rem_self, rem_self]
    · rw [rem_ne q2, rem_ne q2, upd_ne q]
end Dat
namespace K01
open PySem L2 Evl Dat
theorem hand_upd {H : Hp} {h c R : Addr} {ns : List Int} {o : HO} (hh : HandOk H h c ns) (n1 : h ≠ R) (n2 : c ≠ R) : HandOk (upd H R o) h c ns := by
  obtain ⟨x, y, z, h1, h2, r⟩ := hh
  exact ⟨x, y, z, (upd_ne n1).trans h1, (upd_ne n2).trans h2, r⟩
/-- what stands but for the hand and the rows that are filled -/
def aw (H : Hp) (h R P : Addr) : Hp := rem (rem (rem H h) R) P
theorem aw_ex {H : Hp} {h R P : Addr} : Ex (aw H h R P) H := rem_ex.trans (rem_ex.trans rem_ex)
theorem aw_at {H : Hp} {h R P a : Addr} (h1 : a ≠ h) (h2 : a ≠ R) (h3 : a ≠ P) : aw H h R P a = H a := by
  unfold aw
  rw [rem_ne h3, rem_ne h2, rem_ne h1]
theorem ex_aw {H H' : Hp} {h R P : Addr} (e : Ex (rem H h) (rem H' h)) : Ex (aw H h R P) (aw H' h R P) := ex_rem (ex_rem e)
theorem aw_upd {H : Hp} {h R P : Addr} {o : HO} : aw (upd H P o) h R P = aw H h R P := funext fun a => by
  by_cases q : a = P
  · subst q
    unfold aw
    rw [rem_self, rem_self]
  · unfold aw
    rw [rem_ne q, rem_ne q]
    by_cases q1 : a = R
    · subst q1
      rw [rem_self, rem_self]
    · rw [rem_ne q1, rem_ne q1]
      by_cases q2 : a = h
      · subst q2
        rw [rem_self, rem_self]
      · rw [rem_ne q2, rem_ne q2, upd_ne q]
/-- a plain list stands as it stood -/
theorem keep_at {H H' : Hp} {h R : Addr} {o : HO} (e : Ex (rem H h) (rem H' h)) (n : R ≠ h) (hR : H R = some o) : H' R = some o := by
  have z := e R o (by rw [rem_ne n]; exact hR)
  rwa [rem_ne n] at z
end K01
namespace K01
open PySem L2 Evl Dat
section
variable {P : Program} {w : World} {K : PySem.W.Frag} {mg : Str → Option Value} {base : Heap}
theorem hand_new {H : Hp} {h c p : Addr} {ns : List Int} {o : HO} (hh : HandOk H h c ns) (hp : H p = none) : HandOk (upd H p o) h c ns := by
  obtain ⟨x, y, z, h1, h2, r⟩ := hh
  have n1 : h ≠ p := fun e => by rw [e, hp] at h1; cases h1
  have n2 : c ≠ p := fun e => by rw [e, hp] at h2; cases h2
  exact ⟨x, y, z, (upd_ne n1).trans h1, (upd_ne n2).trans h2, r⟩
def spNumber : Sp := fun vs H Q _ => ∃ (h c : Addr) (ns : List Int), vs = [.ref h] ∧ HandOk H h c ns ∧ ∀ (n : Int) H', n.natAbs < 10 ^ 40 → HandOk H' h c ns → (∀ a, H a ≠ none → a ≠ h → H' a = H a) → Q (.int n) H'
abbrev s_L_number : Stmt := topS 42
abbrev N_L_number : List Str := ["hand", "most", "one"]
theorem sc_L_number : FnScope N_L_number ["hand"] (defScope s_L_number) := ⟨rfl, rfl, rfl, by decide +kernel, rfl, by decide +kernel, by decide +kernel⟩
theorem ok_L_number {f : Addr} {fd : FuncData} (F : Fun K "_law_number" "_law_number" s_L_number f fd) (D_law_draw : Def P w K mg base CX0 2 "_law_draw" ["hand", "many"] spDraw) : FnOk P w K mg base CX0 3 f fd ["hand"] spNumber := by
  refine F.ok sc_L_number (fun vs H Q E h => ?_) (fun cdv A outer s H vs Q E hr h => ?_)
  · obtain ⟨a, c, ns, rfl, _⟩ := h
    rfl
  · obtain ⟨a, c, ns, rfl, hh, q⟩ := h
    refine ⟨_, (pss_cons (ps_set (i := 1) sc_L_number.nd rfl (Or.inl rfl) (pe_ix (r := rIxT K) ix_tup (pe_tup (pa_cons pe_int (pa_cons pe_int (pa_cons (pe_op op_pow pe_int pe_int) (pa_cons (pe_op op_pow pe_int pe_int) pa_nil))))) (pe_dcall D_law_draw (hr.mono (by decide)) pass0 (pa_cons (pv 0) (pa_cons pe_int pa_nil))) (fun _ _ => rfl)))
    (pss_cons (ps_set (i := 2) sc_L_number.nd rfl (Or.inl rfl) (pe_dcall D_law_draw (hr.mono (by decide)) pass0 (pa_cons (pv 0) (pa_cons (pv 1) pa_nil))))
    (pss_one (ps_ret (pe_ifExp (pt_cmpR op_eq (pe_dcall D_law_draw (hr.mono (by decide)) pass0 (pa_cons (pv 0) (pa_cons pe_int pa_nil))) pe_int (nomark _)) (pe_un un_neg (pv 2)) (pv 2)))))), ?_⟩
    refine ⟨10, 9, rfl, rfl, ⟨by decide, by decide, by decide⟩, 10, 40, rfl, rfl, ⟨by decide, by decide, by decide⟩, sz_of (by show 4 ≤ 100000; decide), fun p hp => ?_⟩
    have hap : a ≠ p := fun e => by
      obtain ⟨_, _, _, h1, _⟩ := hh
      rw [e, hp] at h1
      cases h1
    refine ⟨_, rfl, a, c, ns, 4, rfl, by decide, by decide, hand_new hh hp, fun r H1 r0 r1 hh1 he1 => ?_⟩
    have hb : ∃ m : Int, atI [V.int 7, V.int 100, V.int (10 ^ (9 : Int).toNat), V.int (10 ^ (40 : Int).toNat)] r = some (.int m) ∧ 0 < m ∧ m.natAbs ≤ 10 ^ 40 := by
      have e : r = 0 ∨ r = 1 ∨ r = 2 ∨ r = 3 := by omega
      rcases e with rfl | rfl | rfl | rfl
      · exact ⟨7, rfl, by decide +kernel, by decide +kernel⟩
      · exact ⟨100, rfl, by decide +kernel, by decide +kernel⟩
      · exact ⟨10 ^ (9 : Int).toNat, rfl, by decide +kernel, by decide +kernel⟩
      · exact ⟨10 ^ (40 : Int).toNat, rfl, by decide +kernel, by decide +kernel⟩
    obtain ⟨m, hm, m0, m1⟩ := hb
    refine ⟨p, _, r, .int m, rfl, rfl, .inl (.inl ((he1 p (Ne.symm hap)).trans upd_same)), hm, ?_⟩
    refine ⟨_, rfl, _, rfl, a, c, ns, m, rfl, m0, Nat.lt_of_le_of_lt m1 (by decide +kernel), hh1, fun n H2 n0 n1 hh2 he2 => ?_⟩
    refine ⟨_, rfl, a, c, ns, 2, rfl, by decide, by decide, hh2, fun z H3 z0 z1 hh3 he3 => ?_⟩
    have old : ∀ b, H b ≠ none → b ≠ a → H3 b = H b := fun b hb ha => by
      have hbp : b ≠ p := fun e => hb (by rw [e]; exact hp)
      rw [he3 b ha, he2 b ha, he1 b ha, upd_ne hbp]
    have nm : n.natAbs < 10 ^ 40 := by omega
    refine ⟨rfl, decide (V.int z = V.int 0), rfl, ?_⟩
    cases decide (V.int z = V.int 0) with
    | true => exact ⟨_, rfl, n, rfl, q (-n) H3 (by rw [Int.natAbs_neg]; exact nm) hh3 old⟩
    | false => exact ⟨_, rfl, q n H3 nm hh3 old⟩
end
end K01
namespace Dat
open PySem L2 Evl
theorem at0 {α : Type} {a : α} {l : List α} : atI (a :: l) 0 = some a := by
  unfold atI
  have e : ixN (a :: l).length 0 = some 0 := by
    unfold ixN
    rw [if_pos (by decide), if_pos (by rw [List.length_cons]; omega)]
    rfl
  rw [e]
  rfl
/-- name *= e, wide -/
def ipMulW : TIp := fun x y H Q => ∃ i j, x = .int i ∧ y = .int j ∧ CMulW i j ∧ Q (.int (i * j)) H
theorem ip_mulW {X : Cx} : PIp X .Mult ipMulW := by
  intro pins s σ H x y v u Q I r1 r2 h
  obtain ⟨i, j, e1, e2, hc, q⟩ := h
  subst e1; subst e2
  obtain ⟨t, rfl⟩ := r1
  obtain ⟨t', rfl⟩ := r2
  exact PyProof.Rows.imul_int ⟨.int _, H, I.tok _, ⟨_, rfl⟩, q⟩ hc.ok
section
variable {K : PySem.W.Frag} {te : TE} {σ : L2.St} {H : Hp} {D : Ends} {tb ts : TS} {j : Nat} {ds : List PyData}
theorem z_mulS {i : Nat} {a b : Int} (hs : σ[i]? = some (some (.int a))) (h : EvD K te σ H (.int b)) (hc : CMulW a b) (k : ∀ H1, Ex H H1 → ts D (σ.set i (some (.int (a * b)))) H1) : tSeq (tAug i te ipMulW) ts D σ H :=
  ⟨_, hs, h H (Ex.refl H) _ fun v H1 e hv => by
    cases hv
    exact ⟨a, b, rfl, rfl, hc, k H1 e⟩⟩
theorem z_mul1 {i : Nat} {a b : Int} (hs : σ[i]? = some (some (.int a))) (h : EvD K te σ H (.int b)) (hc : CMulW a b) (k : ∀ H1, Ex H H1 → D.nx (σ.set i (some (.int (a * b)))) H1) : tAug i te ipMulW D σ H :=
  ⟨_, hs, h H (Ex.refl H) _ fun v H1 e hv => by
    cases hv
    exact ⟨a, b, rfl, rfl, hc, k H1 e⟩⟩
/-- x, y = a, b of data -/
theorem z_par {ta : TA} {i j : Nat} {a b : PyData} (h : EvDs K ta σ H [a, b]) (k : ∀ x y H1, Ex H H1 → Dp K H1 x a → Dp K H1 y b → ts D ((σ.set i (some x)).set j (some y)) H1) : tSeq (tPar i j ta) ts D σ H := h H (Ex.refl H) _ fun vs H1 e hv => by
  obtain ⟨x, ws, rfl, h1, hv⟩ := dps_cons hv
  obtain ⟨y, ws, rfl, h2, hv⟩ := dps_cons hv
  obtain rfl := dps_nil hv
  exact ⟨x, y, rfl, k x y H1 e h1 h2⟩
/-- for x in range(n) -/
theorem z_forN {ta : TA} {n : Int} (h : EvDs K ta σ H [.int n]) (h0 : 0 ≤ n) (hn : n ≤ 100000) (Pv : Nat → L2.St → Hp → Prop) (p0 : ∀ H1, Ex H H1 → Pv 0 σ H1)
    (step : ∀ (i : Nat) σ' H' (D' : Ends), (i : Int) < n → Ex H H' → Pv i σ' H' → (∀ σ2 H2, Ex H' H2 → Pv (i + 1) σ2 H2 → D'.nx σ2 H2) → tb D' (σ'.set j (some (.int (i : Int)))) H')
    (fin : ∀ σ' H', Ex H H' → Pv n.toNat σ' H' → ts D σ' H') : tSeq (tFor (iRng1 ta) (gName j) tb) ts D σ H := h H (Ex.refl H) _ fun vs H1 e hv => by
  obtain ⟨x, ws, rfl, h1, hv⟩ := dps_cons hv
  obtain rfl := dps_nil hv
  cases h1
  refine ⟨n, rfl, by omega, by omega, for_range (lo := 0) (n := n.toNat) (fun i σ' H' => Ex H1 H' ∧ Pv i σ' H') ⟨Ex.refl H1, p0 _ e⟩ (fun i σ' H' hi p => ?_) (fun σ' H' p => fin σ' H' (e.trans p.1) p.2)⟩
  have e0 : (0 : Int) + (i : Int) = (i : Int) := Int.zero_add _
  rw [e0]
  exact step i σ' H' _ (by omega) (e.trans p.1) p.2 fun σ2 H2 e2 p2 => ⟨p.1.trans e2, p2⟩
end
/-- the power by so many factors: narrow parts, so that their powers are no wider than 2^20000 -/
def fPower (ds : List PyData) (d : PyData) : Prop := ∃ (p q : Int) (n : Nat), ds = [rat p q, .int n] ∧ n ≤ 1000 ∧ p.natAbs < 2 ^ 160 ∧ q.natAbs < 2 ^ 160 ∧ d = rat (p ^ n) (q ^ n)
theorem pow_small {p : Int} (h : p.natAbs < 2 ^ 160) : ∀ i : Nat, (p ^ i).natAbs < 2 ^ (160 * i + 1)
  | 0 => by
    rw [Int.pow_zero]
    show 1 < _
    exact Nat.one_lt_two_pow (by omega)
  | i + 1 => by
    rw [Int.pow_succ]
    have z := wide_lt (pow_small h i) h
    have e : 160 * i + 1 + 160 = 160 * (i + 1) + 1 := by omega
    rw [e] at z
    exact z
theorem pow_mul_ok {p : Int} (h : p.natAbs < 2 ^ 160) {i : Nat} (hi : i ≤ 1000) : CMulW (p ^ i) p := wide_mul (pow_small h i) h (by omega) (by omega) (by omega)
end Dat
namespace K01
open PySem L2 Evl Dat
section
variable {P : Program} {w : World} {K : PySem.W.Frag} {mg : Str → Option Value} {base : Heap}
abbrev s_power_of : Stmt := topS 26
abbrev N_power_of : List Str := ["one", "exponent", "top", "bottom", "_"]
theorem sc_power_of : FnScope N_power_of ["one", "exponent"] (defScope s_power_of) := ⟨rfl, rfl, rfl, by decide +kernel, rfl, by decide +kernel, by decide +kernel⟩
theorem ok_power_of {f : Addr} {fd : FuncData} (F : Fun K "power_of" "power_of" s_power_of f fd) (T : Bl mg) : FnOk P w K mg base CX0 1 f fd ["one", "exponent"] (spD K 2 fPower) := by
  refine F.ok sc_power_of (fun vs H Q E h => ?_) (fun cdv A outer s H vs Q E hr h => ?_)
  · obtain ⟨ds, d, hl, hd, _⟩ := h
    exact (dps_len hd).trans hl
  · obtain ⟨ds, d, hl, hd, hf, k⟩ := h
    obtain ⟨p, q, n, rfl, hn, b1, b2, rfl⟩ := hf
    obtain ⟨v_one, vs, rfl, h_one, hd⟩ := dps_cons hd
    obtain ⟨v_exp, vs, rfl, h_exp, hd⟩ := dps_cons hd
    obtain rfl := dps_nil hd
    have ex : Ex H H := Ex.refl H
    refine ⟨_, (pss_cons (ps_asg (pe_tup (pa_cons pe_int (pa_cons pe_int pa_nil))) (pg_tup rfl (pgs_cons (pg_name (i := 2) sc_power_of.nd rfl (Or.inl rfl)) (pgs_cons (pg_name (i := 3) sc_power_of.nd rfl (Or.inl rfl)) pgs_nil))) rfl)
    (pss_cons (ps_for PassesOwn.never rfl (pi_range1 rfl T.b_range (pa_cons (pv 1) pa_nil)) (pg_name (i := 4) sc_power_of.nd rfl (Or.inl rfl)) (pss_cons (ps_aug (i := 2) sc_power_of.nd rfl (Or.inl rfl) (pe_ix (r := rIxT K) ix_tup (pv 0) pe_int (fun _ _ => rfl)) ip_mulW) (pss_one (ps_aug (i := 3) sc_power_of.nd rfl (Or.inl rfl) (pe_ix (r := rIxT K) ix_tup (pv 0) pe_int (fun _ _ => rfl)) ip_mulW))))
    (pss_one (ps_ret (pe_tup (pa_cons (pv 2) (pa_cons (pv 3) pa_nil))))))), ?_⟩
    refine z_two (K := K) (σ := [some v_one, some v_exp, none, none, none]) (d_tup (ds_cons d_int (ds_cons d_int ds_nil)) (by show 2 ≤ 1000; decide)) fun x y H1 e hx hy => ?_
    cases hx
    cases hy
    replace h_one := dp_grow e _ _ h_one
    replace h_exp := dp_grow e _ _ h_exp
    replace ex := ex.trans e
    refine z_forN (K := K) (n := (n : Int)) (σ := [some v_one, some v_exp, some (.int 1), some (.int 1), none]) (ds_cons (d_var ⟨_, rfl, h_exp⟩) ds_nil) (by omega) (by omega) (fun i σ' H' => ∃ x5, σ' = [some v_one, some v_exp, some (.int (p ^ i)), some (.int (q ^ i)), x5] ∧ Ex H1 H') (fun H2 e2 => ⟨none, by rw [Int.pow_zero, Int.pow_zero], e2⟩) (fun i σ' H' D' hi e2 pv kD => ?_) (fun σ' H' e2 pv => ?_)
    · obtain ⟨x5, rfl, e9⟩ := pv
      refine z_mulS (K := K) (σ := [some v_one, some v_exp, some (.int (p ^ i)), some (.int (q ^ i)), some (.int (i : Int))]) (i := 2) (a := p ^ i) (b := p) rfl (d_ixT (d_var ⟨_, rfl, dp_grow e2 _ _ h_one⟩) d_int rfl) (pow_mul_ok b1 (by omega)) fun H3 e3 => ?_
      refine z_mul1 (K := K) (σ := [some v_one, some v_exp, some (.int (p ^ i * p)), some (.int (q ^ i)), some (.int (i : Int))]) (i := 3) (a := q ^ i) (b := q) rfl (d_ixT (d_var ⟨_, rfl, dp_grow (e2.trans e3) _ _ h_one⟩) d_int rfl) (pow_mul_ok b2 (by omega)) fun H4 e4 => ?_
      refine kD _ _ (e3.trans e4) ⟨some (.int (i : Int)), ?_, e9.trans (e3.trans e4)⟩
      rw [Int.pow_succ, Int.pow_succ]
      rfl
    · obtain ⟨x5, rfl, e9⟩ := pv
      rw [Int.toNat_natCast]
      refine z_ret (K := K) (σ := [some v_one, some v_exp, some (.int (p ^ n)), some (.int (q ^ n)), x5]) (d_tup (ds_cons (d_var ⟨_, rfl, .int _⟩) (ds_cons (d_var ⟨_, rfl, .int _⟩) ds_nil)) (by show 2 ≤ 1000; decide)) fun v H2 e3 h3 => ?_
      exact k v _ ((ex.trans e2).trans e3) h3
end
end K01
namespace Dat
open PySem L2 Evl
def fLWhole (ds : List PyData) (d : PyData) : Prop := ∃ t, ds = [t] ∧ d = .bool (isIntD t && !isBoolD t)
def lenEq : PyData → Bool
  | .tuple ds => decide ((ds.length : Int) = 2)
  | _ => false
def posD : PyData → Bool
  | .int b => decide (0 < b)
  | _ => false
def item0 : PyData → PyData
  | .tuple (a :: _) => a
  | _ => .none
def item1 : PyData → PyData
  | .tuple (_ :: b :: _) => b
  | _ => .none
def wh (t : PyData) : Bool := isIntD t && !isBoolD t
def lowD : PyData → PyData → PyData
  | .int a, .int b => lowest a b
  | _, _ => .none
def lratD (t : PyData) : Bool := isTupD t && (lenEq t && (wh (item0 t) && (wh (item1 t) && (posD (item1 t) && PyData.eqv (lowD (item0 t) (item1 t)) t))))
def fLIsRatio (ds : List PyData) (d : PyData) : Prop := ∃ t, ds = [t] ∧ (∀ a b : Int, t = rat a b → b.natAbs < 2 ^ 4000) ∧ d = .bool (lratD t)
section
variable {K : PySem.W.Frag} {te tb : TE} {σ : L2.St} {H : Hp} {t a b : PyData}
theorem eq_len (c0 : isTupD t = true) (h : EvD K te σ H t) : EvD K (tOp rEq (tCB (fun xs H Q => ∃ p ys, xs = [.ref p] ∧ (SqL K H p ys ∨ SqT K H p ys) ∧ Q (.int ys.length) H) (tCons te tNil)) (tC (.int 2))) σ H (.bool (lenEq t)) := by
  cases t <;> first | cases c0 | skip
  exact d_eqI (d_lenT h) d_int
theorem len_two (c0 : isTupD t = true) (c : lenEq t = true) : ∃ a b, t = .tuple [a, b] := by
  cases t <;> first | cases c0 | skip
  rename_i ds
  have c2 : decide ((ds.length : Int) = 2) = true := c
  have c3 := of_decide_eq_true c2
  have c4 : ds.length = 2 := by omega
  match ds, c4 with
  | [a, b], _ => exact ⟨a, b, rfl⟩
theorem wh_int (c : wh a = true) : ∃ n, a = .int n := by
  cases a <;> first | exact ⟨_, rfl⟩ | cases c
theorem at1 {α : Type} {a b : α} {l : List α} : atI (a :: b :: l) 1 = some b := by
  unfold atI
  have e : ixN (a :: b :: l).length 1 = some 1 := by
    unfold ixN
    rw [if_pos (by decide), if_pos (by rw [List.length_cons, List.length_cons]; omega)]
    rfl
  rw [e]
  rfl
theorem ix0 (c0 : isTupD t = true) (c : lenEq t = true) (h : EvD K te σ H t) : EvD K (tOp (rIxT K) te (tC (.int 0))) σ H (item0 t) := by
  obtain ⟨a, b, rfl⟩ := len_two c0 c
  exact d_ixT h d_int at0
theorem ix1 (c0 : isTupD t = true) (c : lenEq t = true) (h : EvD K te σ H t) : EvD K (tOp (rIxT K) te (tC (.int 1))) σ H (item1 t) := by
  obtain ⟨a, b, rfl⟩ := len_two c0 c
  exact d_ixT h d_int at1
theorem gt_pos (c : wh a = true) (h : EvD K te σ H a) : EvD K (tOp (rI0 fun i j => .bl (decide (j < i))) te (tC (.int 0))) σ H (.bool (posD a)) := by
  obtain ⟨n, rfl⟩ := wh_int c
  exact d_gt h d_int
end
end Dat
namespace K01
open PySem L2 Evl Dat
section
variable {P : Program} {w : World} {K : PySem.W.Frag} {mg : Str → Option Value} {base : Heap}
abbrev s_L_whole : Stmt := topS 39
abbrev N_L_whole : List Str := ["thing"]
theorem sc_L_whole : FnScope N_L_whole ["thing"] (defScope s_L_whole) := ⟨rfl, rfl, rfl, by decide +kernel, rfl, by decide +kernel, by decide +kernel⟩
theorem ok_L_whole {f : Addr} {fd : FuncData} (F : Fun K "_law_whole" "_law_whole" s_L_whole f fd) (T : Bl mg) : FnOk P w K mg base CX0 1 f fd ["thing"] (spD K 1 fLWhole) := by
  refine F.ok sc_L_whole (fun vs H Q E h => ?_) (fun cdv A outer s H vs Q E hr h => ?_)
  · obtain ⟨ds, d, hl, hd, _⟩ := h
    exact (dps_len hd).trans hl
  · obtain ⟨ds, d, hl, hd, hf, k⟩ := h
    obtain ⟨t, rfl, rfl⟩ := hf
    obtain ⟨v_thing, vs, rfl, h_thing, hd⟩ := dps_cons hd
    obtain rfl := dps_nil hd
    refine ⟨_, (pss_one (ps_ret (pe_and (pe_callB call_isi (by rfl) T.b_isinstance (by decide +kernel) (pa_cons (pv 0) (pa_cons (pe_bltn (v := .ty "int") (by rfl) T.b_int (by decide +kernel) rfl) pa_nil))) (pe_one (pe_not (pe_callB call_isi (by rfl) T.b_isinstance (by decide +kernel) (pa_cons (pv 0) (pa_cons (pe_bltn (v := .ty "bool") (by rfl) T.b_bool (by decide +kernel) rfl) pa_nil)))))))), ?_⟩
    refine z_ret (K := K) (σ := [some v_thing]) (d_and (d_isi (d_var ⟨_, rfl, h_thing⟩) (kit_int _)) (fun _ => d_not (d_isi (d_var ⟨_, rfl, h_thing⟩) (kit_bool _)))) fun v H1 e h => ?_
    exact k v _ e h
abbrev s_L_is_ratio : Stmt := topS 40
abbrev N_L_is_ratio : List Str := ["thing"]
theorem sc_L_is_ratio : FnScope N_L_is_ratio ["thing"] (defScope s_L_is_ratio) := ⟨rfl, rfl, rfl, by decide +kernel, rfl, by decide +kernel, by decide +kernel⟩
theorem ok_L_is_ratio {f : Addr} {fd : FuncData} (F : Fun K "_law_is_ratio" "_law_is_ratio" s_L_is_ratio f fd) (T : Bl mg) (D_law_whole : Def P w K mg base CX0 1 "_law_whole" ["thing"] (spD K 1 fLWhole)) (D_law_ratio : Def P w K mg base CX0 1 "_law_ratio" ["top", "bottom"] (spD K 2 fLowest)) : FnOk P w K mg base CX0 2 f fd ["thing"] (spD K 1 fLIsRatio) := by
  refine F.ok sc_L_is_ratio (fun vs H Q E h => ?_) (fun cdv A outer s H vs Q E hr h => ?_)
  · obtain ⟨ds, d, hl, hd, _⟩ := h
    exact (dps_len hd).trans hl
  · obtain ⟨ds, d, hl, hd, hf, k⟩ := h
    obtain ⟨t, rfl, hb, rfl⟩ := hf
    obtain ⟨v_thing, vs, rfl, h_thing, hd⟩ := dps_cons hd
    obtain rfl := dps_nil hd
    refine ⟨_, (pss_one (ps_ret (pe_and (pe_callB call_isi (by rfl) T.b_isinstance (by decide +kernel) (pa_cons (pv 0) (pa_cons (pe_bltn (v := .ty "tuple") (by rfl) T.b_tuple (by decide +kernel) rfl) pa_nil))) (pe_and (pe_cmpR op_eq (pe_callB call_len_seq (by rfl) T.b_len (by decide +kernel) (pa_cons (pv 0) pa_nil)) pe_int (nomark _)) (pe_and (pe_dcall D_law_whole (hr.mono (by decide)) pass0 (pa_cons (pe_ix (r := rIxT K) ix_tup (pv 0) pe_int (fun _ _ => rfl)) pa_nil)) (pe_and (pe_dcall D_law_whole (hr.mono (by decide)) pass0 (pa_cons (pe_ix (r := rIxT K) ix_tup (pv 0) pe_int (fun _ _ => rfl)) pa_nil)) (pe_and (pe_cmpR op_gt (pe_ix (r := rIxT K) ix_tup (pv 0) pe_int (fun _ _ => rfl)) pe_int (nomark _)) (pe_one (pe_cmpR (op_eqD hr.units) (pe_dcall D_law_ratio (hr.mono (by decide)) pass0 (pa_cons (pe_ix (r := rIxT K) ix_tup (pv 0) pe_int (fun _ _ => rfl)) (pa_cons (pe_ix (r := rIxT K) ix_tup (pv 0) pe_int (fun _ _ => rfl)) pa_nil))) (pv 0) (nomark _)))))))))), ?_⟩
    have V : EvD K (tVar 0) [some v_thing] H t := d_var ⟨_, rfl, h_thing⟩
    refine z_ret (K := K) (σ := [some v_thing]) (d_and (d_isi V (kit_tuple _)) (fun c0 => d_and (eq_len c0 V) (fun c1 => d_and (d_call (ds_cons (ix0 c0 c1 V) ds_nil) rfl ⟨_, rfl, rfl⟩) (fun c2 => d_and (d_call (ds_cons (ix1 c0 c1 V) ds_nil) rfl ⟨_, rfl, rfl⟩) (fun c3 => d_and (gt_pos c3 (ix1 c0 c1 V)) (fun c4 => ?_)))))) fun v H1 e h => k v _ e h
    obtain ⟨a, b, rfl⟩ := len_two c0 c1
    obtain ⟨p, e1⟩ := wh_int c2
    obtain ⟨q, e2⟩ := wh_int c3
    have e1' : a = .int p := e1
    have e2' : b = .int q := e2
    subst e1' e2'
    have hq : 0 < q := of_decide_eq_true c4
    exact d_eqD (d_call (ds_cons (ix0 c0 c1 V) (ds_cons (ix1 c0 c1 V) ds_nil)) rfl ⟨p, q, rfl, by omega, hb p q rfl, rfl⟩) V rfl rfl
end
end K01
namespace Dat
open PySem L2 Evl
def fPowerHolds (ds : List PyData) (d : PyData) : Prop := ∃ (p q : Int) (n : Nat), ds = [rat p q, .int n] ∧ n ≤ 1000 ∧ p.natAbs < 2 ^ 160 ∧ q.natAbs < 2 ^ 160 ∧ d = .bool true
end Dat
namespace K01
open PySem L2 Evl Dat
section
variable {P : Program} {w : World} {K : PySem.W.Frag} {mg : Str → Option Value} {base : Heap}
abbrev s_L_power_holds : Stmt := topS 48
abbrev N_L_power_holds : List Str := ["one", "exponent", "top", "bottom", "k"]
theorem sc_L_power_holds : FnScope N_L_power_holds ["one", "exponent"] (defScope s_L_power_holds) := ⟨rfl, rfl, rfl, by decide +kernel, rfl, by decide +kernel, by decide +kernel⟩
theorem ok_L_power_holds {f : Addr} {fd : FuncData} (F : Fun K "_law_power_holds" "_law_power_holds" s_L_power_holds f fd) (T : Bl mg) (D_law_same : Def P w K mg base CX0 2 "_law_same" ["told", "due"] (spD K 2 (fSame 2))) (D_power_of : Def P w K mg base CX0 1 "power_of" ["one", "exponent"] (spD K 2 fPower)) : FnOk P w K mg base CX0 3 f fd ["one", "exponent"] (spD K 2 fPowerHolds) := by
  refine F.ok sc_L_power_holds (fun vs H Q E h => ?_) (fun cdv A outer s H vs Q E hr h => ?_)
  · obtain ⟨ds, d, hl, hd, _⟩ := h
    exact (dps_len hd).trans hl
  · obtain ⟨ds, d, hl, hd, hf, k⟩ := h
    obtain ⟨p, q, n, rfl, hn, b1, b2, rfl⟩ := hf
    obtain ⟨v_one, vs, rfl, h_one, hd⟩ := dps_cons hd
    obtain ⟨v_exp, vs, rfl, h_exp, hd⟩ := dps_cons hd
    obtain rfl := dps_nil hd
    refine ⟨_, (pss_cons (ps_set (i := 2) sc_L_power_holds.nd rfl (Or.inl rfl) pe_int)
    (pss_cons (ps_set (i := 3) sc_L_power_holds.nd rfl (Or.inl rfl) pe_int)
    (pss_cons (ps_for PassesOwn.never rfl (pi_range1 rfl T.b_range (pa_cons (pv 1) pa_nil)) (pg_name (i := 4) sc_L_power_holds.nd rfl (Or.inl rfl)) (pss_cons (ps_set (i := 2) sc_L_power_holds.nd rfl (Or.inl rfl) (pe_op op_mulW (pv 2) (pe_ix (r := rIxT K) ix_tup (pv 0) pe_int (fun _ _ => rfl))))
    (pss_one (ps_set (i := 3) sc_L_power_holds.nd rfl (Or.inl rfl) (pe_op op_mulW (pv 3) (pe_ix (r := rIxT K) ix_tup (pv 0) pe_int (fun _ _ => rfl)))))))
    (pss_one (ps_ret (pe_dcall D_law_same (hr.mono (by decide)) pass0 (pa_cons (pe_dcall D_power_of (hr.mono (by decide)) pass0 (pa_cons (pv 0) (pa_cons (pv 1) pa_nil))) (pa_cons (pe_tup (pa_cons (pv 2) (pa_cons (pv 3) pa_nil))) pa_nil)))))))), ?_⟩
    refine z_set (K := K) (σ := [some v_one, some v_exp, none, none, none]) d_int fun v H1 e1 hv => ?_
    cases hv
    refine z_set (K := K) (σ := [some v_one, some v_exp, some (.int 1), none, none]) d_int fun v H2 e2 hv => ?_
    cases hv
    have ex : Ex H H2 := e1.trans e2
    refine z_forN (K := K) (n := (n : Int)) (σ := [some v_one, some v_exp, some (.int 1), some (.int 1), none]) (ds_cons (d_var ⟨_, rfl, dp_grow ex _ _ h_exp⟩) ds_nil) (by omega) (by omega) (fun i σ' H' => ∃ x5, σ' = [some v_one, some v_exp, some (.int (p ^ i)), some (.int (q ^ i)), x5]) (fun H2 e2 => ⟨none, by rw [Int.pow_zero, Int.pow_zero]⟩) (fun i σ' H' D' hi e3 pv kD => ?_) (fun σ' H' e3 pv => ?_)
    · obtain ⟨x5, rfl⟩ := pv
      refine z_set (K := K) (σ := [some v_one, some v_exp, some (.int (p ^ i)), some (.int (q ^ i)), some (.int (i : Int))]) (d_mul (d_var ⟨_, rfl, .int _⟩) (d_ixT (d_var ⟨_, rfl, dp_grow (ex.trans e3) _ _ h_one⟩) d_int rfl) (pow_mul_ok b1 (by omega))) fun v H4 e4 hv => ?_
      cases hv
      refine z_set1 (K := K) (σ := [some v_one, some v_exp, some (.int (p ^ i * p)), some (.int (q ^ i)), some (.int (i : Int))]) (d_mul (d_var ⟨_, rfl, .int _⟩) (d_ixT (d_var ⟨_, rfl, dp_grow ((ex.trans e3).trans e4) _ _ h_one⟩) d_int rfl) (pow_mul_ok b2 (by omega))) fun v H5 e5 hv => ?_
      cases hv
      refine kD _ _ (e4.trans e5) ⟨some (.int (i : Int)), ?_⟩
      rw [Int.pow_succ, Int.pow_succ]
      rfl
    · obtain ⟨x5, rfl⟩ := pv
      rw [Int.toNat_natCast]
      have g : goodN 2 (rat (p ^ n) (q ^ n)) = true := rfl
      refine z_ret (K := K) (σ := [some v_one, some v_exp, some (.int (p ^ n)), some (.int (q ^ n)), x5]) (d_call (ds_cons (d_call (ds_cons (d_var ⟨_, rfl, dp_grow (ex.trans e3) _ _ h_one⟩) (ds_cons (d_var ⟨_, rfl, dp_grow (ex.trans e3) _ _ h_exp⟩) ds_nil)) rfl ⟨p, q, n, rfl, hn, b1, b2, rfl⟩) (ds_cons (d_tup (ds_cons (d_var ⟨_, rfl, .int _⟩) (ds_cons (d_var ⟨_, rfl, .int _⟩) ds_nil)) (by show 2 ≤ 1000; decide)) ds_nil)) rfl ⟨_, _, rfl, good_dep g, by rw [good_same g]⟩) fun v H6 e6 hv => ?_
      exact k v _ ((ex.trans e3).trans e6) hv
end
end K01
namespace Dat
open PySem L2 Evl
section
variable {K : PySem.W.Frag} {te tb : TE} {σ : L2.St} {H : Hp} {ta : TA} {d : PyData} {ds : List PyData}
/-- list(xs) of a list -/
theorem d_listL (h : EvD K te σ H (.list ds)) : EvD K (tCB (fun xs H Q => ∃ p ys, xs = [.ref p] ∧ (SqL K H p ys ∨ SqT K H p ys) ∧ ∀ l, H l = none → Q (.ref l) (upd H l (.lst ys))) (tCons te tNil)) σ H (.list ds) := fun H1 x Q k =>
  h H1 x _ fun v H2 x2 hv => by
    cases hv with
    | lst hs ha => exact ⟨_, _, rfl, .inl hs, fun l hl => k _ _ (x2.trans (Ex.new hl)) (.lst (.inl (.inl upd_same)) (dps_grow (Ex.new hl) _ _ ha))⟩
theorem d_notInD (h : EvD K te σ H d) (r : EvD K tb σ H (.list ds)) (hd : SeqAt.shaped d = true) (he : SeqAt.shaped (.list ds) = true) : EvD K (tOp (rNotInD K) te tb) σ H (.bool (!ds.any fun z => PyData.eqv z d)) := fun H1 x Q k =>
  h H1 x _ fun v H2 x2 hv => r H2 (x.trans x2) _ fun w H3 x3 hw => ⟨d, ds, dp_grow x3 _ _ hv, hw, hd, he, k _ H3 (x2.trans x3) (.bl _)⟩
/-- any([.. for x in a list]) of truths -/
theorem d_anyL {j : Nat} {vs : List Nat} (f : PyData → Bool) (h : EvD K te σ H (.list ds)) (hn : ds.length ≤ 40000) (hw : ∀ x, wipe ((wipe σ vs).set j (some x)) vs = wipe σ vs)
    (he : ∀ (d : PyData) (v : V) H1, Ex H H1 → d ∈ ds → Dp K H1 v d → EvD K tb ((wipe σ vs).set j (some v)) H1 (.bool (f d))) :
    EvD K (tCB (rAny K) (tCons (tLc (iList K te) (gName j) tYes tb vs) tNil)) σ H (.bool (ds.any f)) := fun H1 e Q k => by
  show tLc (iList K te) (gName j) tYes tb vs σ H1 (fun v H2 => rAny K [v] H2 Q)
  refine h H1 e _ fun v H2 e2 hv => ?_
  cases hv with
  | lst hs ha =>
    rename_i a xs
    have hl := dps_len ha
    have VA : Ev (fun σ H Q => Q (.ref a) H) σ H2 (.ref a) := fun H3 e3 R r => r H3 (Ex.refl H3)
    have main := el_lcL (t := tYes) (te := tb) (σ := σ) (H := H2) (j := j) (vs := vs) (xs := xs) (fun _ => true) (fun i => .bl (f (ds.getD i .none))) VA hs (by omega) hw (fun i x H3 _ _ H4 e4 R r => r H4 (Ex.refl H4))
      (fun i x H3 e3 hi _ => by
        obtain ⟨d, hd, hxd⟩ := dps_back ha hi
        have hd2 : ds.getD i .none = d := by rw [List.getD_eq_getElem?_getD, hd]; rfl
        rw [hd2]
        exact ev_bl (he d x H3 ((e.trans e2).trans e3) (List.mem_of_getElem? hd) (dp_grow e3 _ _ hxd)))
    show tLc (iList K fun _ H Q => Q (.ref a) H) (gName j) tYes tb vs σ H2 (fun v H2 => rAny K [v] H2 Q)
    refine main H2 (Ex.refl H2) _ fun p H3 hp e3 hv => ?_
    have hg : given xs.length (fun _ => true) (fun i => V.bl (f (ds.getD i .none))) = (ds.map f).map V.bl := by
      unfold given
      rw [List.filter_eq_self.mpr (fun _ _ => rfl), hl]
      apply List.ext_getElem
      · simp
      · intro i h1 h2
        have hi : i < ds.length := by simpa using h2
        rw [List.getElem_map, List.getElem_map, List.getElem_map, List.getElem_range, List.getD_eq_getElem?_getD, List.getElem?_eq_getElem hi]
        rfl
    rw [hg] at hv
    refine ⟨p, ds.map f, rfl, .inl (.inl hv), ?_⟩
    have e9 : (ds.map f).any id = ds.any f := by
      rw [List.any_map]
      rfl
    rw [e9]
    exact k _ _ (e2.trans e3) (.bl _)
end
end Dat
namespace Dat
open PySem L2 Evl
def fMinusR (ds : List PyData) (d : PyData) : Prop := ∃ x y : Rat, ds = [ratR x, ratR y] ∧ Sz B x ∧ Sz B y ∧ d = ratR (x - y)
def fLessR (ds : List PyData) (d : PyData) : Prop := ∃ x y : Rat, ds = [ratR x, ratR y] ∧ Sz B x ∧ Sz B y ∧ d = .bool (decide (x < y))
theorem sz_neg {n : Nat} {x : Rat} (h : Sz n x) : Sz n (-x) := ⟨by show (-x.num).natAbs < _; rw [Int.natAbs_neg]; exact h.1, h.2⟩
theorem less_iff {x y : Rat} : PyData.bool (decide (x < y)) = .bool (decide (x.num * (y.den : Int) < y.num * (x.den : Int))) := congrArg PyData.bool (decide_eq_decide.mpr (Rat.lt_iff x y))
end Dat
namespace K01
open PySem L2 Evl Dat
section
variable {P : Program} {w : World} {K : PySem.W.Frag} {mg : Str → Option Value} {base : Heap}
abbrev s_lowest : Stmt := topS 12
abbrev N_lowest : List Str := ["top", "bottom", "shared"]
theorem sc_lowest : FnScope N_lowest ["top", "bottom"] (defScope s_lowest) := ⟨rfl, rfl, rfl, by decide +kernel, rfl, by decide +kernel, by decide +kernel⟩
theorem ok_lowest {f : Addr} {fd : FuncData} (F : Fun K "_lowest" "_lowest" s_lowest f fd) (T : Bl mg)  : FnOk P w K mg base CX0 1 f fd ["top", "bottom"] (spD K 2 fLowest) := by
  refine F.ok sc_lowest (fun vs H Q E h => ?_) (fun cdv A outer s H vs Q E hr h => ?_)
  · obtain ⟨ds, d, hl, hd, _⟩ := h
    exact (dps_len hd).trans hl
  · obtain ⟨ds, d, hl, hd, hf, k⟩ := h
    obtain ⟨t, b, rfl, b0, bb, rfl⟩ := hf
    obtain ⟨v_top, vs, rfl, h_top, hd⟩ := dps_cons hd
    obtain ⟨v_bottom, vs, rfl, h_bottom, hd⟩ := dps_cons hd
    obtain rfl := dps_nil hd
    have ex : Ex H H := Ex.refl H
    refine ⟨_, (pss_cons (ps_set (i := 2) sc_lowest.nd rfl (Or.inl rfl) (pe_callBfun cr_gcd (by rfl) T.g_gcd (pa_cons (pv 0) (pa_cons (pv 1) pa_nil))))
    (pss_cons (ps_if (pt_cmpR op_lt (pv 1) pe_int (nomark _)) (pss_one (ps_set (i := 2) sc_lowest.nd rfl (Or.inl rfl) (pe_un un_neg (pv 2)))) pss_nil)
    (pss_one (ps_ret (pe_tup (pa_cons (pe_op op_fdivA (pv 0) (pv 2)) (pa_cons (pe_op op_fdivA (pv 1) (pv 2)) pa_nil))))))), ?_⟩
    refine z_set (K := K) (σ := [some (v_top), some (v_bottom), none]) (d_gcd (d_var ⟨_, rfl, h_top⟩) (d_var ⟨_, rfl, h_bottom⟩)) fun v_shared1 H1 e h' => ?_
    replace h_top := dp_grow e _ _ h_top
    replace h_bottom := dp_grow e _ _ h_bottom
    replace ex := ex.trans e
    have h_shared := h'
    clear h'
    refine z_if (σ := [some (v_top), some (v_bottom), some v_shared1]) (b_test (d_lt (d_var ⟨_, rfl, h_bottom⟩) d_int)) (fun c4 H1 e => ?_) (fun c4 H1 e => ?_)
    · replace h_top := dp_grow e _ _ h_top
      replace h_bottom := dp_grow e _ _ h_bottom
      replace h_shared := dp_grow e _ _ h_shared
      replace ex := ex.trans e
      refine z_set1 (K := K) (σ := [some (v_top), some (v_bottom), some v_shared1]) (d_neg (d_var ⟨_, rfl, h_shared⟩)) fun v_shared2 H1 e h' => ?_
      replace h_top := dp_grow e _ _ h_top
      replace h_bottom := dp_grow e _ _ h_bottom
      clear h_shared
      replace ex := ex.trans e
      have h_shared := h'
      clear h'
      refine z_ret (K := K) (σ := [some (v_top), some (v_bottom), some v_shared2]) (d_tup (ds_cons (d_fdiv (d_var ⟨_, rfl, h_top⟩) (d_var ⟨_, rfl, h_shared⟩) (by first | exact div_g b0 bb | exact div_ng b0 bb)) (ds_cons (d_fdiv (d_var ⟨_, rfl, h_bottom⟩) (d_var ⟨_, rfl, h_shared⟩) (by first | exact div_g b0 bb | exact div_ng b0 bb)) ds_nil)) (by show 2 ≤ 1000; decide)) fun v H1 e h => ?_
      replace ex := ex.trans e
      have h' : Dp K H1 v (lowest t b) := by first | (rw [← low_neg b0 c4]; exact h) | (rw [← low_pos c4]; exact h)
      exact k v _ ex h'
    · replace h_top := dp_grow e _ _ h_top
      replace h_bottom := dp_grow e _ _ h_bottom
      replace h_shared := dp_grow e _ _ h_shared
      replace ex := ex.trans e
      refine z_next ?_
      refine z_ret (K := K) (σ := [some (v_top), some (v_bottom), some v_shared1]) (d_tup (ds_cons (d_fdiv (d_var ⟨_, rfl, h_top⟩) (d_var ⟨_, rfl, h_shared⟩) (by first | exact div_g b0 bb | exact div_ng b0 bb)) (ds_cons (d_fdiv (d_var ⟨_, rfl, h_bottom⟩) (d_var ⟨_, rfl, h_shared⟩) (by first | exact div_g b0 bb | exact div_ng b0 bb)) ds_nil)) (by show 2 ≤ 1000; decide)) fun v H1 e h => ?_
      replace ex := ex.trans e
      have h' : Dp K H1 v (lowest t b) := by first | (rw [← low_neg b0 c4]; exact h) | (rw [← low_pos c4]; exact h)
      exact k v _ ex h'

abbrev s_minus : Stmt := topS 14
abbrev N_minus : List Str := ["one", "other"]
theorem sc_minus : FnScope N_minus ["one", "other"] (defScope s_minus) := ⟨rfl, rfl, rfl, by decide +kernel, rfl, by decide +kernel, by decide +kernel⟩
theorem ok_minus {f : Addr} {fd : FuncData} (F : Fun K "minus" "minus" s_minus f fd) (T : Bl mg) (D_joined : Def P w K mg base CX0 1 "_joined" ["one", "top", "bottom"] (spD K 3 fJoined)) : FnOk P w K mg base CX0 2 f fd ["one", "other"] (spD K 2 fMinusR) := by
  refine F.ok sc_minus (fun vs H Q E h => ?_) (fun cdv A outer s H vs Q E hr h => ?_)
  · obtain ⟨ds, d, hl, hd, _⟩ := h
    exact (dps_len hd).trans hl
  · obtain ⟨ds, d, hl, hd, hf, k⟩ := h
    obtain ⟨x, y, rfl, hx, hy, rfl⟩ := hf
    obtain ⟨v_one, vs, rfl, h_one, hd⟩ := dps_cons hd
    obtain ⟨v_other, vs, rfl, h_other, hd⟩ := dps_cons hd
    obtain rfl := dps_nil hd
    have ex : Ex H H := Ex.refl H
    refine ⟨_, (pss_one (ps_ret (pe_dcall D_joined (hr.mono (by decide)) pass0 (pa_cons (pv 0) (pa_cons (pe_un un_neg (pe_ix (r := rIxT K) ix_tup (pv 1) pe_int (fun _ _ => rfl))) (pa_cons (pe_ix (r := rIxT K) ix_tup (pv 1) pe_int (fun _ _ => rfl)) pa_nil)))))), ?_⟩
    refine z_ret (K := K) (σ := [some (v_one), some (v_other)]) (d_call (ds_cons (d_var ⟨_, rfl, h_one⟩) (ds_cons (d_neg (d_ixT (d_var ⟨_, rfl, h_other⟩) d_int rfl)) (ds_cons (d_ixT (d_var ⟨_, rfl, h_other⟩) d_int rfl) ds_nil))) rfl ⟨x, -y, rfl, hx, sz_neg hy, rfl⟩) fun v H1 e h => ?_
    replace ex := ex.trans e
    rw [Rat.sub_eq_add_neg] at k
    exact k v _ ex h

abbrev s_negative : Stmt := topS 18
abbrev N_negative : List Str := ["one"]
theorem sc_negative : FnScope N_negative ["one"] (defScope s_negative) := ⟨rfl, rfl, rfl, by decide +kernel, rfl, by decide +kernel, by decide +kernel⟩
theorem ok_negative {f : Addr} {fd : FuncData} (F : Fun K "negative" "negative" s_negative f fd) (T : Bl mg)  : FnOk P w K mg base CX0 1 f fd ["one"] (spD K 1 fNegative) := by
  refine F.ok sc_negative (fun vs H Q E h => ?_) (fun cdv A outer s H vs Q E hr h => ?_)
  · obtain ⟨ds, d, hl, hd, _⟩ := h
    exact (dps_len hd).trans hl
  · obtain ⟨ds, d, hl, hd, hf, k⟩ := h
    obtain ⟨p, q, rfl, rfl⟩ := hf
    obtain ⟨v_one, vs, rfl, h_one, hd⟩ := dps_cons hd
    obtain rfl := dps_nil hd
    have ex : Ex H H := Ex.refl H
    refine ⟨_, (pss_one (ps_ret (pe_tup (pa_cons (pe_un un_neg (pe_ix (r := rIxT K) ix_tup (pv 0) pe_int (fun _ _ => rfl))) (pa_cons (pe_ix (r := rIxT K) ix_tup (pv 0) pe_int (fun _ _ => rfl)) pa_nil))))), ?_⟩
    refine z_ret (K := K) (σ := [some (v_one)]) (d_tup (ds_cons (d_neg (d_ixT (d_var ⟨_, rfl, h_one⟩) d_int rfl)) (ds_cons (d_ixT (d_var ⟨_, rfl, h_one⟩) d_int rfl) ds_nil)) (by show 2 ≤ 1000; decide)) fun v H1 e h => ?_
    replace ex := ex.trans e
    exact k v _ ex h

abbrev s_size_of : Stmt := topS 19
abbrev N_size_of : List Str := ["one"]
theorem sc_size_of : FnScope N_size_of ["one"] (defScope s_size_of) := ⟨rfl, rfl, rfl, by decide +kernel, rfl, by decide +kernel, by decide +kernel⟩
theorem ok_size_of {f : Addr} {fd : FuncData} (F : Fun K "size_of" "size_of" s_size_of f fd) (T : Bl mg)  : FnOk P w K mg base CX0 1 f fd ["one"] (spD K 1 fSize) := by
  refine F.ok sc_size_of (fun vs H Q E h => ?_) (fun cdv A outer s H vs Q E hr h => ?_)
  · obtain ⟨ds, d, hl, hd, _⟩ := h
    exact (dps_len hd).trans hl
  · obtain ⟨ds, d, hl, hd, hf, k⟩ := h
    obtain ⟨p, q, rfl, rfl⟩ := hf
    obtain ⟨v_one, vs, rfl, h_one, hd⟩ := dps_cons hd
    obtain rfl := dps_nil hd
    have ex : Ex H H := Ex.refl H
    refine ⟨_, (pss_one (ps_ret (pe_tup (pa_cons (pe_callB call_abs (by rfl) T.b_abs (by decide +kernel) (pa_cons (pe_ix (r := rIxT K) ix_tup (pv 0) pe_int (fun _ _ => rfl)) pa_nil)) (pa_cons (pe_ix (r := rIxT K) ix_tup (pv 0) pe_int (fun _ _ => rfl)) pa_nil))))), ?_⟩
    refine z_ret (K := K) (σ := [some (v_one)]) (d_tup (ds_cons (d_abs (d_ixT (d_var ⟨_, rfl, h_one⟩) d_int rfl)) (ds_cons (d_ixT (d_var ⟨_, rfl, h_one⟩) d_int rfl) ds_nil)) (by show 2 ≤ 1000; decide)) fun v H1 e h => ?_
    replace ex := ex.trans e
    exact k v _ ex h

abbrev s_floor_of : Stmt := topS 25
abbrev N_floor_of : List Str := ["one"]
theorem sc_floor_of : FnScope N_floor_of ["one"] (defScope s_floor_of) := ⟨rfl, rfl, rfl, by decide +kernel, rfl, by decide +kernel, by decide +kernel⟩
theorem ok_floor_of {f : Addr} {fd : FuncData} (F : Fun K "floor_of" "floor_of" s_floor_of f fd) (T : Bl mg)  : FnOk P w K mg base CX0 1 f fd ["one"] (spD K 1 fFloor) := by
  refine F.ok sc_floor_of (fun vs H Q E h => ?_) (fun cdv A outer s H vs Q E hr h => ?_)
  · obtain ⟨ds, d, hl, hd, _⟩ := h
    exact (dps_len hd).trans hl
  · obtain ⟨ds, d, hl, hd, hf, k⟩ := h
    obtain ⟨p, q, rfl, q0, bq, rfl⟩ := hf
    obtain ⟨v_one, vs, rfl, h_one, hd⟩ := dps_cons hd
    obtain rfl := dps_nil hd
    have ex : Ex H H := Ex.refl H
    refine ⟨_, (pss_one (ps_ret (pe_op op_fdivA (pe_ix (r := rIxT K) ix_tup (pv 0) pe_int (fun _ _ => rfl)) (pe_ix (r := rIxT K) ix_tup (pv 0) pe_int (fun _ _ => rfl))))), ?_⟩
    refine z_ret (K := K) (σ := [some (v_one)]) (d_fdiv (d_ixT (d_var ⟨_, rfl, h_one⟩) d_int rfl) (d_ixT (d_var ⟨_, rfl, h_one⟩) d_int rfl) (div_ok (by assumption) (by assumption))) fun v H1 e h => ?_
    replace ex := ex.trans e
    exact k v _ ex h

abbrev s_L_less : Stmt := topS 37
abbrev N_L_less : List Str := ["a", "b"]
theorem sc_L_less : FnScope N_L_less ["a", "b"] (defScope s_L_less) := ⟨rfl, rfl, rfl, by decide +kernel, rfl, by decide +kernel, by decide +kernel⟩
theorem ok_L_less {f : Addr} {fd : FuncData} (F : Fun K "_law_less" "_law_less" s_L_less f fd) (T : Bl mg)  : FnOk P w K mg base CX0 1 f fd ["a", "b"] (spD K 2 fLessR) := by
  refine F.ok sc_L_less (fun vs H Q E h => ?_) (fun cdv A outer s H vs Q E hr h => ?_)
  · obtain ⟨ds, d, hl, hd, _⟩ := h
    exact (dps_len hd).trans hl
  · obtain ⟨ds, d, hl, hd, hf, k⟩ := h
    obtain ⟨x, y, rfl, ⟨bxn, bxd⟩, ⟨byn, byd⟩, rfl⟩ := hf
    replace bxd : (x.den : Int).natAbs < 2 ^ B := bxd
    replace byd : (y.den : Int).natAbs < 2 ^ B := byd
    obtain ⟨v_a, vs, rfl, h_a, hd⟩ := dps_cons hd
    obtain ⟨v_b, vs, rfl, h_b, hd⟩ := dps_cons hd
    obtain rfl := dps_nil hd
    have ex : Ex H H := Ex.refl H
    refine ⟨_, (pss_one (ps_ret (pe_cmpR op_lt (pe_op op_mulW (pe_ix (r := rIxT K) ix_tup (pv 0) pe_int (fun _ _ => rfl)) (pe_ix (r := rIxT K) ix_tup (pv 1) pe_int (fun _ _ => rfl))) (pe_op op_mulW (pe_ix (r := rIxT K) ix_tup (pv 1) pe_int (fun _ _ => rfl)) (pe_ix (r := rIxT K) ix_tup (pv 0) pe_int (fun _ _ => rfl))) (nomark _)))), ?_⟩
    refine z_ret (K := K) (σ := [some (v_a), some (v_b)]) (d_lt (d_mul (d_ixT (d_var ⟨_, rfl, h_a⟩) d_int rfl) (d_ixT (d_var ⟨_, rfl, h_b⟩) d_int rfl) (wide_mul (by assumption) (by assumption) (by decide) (by decide) (by decide))) (d_mul (d_ixT (d_var ⟨_, rfl, h_b⟩) d_int rfl) (d_ixT (d_var ⟨_, rfl, h_a⟩) d_int rfl) (wide_mul (by assumption) (by assumption) (by decide) (by decide) (by decide)))) fun v H1 e h => ?_
    replace ex := ex.trans e
    rw [less_iff] at k
    exact k v _ ex h

abbrev s_L_size : Stmt := topS 38
abbrev N_L_size : List Str := ["a"]
theorem sc_L_size : FnScope N_L_size ["a"] (defScope s_L_size) := ⟨rfl, rfl, rfl, by decide +kernel, rfl, by decide +kernel, by decide +kernel⟩
theorem ok_L_size {f : Addr} {fd : FuncData} (F : Fun K "_law_size" "_law_size" s_L_size f fd) (T : Bl mg)  : FnOk P w K mg base CX0 1 f fd ["a"] (spD K 1 fSize) := by
  refine F.ok sc_L_size (fun vs H Q E h => ?_) (fun cdv A outer s H vs Q E hr h => ?_)
  · obtain ⟨ds, d, hl, hd, _⟩ := h
    exact (dps_len hd).trans hl
  · obtain ⟨ds, d, hl, hd, hf, k⟩ := h
    obtain ⟨p, q, rfl, rfl⟩ := hf
    obtain ⟨v_a, vs, rfl, h_a, hd⟩ := dps_cons hd
    obtain rfl := dps_nil hd
    have ex : Ex H H := Ex.refl H
    refine ⟨_, (pss_one (ps_ret (pe_tup (pa_cons (pe_callB call_abs (by rfl) T.b_abs (by decide +kernel) (pa_cons (pe_ix (r := rIxT K) ix_tup (pv 0) pe_int (fun _ _ => rfl)) pa_nil)) (pa_cons (pe_ix (r := rIxT K) ix_tup (pv 0) pe_int (fun _ _ => rfl)) pa_nil))))), ?_⟩
    refine z_ret (K := K) (σ := [some (v_a)]) (d_tup (ds_cons (d_abs (d_ixT (d_var ⟨_, rfl, h_a⟩) d_int rfl)) (ds_cons (d_ixT (d_var ⟨_, rfl, h_a⟩) d_int rfl) ds_nil)) (by show 2 ≤ 1000; decide)) fun v H1 e h => ?_
    replace ex := ex.trans e
    exact k v _ ex h

end
end K01
namespace Dat
open PySem L2 Evl
def cmpR (x y : Rat) : Int := if x < y then -1 else if y < x then 1 else 0
def gapR (x y : Rat) : Int := x.num * y.den - y.num * x.den
theorem cmp_gap (x y : Rat) : cmpR x y = if gapR x y < 0 then -1 else if 0 < gapR x y then 1 else 0 := by
  unfold cmpR gapR
  have h1 := Rat.lt_iff x y
  have h2 := Rat.lt_iff y x
  by_cases a : x < y
  · have := h1.mp a
    rw [if_pos a, if_pos (show x.num * (y.den : Int) - y.num * (x.den : Int) < 0 by omega)]
  · have n1 : ¬ (x.num * (y.den : Int) < y.num * (x.den : Int)) := fun z => a (h1.mpr z)
    have e1 : ¬ (x.num * (y.den : Int) - y.num * (x.den : Int) < 0) := by omega
    rw [if_neg a, if_neg e1]
    by_cases b : y < x
    · have := h2.mp b
      rw [if_pos b, if_pos (show 0 < x.num * (y.den : Int) - y.num * (x.den : Int) by omega)]
    · have n2 : ¬ (y.num * (x.den : Int) < x.num * (y.den : Int)) := fun z => b (h2.mpr z)
      have e2 : ¬ (0 < x.num * (y.den : Int) - y.num * (x.den : Int)) := by omega
      rw [if_neg b, if_neg e2]
def fCmpR (ds : List PyData) (d : PyData) : Prop := ∃ x y : Rat, ds = [ratR x, ratR y] ∧ Sz B x ∧ Sz B y ∧ d = .int (cmpR x y)
def SameSign (g e : Int) : Prop := (g < 0 → e < 0) ∧ (0 < g → 0 < e) ∧ (g = 0 → e = 0)
theorem sign_zero {x y : Rat} {g : Int} (s : SameSign g (gapR x y)) (c : decide (g = 0) = true) : PyData.int 0 = .int (cmpR x y) := by
  have h := s.2.2 (of_decide_eq_true c)
  rw [cmp_gap, if_neg (by omega), if_neg (by omega)]
theorem sign_one {x y : Rat} {g : Int} (s : SameSign g (gapR x y)) (c : decide (g = 0) = false) : (if decide (0 < g) = true then PyData.int 1 else .int (-1)) = .int (cmpR x y) := by
  have h := of_decide_eq_false c
  rw [cmp_gap]
  by_cases p : 0 < g
  · have := s.2.1 p
    rw [if_pos (decide_eq_true p), if_neg (by omega), if_pos this]
  · have := s.1 (by omega)
    rw [if_neg (by rw [decide_eq_false p]; decide), if_pos this]
theorem sign_den {x y : Rat} (c : decide ((x.den : Int) = (y.den : Int)) = true) : SameSign (x.num - y.num) (gapR x y) := by
  have h := of_decide_eq_true c
  have e : gapR x y = (x.num - y.num) * (y.den : Int) := by
    unfold gapR
    rw [h, Int.sub_mul]
  have hp : 0 < (y.den : Int) := by have := y.den_pos; omega
  rw [e]
  refine ⟨fun z => Int.mul_neg_of_neg_of_pos z hp, fun z => Int.mul_pos z hp, fun z => ?_⟩
  rw [z, Int.zero_mul]
theorem floor_gt {x y : Rat} (h : y.num.fdiv y.den < x.num.fdiv x.den) : 0 < gapR x y := by
  have hx : 0 < (x.den : Int) := by have := x.den_pos; omega
  have hy : 0 < (y.den : Int) := by have := y.den_pos; omega
  rw [Int.fdiv_eq_ediv_of_nonneg _ (by omega), Int.fdiv_eq_ediv_of_nonneg _ (by omega)] at h
  have h1 : x.num / x.den * x.den ≤ x.num := Int.ediv_mul_le _ (by omega)
  have h2 : y.num < (y.num / y.den + 1) * y.den := Int.lt_ediv_add_one_mul_self _ hy
  have h3 : (y.num / y.den + 1) * y.den ≤ x.num / x.den * y.den := Int.mul_le_mul_of_nonneg_right (by omega) (by omega)
  have h4 : y.num * x.den < x.num / x.den * y.den * x.den := Int.mul_lt_mul_of_pos_right (by omega) hx
  have h5 : x.num / x.den * x.den * y.den ≤ x.num * y.den := Int.mul_le_mul_of_nonneg_right h1 (by omega)
  have e : x.num / x.den * y.den * x.den = x.num / x.den * x.den * y.den := by
    rw [Int.mul_assoc, Int.mul_comm (y.den : Int), ← Int.mul_assoc]
  unfold gapR
  omega
theorem gap_swap (x y : Rat) : gapR y x = -gapR x y := by
  unfold gapR
  omega
theorem cmp1 {x y : Rat} (c : decide ((x.den : Int) = (y.den : Int)) = true) (c6 : decide (x.num - y.num = 0) = true) : PyData.int 0 = .int (cmpR x y) := sign_zero (sign_den c) c6
theorem cmp2 {x y : Rat} (c : decide ((x.den : Int) = (y.den : Int)) = true) (c6 : decide (x.num - y.num = 0) = false) : (if decide (0 < x.num - y.num) = true then PyData.int 1 else .int (-1)) = .int (cmpR x y) := sign_one (sign_den c) c6
theorem cmp4 {x y : Rat} (c6 : decide (x.num.fdiv x.den - y.num.fdiv y.den = 0) = false) (c8 : decide (x.num.fdiv x.den - y.num.fdiv y.den = 0) = false) : (if decide (0 < x.num.fdiv x.den - y.num.fdiv y.den) = true then PyData.int 1 else .int (-1)) = .int (cmpR x y) := by
  have h := of_decide_eq_false c6
  refine sign_one ⟨fun z => ?_, fun z => floor_gt (by omega), fun z => absurd z h⟩ c8
  have := floor_gt (x := y) (y := x) (by omega)
  rw [gap_swap] at this
  omega
theorem cmp5 {x y : Rat} (c8 : decide (x.num * (y.den : Int) - y.num * (x.den : Int) = 0) = true) : PyData.int 0 = .int (cmpR x y) := sign_zero ⟨fun z => z, fun z => z, fun z => z⟩ c8
theorem cmp6 {x y : Rat} (c8 : decide (x.num * (y.den : Int) - y.num * (x.den : Int) = 0) = false) : (if decide (0 < x.num * (y.den : Int) - y.num * (x.den : Int)) = true then PyData.int 1 else .int (-1)) = .int (cmpR x y) := sign_one ⟨fun z => z, fun z => z, fun z => z⟩ c8
theorem cmp_val (x y : Rat) : (cmpR x y < 0 ↔ x < y) ∧ (0 < cmpR x y ↔ y < x) := by
  have e : cmpR x y = if x < y then -1 else if y < x then 1 else 0 := rfl
  by_cases a : x < y
  · have b : ¬ y < x := fun z => by
      have h1 := (Rat.lt_iff x y).mp a
      have h2 := (Rat.lt_iff y x).mp z
      omega
    rw [e, if_pos a]
    exact ⟨⟨fun _ => a, fun _ => by decide⟩, ⟨fun z => absurd z (by decide), fun z => absurd z b⟩⟩
  · rw [e, if_neg a]
    by_cases b : y < x
    · rw [if_pos b]
      exact ⟨⟨fun z => absurd z (by decide), fun z => absurd z a⟩, ⟨fun _ => b, fun _ => by decide⟩⟩
    · rw [if_neg b]
      exact ⟨⟨fun z => absurd z (by decide), fun z => absurd z a⟩, ⟨fun z => absurd z (by decide), fun z => absurd z b⟩⟩
theorem cmp_lt {x y : Rat} (c : decide (cmpR x y < 0) = true) : x < y := (cmp_val x y).1.mp (of_decide_eq_true c)
theorem cmp_nlt {x y : Rat} (c : decide (cmpR x y < 0) = false) : ¬ x < y := fun z => of_decide_eq_false c ((cmp_val x y).1.mpr z)
theorem cmp_gt {x y : Rat} (c : decide (0 < cmpR x y) = true) : y < x := (cmp_val x y).2.mp (of_decide_eq_true c)
theorem cmp_ngt {x y : Rat} (c : decide (0 < cmpR x y) = false) : ¬ y < x := fun z => of_decide_eq_false c ((cmp_val x y).2.mpr z)
def leastR (a b : Rat) : Rat := if b < a then b else a
def mostR (a b : Rat) : Rat := if a < b then b else a
theorem leastR_yes {a b : Rat} (h : b < a) : leastR a b = b := if_pos h
theorem leastR_no {a b : Rat} (h : ¬ b < a) : leastR a b = a := if_neg h
theorem mostR_yes {a b : Rat} (h : a < b) : mostR a b = b := if_pos h
theorem mostR_no {a b : Rat} (h : ¬ a < b) : mostR a b = a := if_neg h
def fFoldR (op : Rat → Rat → Rat) (z : Rat) (ds : List PyData) (d : PyData) : Prop := ∃ (b : Bool) (rs : List Rat), ds = [sq b (rs.map ratR)] ∧ (∀ r ∈ rs, Sz B r) ∧ (∀ i, Sz B ((rs.take i).foldl op z)) ∧ d = ratR (rs.foldl op z)
def fPickR (op : Rat → Rat → Rat) (ds : List PyData) (d : PyData) : Prop := ∃ (b : Bool) (r0 : Rat) (rs : List Rat), ds = [sq b ((r0 :: rs).map ratR)] ∧ (∀ r ∈ r0 :: rs, Sz B r) ∧ d = ratR ((r0 :: rs).foldl op r0)
theorem pick_mem {op : Rat → Rat → Rat} (ho : ∀ a b, op a b = a ∨ op a b = b) : ∀ (l : List Rat) (z : Rat), l.foldl op z ∈ z :: l
  | [], z => List.mem_cons_self
  | r :: l, z => by
    have h := pick_mem ho l (op z r)
    show (l.foldl op (op z r)) ∈ _
    rcases List.mem_cons.mp h with h | h
    · rw [h]
      rcases ho z r with e | e
      · rw [e]
        exact List.mem_cons_self
      · rw [e]
        exact List.mem_cons_of_mem _ List.mem_cons_self
    · exact List.mem_cons_of_mem _ (List.mem_cons_of_mem _ h)
end Dat
namespace K01
open PySem L2 Evl Dat
section
variable {P : Program} {w : World} {K : PySem.W.Frag} {mg : Str → Option Value} {base : Heap}
abbrev s_compare : Stmt := topS 20
abbrev N_compare : List Str := ["one", "other", "gap"]
theorem sc_compare : FnScope N_compare ["one", "other"] (defScope s_compare) := ⟨rfl, rfl, rfl, by decide +kernel, rfl, by decide +kernel, by decide +kernel⟩
theorem ok_compare {f : Addr} {fd : FuncData} (F : Fun K "compare" "compare" s_compare f fd) (T : Bl mg)  : FnOk P w K mg base CX0 1 f fd ["one", "other"] (spD K 2 fCmpR) := by
  refine F.ok sc_compare (fun vs H Q E h => ?_) (fun cdv A outer s H vs Q E hr h => ?_)
  · obtain ⟨ds, d, hl, hd, _⟩ := h
    exact (dps_len hd).trans hl
  · obtain ⟨ds, d, hl, hd, hf, k⟩ := h
    obtain ⟨x, y, rfl, ⟨bxn, bxd⟩, ⟨byn, byd⟩, rfl⟩ := hf
    replace bxd : (x.den : Int).natAbs < 2 ^ B := bxd
    replace byd : (y.den : Int).natAbs < 2 ^ B := byd
    obtain ⟨v_one, vs, rfl, h_one, hd⟩ := dps_cons hd
    obtain ⟨v_other, vs, rfl, h_other, hd⟩ := dps_cons hd
    obtain rfl := dps_nil hd
    have ex : Ex H H := Ex.refl H
    refine ⟨_, (pss_cons (ps_if (pt_cmpR op_eq (pe_ix (r := rIxT K) ix_tup (pv 0) pe_int (fun _ _ => rfl)) (pe_ix (r := rIxT K) ix_tup (pv 1) pe_int (fun _ _ => rfl)) (nomark _)) (pss_one (ps_set (i := 2) sc_compare.nd rfl (Or.inl rfl) (pe_op op_sub (pe_ix (r := rIxT K) ix_tup (pv 0) pe_int (fun _ _ => rfl)) (pe_ix (r := rIxT K) ix_tup (pv 1) pe_int (fun _ _ => rfl))))) (pss_cons (ps_set (i := 2) sc_compare.nd rfl (Or.inl rfl) (pe_op op_sub (pe_op op_fdivA (pe_ix (r := rIxT K) ix_tup (pv 0) pe_int (fun _ _ => rfl)) (pe_ix (r := rIxT K) ix_tup (pv 0) pe_int (fun _ _ => rfl))) (pe_op op_fdivA (pe_ix (r := rIxT K) ix_tup (pv 1) pe_int (fun _ _ => rfl)) (pe_ix (r := rIxT K) ix_tup (pv 1) pe_int (fun _ _ => rfl)))))
    (pss_one (ps_if (pt_cmpR op_eq (pv 2) pe_int (nomark _)) (pss_one (ps_set (i := 2) sc_compare.nd rfl (Or.inl rfl) (pe_op op_sub (pe_op op_mulW (pe_ix (r := rIxT K) ix_tup (pv 0) pe_int (fun _ _ => rfl)) (pe_ix (r := rIxT K) ix_tup (pv 1) pe_int (fun _ _ => rfl))) (pe_op op_mulW (pe_ix (r := rIxT K) ix_tup (pv 1) pe_int (fun _ _ => rfl)) (pe_ix (r := rIxT K) ix_tup (pv 0) pe_int (fun _ _ => rfl)))))) pss_nil))))
    (pss_cons (ps_if (pt_cmpR op_eq (pv 2) pe_int (nomark _)) (pss_one (ps_ret pe_int)) pss_nil)
    (pss_one (ps_ret (pe_ifExp (pt_cmpR op_gt (pv 2) pe_int (nomark _)) pe_int (pe_un un_neg pe_int)))))), ?_⟩
    refine z_if (σ := [some (v_one), some (v_other), none]) (b_test (d_eqI (d_ixT (d_var ⟨_, rfl, h_one⟩) d_int rfl) (d_ixT (d_var ⟨_, rfl, h_other⟩) d_int rfl))) (fun c4 H1 e => ?_) (fun c4 H1 e => ?_)
    · replace h_one := dp_grow e _ _ h_one
      replace h_other := dp_grow e _ _ h_other
      replace ex := ex.trans e
      refine z_set1 (K := K) (σ := [some (v_one), some (v_other), none]) (d_sub (d_ixT (d_var ⟨_, rfl, h_one⟩) d_int rfl) (d_ixT (d_var ⟨_, rfl, h_other⟩) d_int rfl)) fun v_gap1 H1 e h' => ?_
      replace h_one := dp_grow e _ _ h_one
      replace h_other := dp_grow e _ _ h_other
      replace ex := ex.trans e
      have h_gap := h'
      clear h'
      refine z_if (σ := [some (v_one), some (v_other), some v_gap1]) (b_test (d_eqI (d_var ⟨_, rfl, h_gap⟩) d_int)) (fun c6 H1 e => ?_) (fun c6 H1 e => ?_)
      · replace h_one := dp_grow e _ _ h_one
        replace h_other := dp_grow e _ _ h_other
        replace h_gap := dp_grow e _ _ h_gap
        replace ex := ex.trans e
        refine z_ret (K := K) (σ := [some (v_one), some (v_other), some v_gap1]) d_int fun v H1 e h => ?_
        replace ex := ex.trans e
        exact k v _ ex (by first | (have z := cmp1 c4 c6; rw [z] at h; exact h) | (have z := cmp2 c4 c6; rw [z] at h; exact h) | exact absurd (of_decide_eq_true c8) (of_decide_eq_false c6) | (have z := cmp4 c6 c8; rw [z] at h; exact h) | (have z := cmp5 (x := x) (y := y) c8; rw [z] at h; exact h) | (have z := cmp6 (x := x) (y := y) c8; rw [z] at h; exact h))
      · replace h_one := dp_grow e _ _ h_one
        replace h_other := dp_grow e _ _ h_other
        replace h_gap := dp_grow e _ _ h_gap
        replace ex := ex.trans e
        refine z_next ?_
        refine z_ret (K := K) (σ := [some (v_one), some (v_other), some v_gap1]) (d_ite (b_test (d_gt (d_var ⟨_, rfl, h_gap⟩) d_int)) (fun ci => d_int) (fun ci => (d_neg d_int))) fun v H1 e h => ?_
        replace ex := ex.trans e
        exact k v _ ex (by first | (have z := cmp1 c4 c6; rw [z] at h; exact h) | (have z := cmp2 c4 c6; rw [z] at h; exact h) | exact absurd (of_decide_eq_true c8) (of_decide_eq_false c6) | (have z := cmp4 c6 c8; rw [z] at h; exact h) | (have z := cmp5 (x := x) (y := y) c8; rw [z] at h; exact h) | (have z := cmp6 (x := x) (y := y) c8; rw [z] at h; exact h))
    · replace h_one := dp_grow e _ _ h_one
      replace h_other := dp_grow e _ _ h_other
      replace ex := ex.trans e
      refine z_set (K := K) (σ := [some (v_one), some (v_other), none]) (d_sub (d_fdiv (d_ixT (d_var ⟨_, rfl, h_one⟩) d_int rfl) (d_ixT (d_var ⟨_, rfl, h_one⟩) d_int rfl) (div_ok (n := B) (nz x.den_pos) bxd (by decide) (by decide))) (d_fdiv (d_ixT (d_var ⟨_, rfl, h_other⟩) d_int rfl) (d_ixT (d_var ⟨_, rfl, h_other⟩) d_int rfl) (div_ok (n := B) (nz y.den_pos) byd (by decide) (by decide)))) fun v_gap2 H1 e h' => ?_
      replace h_one := dp_grow e _ _ h_one
      replace h_other := dp_grow e _ _ h_other
      replace ex := ex.trans e
      have h_gap := h'
      clear h'
      refine z_if1 (σ := [some (v_one), some (v_other), some v_gap2]) (b_test (d_eqI (d_var ⟨_, rfl, h_gap⟩) d_int)) (fun c6 H1 e => ?_) (fun c6 H1 e => ?_)
      · replace h_one := dp_grow e _ _ h_one
        replace h_other := dp_grow e _ _ h_other
        replace h_gap := dp_grow e _ _ h_gap
        replace ex := ex.trans e
        refine z_set1 (K := K) (σ := [some (v_one), some (v_other), some v_gap2]) (d_sub (d_mul (d_ixT (d_var ⟨_, rfl, h_one⟩) d_int rfl) (d_ixT (d_var ⟨_, rfl, h_other⟩) d_int rfl) (wide_mul (by assumption) (by assumption) (by decide) (by decide) (by decide))) (d_mul (d_ixT (d_var ⟨_, rfl, h_other⟩) d_int rfl) (d_ixT (d_var ⟨_, rfl, h_one⟩) d_int rfl) (wide_mul (by assumption) (by assumption) (by decide) (by decide) (by decide)))) fun v_gap3 H1 e h' => ?_
        replace h_one := dp_grow e _ _ h_one
        replace h_other := dp_grow e _ _ h_other
        clear h_gap
        replace ex := ex.trans e
        have h_gap := h'
        clear h'
        refine z_if (σ := [some (v_one), some (v_other), some v_gap3]) (b_test (d_eqI (d_var ⟨_, rfl, h_gap⟩) d_int)) (fun c8 H1 e => ?_) (fun c8 H1 e => ?_)
        · replace h_one := dp_grow e _ _ h_one
          replace h_other := dp_grow e _ _ h_other
          replace h_gap := dp_grow e _ _ h_gap
          replace ex := ex.trans e
          refine z_ret (K := K) (σ := [some (v_one), some (v_other), some v_gap3]) d_int fun v H1 e h => ?_
          replace ex := ex.trans e
          exact k v _ ex (by first | (have z := cmp1 c4 c6; rw [z] at h; exact h) | (have z := cmp2 c4 c6; rw [z] at h; exact h) | exact absurd (of_decide_eq_true c8) (of_decide_eq_false c6) | (have z := cmp4 c6 c8; rw [z] at h; exact h) | (have z := cmp5 (x := x) (y := y) c8; rw [z] at h; exact h) | (have z := cmp6 (x := x) (y := y) c8; rw [z] at h; exact h))
        · replace h_one := dp_grow e _ _ h_one
          replace h_other := dp_grow e _ _ h_other
          replace h_gap := dp_grow e _ _ h_gap
          replace ex := ex.trans e
          refine z_next ?_
          refine z_ret (K := K) (σ := [some (v_one), some (v_other), some v_gap3]) (d_ite (b_test (d_gt (d_var ⟨_, rfl, h_gap⟩) d_int)) (fun ci => d_int) (fun ci => (d_neg d_int))) fun v H1 e h => ?_
          replace ex := ex.trans e
          exact k v _ ex (by first | (have z := cmp1 c4 c6; rw [z] at h; exact h) | (have z := cmp2 c4 c6; rw [z] at h; exact h) | exact absurd (of_decide_eq_true c8) (of_decide_eq_false c6) | (have z := cmp4 c6 c8; rw [z] at h; exact h) | (have z := cmp5 (x := x) (y := y) c8; rw [z] at h; exact h) | (have z := cmp6 (x := x) (y := y) c8; rw [z] at h; exact h))
      · replace h_one := dp_grow e _ _ h_one
        replace h_other := dp_grow e _ _ h_other
        replace h_gap := dp_grow e _ _ h_gap
        replace ex := ex.trans e
        refine z_next ?_
        refine z_if (σ := [some (v_one), some (v_other), some v_gap2]) (b_test (d_eqI (d_var ⟨_, rfl, h_gap⟩) d_int)) (fun c8 H1 e => ?_) (fun c8 H1 e => ?_)
        · replace h_one := dp_grow e _ _ h_one
          replace h_other := dp_grow e _ _ h_other
          replace h_gap := dp_grow e _ _ h_gap
          replace ex := ex.trans e
          refine z_ret (K := K) (σ := [some (v_one), some (v_other), some v_gap2]) d_int fun v H1 e h => ?_
          replace ex := ex.trans e
          exact k v _ ex (by first | (have z := cmp1 c4 c6; rw [z] at h; exact h) | (have z := cmp2 c4 c6; rw [z] at h; exact h) | exact absurd (of_decide_eq_true c8) (of_decide_eq_false c6) | (have z := cmp4 c6 c8; rw [z] at h; exact h) | (have z := cmp5 (x := x) (y := y) c8; rw [z] at h; exact h) | (have z := cmp6 (x := x) (y := y) c8; rw [z] at h; exact h))
        · replace h_one := dp_grow e _ _ h_one
          replace h_other := dp_grow e _ _ h_other
          replace h_gap := dp_grow e _ _ h_gap
          replace ex := ex.trans e
          refine z_next ?_
          refine z_ret (K := K) (σ := [some (v_one), some (v_other), some v_gap2]) (d_ite (b_test (d_gt (d_var ⟨_, rfl, h_gap⟩) d_int)) (fun ci => d_int) (fun ci => (d_neg d_int))) fun v H1 e h => ?_
          replace ex := ex.trans e
          exact k v _ ex (by first | (have z := cmp1 c4 c6; rw [z] at h; exact h) | (have z := cmp2 c4 c6; rw [z] at h; exact h) | exact absurd (of_decide_eq_true c8) (of_decide_eq_false c6) | (have z := cmp4 c6 c8; rw [z] at h; exact h) | (have z := cmp5 (x := x) (y := y) c8; rw [z] at h; exact h) | (have z := cmp6 (x := x) (y := y) c8; rw [z] at h; exact h))

abbrev s_sum_of : Stmt := topS 21
abbrev N_sum_of : List Str := ["ratios", "total", "one"]
theorem sc_sum_of : FnScope N_sum_of ["ratios"] (defScope s_sum_of) := ⟨rfl, rfl, rfl, by decide +kernel, rfl, by decide +kernel, by decide +kernel⟩
theorem ok_sum_of {f : Addr} {fd : FuncData} {aZ : Addr} (F : Fun K "sum_of" "sum_of" s_sum_of f fd) (gZ : mg "ZERO" = some (.ref aZ)) (hZ : ∀ H, Dp K H (.ref aZ) (ratR 0)) (D_plus : Def P w K mg base CX0 2 "plus" ["one", "other"] (spD K 2 fPlusR)) : FnOk P w K mg base CX0 3 f fd ["ratios"] (spD K 1 (fFoldR (· + ·) 0)) := by
  refine F.ok sc_sum_of (fun vs H Q E h => ?_) (fun cdv A outer s H vs Q E hr h => ?_)
  · obtain ⟨ds, d, hl, hd, _⟩ := h
    exact (dps_len hd).trans hl
  · obtain ⟨ds, d, hl, hd, hf, k⟩ := h
    obtain ⟨b, rs, rfl, hok, hacc, rfl⟩ := hf
    obtain ⟨v_r, vs, rfl, h_r, hd⟩ := dps_cons hd
    obtain rfl := dps_nil hd
    refine ⟨_, (pss_cons (ps_set (i := 1) sc_sum_of.nd rfl (Or.inl rfl) (pe_glob (v := .ref aZ) rfl gZ rfl))
    (pss_cons (ps_for PassesOwn.never rfl (pi_alt (pi_list (pv 0)) (pi_tup (pv 0))) (pg_name (i := 2) sc_sum_of.nd rfl (Or.inl rfl)) (pss_one (ps_set (i := 1) sc_sum_of.nd rfl (Or.inl rfl) (pe_dcall D_plus (hr.mono (by decide)) pass0 (pa_cons (pv 1) (pa_cons (pv 2) pa_nil))))))
    (pss_one (ps_ret (pv 1))))), ?_⟩
    refine z_set (K := K) (σ := [some v_r, none, none]) (d_c (d := ratR 0) hZ) fun v_total H1 e h_total => ?_
    replace h_r := dp_grow e _ _ h_r
    refine z_forS (σ := [some v_r, some v_total, none]) (d_var ⟨_, rfl, h_r⟩) (fun i σ' H' => ∃ vt x2, σ' = [some v_r, some vt, x2] ∧ Dp K H' vt (ratR ((rs.take i).foldl (· + ·) 0))) (fun H2 e2 => ⟨_, _, rfl, dp_grow e2 _ _ h_total⟩) (fun i d v σ' H' D' hd e2 p hv hrt kD => ?_) (fun σ' H' e2 p => ?_)
    · obtain ⟨vt, x2, rfl, hvt⟩ := p
      rw [List.getElem?_map] at hd
      obtain ⟨r, hr1, rfl⟩ := Option.map_eq_some_iff.mp hd
      refine z_set1 (K := K) (σ := [some v_r, some vt, some v]) (d := ratR ((· + ·) ((rs.take i).foldl (· + ·) 0) r)) (d_call (ds_cons (d_var ⟨_, rfl, hvt⟩) (ds_cons (d_var ⟨_, rfl, hv⟩) ds_nil)) rfl ⟨_, _, rfl, hacc i, hok _ (List.mem_of_getElem? hr1), rfl⟩) fun v H2 e3 h3 => ?_
      refine kD _ _ e3 ⟨_, _, rfl, ?_⟩
      rw [take_next hr1, List.foldl_append]
      exact h3
    · obtain ⟨vt, x2, rfl, hvt⟩ := p
      rw [List.length_map, List.take_length] at hvt
      exact z_ret (K := K) (σ := [some v_r, some vt, x2]) (d_var ⟨_, rfl, hvt⟩) fun v H2 e3 h3 => k v _ ((e.trans e2).trans e3) h3

abbrev s_product_of : Stmt := topS 22
abbrev N_product_of : List Str := ["ratios", "total", "one"]
theorem sc_product_of : FnScope N_product_of ["ratios"] (defScope s_product_of) := ⟨rfl, rfl, rfl, by decide +kernel, rfl, by decide +kernel, by decide +kernel⟩
theorem ok_product_of {f : Addr} {fd : FuncData} {aZ : Addr} (F : Fun K "product_of" "product_of" s_product_of f fd) (gZ : mg "ONE" = some (.ref aZ)) (hZ : ∀ H, Dp K H (.ref aZ) (ratR 1)) (D_times : Def P w K mg base CX0 1 "times" ["one", "other"] (spD K 2 fTimesR)) : FnOk P w K mg base CX0 3 f fd ["ratios"] (spD K 1 (fFoldR (· * ·) 1)) := by
  refine F.ok sc_product_of (fun vs H Q E h => ?_) (fun cdv A outer s H vs Q E hr h => ?_)
  · obtain ⟨ds, d, hl, hd, _⟩ := h
    exact (dps_len hd).trans hl
  · obtain ⟨ds, d, hl, hd, hf, k⟩ := h
    obtain ⟨b, rs, rfl, hok, hacc, rfl⟩ := hf
    obtain ⟨v_r, vs, rfl, h_r, hd⟩ := dps_cons hd
    obtain rfl := dps_nil hd
    refine ⟨_, (pss_cons (ps_set (i := 1) sc_product_of.nd rfl (Or.inl rfl) (pe_glob (v := .ref aZ) rfl gZ rfl))
    (pss_cons (ps_for PassesOwn.never rfl (pi_alt (pi_list (pv 0)) (pi_tup (pv 0))) (pg_name (i := 2) sc_product_of.nd rfl (Or.inl rfl)) (pss_one (ps_set (i := 1) sc_product_of.nd rfl (Or.inl rfl) (pe_dcall D_times (hr.mono (by decide)) pass0 (pa_cons (pv 1) (pa_cons (pv 2) pa_nil))))))
    (pss_one (ps_ret (pv 1))))), ?_⟩
    refine z_set (K := K) (σ := [some v_r, none, none]) (d_c (d := ratR 1) hZ) fun v_total H1 e h_total => ?_
    replace h_r := dp_grow e _ _ h_r
    refine z_forS (σ := [some v_r, some v_total, none]) (d_var ⟨_, rfl, h_r⟩) (fun i σ' H' => ∃ vt x2, σ' = [some v_r, some vt, x2] ∧ Dp K H' vt (ratR ((rs.take i).foldl (· * ·) 1))) (fun H2 e2 => ⟨_, _, rfl, dp_grow e2 _ _ h_total⟩) (fun i d v σ' H' D' hd e2 p hv hrt kD => ?_) (fun σ' H' e2 p => ?_)
    · obtain ⟨vt, x2, rfl, hvt⟩ := p
      rw [List.getElem?_map] at hd
      obtain ⟨r, hr1, rfl⟩ := Option.map_eq_some_iff.mp hd
      refine z_set1 (K := K) (σ := [some v_r, some vt, some v]) (d := ratR ((· * ·) ((rs.take i).foldl (· * ·) 1) r)) (d_call (ds_cons (d_var ⟨_, rfl, hvt⟩) (ds_cons (d_var ⟨_, rfl, hv⟩) ds_nil)) rfl ⟨_, _, rfl, hacc i, hok _ (List.mem_of_getElem? hr1), rfl⟩) fun v H2 e3 h3 => ?_
      refine kD _ _ e3 ⟨_, _, rfl, ?_⟩
      rw [take_next hr1, List.foldl_append]
      exact h3
    · obtain ⟨vt, x2, rfl, hvt⟩ := p
      rw [List.length_map, List.take_length] at hvt
      exact z_ret (K := K) (σ := [some v_r, some vt, x2]) (d_var ⟨_, rfl, hvt⟩) fun v H2 e3 h3 => k v _ ((e.trans e2).trans e3) h3

abbrev s_least_of : Stmt := topS 23
abbrev N_least_of : List Str := ["ratios", "least", "one"]
theorem sc_least_of : FnScope N_least_of ["ratios"] (defScope s_least_of) := ⟨rfl, rfl, rfl, by decide +kernel, rfl, by decide +kernel, by decide +kernel⟩
theorem ok_least_of {f : Addr} {fd : FuncData} (F : Fun K "least_of" "least_of" s_least_of f fd) (D_compare : Def P w K mg base CX0 1 "compare" ["one", "other"] (spD K 2 fCmpR)) : FnOk P w K mg base CX0 2 f fd ["ratios"] (spD K 1 (fPickR leastR)) := by
  refine F.ok sc_least_of (fun vs H Q E h => ?_) (fun cdv A outer s H vs Q E hr h => ?_)
  · obtain ⟨ds, d, hl, hd, _⟩ := h
    exact (dps_len hd).trans hl
  · obtain ⟨ds, d, hl, hd, hf, k⟩ := h
    obtain ⟨b, r0, rs, rfl, hok, rfl⟩ := hf
    obtain ⟨v_r, vs, rfl, h_r, hd⟩ := dps_cons hd
    obtain rfl := dps_nil hd
    refine ⟨_, (pss_cons (ps_set (i := 1) sc_least_of.nd rfl (Or.inl rfl) (pe_alt (pe_ix (r := rIxT K) ix_tup (pv 0) pe_int (fun _ _ => rfl)) (pe_ix (r := rIxL K) ix_list (pv 0) pe_int (fun _ _ => rfl))))
    (pss_cons (ps_for PassesOwn.never rfl (pi_alt (pi_list (pv 0)) (pi_tup (pv 0))) (pg_name (i := 2) sc_least_of.nd rfl (Or.inl rfl)) (pss_one (ps_if (pt_cmpR op_lt (pe_dcall D_compare (hr.mono (by decide)) pass0 (pa_cons (pv 2) (pa_cons (pv 1) pa_nil))) pe_int (nomark _)) (pss_one (ps_set (i := 1) sc_least_of.nd rfl (Or.inl rfl) (pv 2))) pss_nil)))
    (pss_one (ps_ret (pv 1))))), ?_⟩
    refine z_set (K := K) (σ := [some v_r, none, none]) (d := ratR r0) (d_ixS (d_var ⟨_, rfl, h_r⟩) d_int at0) fun v_l H1 e h_l => ?_
    replace h_r := dp_grow e _ _ h_r
    refine z_forS (σ := [some v_r, some v_l, none]) (d_var ⟨_, rfl, h_r⟩) (fun i σ' H' => ∃ vt x2, σ' = [some v_r, some vt, x2] ∧ Dp K H' vt (ratR (((r0 :: rs).take i).foldl leastR r0))) (fun H2 e2 => ⟨_, _, rfl, dp_grow e2 _ _ h_l⟩) (fun i d v σ' H' D' hd e2 p hv hrt kD => ?_) (fun σ' H' e2 p => ?_)
    · obtain ⟨vt, x2, rfl, hvt⟩ := p
      rw [List.getElem?_map] at hd
      obtain ⟨r, hr1, rfl⟩ := Option.map_eq_some_iff.mp hd
      have hm := pick_mem (op := leastR) (fun a b => by unfold leastR; split <;> first | exact .inr rfl | exact .inl rfl) ((r0 :: rs).take i) r0
      have hz : Sz B (((r0 :: rs).take i).foldl leastR r0) := by
        rcases List.mem_cons.mp hm with m | m
        · rw [m]
          exact hok _ List.mem_cons_self
        · exact hok _ (List.mem_of_mem_take m)
      have nx : ((r0 :: rs).take (i + 1)).foldl leastR r0 = leastR (((r0 :: rs).take i).foldl leastR r0) r := by
        rw [take_next hr1, List.foldl_append]
        rfl
      refine z_if1 (σ := [some v_r, some vt, some v]) (b_test (d_lt (d_call (ds_cons (d_var ⟨_, rfl, hv⟩) (ds_cons (d_var ⟨_, rfl, hvt⟩) ds_nil)) rfl ⟨_, _, rfl, hok _ (List.mem_of_getElem? hr1), hz, rfl⟩) d_int)) (fun c H2 e3 => ?_) (fun c H2 e3 => z_next (kD _ _ e3 ⟨_, _, rfl, ?_⟩))
      · refine z_set1 (K := K) (σ := [some v_r, some vt, some v]) (d_var ⟨_, rfl, dp_grow e3 _ _ hv⟩) fun v3 H3 e4 h3 => kD _ _ (e3.trans e4) ⟨_, _, rfl, ?_⟩
        rw [nx, leastR_yes (cmp_lt c)]
        exact h3
      · rw [nx, leastR_no (cmp_nlt c)]
        exact dp_grow e3 _ _ hvt
    · obtain ⟨vt, x2, rfl, hvt⟩ := p
      rw [List.length_map, List.take_length] at hvt
      exact z_ret (K := K) (σ := [some v_r, some vt, x2]) (d_var ⟨_, rfl, hvt⟩) fun v H2 e3 h3 => k v _ ((e.trans e2).trans e3) h3

abbrev s_greatest_of : Stmt := topS 24
abbrev N_greatest_of : List Str := ["ratios", "greatest", "one"]
theorem sc_greatest_of : FnScope N_greatest_of ["ratios"] (defScope s_greatest_of) := ⟨rfl, rfl, rfl, by decide +kernel, rfl, by decide +kernel, by decide +kernel⟩
theorem ok_greatest_of {f : Addr} {fd : FuncData} (F : Fun K "greatest_of" "greatest_of" s_greatest_of f fd) (D_compare : Def P w K mg base CX0 1 "compare" ["one", "other"] (spD K 2 fCmpR)) : FnOk P w K mg base CX0 2 f fd ["ratios"] (spD K 1 (fPickR mostR)) := by
  refine F.ok sc_greatest_of (fun vs H Q E h => ?_) (fun cdv A outer s H vs Q E hr h => ?_)
  · obtain ⟨ds, d, hl, hd, _⟩ := h
    exact (dps_len hd).trans hl
  · obtain ⟨ds, d, hl, hd, hf, k⟩ := h
    obtain ⟨b, r0, rs, rfl, hok, rfl⟩ := hf
    obtain ⟨v_r, vs, rfl, h_r, hd⟩ := dps_cons hd
    obtain rfl := dps_nil hd
    refine ⟨_, (pss_cons (ps_set (i := 1) sc_greatest_of.nd rfl (Or.inl rfl) (pe_alt (pe_ix (r := rIxT K) ix_tup (pv 0) pe_int (fun _ _ => rfl)) (pe_ix (r := rIxL K) ix_list (pv 0) pe_int (fun _ _ => rfl))))
    (pss_cons (ps_for PassesOwn.never rfl (pi_alt (pi_list (pv 0)) (pi_tup (pv 0))) (pg_name (i := 2) sc_greatest_of.nd rfl (Or.inl rfl)) (pss_one (ps_if (pt_cmpR op_gt (pe_dcall D_compare (hr.mono (by decide)) pass0 (pa_cons (pv 2) (pa_cons (pv 1) pa_nil))) pe_int (nomark _)) (pss_one (ps_set (i := 1) sc_greatest_of.nd rfl (Or.inl rfl) (pv 2))) pss_nil)))
    (pss_one (ps_ret (pv 1))))), ?_⟩
    refine z_set (K := K) (σ := [some v_r, none, none]) (d := ratR r0) (d_ixS (d_var ⟨_, rfl, h_r⟩) d_int at0) fun v_l H1 e h_l => ?_
    replace h_r := dp_grow e _ _ h_r
    refine z_forS (σ := [some v_r, some v_l, none]) (d_var ⟨_, rfl, h_r⟩) (fun i σ' H' => ∃ vt x2, σ' = [some v_r, some vt, x2] ∧ Dp K H' vt (ratR (((r0 :: rs).take i).foldl mostR r0))) (fun H2 e2 => ⟨_, _, rfl, dp_grow e2 _ _ h_l⟩) (fun i d v σ' H' D' hd e2 p hv hrt kD => ?_) (fun σ' H' e2 p => ?_)
    · obtain ⟨vt, x2, rfl, hvt⟩ := p
      rw [List.getElem?_map] at hd
      obtain ⟨r, hr1, rfl⟩ := Option.map_eq_some_iff.mp hd
      have hm := pick_mem (op := mostR) (fun a b => by unfold mostR; split <;> first | exact .inr rfl | exact .inl rfl) ((r0 :: rs).take i) r0
      have hz : Sz B (((r0 :: rs).take i).foldl mostR r0) := by
        rcases List.mem_cons.mp hm with m | m
        · rw [m]
          exact hok _ List.mem_cons_self
        · exact hok _ (List.mem_of_mem_take m)
      have nx : ((r0 :: rs).take (i + 1)).foldl mostR r0 = mostR (((r0 :: rs).take i).foldl mostR r0) r := by
        rw [take_next hr1, List.foldl_append]
        rfl
      refine z_if1 (σ := [some v_r, some vt, some v]) (b_test (d_gt (d_call (ds_cons (d_var ⟨_, rfl, hv⟩) (ds_cons (d_var ⟨_, rfl, hvt⟩) ds_nil)) rfl ⟨_, _, rfl, hok _ (List.mem_of_getElem? hr1), hz, rfl⟩) d_int)) (fun c H2 e3 => ?_) (fun c H2 e3 => z_next (kD _ _ e3 ⟨_, _, rfl, ?_⟩))
      · refine z_set1 (K := K) (σ := [some v_r, some vt, some v]) (d_var ⟨_, rfl, dp_grow e3 _ _ hv⟩) fun v3 H3 e4 h3 => kD _ _ (e3.trans e4) ⟨_, _, rfl, ?_⟩
        rw [nx, mostR_yes (cmp_gt c)]
        exact h3
      · rw [nx, mostR_no (cmp_ngt c)]
        exact dp_grow e3 _ _ hvt
    · obtain ⟨vt, x2, rfl, hvt⟩ := p
      rw [List.length_map, List.take_length] at hvt
      exact z_ret (K := K) (σ := [some v_r, some vt, x2]) (d_var ⟨_, rfl, hvt⟩) fun v H2 e3 h3 => k v _ ((e.trans e2).trans e3) h3
end
end K01
/-! Defs over data that may raise one own class with one field. -/
namespace Dat
open PySem L2 Evl
/-- what an __init__ of the class at C promises that stores its one argument under this name -/
def spI (C : Addr) (n : Str) : Sp := fun vs H Q _ => ∃ (a : Addr) (u : V), vs = [.ref a, u] ∧ H a = some (exo a C none) ∧
  ∀ (d : Addr) (fs : List (Str × V)) (H' : Hp), H d = none → H' a = some (exo a C (some d)) → H' d = some (exd d fs) → (∀ b, b ≠ a → b ≠ d → H' b = H b) → fs.lookup n = some u → Q .non H'
/-- an own class of exceptions with one field -/
structure Cl1 (P : Program) (w : World) (K : PySem.W.Frag) (mg : Str → Option Value) (base : Heap) (x : Str) (C : Addr) (n : Str) : Prop where
  o : OexC K C
  xf : XfC K C
  gC : mg x = some (.ref C)
  no : PySem.W.findIn K (.ref C) n = some none
  te : PySem.W.exmOne K (.ref C) (.ref C) = some true
  made : ∃ (fI : Addr) (fd : FuncData), PySem.W.findIn K (.ref C) "__init__" = some (some (.ref fI)) ∧ PySem.W.typeIn K (.ref fI) = some (.type "function") ∧ FnOk P w K mg base CX0 1 fI fd ["self", n] (spI C n) ∧ Binds K fd ["self", n] []
/-- as spD, or a raise of the class at C whose field n is a text -/
def spE (K : PySem.W.Frag) (C : Addr) (m : Str) (n : Nat) (f : List PyData → PyData → Prop) (g : List PyData → Str → Prop) : Sp := fun vs H Q E => ∃ ds, ds.length = n ∧ DpAll K H vs ds ∧
  ((∃ d, f ds d ∧ ∀ v H', Ex H H' → Dp K H' v d → Q v H') ∨
    ∃ y : Str, g ds y ∧ ∀ d fs H', Ex H H' → H' d = some (.xd fs) → fs.lookup m = some (.str y) → E (.ref C) (some d) H')
section
variable {X : Cx}
/-- C(e) on its way to be raised -/
theorem pmk_c1 {e : Expr} {es : List Expr} {ta : TA} {p pos : Pos} {x n : Str} {C : Addr} (D : Cl1 X.prog X.w X.K X.mg X.base x C n) (hr : Room 2 X.A) (ha : PA X (e :: es) ta) (hg : Gl X x := by rfl)
    (hdb : (x == ("__debug__" : Str)) = false := by decide) (he : starEach (e :: es) X.env = (false, eval e X.env) :: starEach es X.env := by rfl) (hpl : (backTo pos (starEach es X.env)).any (·.1) = false := by rfl) :
    PMk X (.Call (.Name x p) (e :: es) [] pos) (tMkO C (spI C n) [] ta) := by
  obtain ⟨fI, fd, iC, tI, F1, hb⟩ := D.made
  exact pmk_oex D.o iC tI F1 hr hb .nil pass0 hg D.gC ha hdb he hpl
variable {CX : CXT} {k : Nat} {ps : List Str} {sp : Sp} {E : L2.St → XK} {x : Str} {p pos : Pos} {e : Expr} {es : List Expr} {t : TA}
/-- a call in a try -/
theorem pe_dcallS (D : DefV X.prog X.w X.K X.mg X.base CX k x ps [] sp) (hr : Room k X.A) (hx : ∀ σ, PassesAt CX X σ (E σ)) (ha : PA X (e :: es) t) (hg : Gl X x := by rfl)
    (hdb : (x == ("__debug__" : Str)) = false := by decide) (he : starEach (e :: es) X.env = (false, eval e X.env) :: starEach es X.env := by rfl) (hpl : (backTo pos (starEach es X.env)).any (·.1) = false := by rfl) :
    PE X (.Call (.Name x p) (e :: es) [] pos) (tCallS sp E t) := by
  obtain ⟨f, fd, ds, F, hm, hk, hb, hv⟩ := D.ex
  cases hv
  exact pe_callS F hr hg hm hk hb hx ha hdb he hpl
end
section
variable {K : PySem.W.Frag} {σ : L2.St} {H : Hp} {D : Ends} {te : TE} {ta : TA} {ds : List PyData} {d : PyData}
/-- raise C('word') -/
theorem x_raise {C : Addr} {n : Str} {W : WX} {y : Str} (k : ∀ d fs H', Ex H H' → H' d = some (.xd fs) → fs.lookup n = some (.str y) → W (.ref C) (some d) σ H') :
    tMkO C (spI C n) [] (tCons (tC (.str y)) tNil) σ H (fun cls d H' => W cls d σ H') := by
  refine ⟨by show 1 ≤ 1000; decide, fun a ha => ⟨a, .str y, rfl, upd_same, fun d fs H' hd h1 h2 h3 h4 => ⟨rfl, d, fs, h1, h2, ?_, ?_⟩⟩⟩
  · have nda : d ≠ a := fun z => by
      rw [z, upd_same] at hd
      cases hd
    rw [upd_ne nda] at hd
    exact hd
  · have nda : d ≠ a := fun z => by
      rw [z, upd_same] at hd
      cases hd
    have hd2 : H d = none := by
      rw [upd_ne nda] at hd
      exact hd
    refine k d fs _ (fun b o hb => ?_) upd_same h4
    have nb : b ≠ a := ne_of_none hb ha
    have nd : b ≠ d := ne_of_none hb hd2
    rw [upd_ne nd]
    show del H' a b = some o
    unfold del
    rw [if_neg nb, h3 b nb nd, upd_ne nb]
    exact hb
/-- a call that does not raise -/
theorem d_callE {C : Addr} {m : Str} {n : Nat} {f : List PyData → PyData → Prop} {g : List PyData → Str → Prop} {E : XK} {dvs : List V} {es : List PyData} (h : EvDs K ta σ H ds) (hv : ∀ H, DpAll K H dvs es) (hl : (ds ++ es).length = n) (hf : f (ds ++ es) d) :
    EvD K (tCall (spE K C m n f g) dvs E ta) σ H d := fun H1 x Q k =>
  h H1 x _ fun vs H2 x2 hvs => ⟨ds ++ es, hl, dps_app hvs (hv H2), .inl ⟨d, hf, fun v H' x' hv => k v H' (x2.trans x') hv⟩⟩
end
end Dat
namespace K01
open PySem L2 Evl Dat
section
variable {P : Program} {w : World} {K : PySem.W.Frag} {mg : Str → Option Value} {base : Heap}
abbrev s_i_BadRatio : Stmt := inClass (topS 3) 0
theorem sc_i_BadRatio : FnScope ["self", "what"] ["self", "what"] (defScope s_i_BadRatio) := ⟨rfl, rfl, rfl, by decide +kernel, rfl, by decide +kernel, by decide +kernel⟩
theorem ok_i_BadRatio {f C : Addr} {fd : FuncData} (F : Fun K "__init__" "BadRatio.__init__" s_i_BadRatio f fd) (T : OexC K C) (n0 : PySem.W.findIn K (.ref C) "what" = some none) : FnOk P w K mg base CX0 1 f fd ["self", "what"] (spI C "what") := by
  refine F.ok sc_i_BadRatio (fun vs H Q E h => ?_) (fun cdv A outer s H vs Q E hr h => ?_)
  · obtain ⟨a, u, rfl, _⟩ := h
    rfl
  · obtain ⟨a, u, rfl, ha, k⟩ := h
    refine ⟨_, (pss_one (ps_ost (pv 0) (pv 1))), ?_⟩
    exact ⟨_, rfl, _, rfl, a, C, rfl, T, n0, .inl ⟨ha, fun d hd da => k d [(("what" : Str), u)] _ hd upd_same ((upd_ne da).trans upd_same) (fun b h1 h2 => (upd_ne h1).trans (upd_ne h2)) (by simp [List.lookup])⟩⟩
abbrev s_make_ratio : Stmt := topS 11
abbrev N_make_ratio : List Str := ["top", "bottom"]
theorem sc_make_ratio : FnScope N_make_ratio ["top", "bottom"] (defScope s_make_ratio) := ⟨rfl, rfl, rfl, by decide +kernel, rfl, by decide +kernel, by decide +kernel⟩
/-- what make_ratio returns -/
def fMake (ds : List PyData) (d : PyData) : Prop := fLowest ds d
/-- why make_ratio raises -/
def gMake (ds : List PyData) (y : Str) : Prop := ∃ a b, ds = [a, b] ∧ ((wh a = false ∧ y = "top") ∨ (wh a = true ∧ wh b = false ∧ y = "bottom") ∨ (wh a = true ∧ b = .int 0 ∧ y = "bottom"))
end
end K01
namespace Dat
open PySem L2 Evl
theorem z_nx {u : TS} {D0 D : Ends} {σ : L2.St} {H : Hp} (h : u D0 σ H) : tNext { D with nx := u D0 } σ H := h
end Dat
namespace K01
open PySem L2 Evl Dat
/-- why make_ratio raises -/
def gMake2 (ds : List PyData) (y : Str) : Prop := ∃ a b, ds = [a, b] ∧ ((wholeIn a .none .none = false ∧ y = "top") ∨ (wholeIn a .none .none = true ∧ wholeIn b .none .none = false ∧ y = "bottom") ∨ (wholeIn a .none .none = true ∧ b = .int 0 ∧ y = "bottom"))
abbrev spMakeR (K : PySem.W.Frag) (C : Addr) : Sp := spE K C "what" 2 fMake gMake2
section
variable {P : Program} {w : World} {K : PySem.W.Frag} {mg : Str → Option Value} {base : Heap}
theorem ok_make_ratio {f C : Addr} {fd : FuncData} {dvs : List V} (F : FunV K "make_ratio" s_make_ratio dvs f fd) (T : Bl mg) (TC : Cl1 P w K mg base "BadRatio" C "what") (D_w1 : DW P w K mg base [.non, .non])
    (D_lowest : Def P w K mg base CX0 1 "_lowest" ["top", "bottom"] (spD K 2 fLowest)) : FnOk P w K mg base (L2.CX P w) 3 f fd ["top", "bottom"] (spMakeR K C) := by
  refine F.ok sc_make_ratio (fun vs H Q E h => ?_) (fun cdv A outer s H vs Q E hr h => ?_)
  · obtain ⟨ds, hl, hd, _⟩ := h
    exact (dps_len hd).trans hl
  · have hr2 : Room 2 _ := hr.mono (by decide)
    refine ⟨_, (pss_cons (ps_if (pt_not (pt_val (pe_dcallV D_w1 (hr.mono (by decide)) pass0 (pa_cons (pv 0) pa_nil)))) (pss_one (ps_raise rfl (takes_of rfl rfl rfl rfl) (pmk_c1 TC hr2 (pa_cons pe_str pa_nil)))) pss_nil)
      (pss_cons (ps_if (PW.pt (pw_or (pt_not (pt_val (pe_dcallV D_w1 (hr.mono (by decide)) pass0 (pa_cons (pv 1) pa_nil)))) (pw_or1 (pt_cmpR op_eq (pv 1) pe_int (nomark _))))) (pss_one (ps_raise rfl (takes_of rfl rfl rfl rfl) (pmk_c1 TC hr2 (pa_cons pe_str pa_nil)))) pss_nil)
      (pss_one (ps_ret (pe_dcall D_lowest (hr.mono (by decide)) pass0 (pa_cons (pv 0) (pa_cons (pv 1) pa_nil))))))), ?_⟩
    obtain ⟨ds, hl, hd, h⟩ := h
    have ew : ∀ {a : PyData} {σ : L2.St} {H : Hp} {i : Nat}, Sl K σ H i a → EvB (tNot (tB (tCall (spD K 3 fWhole) [.non, .non] E0 (tCons (tVar i) tNil)))) σ H (!wholeIn a .none .none) := fun s =>
      b_not (b_val (d_callV (ds_cons (d_var s) ds_nil) (fun _ => .cons .non (.cons .non .nil)) rfl ⟨_, _, _, rfl, .inl rfl, .inl rfl, rfl⟩))
    rcases h with ⟨d, hf, k⟩ | ⟨y, hg, k⟩
    · obtain ⟨t, b, rfl, b0, bb, rfl⟩ := hf
      obtain ⟨v_top, vs, rfl, h_top, hd⟩ := dps_cons hd
      obtain ⟨v_bottom, vs, rfl, h_bottom, hd⟩ := dps_cons hd
      obtain rfl := dps_nil hd
      refine z_if (σ := [some (v_top), some (v_bottom)]) (ew ⟨_, rfl, h_top⟩) (fun c H1 e => by cases c) (fun c H1 e => ?_)
      replace h_top := dp_grow e _ _ h_top
      replace h_bottom := dp_grow e _ _ h_bottom
      have ex := e
      refine z_nx ?_
      refine z_if (σ := [some (v_top), some (v_bottom)]) (b_or (ew (i := 1) ⟨v_bottom, rfl, h_bottom⟩) (fun c_0 => b_test (d_eqI (d_var (i := 1) ⟨v_bottom, rfl, h_bottom⟩) d_int))) (fun c H1 e => ?_) (fun c H1 e => ?_)
      · exfalso
        have z : decide (b = 0) = true := c
        exact b0 (of_decide_eq_true z)
      · replace h_top := dp_grow e _ _ h_top
        replace h_bottom := dp_grow e _ _ h_bottom
        replace ex := ex.trans e
        refine z_nx ?_
        refine z_ret (K := K) (σ := [some (v_top), some (v_bottom)]) (d_call (ds_cons (d_var ⟨_, rfl, h_top⟩) (ds_cons (d_var ⟨_, rfl, h_bottom⟩) ds_nil)) rfl ⟨t, b, rfl, b0, bb, rfl⟩) fun v H1 e h => ?_
        exact k v _ (ex.trans e) h
    · obtain ⟨a, b, rfl, hg⟩ := hg
      obtain ⟨v_top, vs, rfl, h_top, hd⟩ := dps_cons hd
      obtain ⟨v_bottom, vs, rfl, h_bottom, hd⟩ := dps_cons hd
      obtain rfl := dps_nil hd
      refine z_if (σ := [some (v_top), some (v_bottom)]) (ew ⟨_, rfl, h_top⟩) (fun c H1 e => ?_) (fun c H1 e => ?_)
      · have ca : wholeIn a .none .none = false := by simpa using c
        have ey : y = "top" := by
          rcases hg with ⟨_, h⟩ | ⟨h, _⟩ | ⟨h, _⟩
          · exact h
          · rw [ca] at h; cases h
          · rw [ca] at h; cases h
        subst ey
        exact x_raise (W := fun cls d _ H => E cls d H) fun d fs H' e' h1 h2 => k d fs H' (e.trans e') h1 h2
      · have ca : wholeIn a .none .none = true := by simpa using c
        replace h_bottom := dp_grow e _ _ h_bottom
        have ex := e
        refine z_nx ?_
        have ey : y = "bottom" := by
          rcases hg with ⟨h, _⟩ | ⟨_, _, h⟩ | ⟨_, _, h⟩
          · rw [ca] at h; cases h
          · exact h
          · exact h
        subst ey
        by_cases hb : wholeIn b .none .none = true
        · have eb : b = .int 0 := by
            rcases hg with ⟨h, _⟩ | ⟨_, h, _⟩ | ⟨_, h, _⟩
            · rw [ca] at h; cases h
            · rw [hb] at h; cases h
            · exact h
          subst eb
          refine z_if (b := true) (σ := [some (v_top), some (v_bottom)]) (b_or (b := true) (ew (i := 1) ⟨v_bottom, rfl, h_bottom⟩) (fun c_0 => b_test (d_is (d_eqI (d_var (i := 1) ⟨v_bottom, rfl, h_bottom⟩) d_int) rfl))) (fun c H1 e => ?_) (fun c H1 e => by cases c)
          exact x_raise (W := fun cls d _ H => E cls d H) fun d fs H' e' h1 h2 => k d fs H' ((ex.trans e).trans e') h1 h2
        · have hb' : wholeIn b .none .none = false := by simpa using hb
          refine z_if (b := true) (σ := [some (v_top), some (v_bottom)]) (b_is (b_or (b := true) (ew (i := 1) ⟨v_bottom, rfl, h_bottom⟩) (fun c_0 => by rw [hb'] at c_0; cases c_0)) (by rw [hb']; rfl)) (fun c H1 e => ?_) (fun c H1 e => by cases c)
          exact x_raise (W := fun cls d _ H => E cls d H) fun d fs H' e' h1 h2 => k d fs H' ((ex.trans e).trans e') h1 h2
end
end K01
namespace K01
open PySem L2 Evl Dat
def fOverR (ds : List PyData) (d : PyData) : Prop := ∃ x y : Rat, ds = [ratR x, ratR y] ∧ Sz B x ∧ Sz B y ∧ y.num ≠ 0 ∧ d = lowest (x.num * y.den) (x.den * y.num)
def gOver (ds : List PyData) (y : Str) : Prop := ∃ x : Rat, ds = [ratR x, .tuple [.int 0, .int 1]] ∧ y = "zero"
abbrev spOver (K : PySem.W.Frag) (C : Addr) : Sp := spE K C "what" 2 fOverR gOver
section
variable {P : Program} {w : World} {K : PySem.W.Frag} {mg : Str → Option Value} {base : Heap}
abbrev s_over : Stmt := topS 17
abbrev N_over : List Str := ["one", "other"]
theorem sc_over : FnScope N_over ["one", "other"] (defScope s_over) := ⟨rfl, rfl, rfl, by decide +kernel, rfl, by decide +kernel, by decide +kernel⟩
theorem ok_over {f C : Addr} {fd : FuncData} (F : Fun K "over" "over" s_over f fd) (T : Bl mg) (TC : Cl1 P w K mg base "BadRatio" C "what")
    (D_lowest : Def P w K mg base CX0 1 "_lowest" ["top", "bottom"] (spD K 2 fLowest)) : FnOk P w K mg base (L2.CX P w) 3 f fd ["one", "other"] (spOver K C) := by
  refine F.okX sc_over (fun vs H Q E h => ?_) (fun cdv A outer s H vs Q E hr h => ?_)
  · obtain ⟨ds, hl, hd, _⟩ := h
    exact (dps_len hd).trans hl
  · have hr2 : Room 2 _ := hr.mono (by decide)
    refine ⟨_, (pss_cons (ps_if (pt_cmpR op_eq (pe_ix (r := rIxT K) ix_tup (pv 1) pe_int (fun _ _ => rfl)) pe_int (nomark _)) (pss_one (ps_raise rfl (takes_of rfl rfl rfl rfl) (pmk_c1 TC hr2 (pa_cons pe_str pa_nil)))) pss_nil)
      (pss_one (ps_ret (pe_dcall D_lowest (hr.mono (by decide)) pass0 (pa_cons (pe_op op_mulW (pe_ix (r := rIxT K) ix_tup (pv 0) pe_int (fun _ _ => rfl)) (pe_ix (r := rIxT K) ix_tup (pv 1) pe_int (fun _ _ => rfl))) (pa_cons (pe_op op_mulW (pe_ix (r := rIxT K) ix_tup (pv 0) pe_int (fun _ _ => rfl)) (pe_ix (r := rIxT K) ix_tup (pv 1) pe_int (fun _ _ => rfl))) pa_nil)))))), ?_⟩
    obtain ⟨ds, hl, hd, h⟩ := h
    rcases h with ⟨d, hf, k⟩ | ⟨y, hg, k⟩
    · obtain ⟨x, y, rfl, ⟨bxn, bxd⟩, ⟨byn, byd⟩, y0, rfl⟩ := hf
      replace bxd : (x.den : Int).natAbs < 2 ^ B := bxd
      replace byd : (y.den : Int).natAbs < 2 ^ B := byd
      obtain ⟨v_one, vs, rfl, h_one, hd⟩ := dps_cons hd
      obtain ⟨v_other, vs, rfl, h_other, hd⟩ := dps_cons hd
      obtain rfl := dps_nil hd
      refine z_if (σ := [some (v_one), some (v_other)]) (b_test (d_eqI (d_ixT (d_var ⟨_, rfl, h_other⟩) d_int rfl) d_int)) (fun c H1 e => ?_) (fun c H1 e => ?_)
      · exact absurd (of_decide_eq_true c) y0
      · replace h_one := dp_grow e _ _ h_one
        replace h_other := dp_grow e _ _ h_other
        refine z_nx ?_
        refine z_ret (K := K) (σ := [some (v_one), some (v_other)]) (d_call (ds_cons (d_mul (d_ixT (d_var ⟨_, rfl, h_one⟩) d_int rfl) (d_ixT (d_var ⟨_, rfl, h_other⟩) d_int rfl) (wide_mul bxn byd (by decide) (by decide) (by decide))) (ds_cons (d_mul (d_ixT (d_var ⟨_, rfl, h_one⟩) d_int rfl) (d_ixT (d_var ⟨_, rfl, h_other⟩) d_int rfl) (wide_mul bxd byn (by decide) (by decide) (by decide))) ds_nil)) rfl ⟨_, _, rfl, mul_ne (by have := x.den_pos; omega) y0, small_mul bxd byn, rfl⟩) fun v H1 e2 h => ?_
        exact k v _ (e.trans e2) h
    · obtain ⟨x, rfl, rfl⟩ := hg
      obtain ⟨v_one, vs, rfl, h_one, hd⟩ := dps_cons hd
      obtain ⟨v_other, vs, rfl, h_other, hd⟩ := dps_cons hd
      obtain rfl := dps_nil hd
      refine z_if (b := true) (σ := [some (v_one), some (v_other)]) (b_test (d_is (d_eqI (d_ixT (d_var ⟨_, rfl, h_other⟩) d_int rfl) d_int) rfl)) (fun c H1 e => ?_) (fun c H1 e => by cases c)
      exact x_raise (W := fun cls d _ H => E cls d H) fun d fs H' e' h1 h2 => k d fs H' (e.trans e') h1 h2
end
end K01
namespace Dat
open PySem L2 Evl
section
variable {K : PySem.W.Frag} {σ : L2.St} {H : Hp} {te tb : TE}
theorem d_neS {x y : Str} (h : EvD K te σ H (.str x)) (r : EvD K tb σ H (.str y)) : EvD K (tOp rNe te tb) σ H (.bool (!decide (x = y))) := fun H1 x0 Q k =>
  h H1 x0 _ fun v H2 x2 hv => r H2 (x0.trans x2) _ fun w H3 x3 hw => by
    cases hv
    cases hw
    refine ⟨rfl, ?_⟩
    have z : decide (V.str x = V.str y) = decide (x = y) := by
      by_cases q : x = y
      · subst q
        rw [decide_eq_true rfl, decide_eq_true rfl]
      · rw [decide_eq_false q, decide_eq_false (fun z => q (V.str.inj z))]
    rw [z]
    exact k _ H3 (x2.trans x3) (.bl _)
/-- e.f in the suite -/
theorem d_xf {a C dd : Addr} {n y : Str} {fs : List (Str × V)} {i : Nat} (h1 : σ[i]? = some (some (.ref a))) (h2 : H dd = some (.xd fs)) (h3 : fs.lookup n = some (.str y)) : EvD K (tXf a (.ref C) (some dd) C n (tVar i)) σ H (.str y) := fun H1 x Q k =>
  ⟨_, h1, rfl, rfl, dd, fs, _, rfl, x _ _ h2, h3, k _ H1 (Ex.refl H1) (.str _)⟩
theorem x_drop {sp : Sp} {E : Ends → L2.St → XK} {ta : TA} {ts : TS} {D : Ends} {ds : List PyData} (h : EvDs K ta σ H ds) (k : ∀ vs H1, Ex H H1 → DpAll K H1 vs ds → sp vs H1 (fun _ H2 => ts D σ H2) (E { D with nx := ts D } σ)) :
    tSeq (fun D σ H => tDrop (tCallS sp (E D) ta) D σ H) ts D σ H := h H (Ex.refl H) _ k
end
end Dat
namespace K01
open PySem L2 Evl Dat
def fRefused (ds : List PyData) (d : PyData) : Prop := (∃ y, gMake2 ds y ∧ d = .str y) ∨ ((∃ r, fMake ds r) ∧ d = .str "let")
def fOverRefused (ds : List PyData) (d : PyData) : Prop := ∃ x : Rat, ds = [ratR x] ∧ d = .str "zero"
section
variable {P : Program} {w : World} {K : PySem.W.Frag} {mg : Str → Option Value} {base : Heap}
abbrev s_L_refused : Stmt := topS 43
abbrev N_L_refused : List Str := ["top", "bottom", "word", "e"]
theorem sc_L_refused : FnScope N_L_refused ["top", "bottom"] (defScope s_L_refused) := ⟨rfl, rfl, rfl, by decide +kernel, rfl, by decide +kernel, by decide +kernel⟩
theorem gm_word {ds : List PyData} {y : Str} (h : gMake2 ds y) : y = "top" ∨ y = "bottom" := by
  obtain ⟨a, b, rfl, ⟨_, h⟩ | ⟨_, _, h⟩ | ⟨_, _, h⟩⟩ := h
  · exact .inl h
  · exact .inr h
  · exact .inr h
theorem ok_L_refused {f C : Addr} {fd : FuncData} (F : Fun K "_law_refused" "_law_refused" s_L_refused f fd) (T : Bl mg) (TC : Cl1 P w K mg base "BadRatio" C "what")
    (D_make : DefV P w K mg base (L2.CX P w) 3 "make_ratio" ["top", "bottom"] [] (spMakeR K C)) : FnOk P w K mg base CX0 4 f fd ["top", "bottom"] (spD K 2 fRefused) := by
  refine F.ok sc_L_refused (fun vs H Q E h => ?_) (fun cdv A outer s H vs Q E hr h => ?_)
  · obtain ⟨ds, d, hl, hd, _⟩ := h
    exact (dps_len hd).trans hl
  · have hr3 : Room 3 _ := hr.mono (by decide)
    refine ⟨_, (pss_cons (ps_set (i := 2) sc_L_refused.nd rfl (Or.inl rfl) pe_str)
      (pss_cons (ps_try_as (i := 3) rfl rfl sc_L_refused.nd rfl rfl ⟨rfl, by decide, .inl TC.gC⟩ takes0
        (fun W pn xe tk _ => pss_one (ps_expr (pe_dcallS D_make hr3 (fun σ => passAt tk σ) (pa_cons (pv 0) (pa_cons (pv 1) pa_nil)))))
        (fun a oe cls d pn hz hf => pss_one (ps_set (i := 2) sc_L_refused.nd rfl (Or.inl rfl) (pe_ifExp (PW.pt (pw_and (pt_val (pe_callB (id := "isinstance") (r := rIsi K) call_isi (by rfl) T.b_isinstance (by decide +kernel) (pa_cons (pe_xf TC.xf TC.no hz hf (pv 3)) (pa_cons (pe_bltn (v := .ty "str") (by rfl) T.b_str (by decide +kernel) rfl) pa_nil)))) (pw_and1 (pt_cmpR op_ne (pe_xf TC.xf TC.no hz hf (pv 3)) pe_str (nomark _))))) (pe_xf TC.xf TC.no hz hf (pv 3)) pe_str))))
      (pss_one (ps_ret (pv 2))))), ?_⟩
    obtain ⟨ds, d, hl, hd, hf, k⟩ := h
    obtain ⟨a, b, rfl⟩ : ∃ a b, ds = [a, b] := by
      match ds, hl with
      | [a, b], _ => exact ⟨a, b, rfl⟩
    obtain ⟨v_top, vs, rfl, h_top, hd⟩ := dps_cons hd
    obtain ⟨v_bottom, vs, rfl, h_bottom, hd⟩ := dps_cons hd
    obtain rfl := dps_nil hd
    refine z_set (K := K) (σ := [some (v_top), some (v_bottom), none, none]) d_str fun v_word H1 e h' => ?_
    replace h_top := dp_grow e _ _ h_top
    replace h_bottom := dp_grow e _ _ h_bottom
    have ex := e
    refine ⟨_, rfl, _, rfl, [a, b], rfl, .cons h_top (.cons h_bottom .nil), ?_⟩
    rcases hf with ⟨y, hg, rfl⟩ | ⟨⟨r, hm⟩, rfl⟩
    · refine .inr ⟨y, hg, fun dd fs H2 e2 h1 h2 => ?_⟩
      refine ⟨true, TC.te, fun _ aa ha => ?_, fun q => Bool.noConfusion q⟩
      have hw := gm_word hg
      have hne : (!decide (y = ("let" : Str))) = true := by
        rcases hw with rfl | rfl <;> decide +kernel
      refine z_set1 (K := K) (d_if (b := true) (b_and (a := true) (b := true) (b_val (d_isi (d_xf rfl h1 h2) rfl)) (fun _ => b_test (K := K) (d_is (d_neS (d_xf rfl h1 h2) d_str) (by rw [hne])))) (fun _ => d_xf rfl h1 h2) (fun c => by cases c)) fun v H3 e3 hv => ?_
      refine z_ret (K := K) (σ := [some v_top, some v_bottom, some v, none]) (d_var ⟨_, rfl, hv⟩) fun v H4 e4 h => ?_
      exact k v _ (((ex.trans e2).trans e3).trans e4) h
    · refine .inl ⟨r, hm, fun v H2 e2 hv => ?_⟩
      refine z_ret (K := K) (σ := [some v_top, some v_bottom, some v_word, none]) (d_var ⟨_, rfl, dp_grow e2 _ _ h'⟩) fun v H4 e4 h => ?_
      exact k v _ ((ex.trans e2).trans e4) h
abbrev s_L_over_refused : Stmt := topS 44
abbrev N_L_over_refused : List Str := ["one", "word", "e"]
theorem sc_L_over_refused : FnScope N_L_over_refused ["one"] (defScope s_L_over_refused) := ⟨rfl, rfl, rfl, by decide +kernel, rfl, by decide +kernel, by decide +kernel⟩
theorem ok_L_over_refused {f C : Addr} {fd : FuncData} (F : Fun K "_law_over_refused" "_law_over_refused" s_L_over_refused f fd) (T : Bl mg) (TC : Cl1 P w K mg base "BadRatio" C "what")
    (D_over : DefV P w K mg base (L2.CX P w) 3 "over" ["one", "other"] [] (spOver K C)) : FnOk P w K mg base CX0 4 f fd ["one"] (spD K 1 fOverRefused) := by
  refine F.ok sc_L_over_refused (fun vs H Q E h => ?_) (fun cdv A outer s H vs Q E hr h => ?_)
  · obtain ⟨ds, d, hl, hd, _⟩ := h
    exact (dps_len hd).trans hl
  · have hr3 : Room 3 _ := hr.mono (by decide)
    refine ⟨_, (pss_cons (ps_set (i := 1) sc_L_over_refused.nd rfl (Or.inl rfl) pe_str)
      (pss_cons (ps_try_as (i := 2) rfl rfl sc_L_over_refused.nd rfl rfl ⟨rfl, by decide, .inl TC.gC⟩ takes0
        (fun W pn xe tk _ => pss_one (ps_expr (pe_dcallS D_over hr3 (fun σ => passAt tk σ) (pa_cons (pv 0) (pa_cons (pe_tup (pa_cons pe_int (pa_cons pe_int pa_nil))) pa_nil)))))
        (fun a oe cls d pn hz hf => pss_one (ps_set (i := 1) sc_L_over_refused.nd rfl (Or.inl rfl) (pe_ifExp (pt_val (pe_callB (id := "isinstance") (r := rIsi K) call_isi (by rfl) T.b_isinstance (by decide +kernel) (pa_cons (pe_xf TC.xf TC.no hz hf (pv 2)) (pa_cons (pe_bltn (v := .ty "str") (by rfl) T.b_str (by decide +kernel) rfl) pa_nil)))) (pe_xf TC.xf TC.no hz hf (pv 2)) pe_str))))
      (pss_one (ps_ret (pv 1))))), ?_⟩
    obtain ⟨ds, d, hl, hd, hf, k⟩ := h
    obtain ⟨x, rfl, rfl⟩ := hf
    obtain ⟨v_one, vs, rfl, h_one, hd⟩ := dps_cons hd
    obtain rfl := dps_nil hd
    refine z_set (K := K) (σ := [some (v_one), none, none]) d_str fun v_word H1 e h' => ?_
    replace h_one := dp_grow e _ _ h_one
    have ex := e
    have hargs : EvDs K (tCons (tVar 0) (tCons (tTup (tCons (tC (.int 0)) (tCons (tC (.int 1)) tNil))) tNil)) [some v_one, some v_word, none] H1 [ratR x, .tuple [.int 0, .int 1]] := ds_cons (d_var ⟨_, rfl, h_one⟩) (ds_cons (d_tup (ds_cons d_int (ds_cons d_int ds_nil)) (by show 2 ≤ 1000; decide)) ds_nil)
    refine x_drop (σ := [some v_one, some v_word, none]) hargs fun vs H1' e' hvs => ?_
    replace ex := ex.trans e'
    refine ⟨_, rfl, hvs, .inr ⟨"zero", ⟨x, rfl, rfl⟩, fun dd fs H2 e2 h1 h2 => ?_⟩⟩
    refine ⟨true, TC.te, fun _ aa ha => ?_, fun q => Bool.noConfusion q⟩
    refine z_set1 (K := K) (d_if (b := true) (b_val (d_isi (K := K) (d_xf rfl h1 h2) rfl)) (fun _ => d_xf rfl h1 h2) (fun c => by cases c)) fun v H3 e3 hv => ?_
    refine z_ret (K := K) (σ := [some v_one, some v, none]) (d_var ⟨_, rfl, hv⟩) fun v H4 e4 h => ?_
    exact k v _ (((ex.trans e2).trans e3).trans e4) h
end
end K01
namespace Dat
open PySem L2 Evl
section
variable {K : PySem.W.Frag} {σ : L2.St} {H : Hp} {te tb : TE}
/-- int(b) of a truth -/
theorem d_intB {b : Bool} (h : EvD K te σ H (.bool b)) : EvD K (tCB (fun xs H Q => (∃ i, xs = [.int i] ∧ Q (.int i) H) ∨ ∃ k, xs = [.bl k] ∧ Q (.int (if k then 1 else 0)) H) (tCons te tNil)) σ H (.int (if b then 1 else 0)) := fun H1 x Q k =>
  h H1 x _ fun v H2 x2 hv => by
    cases hv
    exact .inr ⟨b, rfl, k _ H2 x2 (.int _)⟩
theorem ratR_neg (y : Rat) : PyData.tuple [.int (-y.num), .int (y.den : Int)] = ratR (-y) := by
  show _ = PyData.tuple [.int (-y).num, .int ((-y).den : Int)]
  rw [Rat.neg_num, Rat.neg_den]
theorem floor_facts (x : Rat) (h : Sz 1400 x) : (x.num.fdiv x.den).natAbs < 2 ^ 1400 ∧ (x.num.fdiv x.den + 1).natAbs < 2 ^ B ∧ x.num.fdiv x.den * x.den ≤ x.num ∧ x.num < (x.num.fdiv x.den + 1) * x.den := by
  have d0 : (0 : Int) < x.den := by have := x.den_pos; omega
  have e : x.num.fdiv x.den = x.num / x.den := Int.fdiv_eq_ediv_of_nonneg _ (by omega)
  rw [e]
  have h1 : (x.num / (x.den : Int)).natAbs ≤ x.num.natAbs := Int.natAbs_ediv_le_natAbs _ _
  have h2 := h.1
  refine ⟨by omega, ?_, Int.ediv_mul_le _ (by omega), Int.lt_ediv_add_one_mul_self _ d0⟩
  have : (2 : Nat) ^ 1400 + 1 < 2 ^ B := by decide +kernel
  omega
end
end Dat
namespace K01
open PySem L2 Evl Dat
def fTwo (ds : List PyData) (d : PyData) : Prop := ∃ x y : Rat, ds = [ratR x, ratR y] ∧ Sz 1400 x ∧ Sz 1400 y ∧ d = .bool true
section
variable {P : Program} {w : World} {K : PySem.W.Frag} {mg : Str → Option Value} {base : Heap} {σ : L2.St} {H : Hp} {te tb : TE}
theorem d_same {E : XK} {a : PyData} (g : goodN 2 a = true) (h : EvD K te σ H a) (r : EvD K tb σ H a) : EvD K (tCall (spD K 2 (fSame 2)) [] E (tCons te (tCons tb tNil))) σ H (.bool true) :=
  d_call (ds_cons h (ds_cons r ds_nil)) rfl ⟨_, _, rfl, good_dep g, by rw [good_same g]⟩
theorem b_same {E : XK} {a : PyData} (g : goodN 2 a = true) (h : EvD K te σ H a) (r : EvD K tb σ H a) : EvB (tNot (tB (tCall (spD K 2 (fSame 2)) [] E (tCons te (tCons tb tNil))))) σ H false :=
  b_is (b_not (b_val (d_same g h r))) rfl
theorem b_nor {t u : TT} (h : EvB t σ H false) (r : EvB u σ H false) : EvB (tOr t u) σ H false := b_is (b_or (a := false) (b := false) h (fun _ => r)) rfl
abbrev s_L_two : Stmt := topS 45
abbrev N_L_two : List Str := ["a", "b", "low"]
theorem sc_L_two : FnScope N_L_two ["a", "b"] (defScope s_L_two) := ⟨rfl, rfl, rfl, by decide +kernel, rfl, by decide +kernel, by decide +kernel⟩
theorem ok_L_two {f C : Addr} {fd : FuncData} (F : Fun K "_law_two" "_law_two" s_L_two f fd) (T : Bl mg)
    (D_law_same : Def P w K mg base CX0 2 "_law_same" ["told", "due"] (spD K 2 (fSame 2))) (D_plus : Def P w K mg base CX0 2 "plus" ["one", "other"] (spD K 2 fPlusR)) (D_law_plus : Def P w K mg base CX0 2 "_law_plus" ["a", "b"] (spD K 2 fPlusR))
    (D_times : Def P w K mg base CX0 1 "times" ["one", "other"] (spD K 2 fTimesR)) (D_law_times : Def P w K mg base CX0 2 "_law_times" ["a", "b"] (spD K 2 fTimesR)) (D_minus : Def P w K mg base CX0 2 "minus" ["one", "other"] (spD K 2 fMinusR))
    (D_negative : Def P w K mg base CX0 1 "negative" ["one"] (spD K 1 fNegative)) (D_compare : Def P w K mg base CX0 1 "compare" ["one", "other"] (spD K 2 fCmpR)) (D_law_less : Def P w K mg base CX0 1 "_law_less" ["a", "b"] (spD K 2 fLessR))
    (D_size_of : Def P w K mg base CX0 1 "size_of" ["one"] (spD K 1 fSize)) (D_law_size : Def P w K mg base CX0 1 "_law_size" ["a"] (spD K 1 fSize)) (D_over : DefV P w K mg base (L2.CX P w) 3 "over" ["one", "other"] [] (spOver K C))
    (D_law_ratio : Def P w K mg base CX0 1 "_law_ratio" ["top", "bottom"] (spD K 2 fLowest)) (D_floor_of : Def P w K mg base CX0 1 "floor_of" ["one"] (spD K 1 fFloor)) (D_law_whole : Def P w K mg base CX0 1 "_law_whole" ["thing"] (spD K 1 fLWhole)) :
    FnOk P w K mg base CX0 4 f fd ["a", "b"] (spD K 2 fTwo) := by
  refine F.ok sc_L_two (fun vs H Q E h => ?_) (fun cdv A outer s H vs Q E hr h => ?_)
  · obtain ⟨ds, d, hl, hd, _⟩ := h
    exact (dps_len hd).trans hl
  · refine ⟨_, (pss_cons (ps_if (PW.pt (pw_or (pt_not (pt_val (pe_dcall D_law_same (hr.mono (by decide)) pass0 (pa_cons (pe_dcall D_plus (hr.mono (by decide)) pass0 (pa_cons (pv 0) (pa_cons (pv 1) pa_nil))) (pa_cons (pe_dcall D_law_plus (hr.mono (by decide)) pass0 (pa_cons (pv 0) (pa_cons (pv 1) pa_nil))) pa_nil))))) (pw_or1 (pt_not (pt_val (pe_dcall D_law_same (hr.mono (by decide)) pass0 (pa_cons (pe_dcall D_times (hr.mono (by decide)) pass0 (pa_cons (pv 0) (pa_cons (pv 1) pa_nil))) (pa_cons (pe_dcall D_law_times (hr.mono (by decide)) pass0 (pa_cons (pv 0) (pa_cons (pv 1) pa_nil))) pa_nil)))))))) (pss_one (ps_ret pe_bl)) pss_nil)
    (pss_cons (ps_if (PW.pt (pw_or (pt_not (pt_val (pe_dcall D_law_same (hr.mono (by decide)) pass0 (pa_cons (pe_dcall D_minus (hr.mono (by decide)) pass0 (pa_cons (pv 0) (pa_cons (pv 1) pa_nil))) (pa_cons (pe_dcall D_law_plus (hr.mono (by decide)) pass0 (pa_cons (pv 0) (pa_cons (pe_tup (pa_cons (pe_un un_neg (pe_ix (r := rIxT K) ix_tup (pv 1) pe_int (fun _ _ => rfl))) (pa_cons (pe_ix (r := rIxT K) ix_tup (pv 1) pe_int (fun _ _ => rfl)) pa_nil))) pa_nil))) pa_nil))))) (pw_or1 (pt_not (pt_val (pe_dcall D_law_same (hr.mono (by decide)) pass0 (pa_cons (pe_dcall D_negative (hr.mono (by decide)) pass0 (pa_cons (pv 1) pa_nil)) (pa_cons (pe_tup (pa_cons (pe_un un_neg (pe_ix (r := rIxT K) ix_tup (pv 1) pe_int (fun _ _ => rfl))) (pa_cons (pe_ix (r := rIxT K) ix_tup (pv 1) pe_int (fun _ _ => rfl)) pa_nil))) pa_nil)))))))) (pss_one (ps_ret pe_bl)) pss_nil)
    (pss_cons (ps_if (PW.pt (pw_or (pt_not (pt_val (pe_dcall D_law_same (hr.mono (by decide)) pass0 (pa_cons (pe_dcall D_compare (hr.mono (by decide)) pass0 (pa_cons (pv 0) (pa_cons (pv 1) pa_nil))) (pa_cons (pe_ifExp (pt_val (pe_dcall D_law_less (hr.mono (by decide)) pass0 (pa_cons (pv 0) (pa_cons (pv 1) pa_nil)))) (pe_un un_neg pe_int) (pe_callTy call_int1 (by rfl) T.b_int (by decide +kernel) (pa_cons (pe_dcall D_law_less (hr.mono (by decide)) pass0 (pa_cons (pv 1) (pa_cons (pv 0) pa_nil))) pa_nil))) pa_nil))))) (pw_or1 (pt_not (pt_val (pe_dcall D_law_same (hr.mono (by decide)) pass0 (pa_cons (pe_dcall D_size_of (hr.mono (by decide)) pass0 (pa_cons (pv 0) pa_nil)) (pa_cons (pe_dcall D_law_size (hr.mono (by decide)) pass0 (pa_cons (pv 0) pa_nil)) pa_nil)))))))) (pss_one (ps_ret pe_bl)) pss_nil)
    (pss_cons (ps_if (PW.pt (pw_and (pt_cmpR op_ne (pe_ix (r := rIxT K) ix_tup (pv 1) pe_int (fun _ _ => rfl)) pe_int (nomark _)) (pw_and1 (pt_not (pt_val (pe_dcall D_law_same (hr.mono (by decide)) pass0 (pa_cons (pe_dcallV D_over (hr.mono (by decide)) passL (pa_cons (pv 0) (pa_cons (pv 1) pa_nil))) (pa_cons (pe_dcall D_law_ratio (hr.mono (by decide)) pass0 (pa_cons (pe_op op_mulW (pe_ix (r := rIxT K) ix_tup (pv 0) pe_int (fun _ _ => rfl)) (pe_ix (r := rIxT K) ix_tup (pv 1) pe_int (fun _ _ => rfl))) (pa_cons (pe_op op_mulW (pe_ix (r := rIxT K) ix_tup (pv 0) pe_int (fun _ _ => rfl)) (pe_ix (r := rIxT K) ix_tup (pv 1) pe_int (fun _ _ => rfl))) pa_nil))) pa_nil)))))))) (pss_one (ps_ret pe_bl)) pss_nil)
    (pss_cons (ps_set (i := 2) sc_L_two.nd rfl (Or.inl rfl) (pe_dcall D_floor_of (hr.mono (by decide)) pass0 (pa_cons (pv 0) pa_nil)))
    (pss_one (ps_ret (pe_and (pe_dcall D_law_whole (hr.mono (by decide)) pass0 (pa_cons (pv 2) pa_nil)) (pe_and (pe_cmpR op_le (pe_op op_mulW (pv 2) (pe_ix (r := rIxT K) ix_tup (pv 0) pe_int (fun _ _ => rfl))) (pe_ix (r := rIxT K) ix_tup (pv 0) pe_int (fun _ _ => rfl)) (nomark _)) (pe_one (pe_cmpR op_lt (pe_ix (r := rIxT K) ix_tup (pv 0) pe_int (fun _ _ => rfl)) (pe_op op_mulW (pe_op op_add (pv 2) pe_int) (pe_ix (r := rIxT K) ix_tup (pv 0) pe_int (fun _ _ => rfl))) (nomark _)))))))))))), ?_⟩
    obtain ⟨ds, d, hl, hd, hf, k⟩ := h
    obtain ⟨x, y, rfl, sx, sy, rfl⟩ := hf
    have bx : Sz B x := sx.mono (by decide)
    have by_ : Sz B y := sy.mono (by decide)
    have bxn := bx.1
    have byn := by_.1
    have bxd : (x.den : Int).natAbs < 2 ^ B := bx.2
    have byd : (y.den : Int).natAbs < 2 ^ B := by_.2
    obtain ⟨v_a, vs, rfl, h_a, hd⟩ := dps_cons hd
    obtain ⟨v_b, vs, rfl, h_b, hd⟩ := dps_cons hd
    obtain rfl := dps_nil hd
    have gr : ∀ z : Rat, goodN 2 (ratR z) = true := fun _ => rfl
    have va : ∀ {H : Hp} {o : Option V}, Dp K H v_a (ratR x) → EvD K (tVar 0) [some v_a, some v_b, o] H (ratR x) := fun h => d_var ⟨_, rfl, h⟩
    have vb : ∀ {H : Hp} {o : Option V}, Dp K H v_b (ratR y) → EvD K (tVar 1) [some v_a, some v_b, o] H (ratR y) := fun h => d_var ⟨_, rfl, h⟩
    have vab : ∀ {H : Hp} {o : Option V}, Dp K H v_a (ratR x) → Dp K H v_b (ratR y) → EvDs K (tCons (tVar 0) (tCons (tVar 1) tNil)) [some v_a, some v_b, o] H [ratR x, ratR y] := fun h h' => ds_cons (va h) (ds_cons (vb h') ds_nil)
    have nb : ∀ {H : Hp} {o : Option V}, Dp K H v_b (ratR y) → EvD K (tTup (tCons (tUn (rU fun i => .int (-i)) (tOp (rIxT K) (tVar 1) (tC (.int 0)))) (tCons (tOp (rIxT K) (tVar 1) (tC (.int 1))) tNil))) [some v_a, some v_b, o] H (ratR (-y)) := fun h =>
      d_is (d_tup (ds_cons (d_neg (d_ixT (vb h) d_int rfl)) (ds_cons (d_ixT (vb h) d_int rfl) ds_nil)) (by show 2 ≤ 1000; decide)) (ratR_neg y)
    refine z_if (b := false) (σ := [some v_a, some v_b, none]) (b_nor (b_same (gr (x + y)) (d_call (vab h_a h_b) rfl ⟨x, y, rfl, bx, by_, rfl⟩) (d_call (vab h_a h_b) rfl ⟨x, y, rfl, bx, by_, rfl⟩))
      (b_same (gr (x * y)) (d_call (vab h_a h_b) rfl ⟨x, y, rfl, bx, by_, rfl⟩) (d_call (vab h_a h_b) rfl ⟨x, y, rfl, bx, by_, rfl⟩))) (fun c => by cases c) (fun _ H1 e1 => ?_)
    replace h_a := dp_grow e1 _ _ h_a
    replace h_b := dp_grow e1 _ _ h_b
    refine z_nx ?_
    refine z_if (b := false) (σ := [some v_a, some v_b, none]) (b_nor (b_same (gr (x - y)) (d_call (vab h_a h_b) rfl ⟨x, y, rfl, bx, by_, rfl⟩) (d_call (ds_cons (va h_a) (ds_cons (nb h_b) ds_nil)) rfl ⟨x, -y, rfl, bx, sz_neg by_, by rw [Rat.sub_eq_add_neg]⟩))
      (b_same (gr (-y)) (d_call (ds_cons (vb h_b) ds_nil) rfl ⟨_, _, rfl, (ratR_neg y).symm⟩) (nb h_b))) (fun c => by cases c) (fun _ H2 e2 => ?_)
    replace h_a := dp_grow e2 _ _ h_a
    replace h_b := dp_grow e2 _ _ h_b
    refine z_nx ?_
    refine z_if (b := false) (σ := [some v_a, some v_b, none]) (b_nor (b_same (a := .int (cmpR x y)) rfl (d_call (vab h_a h_b) rfl ⟨x, y, rfl, bx, by_, rfl⟩)
        (d_is (d_ite (b_val (d_call (vab h_a h_b) rfl ⟨x, y, rfl, bx, by_, rfl⟩)) (fun _ => d_neg d_int) (fun _ => d_intB (d_call (ds_cons (vb h_b) (ds_cons (va h_a) ds_nil)) rfl ⟨y, x, rfl, by_, bx, rfl⟩))) (by
          unfold cmpR
          by_cases c : x < y
          · rw [if_pos c, decide_eq_true c, if_pos rfl]
          · rw [if_neg c, decide_eq_false c, if_neg (by decide)]
            by_cases c2 : y < x
            · rw [if_pos c2, decide_eq_true c2]; rfl
            · rw [if_neg c2, decide_eq_false c2]; rfl)))
      (b_same (a := rat (x.num.natAbs : Int) x.den) rfl (d_call (ds_cons (va h_a) ds_nil) rfl ⟨_, _, rfl, rfl⟩) (d_call (ds_cons (va h_a) ds_nil) rfl ⟨_, _, rfl, rfl⟩))) (fun c => by cases c) (fun _ H3 e3 => ?_)
    replace h_a := dp_grow e3 _ _ h_a
    replace h_b := dp_grow e3 _ _ h_b
    refine z_nx ?_
    refine z_if (b := false) (σ := [some v_a, some v_b, none]) (b_is (b_and (b := false) (b_test (d_neI (d_ixT (vb h_b) d_int rfl) d_int)) (fun c => b_same (a := lowest (x.num * y.den) (x.den * y.num)) rfl (d_callE (vab h_a h_b) (fun _ => .nil) rfl ⟨x, y, rfl, bx, by_, of_decide_eq_true c, rfl⟩)
        (d_call (ds_cons (d_mul (d_ixT (va h_a) d_int rfl) (d_ixT (vb h_b) d_int rfl) (wide_mul bxn byd (by decide) (by decide) (by decide))) (ds_cons (d_mul (d_ixT (va h_a) d_int rfl) (d_ixT (vb h_b) d_int rfl) (wide_mul bxd byn (by decide) (by decide) (by decide))) ds_nil)) rfl ⟨_, _, rfl, mul_ne (by have := x.den_pos; omega) (of_decide_eq_true c), small_mul bxd byn, rfl⟩))) (Bool.and_false _)) (fun c => by cases c) (fun _ H4 e4 => ?_)
    replace h_a := dp_grow e4 _ _ h_a
    replace h_b := dp_grow e4 _ _ h_b
    refine z_nx ?_
    have x0 : (x.den : Int) ≠ 0 := by have := x.den_pos; omega
    refine z_set (K := K) (σ := [some v_a, some v_b, none]) (d_call (ds_cons (va h_a) ds_nil) rfl ⟨_, _, rfl, x0, bxd, rfl⟩) fun v_low H5 e5 h_low => ?_
    replace h_a := dp_grow e5 _ _ h_a
    replace h_b := dp_grow e5 _ _ h_b
    obtain ⟨l1, l2, l3, l4⟩ := floor_facts x sx
    have vl : EvD K (tVar 2) [some v_a, some v_b, some v_low] H5 (.int (x.num.fdiv x.den)) := d_var ⟨_, rfl, h_low⟩
    refine z_ret (K := K) (σ := [some v_a, some v_b, some v_low]) (d_and (b := true) (d_call (ds_cons vl ds_nil) rfl ⟨_, rfl, rfl⟩) (fun _ => d_and (a := true) (b := true) (d_is (d_le (d_mul vl (d_ixT (va h_a) d_int rfl) (wide_mul l1 bxd (by decide) (by decide) (by decide))) (d_ixT (va h_a) d_int rfl)) (by rw [decide_eq_true l3]))
      (fun _ => d_is (d_lt (d_ixT (va h_a) d_int rfl) (d_mul (d_add vl d_int) (d_ixT (va h_a) d_int rfl) (wide_mul l2 bxd (by decide) (by decide) (by decide)))) (by rw [decide_eq_true l4])))) fun v H6 e6 h => ?_
    exact k v _ (((((e1.trans e2).trans e3).trans e4).trans e5).trans e6) h
end
end K01
/-! Texts of numbers and ratios, as lists of codes. -/
namespace Dat
open PySem SX
/-- the codes of a whole number's text -/
def numI (p : Int) : List Nat := if p < 0 then 45 :: TL.numL p.natAbs else TL.numL p.natAbs
theorem str_int (p : Int) : Str.ofString (toString p) = S (numI p) := by
  unfold numI
  by_cases h : p < 0
  · rw [if_pos h]
    obtain ⟨m, rfl⟩ : ∃ m : Nat, p = Int.negSucc m := by
      cases p with
      | ofNat n => exact absurd h (by simp only [Int.ofNat_eq_natCast]; omega)
      | negSucc m => exact ⟨m, rfl⟩
    refine TL.ext_tl ?_
    show (Str.ofString ("-" ++ (m.succ).repr)).cps.toList = 45 :: TL.numL (m + 1)
    rw [PyProof.Rows.signs_ofString, String.toList_append, List.map_append]
    show [45] ++ _ = _
    have e := TL.tl_num (m + 1)
    have e2 : TL.tl (Str.ofString (toString (((m + 1 : Nat)) : Int))) = (m.succ.repr).toList.map Char.toNat := PyProof.Rows.signs_ofString _
    rw [← e2, e]
    rfl
  · rw [if_neg h]
    obtain ⟨n, rfl⟩ := Int.eq_ofNat_of_zero_le (by omega : 0 ≤ p)
    exact num_S n
/-- all codes are figures, and there is one -/
def figs (l : List Nat) : Bool := !l.isEmpty && l.all fun c => decide (48 ≤ c) && decide (c ≤ 57)
theorem dig128 : ∀ c, c < 128 → Unicode.isDigit c = (decide (48 ≤ c) && decide (c ≤ 57)) := by decide +kernel
theorem figs_eq (l : List Nat) : (Txt.isascii (S l) && Txt.isdigit (S l)) = figs l := by
  unfold Txt.isascii Txt.isdigit figs
  have e0 : (S l).cps = l.toArray := rfl
  have e1 : (S l).length = l.length := S_len l
  rw [e1, e0, List.all_toArray, List.all_toArray]
  cases l with
  | nil => rfl
  | cons c r =>
    have e2 : (decide (0 < (c :: r).length)) = true := by simp
    have e3 : (decide ((c :: r).length > 0)) = true := by simp
    rw [e3, Bool.true_and]
    show _ = (true && _)
    rw [Bool.true_and]
    generalize (c :: r) = l
    induction l with
    | nil => rfl
    | cons d t ih =>
      rw [List.all_cons, List.all_cons, List.all_cons, ← ih]
      by_cases hd : d < 128
      · rw [decide_eq_true hd, dig128 d hd, Bool.true_and]
        cases (decide (48 ≤ d) && decide (d ≤ 57)) <;> simp
      · have h57 : ¬ d ≤ 57 := by omega
        rw [decide_eq_false hd, decide_eq_false h57]
        simp
theorem sub0 (a : List Nat) : Builtin.Str.subAt (S a) (S [45]) 0 = (a.head? == some 45) := by
  rw [StrLaws.subAt_eq]
  show (List.take 1 (List.drop 0 a) == [45]) = _
  cases a with
  | nil => rfl
  | cons c r =>
    show ([c] == [45]) = (some c == some 45)
    by_cases h : c = 45
    · subst h; rfl
    · have h1 : ([c] == [45]) = false := by simpa using h
      have h2 : (some c == some 45) = false := by simpa using h
      rw [h1, h2]
/-- without a minus ahead -/
def noMinus (a : List Nat) : List Nat := if a.head? = some 45 then a.drop 1 else a
theorem sw_S (a : List Nat) : Txt.startswith (S a) (S [45]) = decide (a.head? = some 45) := by
  unfold Txt.startswith
  rw [sub0, S_len, S_len]
  cases a with
  | nil => rfl
  | cons c r =>
    have : decide (0 + [45].length ≤ (c :: r).length) = true := by simp
    rw [this, Bool.true_and]
    by_cases h : c = 45
    · subst h; rfl
    · have h2 : ((c :: r).head? == some 45) = false := by simpa using h
      have h3 : ¬ (c :: r).head? = some 45 := by simpa using h
      rw [h2, decide_eq_false h3]
theorem rm_S (a : List Nat) : Txt.removeprefix (S a) (S [45]) = S (noMinus a) := by
  rw [StrLaws.removeprefix_eq, sub0, S_len, S_len]
  unfold noMinus
  cases a with
  | nil => rfl
  | cons c r =>
    have z : decide (0 + [45].length ≤ (c :: r).length) = true := by simp
    rw [z, Bool.true_and]
    by_cases h : c = 45
    · subst h
      have q1 : (((45 :: r).head? == some 45) = true) := rfl
      have q2 : (45 :: r).head? = some 45 := rfl
      rw [if_pos q1, if_pos q2]
      show S ((List.drop 1 (45 :: r)).take ((45 :: r).length - 1)) = S (List.drop 1 (45 :: r))
      simp
    · have h2 : ¬ ((c :: r).head? == some 45) = true := by simpa using h
      have h3 : ¬ (c :: r).head? = some 45 := by simpa using h
      rw [if_neg h2, if_neg h3]
theorem figs_all {l : List Nat} (h : figs l = true) : NumText.AllDigits l ∧ l ≠ [] := by
  unfold figs at h
  obtain ⟨h1, h2⟩ := Bool.and_eq_true_iff.mp h
  refine ⟨fun c hc => ?_, fun e => by subst e; cases h1⟩
  have := List.all_eq_true.mp h2 c hc
  obtain ⟨a, b⟩ := Bool.and_eq_true_iff.mp this
  exact ⟨of_decide_eq_true a, of_decide_eq_true b⟩
theorem figs_num (n : Nat) : figs (TL.numL n) = true := by
  unfold figs
  have h1 : (TL.numL n).isEmpty = false := by
    cases e : TL.numL n with
    | nil => exact absurd e (TL.numL_ne n)
    | cons _ _ => rfl
  rw [h1]
  show (true && _) = true
  rw [Bool.true_and, List.all_eq_true]
  intro c hc
  have := TL.numL_digits n c hc
  rw [decide_eq_true this.1, decide_eq_true this.2]
  rfl
theorem fold_lt : ∀ (l : List Nat) (a k : Nat), NumText.AllDigits l → a < 10 ^ k → l.foldl (fun acc c => acc * 10 + (c - 48)) a < 10 ^ (k + l.length)
  | [], a, k, _, h => h
  | c :: r, a, k, hd, h => by
    have hc := hd.head
    have := fold_lt r (a * 10 + (c - 48)) (k + 1) hd.tail (by rw [Nat.pow_succ]; omega)
    rw [List.foldl_cons, List.length_cons, show k + (r.length + 1) = k + 1 + r.length by omega]
    exact this
theorem val_lt (l : List Nat) (h : NumText.AllDigits l) : NumText.digitsVal l < 10 ^ l.length := by
  have := fold_lt l 0 0 h (by decide)
  rw [Nat.zero_add] at this
  exact this
/-- figures without a nought ahead are the text of their number -/
theorem num_val {c : Nat} {r : List Nat} (h : NumText.AllDigits (c :: r)) (h0 : 49 ≤ c) : TL.numL (NumText.digitsVal (c :: r)) = c :: r := by
  unfold TL.numL
  rw [NumText.toDigits_digitsVal r.length (c :: r) rfl h (.inr ⟨c, r, rfl, h0⟩), List.map_map]
  have : ∀ l : List Nat, NumText.AllDigits l → l.map (Char.toNat ∘ Char.ofNat) = l := by
    intro l
    induction l with
    | nil => intro _; rfl
    | cons d t ih =>
      intro h
      have hd := h.head
      rw [List.map_cons, ih h.tail]
      have e : (Char.toNat ∘ Char.ofNat) d = d := by
        have : ∀ d, d < 58 → Char.toNat (Char.ofNat d) = d := by decide
        exact this d (by omega)
      rw [e]
  exact this _ h
end Dat
namespace Dat
open PySem L2 Evl SX
/-- the codes of a ratio's text -/
def textR (p q : Int) : List Nat := if q = 1 then numI p else numI p ++ (47 :: numI q)
theorem numI_len {p : Int} {k : Nat} (hk : 0 < k) (h : p.natAbs < 10 ^ k) : (numI p).length ≤ k + 1 := by
  unfold numI
  have := TL.numL_len hk h
  by_cases c : p < 0
  · rw [if_pos c, List.length_cons]; omega
  · rw [if_neg c]; omega
theorem p1900 : (2 : Nat) ^ 1900 < 10 ^ 600 := by decide +kernel
theorem numI_small {p : Int} (h : p.natAbs < 2 ^ 1900) : (numI p).length ≤ 601 := numI_len (by decide) (Nat.lt_trans h p1900)
section
variable {K : PySem.W.Frag} {σ : L2.St} {H : Hp} {te tb : TE}
/-- str(n) -/
theorem d_strI {i : Int} (h : EvD K te σ H (.int i)) (hi : i.natAbs < 2 ^ 1900) : EvD K (tCB (fun xs H Q => ∃ i, xs = [.int i] ∧ i.natAbs.log2 < 1920 ∧ Q (.str (toString i)) H) (tCons te tNil)) σ H (.str (S (numI i))) := fun H1 x Q k =>
  h H1 x _ fun v H2 x2 hv => by
    cases hv
    refine ⟨i, rfl, Nat.lt_of_lt_of_le (PySem.Flt.log2_lt_of (by decide) hi) (by decide), ?_⟩
    show Q (.str (Str.ofString (toString i))) H2
    rw [str_int]
    exact k _ H2 x2 (.str _)
theorem len_line {a : Str} {n : Nat} (h : a.length ≤ n) (hn : n ≤ 100000 := by decide) : a.length ≤ sizeLine := by
  rw [sizeLine_eq]
  omega
/-- f'{a}/{b}' -/
theorem d_fslash {a b : Int} {y : Str} (hy : y = S [47]) (h : EvD K te σ H (.int a)) (r : EvD K tb σ H (.int b)) (ha : a.natAbs < 2 ^ 1900) (hb : b.natAbs < 2 ^ 1900) :
    EvD K (fun σ H Q => tJs [tFmt te, tC (.str y), tFmt tb] Str.empty σ H fun out H1 => Q (.str out) H1) σ H (.str (S (numI a ++ (47 :: numI b)))) := fun H1 x Q k => by
  refine h H1 x _ fun v H2 x2 hv => ?_
  cases hv
  have la := numI_small ha
  have lb := numI_small hb
  have ea : (Str.ofString (toString a)) = S (numI a) := str_int a
  have eb : (Str.ofString (toString b)) = S (numI b) := str_int b
  have e0 : Str.empty ++ Str.ofString (toString a) = S (numI a) := by
    rw [ea]
    exact S_cat [] (numI a)
  refine .inr ⟨a, rfl, Nat.lt_of_lt_of_le (PySem.Flt.log2_lt_of (by decide) ha) (by decide), Str.ofString (toString a), rfl, ?_, ?_⟩
  · rw [e0]
    exact len_line (n := 601) (by rw [S_len]; exact la)
  · rw [e0]
    refine ⟨y, rfl, ?_, ?_⟩
    · rw [hy, S_cat]
      exact len_line (n := 602) (by rw [S_len, List.length_append]; show _ + 1 ≤ _; omega)
    · rw [hy, S_cat]
      refine r H2 (x.trans x2) _ fun w H3 x3 hw => ?_
      cases hw
      refine .inr ⟨b, rfl, Nat.lt_of_lt_of_le (PySem.Flt.log2_lt_of (by decide) hb) (by decide), Str.ofString (toString b), rfl, ?_, ?_⟩
      · rw [eb, S_cat]
        exact len_line (n := 1203) (by rw [S_len, List.length_append, List.length_append]; show _ + 1 + _ ≤ _; omega)
      · rw [eb, S_cat, List.append_assoc]
        exact k _ H3 (x2.trans x3) (.str _)
/-- a text's method without arguments that answers with a truth -/
theorem d_m0 {g : Str → Bool} {a : Str} (h : EvD K te σ H (.str a)) : EvD K (tM0 (fun x xs H Q => ∃ a, x = .str a ∧ xs = [] ∧ True ∧ Q (.bl (g a)) H) te) σ H (.bool (g a)) := fun H1 x Q k =>
  h H1 x _ fun v H2 x2 hv => by
    cases hv
    exact ⟨⟨a, rfl⟩, a, rfl, rfl, trivial, k _ H2 x2 (.bl _)⟩
/-- int(x), x all figures -/
theorem d_intS {l : List Nat} (h : EvD K te σ H (.str (S l))) (hf : figs l = true) (hl : l.length ≤ 640) : EvD K (tCB (fun xs H Q => ∃ a n, xs = [.str a] ∧ PySem.intText? a = some n ∧ a.length ≤ 640 ∧ Q (.int n) H) (tCons te tNil)) σ H (.int (NumText.digitsVal l)) := fun H1 x Q k =>
  h H1 x _ fun v H2 x2 hv => by
    cases hv
    obtain ⟨h1, h2⟩ := figs_all hf
    have e : intText? (S l) = some ((NumText.digitsVal l : Nat) : Int) := by
      have := PySem.intText_digits (x := S l) h1 h2 (by rw [S_len]; omega)
      exact this
    exact ⟨_, _, rfl, e, by rw [S_len]; exact hl, k _ H2 x2 (.int _)⟩
end
end Dat
namespace K01
open PySem L2 Evl Dat SX
def fText (ds : List PyData) (d : PyData) : Prop := ∃ p q : Int, ds = [rat p q] ∧ p.natAbs < 2 ^ 1900 ∧ q.natAbs < 2 ^ 1900 ∧ d = .str (S (textR p q))
def figD (l : List Nat) : PyData := if figs l = true then .int (NumText.digitsVal l) else .none
def fFigures (ds : List PyData) (d : PyData) : Prop := ∃ l, ds = [.str (S l)] ∧ l.length ≤ 640 ∧ d = figD l
section
variable {P : Program} {w : World} {K : PySem.W.Frag} {mg : Str → Option Value} {base : Heap}
abbrev s_ratio_text : Stmt := topS 27
abbrev N_ratio_text : List Str := ["one"]
theorem sc_ratio_text : FnScope N_ratio_text ["one"] (defScope s_ratio_text) := ⟨rfl, rfl, rfl, by decide +kernel, rfl, by decide +kernel, by decide +kernel⟩
theorem ok_ratio_text {f : Addr} {fd : FuncData} (F : Fun K "ratio_text" "ratio_text" s_ratio_text f fd) (T : Bl mg) : FnOk P w K mg base CX0 1 f fd ["one"] (spD K 1 fText) := by
  refine F.ok sc_ratio_text (fun vs H Q E h => ?_) (fun cdv A outer s H vs Q E hr h => ?_)
  · obtain ⟨ds, d, hl, hd, _⟩ := h
    exact (dps_len hd).trans hl
  · refine ⟨_, (pss_cons (ps_if (pt_cmpR op_eq (pe_ix (r := rIxT K) ix_tup (pv 0) pe_int (fun _ _ => rfl)) pe_int (nomark _)) (pss_one (ps_ret (pe_callTy call_str_int (by rfl) T.b_str (by decide +kernel) (pa_cons (pe_ix (r := rIxT K) ix_tup (pv 0) pe_int (fun _ _ => rfl)) pa_nil)))) pss_nil)
      (pss_one (ps_ret (pe_joined (.cons (pe_fmt (pe_ix (r := rIxT K) ix_tup (pv 0) pe_int (fun _ _ => rfl))) (.cons pe_str (.cons (pe_fmt (pe_ix (r := rIxT K) ix_tup (pv 0) pe_int (fun _ _ => rfl))) .nil))))))), ?_⟩
    obtain ⟨ds, d, hl, hd, hf, k⟩ := h
    obtain ⟨p, q, rfl, bp, bq, rfl⟩ := hf
    obtain ⟨v_one, vs, rfl, h_one, hd⟩ := dps_cons hd
    obtain rfl := dps_nil hd
    refine z_if (σ := [some v_one]) (b_test (d_eqI (d_ixT (d_var ⟨_, rfl, h_one⟩) d_int rfl) d_int)) (fun c H1 e => ?_) (fun c H1 e => ?_)
    · replace h_one := dp_grow e _ _ h_one
      have c' : q = 1 := of_decide_eq_true c
      refine z_ret (K := K) (σ := [some v_one]) (d_strI (d_ixT (d_var ⟨_, rfl, h_one⟩) d_int rfl) bp) fun v H2 e2 h => ?_
      refine k v _ (e.trans e2) ?_
      unfold textR
      rw [if_pos c']
      exact h
    · replace h_one := dp_grow e _ _ h_one
      have c' : ¬ q = 1 := of_decide_eq_false c
      refine z_nx ?_
      refine z_ret (K := K) (σ := [some v_one]) (d_fslash rfl (d_ixT (d_var ⟨_, rfl, h_one⟩) d_int rfl) (d_ixT (d_var ⟨_, rfl, h_one⟩) d_int rfl) bp bq) fun v H2 e2 h => ?_
      refine k v _ (e.trans e2) ?_
      unfold textR
      rw [if_neg c']
      exact h
abbrev s_parse_figures : Stmt := topS 29
abbrev N_parse_figures : List Str := ["word"]
theorem sc_parse_figures : FnScope N_parse_figures ["word"] (defScope s_parse_figures) := ⟨rfl, rfl, rfl, by decide +kernel, rfl, by decide +kernel, by decide +kernel⟩
theorem ok_parse_figures {f : Addr} {fd : FuncData} (F : Fun K "_parse_figures" "_parse_figures" s_parse_figures f fd) (T : Bl mg) : FnOk P w K mg base CX0 1 f fd ["word"] (spD K 1 fFigures) := by
  refine F.ok sc_parse_figures (fun vs H Q E h => ?_) (fun cdv A outer s H vs Q E hr h => ?_)
  · obtain ⟨ds, d, hl, hd, _⟩ := h
    exact (dps_len hd).trans hl
  · refine ⟨_, (pss_cons (ps_if (PW.pt (pw_and (pt_val (pe_m0 PySem.F.slot_str_isascii PySem.F.type_str_isascii mt_isascii (pv 0))) (pw_and1 (pt_val (pe_m0 PySem.F.slot_str_isdigit PySem.F.type_str_isdigit mt_isdigit (pv 0)))))) (pss_one (ps_ret (pe_callTy call_int_str (by rfl) T.b_int (by decide +kernel) (pa_cons (pv 0) pa_nil)))) pss_nil)
      (pss_one (ps_ret pe_non))), ?_⟩
    obtain ⟨ds, d, hl, hd, hf, k⟩ := h
    obtain ⟨l, rfl, ll, rfl⟩ := hf
    obtain ⟨v_w, vs, rfl, h_w, hd⟩ := dps_cons hd
    obtain rfl := dps_nil hd
    refine z_if (b := figs l) (σ := [some v_w]) (b_is (b_and (b_val (d_m0 (g := Txt.isascii) (d_var ⟨_, rfl, h_w⟩))) (fun _ => b_val (d_m0 (g := Txt.isdigit) (d_var ⟨_, rfl, h_w⟩)))) (figs_eq l)) (fun c H1 e => ?_) (fun c H1 e => ?_)
    · replace h_w := dp_grow e _ _ h_w
      refine z_ret (K := K) (σ := [some v_w]) (d_intS (d_var ⟨_, rfl, h_w⟩) c ll) fun v H2 e2 h => ?_
      refine k v _ (e.trans e2) ?_
      unfold figD
      rw [if_pos c]
      exact h
    · refine z_nx ?_
      refine z_ret (K := K) (σ := [some v_w]) d_non fun v H2 e2 h => ?_
      refine k v _ (e.trans e2) ?_
      unfold figD
      rw [c, if_neg (by decide)]
      exact h
end
end K01
namespace Dat
open PySem L2 Evl SX
/-- what stands before the first slash, whether there is one, what stands behind it -/
def cut : List Nat → List Nat × Bool × List Nat
  | [] => ([], false, [])
  | c :: r => if c = 47 then ([], true, r) else (c :: (cut r).1, (cut r).2.1, (cut r).2.2)
theorem cut_spec : ∀ l : List Nat, 47 ∉ (cut l).1 ∧ ((cut l).2.1 = false ∧ (cut l).2.2 = [] ∧ l = (cut l).1 ∨ (cut l).2.1 = true ∧ l = (cut l).1 ++ (47 :: (cut l).2.2))
  | [] => ⟨by simp [cut], .inl ⟨rfl, rfl, rfl⟩⟩
  | c :: r => by
    obtain ⟨h1, h2⟩ := cut_spec r
    unfold cut
    by_cases h : c = 47
    · rw [if_pos h]
      subst h
      exact ⟨by simp, .inr ⟨rfl, rfl⟩⟩
    · rw [if_neg h]
      refine ⟨?_, ?_⟩
      · intro hm
        rcases List.mem_cons.mp hm with e | e
        · exact h e.symm
        · exact h1 e
      · rcases h2 with ⟨a, b, e⟩ | ⟨a, e⟩
        · exact .inl ⟨a, b, congrArg (c :: ·) e⟩
        · exact .inr ⟨a, congrArg (c :: ·) e⟩
theorem cut_app : ∀ {a b : List Nat}, 47 ∉ a → cut (a ++ (47 :: b)) = (a, true, b)
  | [], b, _ => by simp [cut]
  | c :: r, b, h => by
    have hc : ¬ c = 47 := fun e => h (e ▸ List.mem_cons_self)
    have ih := cut_app (a := r) (b := b) fun e => h (List.mem_cons_of_mem _ e)
    show cut (c :: (r ++ (47 :: b))) = _
    unfold cut
    rw [if_neg hc, ih]
theorem cut_free : ∀ {a : List Nat}, 47 ∉ a → cut a = (a, false, [])
  | [], _ => rfl
  | c :: r, h => by
    have hc : ¬ c = 47 := fun e => h (e ▸ List.mem_cons_self)
    have ih := cut_free (a := r) fun e => h (List.mem_cons_of_mem _ e)
    unfold cut
    rw [if_neg hc, ih]
theorem part_S (l : List Nat) : Txt.partition (S l) (S [47]) = (S (cut l).1, S (if (cut l).2.1 = true then [47] else []), S (cut l).2.2) := by
  obtain ⟨h1, h2⟩ := cut_spec l
  rcases h2 with ⟨a, b, e⟩ | ⟨a, e⟩
  · rw [a, b]
    have := partition_none (a := l) (b := [47]) (by simp) (par_head_none (sep := []) (e ▸ h1))
    rw [this]
    show (S l, S [], S []) = (S (cut l).1, S [], S [])
    rw [← e]
  · rw [a]
    have z := par_head (sep := []) (p := (cut l).1) (cut l).2.2 h1
    have z2 : TL.par [47] [] l = some ((cut l).1, (cut l).2.2) := by
      have := congrArg (TL.par [47] []) e
      exact this.trans z
    have := partition_some (a := l) (b := [47]) (by simp) z2
    rw [this]
    rfl
theorem cut_len (l : List Nat) : (cut l).1.length ≤ l.length ∧ (cut l).2.2.length ≤ l.length := by
  obtain ⟨_, h2⟩ := cut_spec l
  rcases h2 with ⟨a, b, e⟩ | ⟨a, e⟩
  · rw [b]
    have := congrArg List.length e
    exact ⟨by omega, Nat.zero_le _⟩
  · have := congrArg List.length e
    rw [List.length_append, List.length_cons] at this
    omega
theorem noMinus_len (a : List Nat) : (noMinus a).length ≤ a.length := by
  unfold noMinus
  by_cases h : a.head? = some 45
  · rw [if_pos h, List.length_drop]; omega
  · rw [if_neg h]; omega
section
variable {K : PySem.W.Frag} {σ : L2.St} {H : Hp} {te tb : TE}
theorem d_eqS {x y : Str} (h : EvD K te σ H (.str x)) (r : EvD K tb σ H (.str y)) : EvD K (tOp rEq te tb) σ H (.bool (decide (x = y))) := fun H1 x0 Q k =>
  h H1 x0 _ fun v H2 x2 hv => r H2 (x0.trans x2) _ fun w H3 x3 hw => by
    cases hv
    cases hw
    refine ⟨rfl, ?_⟩
    have z : decide (V.str x = V.str y) = decide (x = y) := by
      by_cases q : x = y
      · subst q
        rw [decide_eq_true rfl, decide_eq_true rfl]
      · rw [decide_eq_false q, decide_eq_false (fun z => q (V.str.inj z))]
    rw [z]
    exact k _ H3 (x2.trans x3) (.bl _)
/-- x.partition('/') -/
theorem d_part {l : List Nat} {y : Str} (hy : y = S [47]) (h : EvD K te σ H (.str (S l))) (hl : l.length ≤ 1000) :
    EvD K (tM1 (fun x xs H Q => ∃ a b, x = .str a ∧ xs = [.str b] ∧ (b.length == 0) = false ∧ a.length ≤ sizeLine ∧ ∀ p, H p = none → Q (.ref p) (upd H p (.tup [.str (Txt.partition a b).1, .str (Txt.partition a b).2.1, .str (Txt.partition a b).2.2]))) te (tC (.str y))) σ H
      (.tuple [.str (S (cut l).1), .str (S (if (cut l).2.1 = true then [47] else [])), .str (S (cut l).2.2)]) := fun H1 x Q k =>
  h H1 x _ fun v H2 x2 hv => by
    cases hv
    refine ⟨⟨_, rfl⟩, _, _, rfl, rfl, by rw [hy]; rfl, len_line (n := 1000) (by rw [S_len]; exact hl), fun p hp => ?_⟩
    rw [hy, part_S]
    exact k _ _ (x2.trans (Ex.new hp)) (.tup (st_of upd_same) (.cons (.str _) (.cons (.str _) (.cons (.str _) .nil))))
/-- x.removeprefix('-') -/
theorem d_rm {l : List Nat} {y : Str} (hy : y = S [45]) (h : EvD K te σ H (.str (S l))) (hl : l.length ≤ 1000) :
    EvD K (tM1 (fun x xs H Q => ∃ a b, x = .str a ∧ xs = [.str b] ∧ a.length ≤ sizeLine ∧ Q (.str (Txt.removeprefix a b)) H) te (tC (.str y))) σ H (.str (S (noMinus l))) := fun H1 x Q k =>
  h H1 x _ fun v H2 x2 hv => by
    cases hv
    refine ⟨⟨_, rfl⟩, _, _, rfl, rfl, len_line (n := 1000) (by rw [S_len]; exact hl), ?_⟩
    rw [hy, rm_S]
    exact k _ H2 x2 (.str _)
/-- x.startswith('-') -/
theorem d_sw {l : List Nat} {y : Str} (hy : y = S [45]) (h : EvD K te σ H (.str (S l))) :
    EvD K (tM1 (fun x xs H Q => ∃ a b, x = .str a ∧ xs = [.str b] ∧ Q (.bl (Txt.startswith a b)) H) te (tC (.str y))) σ H (.bool (decide (l.head? = some 45))) := fun H1 x Q k =>
  h H1 x _ fun v H2 x2 hv => by
    cases hv
    refine ⟨⟨_, rfl⟩, _, _, rfl, rfl, ?_⟩
    rw [hy, sw_S]
    exact k _ H2 x2 (.bl _)
/-- the truth of a text -/
theorem b_truS {l : List Nat} (h : EvD K te σ H (.str (S l))) (hl : l.length ≤ 1000) : EvB (fun σ H Q => te σ H fun x H' => ∃ k, TruV K x H' k ∧ Q k H') σ H (!l.isEmpty) := fun H1 x Q k =>
  h H1 x _ fun v H2 x2 hv => by
    cases hv
    refine ⟨_, ⟨len_line (n := 1000) (by rw [S_len]; exact hl), rfl⟩, ?_⟩
    have e : ((((S l).length : Nat) : Int) != 0) = (!l.isEmpty) := by
      rw [S_len]
      cases l with
      | nil => rfl
      | cons c r =>
        have : ((((c :: r).length : Nat) : Int)) ≠ 0 := by rw [List.length_cons]; omega
        simpa using this
    rw [e]
    exact k H2 x2
/-- len(x), x a text -/
theorem d_lenTx {l : List Nat} (h : EvD K te σ H (.str (S l))) (hl : l.length ≤ 100000) : EvD K (tCB (fun xs H Q => ∃ z, xs = [.str z] ∧ z.length ≤ sizeLine ∧ Q (.int z.length) H) (tCons te tNil)) σ H (.int (l.length : Nat)) := fun H1 x Q k =>
  h H1 x _ fun v H2 x2 hv => by
    cases hv
    refine ⟨_, rfl, len_line (n := 100000) (by rw [S_len]; exact hl), ?_⟩
    rw [S_len]
    exact k _ H2 x2 (.int _)
/-- x, y, z = a tuple of three -/
theorem z_three {D : Ends} {ts : TS} {i j m : Nat} {a b c : PyData} {n : Nat} (h : EvD K te σ H (.tuple [a, b, c])) (k : ∀ x y z H1, Ex H H1 → Dp K H1 x a → Dp K H1 y b → Dp K H1 z c → ts D (((σ.set i (some x)).set j (some y)).set m (some z)) H1) (hn : n = 3 := by rfl) :
    tSeq (tAsg te (gTup K n (gCons (gName i) (gCons (gName j) (gCons (gName m) gNil))))) ts D σ H := h H (Ex.refl H) _ fun v H1 e hv => by
  cases hv with
  | tup hs ha =>
    cases ha with
    | cons h1 t1 =>
      cases t1 with
      | cons h2 t2 =>
        cases t2 with
        | cons h3 t3 =>
          cases t3
          exact ⟨_, _, rfl, hs, hn.symm, _, _, rfl, _, _, rfl, _, _, rfl, rfl, k _ _ _ H1 e h1 h2 h3⟩
end
theorem lowQ_small {t b : Int} : (lowP t b).natAbs ≤ t.natAbs ∧ (lowQ t b).natAbs ≤ b.natAbs := by
  unfold lowP lowQ
  by_cases h : b < 0
  · rw [if_pos h, if_pos h]
    have h1 := Int.natAbs_ediv_le_natAbs (-t) (Nat.gcd t.natAbs b.natAbs : Nat)
    have h2 := Int.natAbs_ediv_le_natAbs (-b) (Nat.gcd t.natAbs b.natAbs : Nat)
    rw [Int.natAbs_neg] at h1 h2
    exact ⟨h1, h2⟩
  · rw [if_neg h, if_neg h]
    exact ⟨Int.natAbs_ediv_le_natAbs _ _, Int.natAbs_ediv_le_natAbs _ _⟩
end Dat
namespace K01
open PySem L2 Evl Dat SX
def sg (l : List Nat) (p : Int) : Int := if l.head? = some 45 then -p else p
def botD (l : List Nat) : PyData := if (cut l).2.1 = true then figD (cut l).2.2 else .int 1
/-- what a ratio's parts come to -/
def endL (l : List Nat) : PyData → PyData → PyData
  | .int p, .int q => if q = 0 then .none else if textR (lowP (sg l p) q) (lowQ (sg l p) q) = l then lowest (sg l p) q else .none
  | _, _ => .none
def parseL (l : List Nat) : PyData := if 300 < l.length then .none else endL l (figD (noMinus (cut l).1)) (botD l)
def parseD : PyData → PyData
  | .str x => parseL x.cps.toList
  | _ => .none
def fParse (ds : List PyData) (d : PyData) : Prop := ∃ t, ds = [t] ∧ (∀ x, t = .str x → x.length ≤ 1000) ∧ d = parseD t
theorem figD_cases (l : List Nat) (h : l.length ≤ 300) : figD l = .none ∨ ∃ n : Int, figD l = .int n ∧ 0 ≤ n ∧ n.natAbs < 2 ^ 1000 := by
  unfold figD
  by_cases c : figs l = true
  · rw [if_pos c]
    refine .inr ⟨_, rfl, by omega, ?_⟩
    have h1 := val_lt l (figs_all c).1
    have h2 : (10 : Nat) ^ l.length ≤ 10 ^ 300 := Nat.pow_le_pow_right (by decide) h
    have h3 : (10 : Nat) ^ 300 < 2 ^ 1000 := by decide +kernel
    rw [Int.natAbs_natCast]
    omega
  · rw [if_neg c]
    exact .inl rfl
theorem botD_cases (l : List Nat) (h : l.length ≤ 300) : botD l = .none ∨ ∃ n : Int, botD l = .int n ∧ 0 ≤ n ∧ n.natAbs < 2 ^ 1000 := by
  unfold botD
  by_cases c : (cut l).2.1 = true
  · rw [if_pos c]
    exact figD_cases _ (Nat.le_trans (cut_len l).2 h)
  · rw [if_neg c]
    exact .inr ⟨1, rfl, by decide, by decide⟩
theorem slash_true (s : Bool) : (!(if s = true then [47] else ([] : List Nat)).isEmpty) = s := by cases s <;> rfl
section
variable {P : Program} {w : World} {K : PySem.W.Frag} {mg : Str → Option Value} {base : Heap}
abbrev s_parse_ratio : Stmt := topS 28
abbrev N_parse_ratio : List Str := ["text", "top_word", "slash", "bottom_word", "top", "bottom", "one"]
theorem sc_parse_ratio : FnScope N_parse_ratio ["text"] (defScope s_parse_ratio) := ⟨rfl, rfl, rfl, by decide +kernel, rfl, by decide +kernel, by decide +kernel⟩
theorem ok_parse_ratio {f : Addr} {fd : FuncData} {tL : Tok} (F : Fun K "parse_ratio" "parse_ratio" s_parse_ratio f fd) (T : Bl mg) (gL : mg "LONGEST" = some (.int 300 tL))
    (D_fig : Def P w K mg base CX0 1 "_parse_figures" ["word"] (spD K 1 fFigures)) (D_lowest : Def P w K mg base CX0 1 "_lowest" ["top", "bottom"] (spD K 2 fLowest)) (D_text : Def P w K mg base CX0 1 "ratio_text" ["one"] (spD K 1 fText)) :
    FnOk P w K mg base CX0 2 f fd ["text"] (spD K 1 fParse) := by
  refine F.ok sc_parse_ratio (fun vs H Q E h => ?_) (fun cdv A outer s H vs Q E hr h => ?_)
  · obtain ⟨ds, d, hl, hd, _⟩ := h
    exact (dps_len hd).trans hl
  · refine ⟨_, (pss_cons (ps_if (PW.pt (pw_or (pt_not (pt_val (pe_callB call_isi (by rfl) T.b_isinstance (by decide +kernel) (pa_cons (pv 0) (pa_cons (pe_bltn (v := .ty "str") (by rfl) T.b_str (by decide +kernel) rfl) pa_nil))))) (pw_or1 (pt_cmpR op_gt (pe_callB call_len_str (by rfl) T.b_len (by decide +kernel) (pa_cons (pv 0) pa_nil)) (pe_glob (v := .int 300) rfl gL ⟨_, rfl⟩) (nomark _))))) (pss_one (ps_ret pe_non)) pss_nil)
      (pss_cons (ps_asg (pe_m1 PySem.F.slot_str_partition PySem.F.type_str_partition mt_partition (pv 0) pe_str) (pg_tup rfl (pgs_cons (pg_name (i := 1) sc_parse_ratio.nd rfl (Or.inl rfl)) (pgs_cons (pg_name (i := 2) sc_parse_ratio.nd rfl (Or.inl rfl)) (pgs_cons (pg_name (i := 3) sc_parse_ratio.nd rfl (Or.inl rfl)) pgs_nil)))) rfl)
      (pss_cons (ps_set (i := 4) sc_parse_ratio.nd rfl (Or.inl rfl) (pe_dcall D_fig (hr.mono (by decide)) pass0 (pa_cons (pe_m1 PySem.F.slot_str_removeprefix PySem.F.type_str_removeprefix mt_removeprefix (pv 1) pe_str) pa_nil)))
      (pss_cons (ps_set (i := 5) sc_parse_ratio.nd rfl (Or.inl rfl) (pe_ifExp (pt_truth (pv 2) (fun _ => rfl)) (pe_dcall D_fig (hr.mono (by decide)) pass0 (pa_cons (pv 3) pa_nil)) pe_int))
      (pss_cons (ps_if (PW.pt (pw_or (pt_cmpR op_isN (pv 4) pe_non (nomark _)) (pw_or (pt_cmpR op_isN (pv 5) pe_non (nomark _)) (pw_or1 (pt_cmpR op_eq (pv 5) pe_int (nomark _)))))) (pss_one (ps_ret pe_non)) pss_nil)
      (pss_cons (ps_if (pt_val (pe_m1 PySem.F.slot_str_startswith PySem.F.type_str_startswith mt_startswith (pv 0) pe_str)) (pss_one (ps_set (i := 4) sc_parse_ratio.nd rfl (Or.inl rfl) (pe_un un_neg (pv 4)))) pss_nil)
      (pss_cons (ps_set (i := 6) sc_parse_ratio.nd rfl (Or.inl rfl) (pe_dcall D_lowest (hr.mono (by decide)) pass0 (pa_cons (pv 4) (pa_cons (pv 5) pa_nil))))
      (pss_one (ps_ret (pe_ifExp (pt_cmpR op_eq (pe_dcall D_text (hr.mono (by decide)) pass0 (pa_cons (pv 6) pa_nil)) (pv 0) (nomark _)) (pv 6) pe_non)))))))))), ?_⟩
    obtain ⟨ds, d, hl, hd, hf, k⟩ := h
    obtain ⟨t, rfl, bt, rfl⟩ := hf
    obtain ⟨v_t, vs, rfl, h_t, hd⟩ := dps_cons hd
    obtain rfl := dps_nil hd
    have none_end : ∀ {σ' : L2.St} {H1 : Hp}, Ex H H1 → parseD t = .none → tRet (tC .non) { nx := fun _ H' => Q .non H', rt := Q } σ' H1 := fun e z => z_ret (K := K) d_non fun v H2 e2 h => k v _ (e.trans e2) (by rw [z]; exact h)
    by_cases ct : isStrD t = true
    · obtain ⟨x, rfl⟩ : ∃ x, t = .str x := by
        cases t <;> first | cases ct | skip
        exact ⟨_, rfl⟩
      obtain ⟨l, rfl⟩ : ∃ l, x = S l := ⟨_, (S_tl x).symm⟩
      have hl1 : l.length ≤ 1000 := by
        have := bt _ rfl
        rw [S_len] at this
        exact this
      have ep : parseD (.str (S l)) = parseL l := rfl
      refine z_if (σ := [some v_t, none, none, none, none, none, none]) (b := decide (300 < l.length)) (b_is (b_or (b_not (b_val (d_isi (d_var ⟨_, rfl, h_t⟩) (kit_str _)))) (fun _ => b_test (d_gt (d_lenTx (d_var ⟨_, rfl, h_t⟩) (by omega)) d_int))) (by
        show (false || decide ((300 : Int) < (l.length : Nat))) = _
        rw [Bool.false_or]
        by_cases q : 300 < l.length
        · rw [decide_eq_true q, decide_eq_true (by omega)]
        · rw [decide_eq_false q, decide_eq_false (by omega)])) (fun c H1 e => none_end e (by rw [ep]; unfold parseL; rw [if_pos (of_decide_eq_true c)])) (fun c H1 e1 => ?_)
      have hl3 : l.length ≤ 300 := by have := of_decide_eq_false c; omega
      have ep2 : parseD (.str (S l)) = endL l (figD (noMinus (cut l).1)) (botD l) := by
        rw [ep]
        unfold parseL
        rw [if_neg (by omega)]
      have la : (cut l).1.length ≤ 300 := Nat.le_trans (cut_len l).1 hl3
      have lb : (cut l).2.2.length ≤ 300 := Nat.le_trans (cut_len l).2 hl3
      replace h_t := dp_grow e1 _ _ h_t
      have ex := e1
      refine z_nx ?_
      refine z_three (K := K) (σ := [some v_t, none, none, none, none, none, none]) (d_part rfl (d_var ⟨_, rfl, h_t⟩) hl1) fun v1 v2 v3 H2 e2 h1 h2 h3 => ?_
      replace h_t := dp_grow e2 _ _ h_t
      replace ex := ex.trans e2
      refine z_set (K := K) (σ := [some v_t, some v1, some v2, some v3, none, none, none]) (d_call (ds_cons (d_rm rfl (d_var ⟨_, rfl, h1⟩) (by omega)) ds_nil) rfl ⟨_, rfl, Nat.le_trans (noMinus_len _) (by omega), rfl⟩) fun v4 H3 e3 h4 => ?_
      replace h_t := dp_grow e3 _ _ h_t
      replace h2 := dp_grow e3 _ _ h2
      replace h3 := dp_grow e3 _ _ h3
      replace ex := ex.trans e3
      refine z_set (K := K) (d := botD l) (σ := [some v_t, some v1, some v2, some v3, some v4, none, none]) (d_is (d_ite (b_is (b_truS (d_var ⟨_, rfl, h2⟩) (by cases (cut l).2.1 <;> decide)) (slash_true _)) (fun _ => d_call (ds_cons (d_var ⟨_, rfl, h3⟩) ds_nil) rfl ⟨_, rfl, by omega, rfl⟩) (fun _ => d_int)) rfl) fun v5 H4 e4 h5 => ?_
      replace h_t := dp_grow e4 _ _ h_t
      replace h4 := dp_grow e4 _ _ h4
      replace ex := ex.trans e4
      clear h1 h2 h3
      have lm : (noMinus (cut l).1).length ≤ 300 := Nat.le_trans (noMinus_len _) la
      generalize hA : figD (noMinus (cut l).1) = A at *
      generalize hB : botD l = Bd at *
      have cA := figD_cases _ lm
      rw [hA] at cA
      have cB := botD_cases l hl3
      rw [hB] at cB
      rcases cA with rfl | ⟨p, rfl, p0, pb⟩
      · refine z_if (σ := [some v_t, some v1, some v2, some v3, some v4, some v5, none]) (b := true) (b_is (b_or (b := true) (b_test (d_isN (d_var ⟨_, rfl, h4⟩))) (fun c => by cases c)) rfl) (fun _ H5 e5 => none_end (ex.trans e5) (by rw [ep2]; rfl)) (fun c => by cases c)
      · rcases cB with rfl | ⟨q, rfl, q0, qb⟩
        · refine z_if (σ := [some v_t, some v1, some v2, some v3, some v4, some v5, none]) (b := true) (b_is (b_or (a := false) (b := true) (b_test (d_isN (d_var ⟨_, rfl, h4⟩))) (fun _ => b_is (b_or (b := true) (b_test (d_isN (d_var ⟨_, rfl, h5⟩))) (fun c => by cases c)) rfl)) rfl) (fun _ H5 e5 => none_end (ex.trans e5) (by rw [ep2]; rfl)) (fun c => by cases c)
        · refine z_if (σ := [some v_t, some v1, some v2, some v3, some v4, some v5, none]) (b := decide (q = 0)) (b_is (b_or (a := false) (b := decide (q = 0)) (b_test (d_isN (d_var ⟨_, rfl, h4⟩))) (fun _ => b_is (b_or (a := false) (b := decide (q = 0)) (b_test (d_isN (d_var ⟨_, rfl, h5⟩))) (fun _ => b_test (d_eqI (d_var ⟨_, rfl, h5⟩) d_int))) (Bool.false_or _))) (Bool.false_or _)) (fun c H5 e5 => none_end (ex.trans e5) (by
            rw [ep2]
            show (if q = 0 then PyData.none else _) = _
            rw [if_pos (of_decide_eq_true c)])) (fun c H5 e5 => ?_)
          have qn : ¬ q = 0 := of_decide_eq_false c
          replace h_t := dp_grow e5 _ _ h_t
          replace h4 := dp_grow e5 _ _ h4
          replace h5 := dp_grow e5 _ _ h5
          replace ex := ex.trans e5
          refine z_nx ?_
          have rest : ∀ {H6 : Hp} {v4 : V}, Ex H H6 → Dp K H6 v_t (.str (S l)) → Dp K H6 v4 (.int (sg l p)) → Dp K H6 v5 (.int q) →
              tSeq (tAsg (tCall (spD K 2 fLowest) [] E0 (tCons (tVar 4) (tCons (tVar 5) tNil))) (gName 6)) (tRet (tIf (tTest (tOp rEq (tCall (spD K 1 fText) [] E0 (tCons (tVar 6) tNil)) (tVar 0))) (tVar 6) (tC .non))) { nx := fun _ H' => Q .non H', rt := Q } [some v_t, some v1, some v2, some v3, some v4, some v5, none] H6 := fun {H6 v4} ex h_t h4 h5 => by
            have sb : (sg l p).natAbs < 2 ^ 1000 := by
              unfold sg
              by_cases c : l.head? = some 45
              · rw [if_pos c, Int.natAbs_neg]; exact pb
              · rw [if_neg c]; exact pb
            obtain ⟨s1, s2⟩ := lowQ_small (t := sg l p) (b := q)
            have u1 : (2 : Nat) ^ 1000 < 2 ^ 1900 := by decide +kernel
            have u2 : (2 : Nat) ^ 1000 < 2 ^ 4000 := by decide +kernel
            refine z_set (K := K) (σ := [some v_t, some v1, some v2, some v3, some v4, some v5, none]) (d_call (ds_cons (d_var ⟨_, rfl, h4⟩) (ds_cons (d_var ⟨_, rfl, h5⟩) ds_nil)) rfl ⟨_, _, rfl, qn, Nat.lt_trans qb u2, rfl⟩) fun v6 H7 e7 h6 => ?_
            replace h_t := dp_grow e7 _ _ h_t
            refine z_ret (K := K) (σ := [some v_t, some v1, some v2, some v3, some v4, some v5, some v6]) (d_ite (b_test (d_eqS (d_call (ds_cons (d_var ⟨_, rfl, h6⟩) ds_nil) rfl ⟨_, _, rfl, Nat.lt_of_le_of_lt s1 (Nat.lt_trans sb u1), Nat.lt_of_le_of_lt s2 (Nat.lt_trans qb u1), rfl⟩) (d_var ⟨_, rfl, h_t⟩))) (fun _ => d_var ⟨_, rfl, h6⟩) (fun _ => d_non)) fun v H8 e8 h => ?_
            refine k v _ ((ex.trans e7).trans e8) ?_
            rw [ep2]
            show Dp K H8 v (if q = 0 then PyData.none else _)
            rw [if_neg qn]
            by_cases z : textR (lowP (sg l p) q) (lowQ (sg l p) q) = l
            · rw [if_pos z]
              rw [if_pos (decide_eq_true (congrArg S z))] at h
              exact h
            · rw [if_neg z]
              rw [if_neg (by rw [decide_eq_false (fun y => z (S_inj y))]; decide)] at h
              exact h
          refine z_if (σ := [some v_t, some v1, some v2, some v3, some v4, some v5, none]) (b_val (d_sw rfl (d_var ⟨_, rfl, h_t⟩))) (fun c H6 e6 => ?_) (fun c H6 e6 => ?_)
          · replace h4 := dp_grow e6 _ _ h4
            refine z_set1 (K := K) (d_neg (d_var ⟨_, rfl, h4⟩)) fun v4' H7 e7 h4' => ?_
            refine rest ((ex.trans e6).trans e7) (dp_grow (e6.trans e7) _ _ h_t) ?_ (dp_grow (e6.trans e7) _ _ h5)
            unfold sg
            rw [if_pos (of_decide_eq_true c)]
            exact h4'
          · refine z_nx ?_
            refine rest (ex.trans e6) (dp_grow e6 _ _ h_t) ?_ (dp_grow e6 _ _ h5)
            unfold sg
            rw [if_neg (of_decide_eq_false c)]
            exact dp_grow e6 _ _ h4
    · have ct' : isStrD t = false := by simpa using ct
      refine z_if (σ := [some v_t, none, none, none, none, none, none]) (b := true) (b_is (b_or (b := true) (b_not (b_val (d_isi (d_var ⟨_, rfl, h_t⟩) (kit_str _)))) (fun c => by rw [ct'] at c; cases c)) (by rw [ct']; rfl)) (fun c H1 e => none_end e (by cases t <;> first | rfl | cases ct')) (fun c => by cases c)
end
end K01
namespace K01
open PySem L2 Evl Dat SX
theorem numL_head (n : Nat) : (TL.numL n).head? ≠ some 45 := by
  cases e : TL.numL n with
  | nil => simp
  | cons c r =>
    intro h
    have hc := TL.numL_digits n c (by rw [e]; exact List.mem_cons_self)
    have : c = 45 := by simpa using h
    omega
theorem noMinus_num (p : Int) : noMinus (numI p) = TL.numL p.natAbs := by
  unfold numI noMinus
  by_cases h : p < 0
  · rw [if_pos h]
    rfl
  · rw [if_neg h, if_neg (numL_head _)]
theorem numI_slash (p : Int) : 47 ∉ numI p := by
  unfold numI
  have h0 : 47 ∉ TL.numL p.natAbs := TL.numL_free (by omega)
  by_cases h : p < 0
  · rw [if_pos h]
    intro hm
    rcases List.mem_cons.mp hm with e | e
    · omega
    · exact h0 e
  · rw [if_neg h]
    exact h0
theorem numI_head (p : Int) (r : List Nat) : (numI p ++ r).head? = some 45 ↔ p < 0 := by
  unfold numI
  by_cases h : p < 0
  · rw [if_pos h]
    exact ⟨fun _ => h, fun _ => rfl⟩
  · rw [if_neg h]
    refine ⟨fun z => ?_, fun z => absurd z h⟩
    cases e : TL.numL p.natAbs with
    | nil => exact absurd e (TL.numL_ne _)
    | cons c t =>
      rw [e] at z
      have q := numL_head p.natAbs
      rw [e] at q
      exact absurd z q
theorem figD_num (n : Nat) : figD (TL.numL n) = .int (n : Int) := by
  unfold figD
  rw [if_pos (figs_num n), TL.numL_val]
theorem sg_num (p : Int) (r : List Nat) : sg (numI p ++ r) (p.natAbs : Int) = p := by
  unfold sg
  by_cases h : p < 0
  · rw [if_pos ((numI_head p r).mpr h)]; omega
  · rw [if_neg (fun z => h ((numI_head p r).mp z))]; omega
theorem low_cop {p q : Int} (h0 : 0 < q) (h : Nat.gcd p.natAbs q.natAbs = 1) : lowP p q = p ∧ lowQ p q = q := by
  unfold lowP lowQ
  rw [if_neg (by omega), if_neg (by omega), h]
  exact ⟨Int.ediv_one _, Int.ediv_one _⟩
/-- a ratio's text is read back -/
theorem parse_text {p q : Int} (h0 : 0 < q) (h : Nat.gcd p.natAbs q.natAbs = 1) (hl : (textR p q).length ≤ 300) : parseL (textR p q) = rat p q := by
  obtain ⟨l1, l2⟩ := low_cop h0 h
  have lw : lowest p q = rat p q := by
    show rat (lowP p q) (lowQ p q) = _
    rw [l1, l2]
  unfold parseL
  rw [if_neg (by omega)]
  by_cases c : q = 1
  · subst c
    have e : textR p 1 = numI p := by unfold textR; rw [if_pos rfl]
    have e1 : cut (textR p 1) = (numI p, false, []) := by rw [e]; exact cut_free (numI_slash p)
    have e2 : botD (textR p 1) = .int 1 := by unfold botD; rw [e1]; rfl
    have e3 : figD (noMinus (cut (textR p 1)).1) = .int (p.natAbs : Int) := by rw [e1]; show figD (noMinus (numI p)) = _; rw [noMinus_num, figD_num]
    rw [e2, e3]
    show (if (1 : Int) = 0 then PyData.none else if textR (lowP (sg (textR p 1) _) 1) (lowQ (sg (textR p 1) _) 1) = textR p 1 then lowest (sg (textR p 1) _) 1 else PyData.none) = _
    have e4 : sg (textR p 1) (p.natAbs : Int) = p := by
      have := sg_num p []
      rw [List.append_nil] at this
      rw [e]
      exact this
    rw [if_neg (by decide), e4, l1, l2, if_pos rfl]
    exact lw
  · have e : textR p q = numI p ++ (47 :: numI q) := by unfold textR; rw [if_neg c]
    have eq : numI q = TL.numL q.natAbs := by unfold numI; rw [if_neg (by omega)]
    have e1 : cut (textR p q) = (numI p, true, numI q) := by rw [e]; exact cut_app (numI_slash p)
    have e2 : botD (textR p q) = .int q := by
      unfold botD
      rw [e1]
      show figD (numI q) = _
      rw [eq, figD_num]
      congr 1
      omega
    have e3 : figD (noMinus (cut (textR p q)).1) = .int (p.natAbs : Int) := by rw [e1]; show figD (noMinus (numI p)) = _; rw [noMinus_num, figD_num]
    rw [e2, e3]
    show (if q = 0 then PyData.none else if textR (lowP (sg (textR p q) _) q) (lowQ (sg (textR p q) _) q) = textR p q then lowest (sg (textR p q) _) q else PyData.none) = _
    have e4 : sg (textR p q) (p.natAbs : Int) = p := by rw [e]; exact sg_num p _
    rw [if_neg (by omega), e4, l1, l2, if_pos rfl]
    exact lw
theorem parse_long {l : List Nat} (h : 300 < l.length) : parseL l = .none := by
  unfold parseL
  rw [if_pos h]
/-- figures without a nought ahead -/
def Lead (l : List Nat) : Prop := NumText.AllDigits l ∧ ∃ c r, l = c :: r ∧ 49 ≤ c
theorem lead_num {l : List Nat} (h : Lead l) : numI (NumText.digitsVal l : Nat) = l := by
  obtain ⟨h1, c, r, rfl, h2⟩ := h
  unfold numI
  rw [if_neg (by omega), Int.natAbs_natCast]
  exact num_val h1 h2
theorem lead_pos {l : List Nat} (h : Lead l) : 0 < NumText.digitsVal l := by
  obtain ⟨h1, c, r, rfl, h2⟩ := h
  exact NumText.digitsVal_pos h2
theorem lead_neg {l : List Nat} (h : Lead l) : numI (-(NumText.digitsVal l : Nat) : Int) = 45 :: l := by
  have hp := lead_pos h
  have e := lead_num h
  unfold numI at e ⊢
  rw [if_neg (by omega)] at e
  rw [if_pos (by omega), Int.natAbs_neg, e]
theorem lead_big {l : List Nat} (h : Lead l) (hl : 1 < l.length) : (NumText.digitsVal l : Int) ≠ 1 := by
  intro e
  have z := lead_num h
  rw [e] at z
  have : (numI 1).length = 1 := by decide
  rw [z] at this
  omega
theorem text_lead {l : List Nat} (h : Lead l) : textR (NumText.digitsVal l : Nat) 1 = l := by
  unfold textR
  rw [if_pos rfl]
  exact lead_num h
theorem text_lead_neg {l : List Nat} (h : Lead l) : textR (-(NumText.digitsVal l : Nat) : Int) 1 = 45 :: l := by
  unfold textR
  rw [if_pos rfl]
  exact lead_neg h
theorem text_lead_over {l : List Nat} (h : Lead l) (hl : 1 < l.length) (p : Int) : textR p (NumText.digitsVal l : Nat) = numI p ++ (47 :: l) := by
  unfold textR
  rw [if_neg (lead_big h hl), lead_num h]
end K01
namespace Dat
open PySem L2 Evl
theorem fold_least : ∀ (l : List Rat) (a : Rat), l.foldl leastR a ∈ a :: l ∧ ∀ r ∈ a :: l, ¬ r < l.foldl leastR a
  | [], a => ⟨List.mem_cons_self, fun r hr => by
    have : r = a := by simpa using hr
    subst this
    exact Rat.lt_irrefl⟩
  | b :: l, a => by
    obtain ⟨h1, h2⟩ := fold_least l (leastR a b)
    show l.foldl leastR (leastR a b) ∈ _ ∧ ∀ r ∈ _, ¬ r < l.foldl leastR (leastR a b)
    have le : ∀ r ∈ leastR a b :: l, l.foldl leastR (leastR a b) ≤ r := fun r hr => Rat.not_lt.mp (h2 r hr)
    have l0 := le _ List.mem_cons_self
    by_cases c : b < a
    · rw [leastR_yes c] at h1 h2 le l0 ⊢
      refine ⟨List.mem_cons_of_mem _ h1, fun r hr => ?_⟩
      rcases List.mem_cons.mp hr with e | hr
      · subst e
        exact Rat.not_lt.mpr (Rat.le_trans l0 (Rat.le_of_lt c))
      · exact h2 r hr
    · rw [leastR_no c] at h1 h2 le l0 ⊢
      refine ⟨?_, fun r hr => ?_⟩
      · rcases List.mem_cons.mp h1 with e | e
        · rw [e]; exact List.mem_cons_self
        · exact List.mem_cons_of_mem _ (List.mem_cons_of_mem _ e)
      · rcases List.mem_cons.mp hr with e | hr
        · subst e
          exact h2 _ List.mem_cons_self
        · rcases List.mem_cons.mp hr with e | hr
          · subst e
            exact Rat.not_lt.mpr (Rat.le_trans l0 (Rat.not_lt.mp c))
          · exact h2 r (List.mem_cons_of_mem _ hr)
theorem fold_most : ∀ (l : List Rat) (a : Rat), l.foldl mostR a ∈ a :: l ∧ ∀ r ∈ a :: l, ¬ l.foldl mostR a < r
  | [], a => ⟨List.mem_cons_self, fun r hr => by
    have : r = a := by simpa using hr
    subst this
    exact Rat.lt_irrefl⟩
  | b :: l, a => by
    obtain ⟨h1, h2⟩ := fold_most l (mostR a b)
    show l.foldl mostR (mostR a b) ∈ _ ∧ ∀ r ∈ _, ¬ l.foldl mostR (mostR a b) < r
    have le : ∀ r ∈ mostR a b :: l, r ≤ l.foldl mostR (mostR a b) := fun r hr => Rat.not_lt.mp (h2 r hr)
    have l0 := le _ List.mem_cons_self
    by_cases c : a < b
    · rw [mostR_yes c] at h1 h2 le l0 ⊢
      refine ⟨List.mem_cons_of_mem _ h1, fun r hr => ?_⟩
      rcases List.mem_cons.mp hr with e | hr
      · subst e
        exact Rat.not_lt.mpr (Rat.le_trans (Rat.le_of_lt c) l0)
      · exact h2 r hr
    · rw [mostR_no c] at h1 h2 le l0 ⊢
      refine ⟨?_, fun r hr => ?_⟩
      · rcases List.mem_cons.mp h1 with e | e
        · rw [e]; exact List.mem_cons_self
        · exact List.mem_cons_of_mem _ (List.mem_cons_of_mem _ e)
      · rcases List.mem_cons.mp hr with e | hr
        · subst e
          exact h2 _ List.mem_cons_self
        · rcases List.mem_cons.mp hr with e | hr
          · subst e
            exact Rat.not_lt.mpr (Rat.le_trans (Rat.not_lt.mp c) l0)
          · exact h2 r (List.mem_cons_of_mem _ hr)
theorem low_rat (x : Rat) : lowest x.num x.den = ratR x := by
  obtain ⟨a, b⟩ := K01.low_cop (p := x.num) (q := x.den) (by have := x.den_pos; omega) x.reduced
  show rat (lowP x.num x.den) (lowQ x.num x.den) = _
  rw [a, b]
theorem eqv_rat (x : Rat) : PyData.eqv (ratR x) (ratR x) = true := eqv_self rfl
theorem lrat_rat (x : Rat) : lratD (ratR x) = true := by
  have h : posD (.int (x.den : Int)) = true := by
    show decide _ = true
    have := x.den_pos
    exact decide_eq_true (by omega)
  show (true && (true && (true && (true && (posD (.int (x.den : Int)) && PyData.eqv (lowest x.num x.den) (ratR x)))))) = true
  rw [h, low_rat, eqv_rat]
  rfl
theorem all_rats : ∀ l : List Rat, PyData.canLayAll0 (l.map ratR) = true ∧ PyData.depthAll (l.map ratR) ≤ 1
  | [] => by simp [PyData.canLayAll0, PyData.depthAll]
  | r :: l => by
    obtain ⟨a, b⟩ := all_rats l
    have h1 : PyData.canLay0 (ratR r) = true := rfl
    have h2 : PyData.depth (ratR r) = 1 := rfl
    rw [List.map_cons]
    constructor
    · unfold PyData.canLayAll0
      rw [h1, a]
      rfl
    · unfold PyData.depthAll
      rw [h2]
      omega
theorem shaped_rats (l : List Rat) : SeqAt.shaped (.list (l.map ratR)) = true := by
  obtain ⟨a, b⟩ := all_rats l
  unfold SeqAt.shaped PyData.canLay0 PyData.depth
  rw [a, Bool.true_and, decide_eq_true (by omega)]
theorem pow_rat (x : Rat) (n : Nat) : rat (x.num ^ n) ((x.den : Int) ^ n) = ratR (x ^ n) := by
  show PyData.tuple [.int (x.num ^ n), .int ((x.den : Int) ^ n)] = PyData.tuple [.int (x ^ n).num, .int ((x ^ n).den : Int)]
  rw [Rat.num_pow, Rat.den_pow, Int.natCast_pow]
end Dat
namespace K01
open PySem L2 Evl Dat
def RowOk (r0 : Rat) (rs : List Rat) (n : Nat) : Prop := n ≤ 1000 ∧ (r0 :: rs).length ≤ 100 ∧ (∀ r ∈ r0 :: rs, Sz B r) ∧ (∀ i, Sz B (((r0 :: rs).take i).foldl (· + ·) 0)) ∧ (∀ i, Sz B (((r0 :: rs).take i).foldl (· * ·) 1)) ∧ (∀ i, i ≤ n → Sz B (r0 ^ i)) ∧ Sz 160 r0
def fRows (ds : List PyData) (d : PyData) : Prop := ∃ (r0 : Rat) (rs : List Rat) (n : Nat), ds = [.list ((r0 :: rs).map ratR), .int (n : Int)] ∧ RowOk r0 rs n ∧ d = .bool true
section
variable {P : Program} {w : World} {K : PySem.W.Frag} {mg : Str → Option Value} {base : Heap}
abbrev s_L_rows : Stmt := topS 46
abbrev N_L_rows : List Str := ["row", "exponent", "kept", "total", "product", "one", "power", "k", "least", "most"]
theorem sc_L_rows : FnScope N_L_rows ["row", "exponent"] (defScope s_L_rows) := ⟨rfl, rfl, rfl, by decide +kernel, rfl, by decide +kernel, by decide +kernel⟩
theorem ok_L_rows {f : Addr} {fd : FuncData} (F : Fun K "_law_rows" "_law_rows" s_L_rows f fd) (T : Bl mg)
    (D_law_same : Def P w K mg base CX0 2 "_law_same" ["told", "due"] (spD K 2 (fSame 2))) (D_law_plus : Def P w K mg base CX0 2 "_law_plus" ["a", "b"] (spD K 2 fPlusR)) (D_law_times : Def P w K mg base CX0 2 "_law_times" ["a", "b"] (spD K 2 fTimesR))
    (D_sum_of : Def P w K mg base CX0 3 "sum_of" ["ratios"] (spD K 1 (fFoldR (· + ·) 0))) (D_product_of : Def P w K mg base CX0 3 "product_of" ["ratios"] (spD K 1 (fFoldR (· * ·) 1)))
    (D_least_of : Def P w K mg base CX0 2 "least_of" ["ratios"] (spD K 1 (fPickR leastR))) (D_greatest_of : Def P w K mg base CX0 2 "greatest_of" ["ratios"] (spD K 1 (fPickR mostR)))
    (D_law_is_ratio : Def P w K mg base CX0 2 "_law_is_ratio" ["thing"] (spD K 1 fLIsRatio)) (D_law_less : Def P w K mg base CX0 1 "_law_less" ["a", "b"] (spD K 2 fLessR)) (D_power_of : Def P w K mg base CX0 1 "power_of" ["one", "exponent"] (spD K 2 fPower)) :
    FnOk P w K mg base CX0 4 f fd ["row", "exponent"] (spD K 2 fRows) := by
  refine F.ok sc_L_rows (fun vs H Q E h => ?_) (fun cdv A outer s H vs Q E hr h => ?_)
  · obtain ⟨ds, d, hl, hd, _⟩ := h
    exact (dps_len hd).trans hl
  · have hu65 := hr.un
    replace hu65 : (A.deeper (PyProof.Rows.envOfC (Str.ofString "_law_rows") (defScope s_L_rows) s.heap.objs.size f cdv)).units + 65 < cLine := by omega
    refine ⟨_, (pss_cons (ps_set (i := 2) sc_L_rows.nd rfl (Or.inl rfl) (pe_callTy call_list_of (by rfl) T.b_list (by decide +kernel) (pa_cons (pv 0) pa_nil)))
    (pss_cons (ps_set (i := 3) sc_L_rows.nd rfl (Or.inl rfl) (pe_tup (pa_cons pe_int (pa_cons pe_int pa_nil))))
    (pss_cons (ps_set (i := 4) sc_L_rows.nd rfl (Or.inl rfl) (pe_tup (pa_cons pe_int (pa_cons pe_int pa_nil))))
    (pss_cons (ps_for PassesOwn.never rfl (pi_list (pv 0)) (pg_name (i := 5) sc_L_rows.nd rfl (Or.inl rfl)) (pss_cons (ps_set (i := 3) sc_L_rows.nd rfl (Or.inl rfl) (pe_dcall D_law_plus (hr.mono (by decide)) pass0 (pa_cons (pv 3) (pa_cons (pv 5) pa_nil))))
    (pss_one (ps_set (i := 4) sc_L_rows.nd rfl (Or.inl rfl) (pe_dcall D_law_times (hr.mono (by decide)) pass0 (pa_cons (pv 4) (pa_cons (pv 5) pa_nil)))))))
    (pss_cons (ps_if (PW.pt (pw_or (pt_not (pt_val (pe_dcall D_law_same (hr.mono (by decide)) pass0 (pa_cons (pe_dcall D_sum_of (hr.mono (by decide)) pass0 (pa_cons (pv 0) pa_nil)) (pa_cons (pv 3) pa_nil))))) (pw_or1 (pt_not (pt_val (pe_dcall D_law_same (hr.mono (by decide)) pass0 (pa_cons (pe_dcall D_product_of (hr.mono (by decide)) pass0 (pa_cons (pe_callTy call_tuple_of (by rfl) T.b_tuple (by decide +kernel) (pa_cons (pv 0) pa_nil)) pa_nil)) (pa_cons (pv 4) pa_nil)))))))) (pss_one (ps_ret pe_bl)) pss_nil)
    (pss_cons (ps_set (i := 6) sc_L_rows.nd rfl (Or.inl rfl) (pe_tup (pa_cons pe_int (pa_cons pe_int pa_nil))))
    (pss_cons (ps_for PassesOwn.never rfl (pi_range1 rfl T.b_range (pa_cons (pv 1) pa_nil)) (pg_name (i := 7) sc_L_rows.nd rfl (Or.inl rfl)) (pss_one (ps_set (i := 6) sc_L_rows.nd rfl (Or.inl rfl) (pe_dcall D_law_times (hr.mono (by decide)) pass0 (pa_cons (pv 6) (pa_cons (pe_ix (r := rIxL K) ix_list (pv 0) pe_int (fun _ _ => rfl)) pa_nil))))))
    (pss_cons (ps_set (i := 8) sc_L_rows.nd rfl (Or.inr rfl) (pe_dcall D_least_of (hr.mono (by decide)) pass0 (pa_cons (pv 0) pa_nil)))
    (pss_cons (ps_set (i := 9) sc_L_rows.nd rfl (Or.inr rfl) (pe_dcall D_greatest_of (hr.mono (by decide)) pass0 (pa_cons (pe_callTy call_tuple_of (by rfl) T.b_tuple (by decide +kernel) (pa_cons (pv 0) pa_nil)) pa_nil)))
    (pss_cons (ps_if (pt_cmpR (op_neD hr.units) (pv 0) (pv 2) (nomark _)) (pss_one (ps_ret pe_bl)) pss_nil)
    (pss_cons (ps_if (PW.pt (pw_or (pt_not (pt_val (pe_dcall D_law_is_ratio (hr.mono (by decide)) pass0 (pa_cons (pv 8) pa_nil)))) (pw_or1 (pt_not (pt_val (pe_dcall D_law_is_ratio (hr.mono (by decide)) pass0 (pa_cons (pv 9) pa_nil))))))) (pss_one (ps_ret pe_bl)) pss_nil)
    (pss_cons (ps_if (PW.pt (pw_or (pt_cmpR (op_notInD hu65) (pv 8) (pv 0) (by rfl)) (pw_or (pt_cmpR (op_notInD hu65) (pv 9) (pv 0) (by rfl)) (pw_or1 (pt_val (pe_callB (cr_any rfl) (by rfl) T.b_any (by decide +kernel) (pa_cons (pe_lc (own := [("one", 5)]) (g := gName 5) rfl sc_L_rows.nd (pi_list (pv 0)) (blkOk_by (own := [("one", 5)]) (N := N_L_rows) (sc := defScope s_L_rows) (by decide +kernel)) (fun _ _ _ _ _ => pg_name (i := 5) sc_L_rows.nd rfl (Or.inl rfl)) (fun _ _ _ _ _ => pts_nil) (fun _ _ _ _ _ => (pe_or (pe_dcall D_law_less (hr.mono (by decide)) pass0 (pa_cons (pv 5) (pa_cons (pv 8) pa_nil))) (pe_one (pe_dcall D_law_less (hr.mono (by decide)) pass0 (pa_cons (pv 9) (pa_cons (pv 5) pa_nil))))))) pa_nil))))))) (pss_one (ps_ret pe_bl)) pss_nil)
    (pss_one (ps_ret (pe_and (pe_dcall D_law_same (hr.mono (by decide)) pass0 (pa_cons (pe_dcall D_power_of (hr.mono (by decide)) pass0 (pa_cons (pe_ix (r := rIxL K) ix_list (pv 0) pe_int (fun _ _ => rfl)) (pa_cons (pv 1) pa_nil))) (pa_cons (pv 6) pa_nil))) (pe_one (pe_dcall D_law_same (hr.mono (by decide)) pass0 (pa_cons (pe_dcall D_power_of (hr.mono (by decide)) pass0 (pa_cons (pe_ix (r := rIxL K) ix_list (pv 0) pe_int (fun _ _ => rfl)) (pa_cons pe_int pa_nil))) (pa_cons (pe_tup (pa_cons pe_int (pa_cons pe_int pa_nil))) pa_nil))))))))))))))))))), ?_⟩
    obtain ⟨ds, d, hl, hd, hf, k⟩ := h
    obtain ⟨r0, rs, n, rfl, ⟨hn, hlen, hok, hsum, hprod, hpow, h160⟩, rfl⟩ := hf
    obtain ⟨v_r, vs, rfl, h_r, hd⟩ := dps_cons hd
    obtain ⟨v_n, vs, rfl, h_n, hd⟩ := dps_cons hd
    obtain rfl := dps_nil hd
    have gr : ∀ z : Rat, goodN 2 (ratR z) = true := fun _ => rfl
    have one1 : PyData.tuple [.int 1, .int 1] = ratR 1 := rfl
    have zero1 : PyData.tuple [.int 0, .int 1] = ratR 0 := rfl
    have h0 : (ratR r0) = ((r0 :: rs).map ratR)[0]'(by simp) := rfl
    refine z_set (K := K) (σ := [some v_r, some v_n, none, none, none, none, none, none, none, none]) (d_listL (d_var ⟨_, rfl, h_r⟩)) fun v_kept H1 e1 h_kept => ?_
    replace h_r := dp_grow e1 _ _ h_r
    replace h_n := dp_grow e1 _ _ h_n
    refine z_set (K := K) (d := ratR 0) (σ := [some v_r, some v_n, some v_kept, none, none, none, none, none, none, none]) (d_tup (ds_cons d_int (ds_cons d_int ds_nil)) (by show 2 ≤ 1000; decide)) fun v_t H2 e2 h_t => ?_
    refine z_set (K := K) (d := ratR 1) (σ := [some v_r, some v_n, some v_kept, some v_t, none, none, none, none, none, none]) (d_tup (ds_cons d_int (ds_cons d_int ds_nil)) (by show 2 ≤ 1000; decide)) fun v_p H3 e3 h_p => ?_
    replace h_t := dp_grow e3 _ _ h_t
    replace h_r := dp_grow (e2.trans e3) _ _ h_r
    replace h_n := dp_grow (e2.trans e3) _ _ h_n
    replace h_kept := dp_grow (e2.trans e3) _ _ h_kept
    have ex := (e1.trans e2).trans e3
    refine z_forL (σ := [some v_r, some v_n, some v_kept, some v_t, some v_p, none, none, none, none, none]) (d_var ⟨_, rfl, h_r⟩) (fun i σ' H' => ∃ vt vp x5, σ' = [some v_r, some v_n, some v_kept, some vt, some vp, x5, none, none, none, none] ∧ Dp K H' vt (ratR (((r0 :: rs).take i).foldl (· + ·) 0)) ∧ Dp K H' vp (ratR (((r0 :: rs).take i).foldl (· * ·) 1)))
      (fun H' e => ⟨_, _, _, rfl, dp_grow e _ _ h_t, dp_grow e _ _ h_p⟩) (fun i d v σ' H' D' hd e pv hv kD => ?_) (fun σ' H4 e4 pv => ?_)
    · obtain ⟨vt, vp, x5, rfl, hvt, hvp⟩ := pv
      rw [List.getElem?_map] at hd
      obtain ⟨r, hr1, rfl⟩ := Option.map_eq_some_iff.mp hd
      have hm : r ∈ r0 :: rs := List.mem_of_getElem? hr1
      refine z_set (K := K) (σ := [some v_r, some v_n, some v_kept, some vt, some vp, some v, none, none, none, none]) (d_call (ds_cons (d_var ⟨_, rfl, hvt⟩) (ds_cons (d_var ⟨_, rfl, hv⟩) ds_nil)) rfl ⟨_, _, rfl, hsum i, hok _ hm, rfl⟩) fun vt2 H5 e5 h5 => ?_
      refine z_set1 (K := K) (σ := [some v_r, some v_n, some v_kept, some vt2, some vp, some v, none, none, none, none]) (d_call (ds_cons (d_var ⟨_, rfl, dp_grow e5 _ _ hvp⟩) (ds_cons (d_var ⟨_, rfl, dp_grow e5 _ _ hv⟩) ds_nil)) rfl ⟨_, _, rfl, hprod i, hok _ hm, rfl⟩) fun vp2 H6 e6 h6 => ?_
      refine kD _ _ (e5.trans e6) ⟨vt2, vp2, some v, rfl, ?_, ?_⟩
      · rw [take_next hr1, List.foldl_append]
        exact dp_grow e6 _ _ h5
      · rw [take_next hr1, List.foldl_append]
        exact h6
    · obtain ⟨vt, vp, x5, rfl, hvt, hvp⟩ := pv
      rw [List.length_map, List.take_length] at hvt hvp
      replace h_r := dp_grow e4 _ _ h_r
      replace h_n := dp_grow e4 _ _ h_n
      replace h_kept := dp_grow e4 _ _ h_kept
      replace ex := ex.trans e4
      have sumA : ∀ {H : Hp} {σ : L2.St}, Sl K σ H 0 (.list ((r0 :: rs).map ratR)) → EvD K (tCall (spD K 1 (fFoldR (· + ·) 0)) [] E0 (tCons (tVar 0) tNil)) σ H (ratR ((r0 :: rs).foldl (· + ·) 0)) := fun s => d_call (ds_cons (d_var s) ds_nil) rfl ⟨false, r0 :: rs, rfl, hok, hsum, rfl⟩
      refine z_if (b := false) (σ := [some v_r, some v_n, some v_kept, some vt, some vp, x5, none, none, none, none]) (b_nor (b_same (gr _) (sumA ⟨_, rfl, h_r⟩) (d_var ⟨_, rfl, hvt⟩))
        (b_same (gr _) (d_call (ds_cons (d_tupL (d_var ⟨_, rfl, h_r⟩)) ds_nil) rfl ⟨true, r0 :: rs, rfl, hok, hprod, rfl⟩) (d_var ⟨_, rfl, hvp⟩))) (fun c => by cases c) (fun _ H5 e5 => ?_)
      replace h_r := dp_grow e5 _ _ h_r
      replace h_n := dp_grow e5 _ _ h_n
      replace h_kept := dp_grow e5 _ _ h_kept
      replace ex := ex.trans e5
      refine z_nx ?_
      refine z_set (K := K) (d := ratR 1) (σ := [some v_r, some v_n, some v_kept, some vt, some vp, x5, none, none, none, none]) (d_tup (ds_cons d_int (ds_cons d_int ds_nil)) (by show 2 ≤ 1000; decide)) fun v_w H6 e6 h_w => ?_
      replace h_r := dp_grow e6 _ _ h_r
      replace h_n := dp_grow e6 _ _ h_n
      replace h_kept := dp_grow e6 _ _ h_kept
      replace ex := ex.trans e6
      have i0 : ∀ {H : Hp} {σ : L2.St}, Sl K σ H 0 (.list ((r0 :: rs).map ratR)) → EvD K (tOp (rIxL K) (tVar 0) (tC (.int 0))) σ H (ratR r0) := fun s => d_ixL (d_var s) d_int (L2.atI_nat (j := 0) (xs := ratR r0 :: rs.map ratR) rfl)
      refine z_forN (K := K) (n := (n : Int)) (σ := [some v_r, some v_n, some v_kept, some vt, some vp, x5, some v_w, none, none, none]) (ds_cons (d_var ⟨_, rfl, h_n⟩) ds_nil) (by omega) (by omega)
        (fun i σ' H' => ∃ vw x7, σ' = [some v_r, some v_n, some v_kept, some vt, some vp, x5, some vw, x7, none, none] ∧ Dp K H' vw (ratR (r0 ^ i))) (fun H' e => ⟨_, _, rfl, by rw [Rat.pow_zero]; exact dp_grow e _ _ h_w⟩) (fun i σ' H' D' hi e pv kD => ?_) (fun σ' H7 e7 pv => ?_)
      · obtain ⟨vw, x7, rfl, hvw⟩ := pv
        refine z_set1 (K := K) (σ := [some v_r, some v_n, some v_kept, some vt, some vp, x5, some vw, some (.int (i : Int)), none, none]) (d_call (ds_cons (d_var ⟨_, rfl, hvw⟩) (ds_cons (i0 ⟨_, rfl, dp_grow e _ _ h_r⟩) ds_nil)) rfl ⟨_, _, rfl, hpow i (by omega), hok _ List.mem_cons_self, rfl⟩) fun vw2 H8 e8 h8 => ?_
        refine kD _ _ e8 ⟨vw2, _, rfl, ?_⟩
        rw [Rat.pow_succ]
        exact h8
      · obtain ⟨vw, x7, rfl, hvw⟩ := pv
        rw [Int.toNat_natCast] at hvw
        replace h_r := dp_grow e7 _ _ h_r
        replace h_n := dp_grow e7 _ _ h_n
        replace h_kept := dp_grow e7 _ _ h_kept
        replace ex := ex.trans e7
        obtain ⟨m1, m2⟩ := fold_least (r0 :: rs) r0
        obtain ⟨m3, m4⟩ := fold_most (r0 :: rs) r0
        generalize hL : (r0 :: rs).foldl leastR r0 = L at m1 m2
        generalize hM : (r0 :: rs).foldl mostR r0 = M at m3 m4
        have mL : L ∈ r0 :: rs := by
          rcases List.mem_cons.mp m1 with q | q
          · rw [q]; exact List.mem_cons_self
          · exact q
        have mM : M ∈ r0 :: rs := by
          rcases List.mem_cons.mp m3 with q | q
          · rw [q]; exact List.mem_cons_self
          · exact q
        refine z_set (K := K) (d := ratR L) (σ := [some v_r, some v_n, some v_kept, some vt, some vp, x5, some vw, x7, none, none]) (d_call (ds_cons (d_var ⟨_, rfl, h_r⟩) ds_nil) rfl ⟨false, r0, rs, rfl, hok, by rw [hL]⟩) fun v_l H8 e8 h_l => ?_
        replace h_r := dp_grow e8 _ _ h_r
        refine z_set (K := K) (d := ratR M) (σ := [some v_r, some v_n, some v_kept, some vt, some vp, x5, some vw, x7, some v_l, none]) (d_call (ds_cons (d_tupL (d_var ⟨_, rfl, h_r⟩)) ds_nil) rfl ⟨true, r0, rs, rfl, hok, by rw [hM]⟩) fun v_m H9 e9 h_m => ?_
        replace h_r := dp_grow e9 _ _ h_r
        replace h_l := dp_grow e9 _ _ h_l
        replace h_n := dp_grow (e8.trans e9) _ _ h_n
        replace h_kept := dp_grow (e8.trans e9) _ _ h_kept
        replace hvw := dp_grow (e8.trans e9) _ _ hvw
        replace ex := ex.trans (e8.trans e9)
        have shp : SeqAt.shaped (.list ((r0 :: rs).map ratR)) = true := shaped_rats _
        refine z_if (b := false) (σ := [some v_r, some v_n, some v_kept, some vt, some vp, x5, some vw, x7, some v_l, some v_m]) (b_test (d_is (d_neD (d_var ⟨_, rfl, h_r⟩) (d_var ⟨_, rfl, h_kept⟩) shp shp) (by rw [eqv_self (canLay_of shp)]; rfl))) (fun c => by cases c) (fun _ H10 e10 => ?_)
        replace h_r := dp_grow e10 _ _ h_r
        replace h_l := dp_grow e10 _ _ h_l
        replace h_m := dp_grow e10 _ _ h_m
        replace h_n := dp_grow e10 _ _ h_n
        replace hvw := dp_grow e10 _ _ hvw
        replace ex := ex.trans e10
        refine z_nx ?_
        have isr : ∀ {H : Hp} {σ : L2.St} {i : Nat} {z : Rat}, z ∈ r0 :: rs → Sl K σ H i (ratR z) → EvB (tNot (tB (tCall (spD K 1 fLIsRatio) [] E0 (tCons (tVar i) tNil)))) σ H false := fun {H σ i z} hz s => b_is (b_not (b_val (d_call (ds_cons (d_var s) ds_nil) rfl ⟨_, rfl, fun a b q => by
          have hb : b = (z.den : Int) := by
            injection q with q
            injection q with _ q
            injection q with q _
            injection q with q
            exact q.symm
          rw [hb]
          exact Nat.lt_of_lt_of_le (hok z hz).2 (Nat.pow_le_pow_right (by decide) (by decide)), by rw [lrat_rat]⟩))) rfl
        refine z_if (b := false) (σ := [some v_r, some v_n, some v_kept, some vt, some vp, x5, some vw, x7, some v_l, some v_m]) (b_nor (isr mL ⟨_, rfl, h_l⟩) (isr mM ⟨_, rfl, h_m⟩)) (fun c => by cases c) (fun _ H11 e11 => ?_)
        replace h_r := dp_grow e11 _ _ h_r
        replace h_l := dp_grow e11 _ _ h_l
        replace h_m := dp_grow e11 _ _ h_m
        replace h_n := dp_grow e11 _ _ h_n
        replace hvw := dp_grow e11 _ _ hvw
        replace ex := ex.trans e11
        refine z_nx ?_
        have inr : ∀ {z : Rat}, z ∈ r0 :: rs → (!((r0 :: rs).map ratR).any fun y => PyData.eqv y (ratR z)) = false := fun {z} hz => by
          have : (((r0 :: rs).map ratR).any fun y => PyData.eqv y (ratR z)) = true := List.any_eq_true.mpr ⟨ratR z, List.mem_map_of_mem hz, eqv_rat z⟩
          rw [this]
          rfl
        have less : ∀ {H : Hp} {σ : L2.St} {i j : Nat} {y z : Rat}, y ∈ r0 :: rs → z ∈ r0 :: rs → ¬ y < z → Sl K σ H i (ratR y) → Sl K σ H j (ratR z) → EvD K (tCall (spD K 2 fLessR) [] E0 (tCons (tVar i) (tCons (tVar j) tNil))) σ H (.bool false) := fun hy hz hn s1 s2 =>
          d_call (ds_cons (d_var s1) (ds_cons (d_var s2) ds_nil)) rfl ⟨_, _, rfl, hok _ hy, hok _ hz, by rw [decide_eq_false hn]⟩
        have anyf : (((r0 :: rs).map ratR).any fun _ => false) = false := by
          rw [List.any_eq_false]
          intro _ _ c
          cases c
        refine z_if (b := false) (σ := [some v_r, some v_n, some v_kept, some vt, some vp, x5, some vw, x7, some v_l, some v_m]) (b_nor (b_test (d_is (d_notInD (d_var ⟨_, rfl, h_l⟩) (d_var ⟨_, rfl, h_r⟩) rfl shp) (by rw [inr mL]))) (b_nor (b_test (d_is (d_notInD (d_var ⟨_, rfl, h_m⟩) (d_var ⟨_, rfl, h_r⟩) rfl shp) (by rw [inr mM])))
          (b_val (d_is (d_anyL (fun _ => false) (d_var ⟨_, rfl, h_r⟩) (by rw [List.length_map]; omega) (fun _ => rfl) (fun d v H1 e hd hv => by
            obtain ⟨z, hz, rfl⟩ := List.mem_map.mp hd
            exact d_is (d_or (a := false) (b := false) (less hz mL (m2 z (List.mem_cons_of_mem _ hz)) ⟨_, rfl, hv⟩ ⟨_, rfl, dp_grow e _ _ h_l⟩) (fun _ => less mM hz (m4 z (List.mem_cons_of_mem _ hz)) ⟨_, rfl, dp_grow e _ _ h_m⟩ ⟨_, rfl, hv⟩)) rfl)) (by rw [anyf]))))) (fun c => by cases c) (fun _ H12 e12 => ?_)
        replace h_r := dp_grow e12 _ _ h_r
        replace h_n := dp_grow e12 _ _ h_n
        replace hvw := dp_grow e12 _ _ hvw
        replace ex := ex.trans e12
        refine z_nx ?_
        have pw : ∀ (m : Nat) {H : Hp} {σ : L2.St} {te : TE}, m ≤ 1000 → Sl K σ H 0 (.list ((r0 :: rs).map ratR)) → EvD K te σ H (.int (m : Int)) → EvD K (tCall (spD K 2 fPower) [] E0 (tCons (tOp (rIxL K) (tVar 0) (tC (.int 0))) (tCons te tNil))) σ H (ratR (r0 ^ m)) := fun m {H σ te} hm s t =>
          d_call (ds_cons (i0 s) (ds_cons t ds_nil)) rfl ⟨r0.num, r0.den, m, rfl, hm, h160.1, h160.2, (pow_rat r0 m).symm⟩
        refine z_ret (K := K) (σ := [some v_r, some v_n, some v_kept, some vt, some vp, x5, some vw, x7, some v_l, some v_m]) (d_and (a := true) (b := true) (d_same (gr _) (pw n hn ⟨_, rfl, h_r⟩ (d_var ⟨_, rfl, h_n⟩)) (d_var ⟨_, rfl, hvw⟩)) (fun _ => d_same (a := ratR 1) (gr _) (d_is (pw 0 (by decide) ⟨_, rfl, h_r⟩ d_int) (by rw [Rat.pow_zero])) (d_tup (ds_cons d_int (ds_cons d_int ds_nil)) (by show 2 ≤ 1000; decide)))) fun v H13 e13 h => ?_
        exact k v _ (ex.trans e13) h
end
end K01
/-! list(reversed(a list)), and a text times a number. -/
namespace Dat
open PySem PySem.Spec PyProof.Rows L2 Evl SX
abbrev lobj (xs : Array Value) (c : Nat) : Obj := { cls := .type "list", dict := none, data := .seq xs c, slots := #[] }
section
variable {prog : Program} {w : World} {A : Around} {E : Value → Shared → Prop} {s : Shared}
/-- the new list at S is filled from the iterator -/
theorem fill_rev {R : Result → Shared → Prop} {it l S : Addr} {items : Array Value} {c0 : Nat} (hh : A.in1.handled = none) (hit : s.heap.IsRevIter it l ((items.size : Int) - 1)) (hl : s.heap.IsList l items) (hne : l ≠ it) (hn : items.size ≤ sizeLine) (nI : S ≠ it) (nL : S ≠ l) (hS : s.heap.get? S = some (lobj #[] c0))
    (hR : ∀ s' acc c', Moved [S, it] (fun a b => b = a) s s' → s'.heap.get? S = some (lobj acc c') → ItemsOf (fun i v => items[items.size - 1 - i]? = some v) acc items.size → R (.ok (.ret .none)) s') :
    wpAny (model prog w) A.in1 (Builtin.List.listExtendWith (.ref S) (.ref it) .none) (fun fin s' => match fin with | .done f => R (.ok f) s' | .again c' => c'.quiet = true ∧ codeAny (model prog w) A c' R s') (fun e s' => R (.error e) s') s := by
  have W := (Walks.listRev (prog := prog) (w := w) hh it l hne items).toS
  have ty : s.TypeIs (.ref it) "list_reverseiterator" := hit.typeIs
  have away : S ∉ [it, l] := by simp [nI, nL]
  have same : Builtin.List.listSameRef (.ref S) (.ref it) = false := by simp [Builtin.List.listSameRef, nI]
  unfold Builtin.List.listExtendWith
  refine wpAny_bind (wpAny_typeOf ty ?_) ; rw [if_neg (by rw [same]; decide)]
  refine wpAny_bind (wpAny_pyIter_revIter hit ?_) ; refine wpAny_bind (wpAny_holding ?_)
  unfold Builtin.List.listLengthHint ; refine wpAny_bind (wpAny_specialOf ty RT.nolen_lri ?_)
  show wpAny _ _ (specialOf (.ref it) (Str.ofString "__length_hint__") >>= _) _ _ _
  refine wpAny_bind (wpAny_specialOf ty RT.hint_lri ?_)
  generalize hq : ("list_reverseiterator.__length_hint__" : String) = q0 ; wp_delta
  rw [show splitId q0 = some ("list_reverseiterator", "__length_hint__") from by subst hq ; decide +kernel] ; subst hq
  refine wpAny_bind (wpAny_isInstance (b := true) ty (by rw [isSubtype_type] ; kernel_rfl) ?_) ; refine wpAny_pure ?_ ; rw [if_neg (by decide)]
  have z0 : ((items.size : Nat) : Int) - 1 - ((0 : Nat) : Int) = (items.size : Int) - 1 := by omega
  exact wpAny_pure ⟨plainId_quiet F.plain_extend_loop _, codeAny_extend_loopS W hn S away .none items.size 0 s #[] c0 rfl (Nat.zero_le _) ⟨Nat.zero_le _, by rw [z0] ; exact hit, hl⟩ hS (ItemsOf.nil _) hR⟩
/-- list(the iterator) -/
theorem call_rev {it l : Addr} {items : Array Value} {Q : Value → Shared → Prop} (hh : A.handled = none) (hit : s.heap.IsRevIter it l ((items.size : Int) - 1)) (hl : s.heap.IsList l items) (hne : l ≠ it) (hn : items.size ≤ sizeLine)
    (hQ : ∀ h' tk acc c', (∀ b o, b ≠ it → s.heap.get? b = some o → h'.get? b = some o) → h'.get? s.heap.objs.size = some (lobj acc c') → ItemsOf (fun i v => items[items.size - 1 - i]? = some v) acc items.size → Q (.ref s.heap.objs.size) { s with heap := h', toks := tk }) :
    wpAny (model prog w) A (call (.type "list") [.ref it]) Q E s := by
  obtain ⟨oi, hoi, ri⟩ := id hit
  obtain ⟨ol, hol, rl⟩ := id hl
  have nI : s.heap.objs.size ≠ it := Nat.ne_of_gt (Heap.lt_size hoi)
  have nL : s.heap.objs.size ≠ l := Nat.ne_of_gt (Heap.lt_size hol)
  refine callType_codes (Q₁ := fun obj s1 => obj = .ref s.heap.objs.size ∧ s1 = { s with heap := s.heap.push (lobj #[] 0) }) F.called_list (F.typeCall_list_1 _) F.entry_list_init (code_list_new _ ⟨rfl, rfl⟩) fun obj s1 h1 => ?_
  obtain ⟨rfl, rfl⟩ := h1
  have g0 : (s.heap.push (lobj #[] 0)).get? s.heap.objs.size = some (lobj #[] 0) := Heap.get?_push_size _ rfl
  have old : ∀ b o, s.heap.get? b = some o → (s.heap.push (lobj #[] 0)).get? b = some o := fun b o e => Heap.get?_push_of_some _ e
  refine ⟨⟨_, g0, rfl⟩, F.args_list_init_2 _ _, ?_⟩
  show wpAny _ _ (do let was ← Builtin.List.listItems (.ref s.heap.objs.size); Builtin.List.listUpdate (.ref s.heap.objs.size) (fun _ => #[]); letGo was.toList.reverse; Builtin.List.listExtendWith (.ref s.heap.objs.size) (.ref it) .none) _ _ _
  refine wpAny_bind ?_
  unfold Builtin.List.listItems
  refine wpAny_bind (wpAny_seqItems g0 rfl (wpAny_pure ?_))
  show wpAny _ _ (updateSeq s.heap.objs.size (fun _ => #[]) >>= fun _ => letGo (#[] : Array Value).toList.reverse >>= fun _ => Builtin.List.listExtendWith (.ref s.heap.objs.size) (.ref it) .none) _ _ _
  refine wpAny_bind (wpAny_updateSeq g0 rfl ?_)
  have g1 := Heap.get?_update_self (Obj.mapSeq (fun _ => (#[] : Array Value))) g0 rfl
  have oth : ∀ b o, b ≠ s.heap.objs.size → (s.heap.push (lobj #[] 0)).get? b = some o → ((s.heap.push (lobj #[] 0)).update s.heap.objs.size (Obj.mapSeq (fun _ => (#[] : Array Value)))).get? b = some o := fun b o hb e => (Heap.get?_update_other _ _ (Ne.symm hb)).trans e
  refine wpAny_bind (wpAny_letGo ?_)
  refine fill_rev (A := A.in1) hh (hit.at fun o e => oth _ _ (Ne.symm nI) (old _ _ e)) (hl.at fun o e => oth _ _ (Ne.symm nL) (old _ _ e)) hne hn nI nL g1 fun s' acc c' hm hS' hacc => ?_
  refine ⟨rfl, ?_⟩
  rw [Moved.eq_with hm]
  refine hQ s'.heap s'.toks acc c' (fun b o hb e => hm.heap b o (fun hmem => ?_) (oth b o (Nat.ne_of_lt (Heap.lt_size e)) (old b o e))) hS' hacc
  rcases List.mem_cons.mp hmem with q | q
  · exact absurd (Heap.lt_size e) (by rw [q]; exact Nat.lt_irrefl _)
  · exact hb (List.mem_singleton.mp q)
end
def tListRev (K : PySem.W.Frag) (te : TE) : TE := fun σ H Q => te σ H fun v H1 => ∃ (a : Addr) (xs : List V), v = .ref a ∧ SqL K H1 a xs ∧ ∀ q, H1 q = none → Q (.ref q) (upd H1 q (.lst xs.reverse))
section
variable {X : Cx}
theorem pe_listRev {e : Expr} {te : TE} {p p2 pos pos2 : Pos} (hc : X.calm = true) (hg : Gl X "list") (hm : X.mg "list" = none) (hg2 : Gl X "reversed") (hm2 : X.mg "reversed" = none) (he : PE X e te)
    (hs : starEach [e] X.env = (false, eval e X.env) :: starEach [] X.env := by rfl)
    (hs2 : starEach [.Call (.Name "reversed" p2) [e] [] pos2] X.env = (false, eval (.Call (.Name "reversed" p2) [e] [] pos2) X.env) :: starEach [] X.env := by rfl) :
    PE X (.Call (.Name "list" p) [.Call (.Name "reversed" p2) [e] [] pos2] [] pos) (tListRev X.K te) := by
  refine ⟨fun pins s σ H Q I h => ?_⟩
  refine Call_ (ld_blt I hg hm (show bootBuiltins ("list" : Str) = some (.type "list") by decide +kernel) (PyProof.Rows.callWith_type1 (args_cons (Call_ (ld_blt I hg2 hm2 PyProof.Rows.boot_reversed (PyProof.Rows.callWith_type1 (args_cons (thn (he.run pins s σ H _ I h) fun u s1 hh => args_nil ?_) hs) hs rfl))) hs2) hs2 rfl))
  obtain ⟨v, H1, I1, r1, a, xs, rfl, hq, q⟩ := hh
  obtain rfl : u = Value.ref a := r1
  obtain ⟨its, rv, p', hz⟩ := I1.list hq
  refine call_reversed_list p'.isList (args_nil ?_)
  have k0 : ∀ b o, s1.heap.get? b = some o → (s1.heap.push (revObj a ((its.toArray.size : Int) - 1))).get? b = some o := fun b o z => Heap.get?_push_of_some _ z
  have hl := p'.isList
  obtain ⟨ol, hol, rl⟩ := id hl
  have hn : its.toArray.size ≤ sizeLine := by rw [List.size_toArray, ← rv.length] ; exact hz
  refine call_rev (s := { s1 with heap := s1.heap.push (revObj a ((its.toArray.size : Int) - 1)) }) (I1.ok.hd hc) ⟨_, Heap.get?_push_size _ rfl, rfl, rfl⟩ (hl.push _) (Nat.ne_of_lt (Heap.lt_size hol)) hn fun h' tk acc c' hk hS hi => ?_
  have kp : ∀ b o, s1.heap.get? b = some o → h'.get? b = some o := fun b o z => hk b o (Nat.ne_of_lt (Heap.lt_size z)) (k0 b o z)
  have hle : s1.heap.objs.size ≤ (s1.heap.push (revObj a ((its.toArray.size : Int) - 1))).objs.size := by rw [Heap.size_push] ; exact Nat.le_succ _
  exact ⟨.ref (s1.heap.push (revObj a ((its.toArray.size : Int) - 1))).objs.size, upd H1 (s1.heap.push (revObj a ((its.toArray.size : Int) - 1))).objs.size (.lst xs.reverse),
    I1.laid (t' := tk) kp hle (show ObjOk X.prog X.w _ h' _ (.lst xs.reverse) from ⟨by rw [List.length_reverse] ; exact hz, acc.toList, c', RT.vals_rev rv hi, by rw [Array.toArray_toList] ; exact hS⟩), rfl, q _ (I1.hok.fresh hle)⟩
/-- a text times a number -/
def rMulS : R2 := fun x y H Q => ∃ (z : Str) (n : Int), x = .str z ∧ y = .int n ∧ MulOk z n ∧ Q (.str (Txt.mul z n)) H
theorem op_mulS : OpR X (binaryOp .Mult) rMulS := by
  intro pins s σ H x y v u Q I rx ry h
  obtain ⟨z, n, rfl, rfl, ok, q⟩ := h
  obtain ⟨t, rfl⟩ := rx
  obtain ⟨t2, rfl⟩ := ry
  exact PySem.SB.mul ok (fun t' tk => ⟨.str (Txt.mul z n), H, I.tok _, ⟨_, rfl⟩, q⟩)
end
theorem fold_rep (c : Nat) : ∀ (k : Nat) (a : Array Nat), ((List.replicate k (#[c] : Array Nat)).foldl (· ++ ·) a).toList = a.toList ++ List.replicate k c
  | 0, a => by simp
  | k + 1, a => by
    rw [List.replicate_succ, List.foldl_cons, fold_rep c k, List.replicate_succ, Array.toList_append, List.append_assoc]
    rfl
theorem mul_S (c : Nat) {n : Nat} (h : 1 ≤ n) : Txt.mul (S [c]) (n : Int) = S (List.replicate n c) := by
  unfold Txt.mul
  rw [if_neg (by omega)]
  by_cases h1 : n = 1
  · subst h1
    rfl
  · have e : ((((n : Nat) : Int) == 1) || (S [c]).length == 0) = false := by
      have a : (((n : Nat) : Int) == 1) = false := by
        rw [beq_eq_false_iff_ne]
        omega
      rw [a]
      rfl
    rw [e, if_neg (by decide), Int.toNat_natCast]
    refine TL.ext_tl ?_
    show ((List.replicate n (#[c] : Array Nat)).foldl (· ++ ·) #[]).toList = _
    rw [fold_rep]
    rfl
theorem mulOk_S (c : Nat) {n : Nat} (h : n ≤ 400) : MulOk (S [c]) (n : Int) := PyProof.Rows.mulOk_of 1 400 (Nat.le_refl 1) (by omega) (by omega) (by decide) (by decide)
theorem dps_rev {K : PySem.W.Frag} {H : Hp} : ∀ {vs : List V} {ds : List PyData}, DpAll K H vs ds → DpAll K H vs.reverse ds.reverse
  | _, _, .nil => .nil
  | _, _, .cons h t => by
    rw [List.reverse_cons, List.reverse_cons]
    exact dps_app (dps_rev t) (.cons h .nil)
section
variable {K : PySem.W.Frag} {σ : L2.St} {H : Hp} {te tb : TE}
/-- figure * n -/
theorem d_mulS {c n : Nat} (h : EvD K te σ H (.str (S [c]))) (r : EvD K tb σ H (.int (n : Int))) (h1 : 1 ≤ n) (h4 : n ≤ 400) : EvD K (tOp rMulS te tb) σ H (.str (S (List.replicate n c))) := fun H1 x Q k =>
  h H1 x _ fun v H2 x2 hv => r H2 (x.trans x2) _ fun w H3 x3 hw => by
    cases hv
    cases hw
    refine ⟨_, _, rfl, rfl, mulOk_S c h4, ?_⟩
    rw [mul_S c h1]
    exact k _ H3 (x2.trans x3) (.str _)
/-- a + b, texts -/
theorem d_addS {a b : List Nat} (h : EvD K te σ H (.str (S a))) (r : EvD K tb σ H (.str (S b))) (hl : a.length + b.length ≤ 100000) :
    EvD K (tOp (fun x y H Q => ∃ i j, x = .str i ∧ y = .str j ∧ i.length + j.length ≤ sizeLine ∧ Q (.str (i ++ j)) H) te tb) σ H (.str (S (a ++ b))) := fun H1 x Q k =>
  h H1 x _ fun v H2 x2 hv => r H2 (x.trans x2) _ fun w H3 x3 hw => by
    cases hv
    cases hw
    refine ⟨_, _, rfl, rfl, by rw [S_len, S_len, sizeLine_eq]; omega, ?_⟩
    rw [S_cat]
    exact k _ H3 (x2.trans x3) (.str _)
/-- list(reversed(xs)) -/
theorem d_listRev {ds : List PyData} (h : EvD K te σ H (.list ds)) : EvD K (tListRev K te) σ H (.list ds.reverse) := fun H1 x Q k =>
  h H1 x _ fun v H2 x2 hv => by
    cases hv with
    | lst hs ha => exact ⟨_, _, rfl, hs, fun q hq => k _ _ (x2.trans (Ex.new hq)) (.lst (.inl (.inl upd_same)) (dps_grow (Ex.new hq) _ _ (dps_rev ha)))⟩
end
end Dat
namespace Dat
open PySem L2 Evl SX
section
variable {K : PySem.W.Frag} {σ : L2.St} {H : Hp} {te tb : TE}
theorem d_strS {x : Str} {l : List Nat} (h : x = S l) : EvD K (tC (.str x)) σ H (.str (S l)) := d_is d_str (by rw [h])
/-- any([.. for x in a tuple]) of truths -/
theorem d_anyT {ds : List PyData} {j : Nat} {vs : List Nat} (f : PyData → Bool) (h : EvD K te σ H (.tuple ds)) (hn : ds.length ≤ 40000) (hw : ∀ x, wipe ((wipe σ vs).set j (some x)) vs = wipe σ vs)
    (he : ∀ (d : PyData) (v : V) H1, Ex H H1 → d ∈ ds → Dp K H1 v d → EvD K tb ((wipe σ vs).set j (some v)) H1 (.bool (f d))) :
    EvD K (tCB (rAny K) (tCons (tLc (iTup K te) (gName j) tYes tb vs) tNil)) σ H (.bool (ds.any f)) := fun H1 e Q k => by
  show tLc (iTup K te) (gName j) tYes tb vs σ H1 (fun v H2 => rAny K [v] H2 Q)
  refine h H1 e _ fun v H2 e2 hv => ?_
  cases hv with
  | tup hs ha =>
    rename_i a xs
    have hl := dps_len ha
    refine ⟨a, rfl, ⟨xs, hs⟩, fun D hD => ?_⟩
    refine lc_tup (xs := xs) (fun i H' => Ex H2 H' ∧ H' D = some (.lst ((ds.take i).map fun d => V.bl (f d)))) ⟨Ex.new hD, upd_same⟩ (fun i H' _ p => ex_t p.1 hs) (fun i x H' hx p => ?_) (fun H' p => ?_)
    · obtain ⟨ex, hacc⟩ := p
      obtain ⟨d, hd, hxd⟩ := dps_back ha hx
      have hi : i < ds.length := (List.getElem?_eq_some_iff.mp hd).1
      refine ⟨hw _, ?_⟩
      refine K01.yes_turn (he d x H' ((e.trans e2).trans ex) (List.mem_of_getElem? hd) (dp_grow ex _ _ hxd) H' (Ex.refl H') _ fun y H4 e4 hy => ?_)
      cases hy
      refine ⟨_, e4 _ _ hacc, sz_lt (by rw [List.length_map, List.length_take]; omega), ?_, ?_⟩
      · have nD : ∀ b o, H2 b = some o → b ≠ D := fun b o hb => ne_of_none hb hD
        exact fun b o hb => (upd_ne (nD b o hb)).trans (e4 _ _ (ex _ _ hb))
      · rw [take_next hd, List.map_append]
        exact upd_same
    · obtain ⟨ex, hacc⟩ := p
      rw [hl, List.take_length] at hacc
      refine ⟨D, ds.map f, rfl, .inl (.inl (by rw [List.map_map]; exact hacc)), ?_⟩
      have e9 : (ds.map f).any id = ds.any f := by
        rw [List.any_map]
        rfl
      rw [e9]
      exact k _ _ (e2.trans ex) (.bl _)
end
end Dat
namespace K01
open PySem L2 Evl Dat SX
def spWords (K : PySem.W.Frag) : Sp := fun vs H Q _ => ∃ (v : V) (h c : Addr) (ns : List Int) (x : Rat), vs = [v, .ref h] ∧ Dp K H v (ratR x) ∧ x.num.natAbs < 10 ^ 100 ∧ x.den < 10 ^ 100 ∧ HandOk H h c ns ∧
  ∀ H', HandOk H' h c ns → Ex (rem H h) (rem H' h) → Q (.bl true) H'
def oddW (f : Nat) : List (List Nat) := [[45, 48], [43, 51], [48, 51], [50, 47, 52], ([f] ++ [47, 49]), [51, 47, 48], [], [45], [49, 47], [47, 50], ([49, 47, 48] ++ [f]), [49, 47, 45, 50], [32, 49], [49, 32], [49, 46, 53], [49, 47, 50, 47, 51], [45, 48, 47, 51], [48, 47, 53], [49, 44, 50], [120], [45, 45, 49], [49, 95, 48]]
theorem odd_len (f : Nat) : ∀ l ∈ oddW f, l.length ≤ 10 := by
  have h : (oddW f).all (fun l => decide (l.length ≤ 10)) = true := rfl
  intro l hl
  exact of_decide_eq_true (List.all_eq_true.mp h l hl)
theorem odd_none {f : Nat} (h : 49 ≤ f) (h' : f ≤ 57) : ((oddW f).any fun l => !isNone (parseL l)) = false := by
  have : ∀ f, f < 58 → 49 ≤ f → ((oddW f).any fun l => !isNone (parseL l)) = false := by decide +kernel
  exact this f (by omega) h
theorem rep_lead {f n : Nat} (h : 49 ≤ f) (h' : f ≤ 57) (hn : 1 ≤ n) : Lead (List.replicate n f) := by
  refine ⟨fun c hc => ?_, f, List.replicate (n - 1) f, ?_, h⟩
  · have := List.eq_of_mem_replicate hc
    omega
  · obtain ⟨m, rfl⟩ : ∃ m, n = m + 1 := ⟨n - 1, by omega⟩
    rfl
theorem lead_figs {l : List Nat} (h : Lead l) : figs l = true := by
  obtain ⟨h1, c, r, rfl, _⟩ := h
  unfold figs
  show (true && _) = true
  rw [Bool.true_and, List.all_eq_true]
  intro d hd
  have := h1 d hd
  rw [decide_eq_true this.1, decide_eq_true this.2]
  rfl
theorem figure_at {r : Int} (h0 : 0 ≤ r) (h1 : r < 9) : ∃ f, atI (PySem.Str.ofString "123456789").cps.toList r = some f ∧ 49 ≤ f ∧ f ≤ 57 := by
  have e : r = 0 ∨ r = 1 ∨ r = 2 ∨ r = 3 ∨ r = 4 ∨ r = 5 ∨ r = 6 ∨ r = 7 ∨ r = 8 := by omega
  rcases e with rfl | rfl | rfl | rfl | rfl | rfl | rfl | rfl | rfl
  · exact ⟨49, rfl, by decide, by decide⟩
  · exact ⟨50, rfl, by decide, by decide⟩
  · exact ⟨51, rfl, by decide, by decide⟩
  · exact ⟨52, rfl, by decide, by decide⟩
  · exact ⟨53, rfl, by decide, by decide⟩
  · exact ⟨54, rfl, by decide, by decide⟩
  · exact ⟨55, rfl, by decide, by decide⟩
  · exact ⟨56, rfl, by decide, by decide⟩
  · exact ⟨57, rfl, by decide, by decide⟩
theorem rem_same {H H' : Hp} {h : Addr} (e : ∀ b, b ≠ h → H' b = H b) : rem H' h = rem H h := funext fun b => by
  unfold rem
  by_cases q : b = h
  · rw [if_pos q, if_pos q]
  · rw [if_neg q, if_neg q, e b q]
def dueW (l : List Nat) : PyData := if decide ((l.length : Int) ≤ 300) = true then rat (NumText.digitsVal l) 1 else .none
theorem due_parse {l : List Nat} (h : Lead l) : parseL l = dueW l := by
  unfold dueW
  by_cases c : l.length ≤ 300
  · rw [decide_eq_true (by omega), if_pos rfl]
    have e := text_lead h
    have := parse_text (p := (NumText.digitsVal l : Nat)) (q := 1) (by decide) (by rw [Int.natAbs_natCast]; exact Nat.gcd_one_right _) (by rw [e]; exact c)
    rw [e] at this
    exact this
  · rw [decide_eq_false (by omega), if_neg (by decide)]
    exact parse_long (by omega)
section
variable {P : Program} {w : World} {K : PySem.W.Frag} {mg : Str → Option Value} {base : Heap}
abbrev s_L_words : Stmt := topS 47
abbrev N_L_words : List Str := ["a", "hand", "text", "figure", "long", "due", "odd", "word", "thing"]
theorem sc_L_words : FnScope N_L_words ["a", "hand"] (defScope s_L_words) := ⟨rfl, rfl, rfl, by decide +kernel, rfl, by decide +kernel, by decide +kernel⟩
theorem ok_L_words {f : Addr} {fd : FuncData} (F : Fun K "_law_words" "_law_words" s_L_words f fd) (T : Bl mg)
    (D_law_same : Def P w K mg base CX0 2 "_law_same" ["told", "due"] (spD K 2 (fSame 2))) (D_ratio_text : Def P w K mg base CX0 1 "ratio_text" ["one"] (spD K 1 fText)) (D_parse_ratio : Def P w K mg base CX0 2 "parse_ratio" ["text"] (spD K 1 fParse)) (D_law_draw : Def P w K mg base CX0 2 "_law_draw" ["hand", "many"] spDraw) :
    FnOk P w K mg base CX0 3 f fd ["a", "hand"] (spWords K) := by
  refine F.ok sc_L_words (fun vs H Q E h => ?_) (fun cdv A outer s H vs Q E hr h => ?_)
  · obtain ⟨v, h, c, ns, x, rfl, _⟩ := h
    rfl
  · refine ⟨_, (pss_cons (ps_set (i := 2) sc_L_words.nd rfl (Or.inl rfl) (pe_dcall D_ratio_text (hr.mono (by decide)) pass0 (pa_cons (pv 0) pa_nil)))
    (pss_cons (ps_if (PW.pt (pw_or (pt_not (pt_val (pe_dcall D_law_same (hr.mono (by decide)) pass0 (pa_cons (pv 2) (pa_cons (pe_ifExp (pt_cmpR op_eq (pe_ix (r := rIxT K) ix_tup (pv 0) pe_int (fun _ _ => rfl)) pe_int (nomark _)) (pe_callTy call_str_int (by rfl) T.b_str (by decide +kernel) (pa_cons (pe_ix (r := rIxT K) ix_tup (pv 0) pe_int (fun _ _ => rfl)) pa_nil)) (pe_op op_add_str (pe_op op_add_str (pe_callTy call_str_int (by rfl) T.b_str (by decide +kernel) (pa_cons (pe_ix (r := rIxT K) ix_tup (pv 0) pe_int (fun _ _ => rfl)) pa_nil)) pe_str) (pe_callTy call_str_int (by rfl) T.b_str (by decide +kernel) (pa_cons (pe_ix (r := rIxT K) ix_tup (pv 0) pe_int (fun _ _ => rfl)) pa_nil)))) pa_nil))))) (pw_or1 (pt_not (pt_val (pe_dcall D_law_same (hr.mono (by decide)) pass0 (pa_cons (pe_dcall D_parse_ratio (hr.mono (by decide)) pass0 (pa_cons (pv 2) pa_nil)) (pa_cons (pv 0) pa_nil)))))))) (pss_one (ps_ret pe_bl)) pss_nil)
    (pss_cons (ps_set (i := 3) sc_L_words.nd rfl (Or.inl rfl) (pe_ix (r := rIxS) ix_str pe_str (pe_dcall D_law_draw (hr.mono (by decide)) pass0 (pa_cons (pv 1) (pa_cons pe_int pa_nil))) (fun _ _ => rfl)))
    (pss_cons (ps_set (i := 4) sc_L_words.nd rfl (Or.inl rfl) (pe_op op_mulS (pv 3) (pe_op op_add pe_int (pe_dcall D_law_draw (hr.mono (by decide)) pass0 (pa_cons (pv 1) (pa_cons pe_int pa_nil))))))
    (pss_cons (ps_set (i := 5) sc_L_words.nd rfl (Or.inl rfl) (pe_ifExp (pt_cmpR op_le (pe_callB call_len_str (by rfl) T.b_len (by decide +kernel) (pa_cons (pv 4) pa_nil)) pe_int (nomark _)) (pe_tup (pa_cons (pe_callTy call_int_str (by rfl) T.b_int (by decide +kernel) (pa_cons (pv 4) pa_nil)) (pa_cons pe_int pa_nil))) pe_non))
    (pss_cons (ps_if (pt_not (pt_val (pe_dcall D_law_same (hr.mono (by decide)) pass0 (pa_cons (pe_dcall D_parse_ratio (hr.mono (by decide)) pass0 (pa_cons (pv 4) pa_nil)) (pa_cons (pv 5) pa_nil))))) (pss_one (ps_ret pe_bl)) pss_nil)
    (pss_cons (ps_set (i := 6) sc_L_words.nd rfl (Or.inl rfl) (pe_lst (pa_cons pe_str (pa_cons pe_str (pa_cons pe_str (pa_cons pe_str (pa_cons (pe_op op_add_str (pv 3) pe_str) (pa_cons pe_str (pa_cons pe_str (pa_cons pe_str (pa_cons pe_str (pa_cons pe_str (pa_cons (pe_op op_add_str pe_str (pv 3)) (pa_cons pe_str (pa_cons pe_str (pa_cons pe_str (pa_cons pe_str (pa_cons pe_str (pa_cons pe_str (pa_cons pe_str (pa_cons pe_str (pa_cons pe_str (pa_cons pe_str (pa_cons pe_str pa_nil))))))))))))))))))))))))
    (pss_cons (ps_if (pt_val (pe_callB (cr_any rfl) (by rfl) T.b_any (by decide +kernel) (pa_cons (pe_lc (own := [("word", 7)]) (g := gName 7) rfl sc_L_words.nd (pi_list (pv 6)) (blkOk_by (own := [("word", 7)]) (N := N_L_words) (sc := defScope s_L_words) (by decide +kernel)) (fun _ _ _ _ _ => pg_name (i := 7) sc_L_words.nd rfl (Or.inl rfl)) (fun _ _ _ _ _ => pts_nil) (fun _ _ _ _ _ => (pe_cmpR op_notN (pe_dcall D_parse_ratio (hr.mono (by decide)) pass0 (pa_cons (pv 7) pa_nil)) pe_non (nomark _)))) pa_nil))) (pss_one (ps_ret pe_bl)) pss_nil)
    (pss_one (ps_ret (pe_not (pe_callB (cr_any rfl) (by rfl) T.b_any (by decide +kernel) (pa_cons (pe_lc (own := [("thing", 8)]) (g := gName 8) rfl sc_L_words.nd (pi_tup (pe_tup (pa_cons pe_non (pa_cons pe_int (pa_cons (pe_lst (pa_cons (pv 2) pa_nil)) (pa_cons (pe_tup (pa_cons pe_int (pa_cons pe_int pa_nil))) pa_nil)))))) (blkOk_by (own := [("thing", 8)]) (N := N_L_words) (sc := defScope s_L_words) (by decide +kernel)) (fun _ _ _ _ _ => pg_name (i := 8) sc_L_words.nd rfl (Or.inl rfl)) (fun _ _ _ _ _ => pts_nil) (fun _ _ _ _ _ => (pe_cmpR op_notN (pe_dcall D_parse_ratio (hr.mono (by decide)) pass0 (pa_cons (pv 8) pa_nil)) pe_non (nomark _)))) pa_nil))))))))))))), ?_⟩
    obtain ⟨v_a, h, c, ns, x, rfl, h_a, bn, bd, hh, k⟩ := h
    have gr : ∀ z : Rat, goodN 2 (ratR z) = true := fun _ => rfl
    have t100 : (10 : Nat) ^ 100 < 2 ^ 1900 := by decide +kernel
    have bn2 : x.num.natAbs < 2 ^ 1900 := Nat.lt_trans bn t100
    have bd2 : (x.den : Int).natAbs < 2 ^ 1900 := Nat.lt_trans (by rw [Int.natAbs_natCast]; exact bd) t100
    have lt : (textR x.num x.den).length ≤ 300 := by
      have l1 := numI_len (p := x.num) (k := 100) (by decide) bn
      have l2 := numI_len (p := (x.den : Int)) (k := 100) (by decide) (by rw [Int.natAbs_natCast]; exact bd)
      unfold textR
      by_cases q : (x.den : Int) = 1
      · rw [if_pos q]; omega
      · rw [if_neg q, List.length_append, List.length_cons]; omega
    have back : parseL (textR x.num x.den) = ratR x := parse_text (by have := x.den_pos; omega) x.reduced lt
    refine z_set (K := K) (σ := [some v_a, some (.ref h), none, none, none, none, none, none, none]) (d_call (ds_cons (d_var ⟨_, rfl, h_a⟩) ds_nil) rfl ⟨_, _, rfl, bn2, bd2, rfl⟩) fun v_t H1 e1 h_t => ?_
    replace h_a := dp_grow e1 _ _ h_a
    cases h_t
    have vt : ∀ {H : Hp} {o3 o4 o5 o6 o7 o8 : Option V}, EvD K (tVar 2) [some v_a, some (.ref h), some (.str (S (textR x.num x.den))), o3, o4, o5, o6, o7, o8] H (.str (S (textR x.num x.den))) := d_var ⟨_, rfl, .str _⟩
    have va : ∀ {H : Hp} {o2 o3 o4 o5 o6 o7 o8 : Option V}, Dp K H v_a (ratR x) → EvD K (tVar 0) [some v_a, some (.ref h), o2, o3, o4, o5, o6, o7, o8] H (ratR x) := fun s => d_var ⟨_, rfl, s⟩
    refine z_if (b := false) (σ := [some v_a, some (.ref h), some (.str (S (textR x.num x.den))), none, none, none, none, none, none]) (b_nor
      (b_same (a := .str (S (textR x.num x.den))) rfl vt (d_is (d_ite (b_test (d_eqI (d_ixT (va h_a) d_int rfl) d_int)) (fun _ => d_strI (d_ixT (va h_a) d_int rfl) bn2) (fun _ => d_addS (d_addS (d_strI (d_ixT (va h_a) d_int rfl) bn2) (d_strS (l := [47]) rfl) (by have := numI_small bn2; show _ + 1 ≤ _; omega)) (d_strI (d_ixT (va h_a) d_int rfl) bd2) (by have := numI_small bn2; have := numI_small bd2; rw [List.length_append]; show _ + 1 + _ ≤ _; omega))) (by
        unfold textR
        by_cases q : (x.den : Int) = 1
        · rw [decide_eq_true q, if_pos rfl, if_pos q]
        · rw [decide_eq_false q, if_neg (by decide), if_neg q, List.append_assoc]
          rfl)))
      (b_same (gr x) (d_is (d_call (ds_cons vt ds_nil) rfl ⟨_, rfl, fun y z => by
        cases z
        rw [S_len]
        omega, rfl⟩) back) (va h_a))) (fun c => by cases c) (fun _ H2 e2 => ?_)
    have hh2 := hand_grow (e1.trans e2) hh
    have base2 : Ex (rem H h) (rem H2 h) := ex_rem (e1.trans e2)
    refine z_nx ?_
    refine ⟨_, rfl, h, c, ns, 9, rfl, by decide, by decide, hh2, fun r H3 r0 r1 hh3 he3 => ?_⟩
    obtain ⟨fg, hfg, f0, f1⟩ := figure_at r0 r1
    refine ⟨_, r, fg, rfl, rfl, by decide, hfg, ?_⟩
    refine ⟨_, rfl, _, rfl, h, c, ns, 21, rfl, by decide, by decide, hh3, fun r2 H4 r20 r21 hh4 he4 => ?_⟩
    obtain ⟨m, rfl⟩ := Int.eq_ofNat_of_zero_le r20
    have base4 : rem H4 h = rem H2 h := (rem_same he4).trans (rem_same he3)
    have hm : (290 : Int) + ((m : Nat) : Int) = ((290 + m : Nat) : Int) := by omega
    refine ⟨_, _, rfl, rfl, ?_⟩
    refine ⟨S [fg], ((290 + m : Nat) : Int), rfl, congrArg V.int hm, mulOk_S fg (by omega), ?_⟩
    rw [mul_S fg (by omega)]
    have ld : Lead (List.replicate (290 + m) fg) := rep_lead f0 f1 (by omega)
    have ll : (List.replicate (290 + m) fg).length = 290 + m := List.length_replicate
    generalize hL : List.replicate (290 + m) fg = L at ld ll
    show tSeq _ _ _ [some v_a, some (.ref h), some (.str (S (textR x.num x.den))), some (.str (S [fg])), some (.str (S L)), none, none, none, none] _
    have vl : ∀ {H : Hp} {o5 o6 o7 o8 : Option V}, EvD K (tVar 4) [some v_a, some (.ref h), some (.str (S (textR x.num x.den))), some (.str (S [fg])), some (.str (S L)), o5, o6, o7, o8] H (.str (S L)) := d_var ⟨_, rfl, .str _⟩
    have fv : ∀ {H : Hp} {o5 o6 o7 o8 : Option V}, EvD K (tVar 3) [some v_a, some (.ref h), some (.str (S (textR x.num x.den))), some (.str (S [fg])), some (.str (S L)), o5, o6, o7, o8] H (.str (S [fg])) := d_var ⟨_, rfl, .str _⟩
    refine z_set (K := K) (d := dueW L) (σ := [some v_a, some (.ref h), some (.str (S (textR x.num x.den))), some (.str (S [fg])), some (.str (S L)), none, none, none, none]) (d_ite (b_test (d_le (d_lenTx vl (by omega)) d_int)) (fun q => d_tup (ds_cons (d_intS vl (lead_figs ld) (by have := of_decide_eq_true q; omega)) (ds_cons d_int ds_nil)) (by show 2 ≤ 1000; decide)) (fun _ => d_non)) fun v_d H5 e5 h_d => ?_
    refine z_if (b := false) (σ := [some v_a, some (.ref h), some (.str (S (textR x.num x.den))), some (.str (S [fg])), some (.str (S L)), some v_d, none, none, none]) (b_same (a := dueW L) (by unfold dueW; cases decide ((L.length : Int) ≤ 300) <;> rfl) (d_is (d_call (ds_cons vl ds_nil) rfl ⟨_, rfl, fun y z => by
        cases z
        rw [S_len]
        omega, rfl⟩) (due_parse ld)) (d_var ⟨_, rfl, h_d⟩)) (fun c => by cases c) (fun _ H6 e6 => ?_)
    refine z_nx ?_
    refine z_set (K := K) (d := .list ((oddW fg).map fun l => PyData.str (S l))) (σ := [some v_a, some (.ref h), some (.str (S (textR x.num x.den))), some (.str (S [fg])), some (.str (S L)), some v_d, none, none, none]) (d_is (d_lst (ds_cons (d_strS rfl) (ds_cons (d_strS rfl) (ds_cons (d_strS rfl) (ds_cons (d_strS rfl) (ds_cons (d_addS (b := [47, 49]) fv (d_strS rfl) (by show 1 + 2 ≤ 100000; decide)) (ds_cons (d_strS rfl) (ds_cons (d_strS rfl) (ds_cons (d_strS rfl) (ds_cons (d_strS rfl) (ds_cons (d_strS rfl) (ds_cons (d_addS (a := [49, 47, 48]) (d_strS rfl) fv (by show 3 + 1 ≤ 100000; decide)) (ds_cons (d_strS rfl) (ds_cons (d_strS rfl) (ds_cons (d_strS rfl) (ds_cons (d_strS rfl) (ds_cons (d_strS rfl) (ds_cons (d_strS rfl) (ds_cons (d_strS rfl) (ds_cons (d_strS rfl) (ds_cons (d_strS rfl) (ds_cons (d_strS rfl) (ds_cons (d_strS rfl) ds_nil)))))))))))))))))))))) (by show 22 ≤ 1000; decide)) rfl) fun v_o H7 e7 h_o => ?_
    have parse : ∀ {H : Hp} {σ : L2.St} {i : Nat} {t : PyData}, (∀ y, t = .str y → y.length ≤ 1000) → Sl K σ H i t → EvD K (tOp (fun x y H Q => y = .non ∧ Q (.bl (!decide (x = .non))) H) (tCall (spD K 1 fParse) [] E0 (tCons (tVar i) tNil)) (tC .non)) σ H (.bool (!isNone (parseD t))) := fun ht s =>
      d_notN (d_call (ds_cons (d_var s) ds_nil) rfl ⟨_, rfl, ht, rfl⟩)
    have none1 : (((oddW fg).map fun l => PyData.str (S l)).any fun t => !isNone (parseD t)) = false := by
      rw [List.any_map]
      exact odd_none f0 f1
    refine z_if (b := false) (σ := [some v_a, some (.ref h), some (.str (S (textR x.num x.den))), some (.str (S [fg])), some (.str (S L)), some v_d, some v_o, none, none]) (b_val (d_is (d_anyL (fun t => !isNone (parseD t)) (d_var ⟨_, rfl, h_o⟩) (by show 22 ≤ 40000; decide) (fun _ => rfl) (fun t v H1 e ht hv => parse (fun y z => by
      obtain ⟨l, hl, rfl⟩ := List.mem_map.mp ht
      cases z
      have := odd_len fg l hl
      rw [S_len]
      omega) ⟨_, rfl, hv⟩)) (by rw [none1]))) (fun c => by cases c) (fun _ H8 e8 => ?_)
    refine z_nx ?_
    have things : EvD K _ [some v_a, some (.ref h), some (.str (S (textR x.num x.den))), some (.str (S [fg])), some (.str (S L)), some v_d, some v_o, none, none] H8 (.tuple [.none, .int 5, .list [.str (S (textR x.num x.den))], .tuple [.int 1, .int 2]]) :=
      d_tup (ds_cons d_non (ds_cons d_int (ds_cons (d_lst (ds_cons vt ds_nil) (by show 1 ≤ 1000; decide)) (ds_cons (d_tup (ds_cons d_int (ds_cons d_int ds_nil)) (by show 2 ≤ 1000; decide)) ds_nil)))) (by show 4 ≤ 1000; decide)
    refine z_ret (K := K) (d := .bool true) (σ := [some v_a, some (.ref h), some (.str (S (textR x.num x.den))), some (.str (S [fg])), some (.str (S L)), some v_d, some v_o, none, none]) (d_is (d_not (d_anyT (fun t => !isNone (parseD t)) things (by show 4 ≤ 40000; decide) (fun _ => rfl) (fun t v H1 e ht hv => parse (fun y z => by
      subst z
      simp at ht) ⟨_, rfl, hv⟩))) rfl) fun v H9 e9 hv => ?_
    cases hv
    refine k H9 (hand_grow (((e5.trans e6).trans (e7.trans e8)).trans e9) hh4) ?_
    refine base2.trans ?_
    rw [← base4]
    exact ex_rem (((e5.trans e6).trans (e7.trans e8)).trans e9)
end
end K01
/-! Expressions that draw from the hand: numbers (EI), data (EH), lists of them. -/
namespace Dat
open PySem L2 Evl K01
section
variable {K : PySem.W.Frag} {σ : L2.St} {te tb tx : TE} {ta : TA} {h c : Addr} {ns : List Int}
/-- a number, the hand at h apart nothing that is there changes -/
def EI (h c : Addr) (ns : List Int) (te : TE) (σ : L2.St) (P : Int → Prop) : Prop := ∀ H1, HandOk H1 h c ns → ∀ Q : VK, (∀ i H2, HandOk H2 h c ns → Ex (rem H1 h) (rem H2 h) → P i → Q (.int i) H2) → te σ H1 Q
/-- a datum without lists -/
def EH (K : PySem.W.Frag) (h c : Addr) (ns : List Int) (te : TE) (σ : L2.St) (P : PyData → Prop) : Prop := ∀ H1, HandOk H1 h c ns → ∀ Q : VK, (∀ v d H2, HandOk H2 h c ns → Ex (rem H1 h) (rem H2 h) → Dp K (rem H2 h) v d → flat d = true → P d → Q v H2) → te σ H1 Q
theorem i_c {P : Int → Prop} {i : Int} (p : P i) : EI h c ns (tC (.int i)) σ P := fun H1 hh Q q => q i H1 hh (Ex.refl _) p
theorem i_var {P : Int → Prop} {i : Int} {j : Nat} (s : σ[j]? = some (some (.int i))) (p : P i) : EI h c ns (tVar j) σ P := fun H1 hh Q q => ⟨_, s, q i H1 hh (Ex.refl _) p⟩
theorem i_draw {P : Int → Prop} {j : Nat} {many : Int} (s : σ[j]? = some (some (.ref h))) (m0 : 0 < many) (m1 : many.natAbs < 2 ^ 1000) (p : ∀ i, 0 ≤ i → i < many → P i) : EI h c ns (tCall spDraw [] E0 (tCons (tVar j) (tCons (tC (.int many)) tNil))) σ P := fun H1 hh Q q =>
  ⟨_, s, h, c, ns, many, rfl, m0, m1, hh, fun r H2 r0 r1 hh2 he2 => q r H2 hh2 (by rw [rem_same he2]; exact Ex.refl _) (p r r0 r1)⟩
theorem i_number {P : Int → Prop} {j : Nat} (s : σ[j]? = some (some (.ref h))) (p : ∀ i : Int, i.natAbs < 10 ^ 40 → P i) : EI h c ns (tCall spNumber [] E0 (tCons (tVar j) tNil)) σ P := fun H1 hh Q q =>
  ⟨_, s, h, c, ns, rfl, hh, fun n H2 hn hh2 he2 => q n H2 hh2 (fun b o hb => by
    by_cases e : b = h
    · subst e
      rw [rem_self] at hb
      cases hb
    · rw [rem_ne e] at hb ⊢
      rw [he2 b (by rw [hb]; exact fun z => by cases z) e]
      exact hb) (p n hn)⟩
theorem i_add {P1 P2 P : Int → Prop} (a : EI h c ns te σ P1) (b : EI h c ns tb σ P2) (p : ∀ i j, P1 i → P2 j → P (i + j)) : EI h c ns (tOp (rI0 fun i j => .int (i + j)) te tb) σ P := fun H1 hh Q q =>
  a H1 hh _ fun i H2 hh2 e2 p1 => b H2 hh2 _ fun j H3 hh3 e3 p2 => ⟨i, j, rfl, rfl, q _ H3 hh3 (e2.trans e3) (p i j p1 p2)⟩
theorem i_sub {P1 P2 P : Int → Prop} (a : EI h c ns te σ P1) (b : EI h c ns tb σ P2) (p : ∀ i j, P1 i → P2 j → P (i - j)) : EI h c ns (tOp (rI0 fun i j => .int (i - j)) te tb) σ P := fun H1 hh Q q =>
  a H1 hh _ fun i H2 hh2 e2 p1 => b H2 hh2 _ fun j H3 hh3 e3 p2 => ⟨i, j, rfl, rfl, q _ H3 hh3 (e2.trans e3) (p i j p1 p2)⟩
theorem i_neg {P1 P : Int → Prop} (a : EI h c ns te σ P1) (p : ∀ i, P1 i → P (-i)) : EI h c ns (tUn (rU fun i => .int (-i)) te) σ P := fun H1 hh Q q =>
  a H1 hh _ fun i H2 hh2 e2 p1 => ⟨i, rfl, q _ H2 hh2 e2 (p i p1)⟩
/-- a if n == m else b -/
theorem i_if {P1 P : Int → Prop} {m : Int} (a : EI h c ns te σ P1) (b1 : EI h c ns tb σ P) (b2 : EI h c ns tx σ P) : EI h c ns (tIf (tTest (tOp rEq te (tC (.int m)))) tb tx) σ P := fun H1 hh Q q =>
  a H1 hh _ fun i H2 hh2 e2 _ => by
    refine ⟨rfl, decide (V.int i = V.int m), rfl, ?_⟩
    cases decide (V.int i = V.int m) with
    | true => exact (b1 H2 hh2 Q fun j H3 hh3 e3 p => q j H3 hh3 (e2.trans e3) p)
    | false => exact (b2 H2 hh2 Q fun j H3 hh3 e3 p => q j H3 hh3 (e2.trans e3) p)
theorem i_abs {P1 P : Int → Prop} {r : List V → Hp → VK → Prop} (a : EI h c ns te σ P1) (hr : ∀ i H Q, Q (.int (i.natAbs : Int)) H → r [.int i] H Q) (p : ∀ i, P1 i → P (i.natAbs : Int)) : EI h c ns (tCB r (tCons te tNil)) σ P := fun H1 hh Q q =>
  a H1 hh _ fun i H2 hh2 e2 p1 => hr _ _ _ (q _ H2 hh2 e2 (p i p1))
theorem hand_lst {H : Hp} (hh : HandOk H h c ns) : ∃ xs, H h = some (.lst xs) := by
  obtain ⟨p, r, t, h1, _⟩ := hh
  exact ⟨_, h1⟩
theorem hand_dp {H : Hp} {v : V} {d : PyData} (hh : HandOk H h c ns) (f : flat d = true) (x : Dp K H v d) : Dp K (rem H h) v d := by
  obtain ⟨xs, hx⟩ := hand_lst hh
  exact dp_rem hx noTup_l d v f x
/-- a call of a def over data, its arguments two numbers -/
theorem eh_two {P1 P2 : Int → Prop} {P : PyData → Prop} {f : List PyData → PyData → Prop} {g : Int → Int → PyData} (a : EI h c ns te σ P1) (b : EI h c ns tb σ P2) (hf : ∀ i j, P1 i → P2 j → f [.int i, .int j] (g i j) ∧ flat (g i j) = true ∧ P (g i j)) :
    EH K h c ns (tCall (spD K 2 f) [] E0 (tCons te (tCons tb tNil))) σ P := fun H1 hh Q q =>
  a H1 hh _ fun i H2 hh2 e2 p1 => b H2 hh2 _ fun j H3 hh3 e3 p2 => by
    obtain ⟨q1, q2, q3⟩ := hf i j p1 p2
    exact ⟨[.int i, .int j], g i j, rfl, .cons (.int _) (.cons (.int _) .nil), q1, fun v H4 e4 hv => q v _ H4 (hand_grow e4 hh3) ((e2.trans e3).trans (ex_rem e4)) (hand_dp (hand_grow e4 hh3) q2 hv) q2 q3⟩
theorem eh_int {P : Int → Prop} {P' : PyData → Prop} (a : EI h c ns te σ P) (p : ∀ i, P i → P' (.int i)) : EH K h c ns te σ P' := fun H1 hh Q q =>
  a H1 hh _ fun i H2 hh2 e2 p1 => q _ _ H2 hh2 e2 (.int _) rfl (p i p1)
/-- [.. for k in range(n)] -/
theorem eh_list {j : Nat} {vs : List Nat} {Pn : Int → Prop} {P : PyData → Prop} (hn : EI h c ns tb σ Pn) (hp : ∀ n, Pn n → 0 ≤ n ∧ n ≤ 40000) (hw : ∀ x, wipe ((wipe σ vs).set j (some x)) vs = wipe σ vs)
    (he : ∀ i : Nat, EH K h c ns te ((wipe σ vs).set j (some (.int (i : Int)))) P) :
    ∀ H1, HandOk H1 h c ns → ∀ Q : VK, (∀ v ds H2, HandOk H2 h c ns → Ex (rem H1 h) (rem H2 h) → Dp K (rem H2 h) v (.list ds) → Pn (ds.length : Int) → (∀ d ∈ ds, flat d = true ∧ P d) → Q v H2) → tLc (iRng1 (tCons tb tNil)) (gName j) tYes te vs σ H1 Q := fun H1 hh Q q => by
  refine hn H1 hh _ fun n H2 hh2 e2 pn => ?_
  obtain ⟨n0, n1⟩ := hp n pn
  obtain ⟨m, rfl⟩ := Int.eq_ofNat_of_zero_le n0
  refine ⟨_, rfl, by omega, by omega, fun D hD => ?_⟩
  have nD : D ≠ h := fun e => by
    obtain ⟨xs, hx⟩ := hand_lst hh2
    rw [← e, hD] at hx
    cases hx
  have nC : c ≠ D := fun e => by
    obtain ⟨_, _, _, _, h2, _⟩ := hh2
    rw [e, hD] at h2
    cases h2
  refine lc_range (lo := 0) (n := (m : Int).toNat) (fun i H' => HandOk H' h c ns ∧ ∃ acc ds, H' D = some (.lst acc) ∧ ds.length = i ∧ Ex (rem H2 h) (rem (rem H' h) D) ∧ DpAll K (rem (rem H' h) D) acc ds ∧ ∀ d ∈ ds, flat d = true ∧ P d)
    ⟨hand_new hh2 hD, [], [], upd_same, rfl, ?_, .nil, fun d z => by cases z⟩ ?_ ?_
  · rw [rem_upd2]
    intro b o hb
    have nb : b ≠ D := fun e => by
      rw [e, rem_ne nD, hD] at hb
      cases hb
    rw [rem_ne nb]
    exact hb
  · rintro i H' hi ⟨hh', acc, ds, hacc, hlen, ex, hall, hds⟩
    have hlen2 : acc.length = ds.length := dps_len hall
    have z0 : (0 : Int) + (i : Int) = (i : Int) := Int.zero_add _
    rw [z0]
    refine ⟨hw _, yes_turn (he i H' hh' _ fun v d H3 hh3 e3 hv fd pd => ?_)⟩
    have hD3 : H3 D = some (.lst acc) := by
      have := e3 D (.lst acc) (by rw [rem_ne nD]; exact hacc)
      rw [rem_ne nD] at this
      exact this
    have hD4 : (rem H3 h) D = some (.lst acc) := by rw [rem_ne nD]; exact hD3
    have m2 : (m : Int).toNat = m := Int.toNat_natCast m
    refine ⟨acc, hD3, sz_lt (by omega), hand_upd hh3 (Ne.symm nD) nC, acc ++ [v], ds ++ [d], upd_same, by rw [List.length_append, hlen]; rfl, ?_, ?_, ?_⟩
    · rw [rem_upd2]
      exact ex.trans (ex_rem e3)
    · rw [rem_upd2]
      exact dps_app (dps_grow (ex_rem e3) _ _ hall) (.cons (dp_rem hD4 noTup_l _ _ fd hv) .nil)
    · intro z hz
      rcases List.mem_append.mp hz with hz | hz
      · exact hds z hz
      · have : z = d := by simpa using hz
        subst this
        exact ⟨fd, pd⟩
  · rintro H3 ⟨hh3, acc, ds, hacc, hlen, ex, hall, hds⟩
    refine q _ ds H3 hh3 (e2.trans (ex.trans rem_ex)) (.lst (SqL.of (by rw [rem_ne nD]; exact hacc)) (dps_grow rem_ex _ _ hall)) (by rw [hlen, Int.toNat_natCast]; exact pn) hds
variable {D : Ends} {ts tu : TS} {H : Hp}
theorem hz_set {j : Nat} {P : Int → Prop} (hh : HandOk H h c ns) (a : EI h c ns te σ P) (k : ∀ i H1, HandOk H1 h c ns → Ex (rem H h) (rem H1 h) → P i → ts D (σ.set j (some (.int i))) H1) : tSeq (tAsg te (gName j)) ts D σ H := a H hh _ k
theorem hz_list {j i : Nat} {vs : List Nat} {Pn : Int → Prop} {P : PyData → Prop} (hh : HandOk H h c ns) (hn : EI h c ns tb σ Pn) (hp : ∀ n, Pn n → 0 ≤ n ∧ n ≤ 40000) (hw : ∀ x, wipe ((wipe σ vs).set j (some x)) vs = wipe σ vs)
    (he : ∀ i : Nat, EH K h c ns te ((wipe σ vs).set j (some (.int (i : Int)))) P)
    (k : ∀ v ds H2, HandOk H2 h c ns → Ex (rem H h) (rem H2 h) → Dp K (rem H2 h) v (.list ds) → Pn (ds.length : Int) → (∀ d ∈ ds, flat d = true ∧ P d) → ts D (σ.set i (some v)) H2) :
    tSeq (tAsg (tLc (iRng1 (tCons tb tNil)) (gName j) tYes te vs) (gName i)) ts D σ H := eh_list hn hp hw he H hh _ k
theorem hz_data {j : Nat} {P : PyData → Prop} (hh : HandOk H h c ns) (a : EH K h c ns te σ P) (k : ∀ v d H1, HandOk H1 h c ns → Ex (rem H h) (rem H1 h) → Dp K (rem H1 h) v d → P d → ts D (σ.set j (some v)) H1) : tSeq (tAsg te (gName j)) ts D σ H := a H hh _ fun v d H1 a b x _ p => k v d H1 a b x p
end
end Dat
namespace Dat
open PySem L2 Evl SX K01
theorem fold_sum {a : Nat} : ∀ (l : List Rat) (n : Nat) (x : Rat), (∀ r ∈ l, Sz a r) → Sz n x → Sz (n + (a + 1) * l.length) (l.foldl (· + ·) x)
  | [], n, x, _, h => h
  | r :: l, n, x, hl, h => by
    have := fold_sum l (n + a + 1) (x + r) (fun z hz => hl z (List.mem_cons_of_mem _ hz)) (sz_add h (hl r List.mem_cons_self))
    refine this.mono ?_
    rw [List.length_cons, Nat.mul_succ]
    omega
theorem fold_prod {a : Nat} : ∀ (l : List Rat) (n : Nat) (x : Rat), (∀ r ∈ l, Sz a r) → Sz n x → Sz (n + a * l.length) (l.foldl (· * ·) x)
  | [], n, x, _, h => h
  | r :: l, n, x, hl, h => by
    have := fold_prod l (n + a) (x * r) (fun z hz => hl z (List.mem_cons_of_mem _ hz)) (sz_mul h (hl r List.mem_cons_self))
    refine this.mono ?_
    rw [List.length_cons, Nat.mul_succ]
    omega
theorem sz_one : Sz 1 1 := ⟨by decide, by decide⟩
theorem sz_zero : Sz 1 0 := ⟨by decide, by decide⟩
theorem sz_pow {a : Nat} {x : Rat} (h : Sz a x) : ∀ k : Nat, Sz (1 + a * k) (x ^ k)
  | 0 => by rw [Rat.pow_zero]; exact sz_one
  | k + 1 => by
    rw [Rat.pow_succ]
    exact (sz_mul (sz_pow h k) h).mono (by rw [Nat.mul_succ]; omega)
theorem row_ok {r0 : Rat} {rs : List Rat} {n a L : Nat} (h : ∀ r ∈ r0 :: rs, Sz a r) (hl : (r0 :: rs).length ≤ L) (h1 : 1 + (a + 1) * L ≤ 1500) (h2 : 1 + a * n ≤ 1500) (h3 : a ≤ 160) (h4 : L ≤ 100) (h5 : n ≤ 1000) : RowOk r0 rs n := by
  have le : ∀ i, ((r0 :: rs).take i).length ≤ L := fun i => Nat.le_trans (by rw [List.length_take]; omega) hl
  have mem : ∀ i, ∀ r ∈ (r0 :: rs).take i, Sz a r := fun i r hr => h r (List.mem_of_mem_take hr)
  refine ⟨h5, Nat.le_trans hl h4, fun r hr => (h r hr).mono (by show a ≤ 1500; omega), fun i => (fold_sum _ 1 0 (mem i) sz_zero).mono ?_, fun i => (fold_prod _ 1 1 (mem i) sz_one).mono ?_, fun i hi => (sz_pow (h r0 List.mem_cons_self) i).mono ?_, (h r0 List.mem_cons_self).mono h3⟩
  · have := Nat.mul_le_mul_left (a + 1) (le i)
    show _ ≤ 1500
    omega
  · have := Nat.mul_le_mul_left a (le i)
    have e : (a + 1) * L = a * L + L := Nat.succ_mul a L
    show _ ≤ 1500
    omega
  · have := Nat.mul_le_mul_left a hi
    show _ ≤ 1500
    omega
theorem low_sz {t b : Int} {a : Nat} (h0 : 0 < b) (h1 : t.natAbs < 2 ^ a) (h2 : b.natAbs < 2 ^ a) : ∃ z : Rat, lowest t b = ratR z ∧ Sz a z := by
  obtain ⟨m, rfl⟩ := Int.eq_ofNat_of_zero_le (by omega : 0 ≤ b)
  have m0 : m ≠ 0 := by omega
  exact ⟨_, low_norm t m m0, sz_norm t m m0 h1 h2⟩
theorem rats_of {a : Nat} : ∀ {ds : List PyData}, (∀ d ∈ ds, ∃ z : Rat, d = ratR z ∧ Sz a z) → ∃ rs : List Rat, ds = rs.map ratR ∧ ∀ r ∈ rs, Sz a r
  | [], _ => ⟨[], rfl, fun _ h => by cases h⟩
  | d :: ds, h => by
    obtain ⟨rs, e, hr⟩ := rats_of (ds := ds) fun z hz => h z (List.mem_cons_of_mem _ hz)
    obtain ⟨z, ez, hz⟩ := h d List.mem_cons_self
    refine ⟨z :: rs, by rw [ez, e]; rfl, fun r hr' => ?_⟩
    rcases List.mem_cons.mp hr' with q | q
    · rw [q]; exact hz
    · exact hr r q
section
variable {K : PySem.W.Frag} {σ : L2.St} {H : Hp} {te : TE} {tb : TS} {D : Ends} {ds : List PyData} {j : Nat}
theorem z_forT1 (h : EvD K te σ H (.tuple ds)) (Pv : Nat → L2.St → Hp → Prop) (h0 : ∀ H1, Ex H H1 → Pv 0 σ H1)
    (step : ∀ i d v σ' H' (D' : Ends), ds[i]? = some d → Ex H H' → Pv i σ' H' → Dp K H' v d → (∀ σ2 H2, Ex H' H2 → Pv (i + 1) σ2 H2 → D'.nx σ2 H2) → tb D' (σ'.set j (some v)) H')
    (fin : ∀ σ' H', Ex H H' → Pv ds.length σ' H' → D.nx σ' H') : tFor (iTup K te) (gName j) tb D σ H := z_forT (ts := tNext) h Pv h0 step fin
end
end Dat
namespace K01
open PySem L2 Evl Dat SX
def befores : List (List Nat) := [[45], [49, 47], [45, 49, 47], []]
def dueF (l : List Nat) (v : Int) : PyData := if l = [45] then rat (-v) 1 else if l = [] then rat v 1 else rat (if l = [45, 49, 47] then -1 else 1) v
theorem far_parse {l L : List Nat} (hl : l ∈ befores) (h : Lead L) (h1 : 1 < L.length) : parseL (l ++ L) = if decide (((l.length + L.length : Nat) : Int) ≤ 300) = true then dueF l (NumText.digitsVal L : Nat) else .none := by
  have pos := lead_pos h
  by_cases c : l.length + L.length ≤ 300
  · rw [decide_eq_true (by omega), if_pos rfl]
    have g1 : Nat.gcd (1 : Nat) ((NumText.digitsVal L : Nat) : Int).natAbs = 1 := Nat.gcd_one_left _
    have use : ∀ {p q : Int}, 0 < q → Nat.gcd p.natAbs q.natAbs = 1 → textR p q = l ++ L → parseL (l ++ L) = rat p q := fun a b e => by
      rw [← e]
      exact parse_text a b (by rw [e, List.length_append]; exact c)
    simp only [befores, List.mem_cons, List.not_mem_nil, or_false] at hl
    rcases hl with rfl | rfl | rfl | rfl
    · exact use (by decide) (Nat.gcd_one_right _) (text_lead_neg h)
    · exact use (p := 1) (by omega) g1 (text_lead_over h h1 1)
    · exact use (p := -1) (by omega) g1 (text_lead_over h h1 (-1))
    · exact use (by decide) (Nat.gcd_one_right _) (text_lead h)
  · rw [decide_eq_false (by omega), if_neg (by decide)]
    exact parse_long (by rw [List.length_append]; omega)
theorem due_good (l : List Nat) (v : Int) (b : Bool) : goodN 2 (if b = true then dueF l v else .none) = true := by
  cases b with
  | false => rfl
  | true =>
    rw [if_pos rfl]
    unfold dueF
    by_cases c : l = [45]
    · rw [if_pos c]; rfl
    · rw [if_neg c]
      by_cases c2 : l = []
      · rw [if_pos c2]; rfl
      · rw [if_neg c2]; rfl
theorem if_due (l : List Nat) : (if decide (S l = S [45, 49, 47]) = true then PyData.int (-1) else .int 1) = .int (if l = [45, 49, 47] then -1 else 1) := by
  by_cases q : l = [45, 49, 47]
  · rw [if_pos q, if_pos (decide_eq_true (congrArg S q))]
  · rw [if_neg q, if_neg (by rw [decide_eq_false (fun z => q (S_inj z))]; decide)]
theorem before_len : ∀ l ∈ befores, l.length ≤ 3 := by decide
def spFar (K : PySem.W.Frag) : Sp := fun vs H Q _ => ∃ (h c : Addr) (ns : List Int), vs = [.ref h] ∧ HandOk H h c ns ∧ ∀ H', HandOk H' h c ns → Ex (rem H h) (rem H' h) → Q (.bl true) H'
section
variable {P : Program} {w : World} {K : PySem.W.Frag} {mg : Str → Option Value} {base : Heap}
abbrev s_L_far : Stmt := topS 49
abbrev N_L_far : List Str := ["hand", "top", "one", "exponent", "row", "k", "figure", "before", "many", "long", "due"]
theorem sc_L_far : FnScope N_L_far ["hand"] (defScope s_L_far) := ⟨rfl, rfl, rfl, by decide +kernel, rfl, by decide +kernel, by decide +kernel⟩
theorem ok_L_far {f : Addr} {fd : FuncData} (F : Fun K "_law_far" "_law_far" s_L_far f fd) (T : Bl mg) (hrev : mg "reversed" = none)
    (D_law_same : Def P w K mg base CX0 2 "_law_same" ["told", "due"] (spD K 2 (fSame 2))) (D_law_ratio : Def P w K mg base CX0 1 "_law_ratio" ["top", "bottom"] (spD K 2 fLowest)) (D_parse_ratio : Def P w K mg base CX0 2 "parse_ratio" ["text"] (spD K 1 fParse)) (D_law_draw : Def P w K mg base CX0 2 "_law_draw" ["hand", "many"] spDraw)
    (D_law_power_holds : Def P w K mg base CX0 3 "_law_power_holds" ["one", "exponent"] (spD K 2 fPowerHolds)) (D_law_rows : Def P w K mg base CX0 4 "_law_rows" ["row", "exponent"] (spD K 2 fRows)) :
    FnOk P w K mg base CX0 5 f fd ["hand"] (spFar K) := by
  refine F.ok sc_L_far (fun vs H Q E h => ?_) (fun cdv A outer s H vs Q E hr h => ?_)
  · obtain ⟨h, c, ns, rfl, _⟩ := h
    rfl
  · refine ⟨_, (pss_cons (ps_set (i := 1) sc_L_far.nd rfl (Or.inl rfl) (pe_op op_add pe_int (pe_dcall D_law_draw (hr.mono (by decide)) pass0 (pa_cons (pv 0) (pa_cons pe_int pa_nil)))))
    (pss_cons (ps_set (i := 2) sc_L_far.nd rfl (Or.inl rfl) (pe_dcall D_law_ratio (hr.mono (by decide)) pass0 (pa_cons (pe_ifExp (pt_cmpR op_eq (pe_dcall D_law_draw (hr.mono (by decide)) pass0 (pa_cons (pv 0) (pa_cons pe_int pa_nil))) pe_int (nomark _)) (pv 1) (pe_un un_neg (pv 1))) (pa_cons (pe_op op_add pe_int (pe_dcall D_law_draw (hr.mono (by decide)) pass0 (pa_cons (pv 0) (pa_cons pe_int pa_nil)))) pa_nil))))
    (pss_cons (ps_set (i := 3) sc_L_far.nd rfl (Or.inl rfl) (pe_op op_add pe_int (pe_dcall D_law_draw (hr.mono (by decide)) pass0 (pa_cons (pv 0) (pa_cons pe_int pa_nil)))))
    (Evl.pss_cut (ps_if (pt_cmpR op_eq (pe_dcall D_law_draw (hr.mono (by decide)) pass0 (pa_cons (pv 0) (pa_cons pe_int pa_nil))) pe_int (nomark _)) (pss_one (ps_set (i := 3) sc_L_far.nd rfl (Or.inl rfl) pe_int)) pss_nil)
    (pss_cons (ps_setLc (i := 4) (own := [("k", 5)]) (g := gName 5) rfl sc_L_far.nd rfl rfl (sw_true rfl rfl rfl (by decide +kernel)) (pi_range1 rfl T.b_range (pa_cons (pe_op op_add pe_int (pe_dcall D_law_draw (hr.mono (by decide)) pass0 (pa_cons (pv 0) (pa_cons pe_int pa_nil)))) pa_nil)) (blkOk_by (own := [("k", 5)]) (N := N_L_far) (sc := defScope s_L_far) (by decide +kernel)) (fun _ _ _ _ _ => pg_name (i := 5) sc_L_far.nd rfl (Or.inl rfl)) (fun _ _ _ _ _ => pts_nil) (fun _ _ _ _ _ => (pe_dcall D_law_ratio (hr.mono (by decide)) pass0 (pa_cons (pe_op op_sub (pe_dcall D_law_draw (hr.mono (by decide)) pass0 (pa_cons (pv 0) (pa_cons pe_int pa_nil))) pe_int) (pa_cons (pe_op op_add pe_int (pe_dcall D_law_draw (hr.mono (by decide)) pass0 (pa_cons (pv 0) (pa_cons pe_int pa_nil)))) pa_nil)))))
    (pss_cons (ps_if (PW.pt (pw_or (pt_not (pt_val (pe_dcall D_law_power_holds (hr.mono (by decide)) pass0 (pa_cons (pv 2) (pa_cons (pv 3) pa_nil))))) (pw_or (pt_not (pt_val (pe_dcall D_law_rows (hr.mono (by decide)) pass0 (pa_cons (pv 4) (pa_cons pe_int pa_nil))))) (pw_or1 (pt_not (pt_val (pe_dcall D_law_rows (hr.mono (by decide)) pass0 (pa_cons (pe_listRev rfl (by rfl) T.b_list (by rfl) hrev (pv 4)) (pa_cons pe_int pa_nil))))))))) (pss_one (ps_ret pe_bl)) pss_nil)
    (pss_cons (ps_set (i := 6) sc_L_far.nd rfl (Or.inl rfl) (pe_ix (r := rIxS) ix_str pe_str (pe_dcall D_law_draw (hr.mono (by decide)) pass0 (pa_cons (pv 0) (pa_cons pe_int pa_nil))) (fun _ _ => rfl)))
    (pss_cons (ps_for PassesOwn.never rfl (pi_tup (pe_tup (pa_cons pe_str (pa_cons pe_str (pa_cons pe_str (pa_cons pe_str pa_nil)))))) (pg_name (i := 7) sc_L_far.nd rfl (Or.inl rfl)) (pss_one (ps_for PassesOwn.never rfl (pi_tup (pe_tup (pa_cons pe_int (pa_cons pe_int (pa_cons pe_int pa_nil))))) (pg_name (i := 8) sc_L_far.nd rfl (Or.inl rfl)) (pss_cons (ps_set (i := 9) sc_L_far.nd rfl (Or.inl rfl) (pe_op op_mulS (pv 6) (pe_op op_sub (pv 8) (pe_callB call_len_str (by rfl) T.b_len (by decide +kernel) (pa_cons (pv 7) pa_nil)))))
    (pss_cons (ps_set (i := 10) sc_L_far.nd rfl (Or.inl rfl) (pe_tup (pa_cons (pe_callTy call_int_str (by rfl) T.b_int (by decide +kernel) (pa_cons (pv 9) pa_nil)) (pa_cons pe_int pa_nil))))
    (Evl.pss_cut (ps_if (pt_cmpR op_eq (pv 7) pe_str (nomark _)) (pss_one (ps_set (i := 10) sc_L_far.nd rfl (Or.inl rfl) (pe_tup (pa_cons (pe_un un_neg (pe_callTy call_int_str (by rfl) T.b_int (by decide +kernel) (pa_cons (pv 9) pa_nil))) (pa_cons pe_int pa_nil))))) (pss_one (ps_if (pt_cmpR op_ne (pv 7) pe_str (nomark _)) (pss_one (ps_set (i := 10) sc_L_far.nd rfl (Or.inl rfl) (pe_tup (pa_cons (pe_ifExp (pt_cmpR op_eq (pv 7) pe_str (nomark _)) (pe_un un_neg pe_int) pe_int) (pa_cons (pe_callTy call_int_str (by rfl) T.b_int (by decide +kernel) (pa_cons (pv 9) pa_nil)) pa_nil))))) pss_nil)))
    (pss_one (ps_if (pt_not (pt_val (pe_dcall D_law_same (hr.mono (by decide)) pass0 (pa_cons (pe_dcall D_parse_ratio (hr.mono (by decide)) pass0 (pa_cons (pe_op op_add_str (pv 7) (pv 9)) pa_nil)) (pa_cons (pe_ifExp (pt_cmpR op_le (pv 8) pe_int (nomark _)) (pv 10) pe_non) pa_nil))))) (pss_one (ps_ret pe_bl)) pss_nil))))))))
    (pss_one (ps_ret pe_bl)))))))))), ?_⟩
    obtain ⟨h, c, ns, rfl, hh, k⟩ := h
    refine hz_set (D := _) (σ := [some (.ref h), none, none, none, none, none, none, none, none, none, none]) hh (i_add (i_c (P := fun i => i = 1) rfl) (i_draw (P := fun i => 0 ≤ i ∧ i < 9) rfl (by decide) (by decide) (fun i a b => ⟨a, b⟩)) (P := fun i => 1 ≤ i ∧ i ≤ 9) (fun i j a b => by omega)) fun top H1 hh1 x1 t1 => ?_
    refine hz_data (K := K) (D := _) (σ := [some (.ref h), some (.int top), none, none, none, none, none, none, none, none, none]) hh1 (eh_two (P := fun d => ∃ p q : Int, d = rat p q ∧ p.natAbs ≤ 9 ∧ q.natAbs ≤ 9) (g := lowest)
      (i_if (P := fun i => i.natAbs ≤ 9) (i_draw (P := fun _ => True) rfl (by decide) (by decide) (fun _ _ _ => trivial)) (i_var rfl (by omega)) (i_neg (i_var (P := fun i => i = top) rfl rfl) (fun i e => by subst e; omega)))
      (i_add (i_c (P := fun i => i = 1) rfl) (i_draw (P := fun i => 0 ≤ i ∧ i < 9) rfl (by decide) (by decide) (fun i a b => ⟨a, b⟩)) (P := fun i => 1 ≤ i ∧ i ≤ 9) (fun i j a b => by omega))
      (fun i j a b => ⟨⟨i, j, rfl, by omega, Nat.lt_of_le_of_lt (show j.natAbs ≤ 9 by omega) (by decide +kernel), rfl⟩, rfl, lowP i j, lowQ i j, rfl, Nat.le_trans lowQ_small.1 a, Nat.le_trans lowQ_small.2 (by omega)⟩)) fun v_one d_one H2 hh2 x2 h_one p_one => ?_
    obtain ⟨p, q, rfl, pb, qb⟩ := p_one
    refine hz_set (D := _) (σ := [some (.ref h), some (.int top), some v_one, none, none, none, none, none, none, none, none]) hh2 (i_add (i_c (P := fun i => i = 6) rfl) (i_draw (P := fun i => 0 ≤ i ∧ i < 55) rfl (by decide) (by decide) (fun i a b => ⟨a, b⟩)) (P := fun i => 0 ≤ i ∧ i ≤ 1000) (fun i j a b => by omega)) fun ex0 H3 hh3 x3 t3 => ?_
    replace h_one := dp_grow x3 _ _ h_one
    refine ⟨fun σ' H4 => ∃ ex1 : Int, 0 ≤ ex1 ∧ ex1 ≤ 1000 ∧ HandOk H4 h c ns ∧ Ex (rem H3 h) (rem H4 h) ∧ σ' = [some (.ref h), some (.int top), some v_one, some (.int ex1), none, none, none, none, none, none, none], ?_, ?_⟩
    · refine ⟨_, rfl, h, c, ns, 16, rfl, by decide, by decide, hh3, fun r H4 _ _ hh4 he4 => ?_⟩
      have x4 : Ex (rem H3 h) (rem H4 h) := by rw [rem_same he4]; exact Ex.refl _
      refine ⟨rfl, decide (V.int r = V.int 0), rfl, ?_⟩
      cases decide (V.int r = V.int 0) with
      | true => exact ⟨1000, by decide, by decide, hh4, x4, rfl⟩
      | false => exact ⟨ex0, t3.1, t3.2, hh4, x4, rfl⟩
    rintro σ' H4 ⟨ex1, e0, e1, hh4, x4, rfl⟩
    replace h_one := dp_grow x4 _ _ h_one
    refine hz_list (K := K) (D := _) (σ := [some (.ref h), some (.int top), some v_one, some (.int ex1), none, none, none, none, none, none, none]) (Pn := fun i => 4 ≤ i ∧ i ≤ 12) (P := fun d => ∃ z : Rat, d = ratR z ∧ Sz 5 z) hh4
      (i_add (i_c (P := fun i => i = 4) rfl) (i_draw (P := fun i => 0 ≤ i ∧ i < 9) rfl (by decide) (by decide) (fun i a b => ⟨a, b⟩)) (fun i j a b => by omega)) (fun n hn => by omega) (fun _ => rfl)
      (fun i => eh_two (g := lowest) (i_sub (i_draw (P := fun i => 0 ≤ i ∧ i < 41) rfl (by decide) (by decide) (fun i a b => ⟨a, b⟩)) (i_c (P := fun i => i = 20) rfl) (P := fun i => i.natAbs ≤ 20) (fun i j a b => by omega))
        (i_add (i_c (P := fun i => i = 1) rfl) (i_draw (P := fun i => 0 ≤ i ∧ i < 12) rfl (by decide) (by decide) (fun i a b => ⟨a, b⟩)) (P := fun i => 1 ≤ i ∧ i ≤ 12) (fun i j a b => by omega))
        (fun i j a b => ⟨⟨i, j, rfl, by omega, Nat.lt_of_le_of_lt (show j.natAbs ≤ 12 by omega) (by decide +kernel), rfl⟩, rfl, low_sz (by omega) (by show _ < 32; omega) (by show _ < 32; omega)⟩)) fun v_row ds H5 hh5 x5 h_row len p_row => ?_
    replace h_one := dp_grow x5 _ _ h_one
    obtain ⟨rs, rfl, hrs⟩ := rats_of (a := 5) fun d hd => (p_row d hd).2
    rw [List.length_map] at len
    clear p_row
    have base5 : Ex (rem H h) (rem H5 h) := x1.trans (x2.trans (x3.trans (x4.trans x5)))
    clear x1 x2 x3 x4 x5
    show tSeq _ _ _ [some (.ref h), some (.int top), some v_one, some (.int ex1), some v_row, none, none, none, none, none, none] _
    obtain ⟨n, rfl⟩ := Int.eq_ofNat_of_zero_le e0
    have power : ∀ {H : Hp} {σ : L2.St}, Sl K σ H 2 (rat p q) → Sl K σ H 3 (.int (n : Int)) → EvB (tNot (tB (tCall (spD K 2 fPowerHolds) [] E0 (tCons (tVar 2) (tCons (tVar 3) tNil))))) σ H false := fun s1 s2 => b_is (b_not (b_val (d_call (ds_cons (d_var s1) (ds_cons (d_var s2) ds_nil)) rfl ⟨p, q, n, rfl, by omega, Nat.lt_of_le_of_lt pb (by decide +kernel), Nat.lt_of_le_of_lt qb (by decide +kernel), rfl⟩))) rfl
    have rows : ∀ {H : Hp} {σ : L2.St} {te : TE} {m : Nat} {l : List Rat}, m ≤ 2 → l.length ≤ 12 → 0 < l.length → (∀ r ∈ l, Sz 5 r) → EvD K te σ H (.list (l.map ratR)) → EvB (tNot (tB (tCall (spD K 2 fRows) [] E0 (tCons te (tCons (tC (.int (m : Int))) tNil))))) σ H false := fun {H σ te m l} hm hl h0 hs t => by
      match l, hl, h0, hs, t with
      | r0 :: l, hl, _, hs, t => exact b_is (b_not (b_val (d_call (ds_cons t (ds_cons d_int ds_nil)) rfl ⟨r0, l, m, rfl, row_ok (a := 5) (L := 12) hs hl (by decide) (by omega) (by decide) (by decide) (by omega), rfl⟩))) rfl
    have lr : rs.length ≤ 12 ∧ 0 < rs.length := by omega
    have row : ∀ {H : Hp} {o5 o6 o7 o8 o9 o10 : Option V}, Dp K H v_row (.list (rs.map ratR)) → EvD K (tVar 4) [some (.ref h), some (.int top), some v_one, some (.int (n : Int)), some v_row, o5, o6, o7, o8, o9, o10] H (.list (rs.map ratR)) := fun s => d_var ⟨_, rfl, s⟩
    refine z_if (b := false) (σ := [some (.ref h), some (.int top), some v_one, some (.int (n : Int)), some v_row, none, none, none, none, none, none]) (b_nor (power ⟨_, rfl, dp_grow rem_ex _ _ h_one⟩ ⟨_, rfl, .int _⟩) (b_nor (rows (m := 2) (by decide) lr.1 lr.2 hrs (row (dp_grow rem_ex _ _ h_row)))
      (rows (m := 1) (l := rs.reverse) (by decide) (by rw [List.length_reverse]; exact lr.1) (by rw [List.length_reverse]; exact lr.2) (fun r hr => hrs r (List.mem_reverse.mp hr)) (d_is (d_listRev (row (dp_grow rem_ex _ _ h_row))) (by rw [List.map_reverse]))))) (fun c => by cases c) (fun _ H6 e6 => ?_)
    have hh6 := hand_grow e6 hh5
    have base6 : Ex (rem H h) (rem H6 h) := base5.trans (ex_rem e6)
    refine z_nx ?_
    refine ⟨_, rfl, h, c, ns, 9, rfl, by decide, by decide, hh6, fun r H7 r0 r1 hh7 he7 => ?_⟩
    obtain ⟨fg, hfg, f0, f1⟩ := figure_at r0 r1
    refine ⟨_, r, fg, rfl, rfl, by decide, hfg, ?_⟩
    have base7 : Ex (rem H h) (rem H7 h) := by rw [rem_same he7]; exact base6
    show tSeq _ _ _ [some (.ref h), some (.int top), some v_one, some (.int (n : Int)), some v_row, none, some (.str (S [fg])), none, none, none, none] _
    have bstr : EvD K _ [some (.ref h), some (.int top), some v_one, some (.int (n : Int)), some v_row, none, some (.str (S [fg])), none, none, none, none] H7 (.tuple (befores.map fun l => PyData.str (S l))) :=
      d_is (d_tup (ds_cons (d_strS (l := [45]) rfl) (ds_cons (d_strS (l := [49, 47]) rfl) (ds_cons (d_strS (l := [45, 49, 47]) rfl) (ds_cons (d_strS (l := []) rfl) ds_nil)))) (by show 4 ≤ 1000; decide)) rfl
    refine z_forT (σ := [some (.ref h), some (.int top), some v_one, some (.int (n : Int)), some v_row, none, some (.str (S [fg])), none, none, none, none]) bstr (fun i σ' H' => ∃ o7 o8 o9 o10, σ' = [some (.ref h), some (.int top), some v_one, some (.int (n : Int)), some v_row, none, some (.str (S [fg])), o7, o8, o9, o10])
      (fun H' _ => ⟨_, _, _, _, rfl⟩) (fun i d v σ' H8 D' hd e8 pv hv kD => ?_) (fun σ' H8 e8 pv => ?_)
    · obtain ⟨o7, o8, o9, o10, rfl⟩ := pv
      rw [List.getElem?_map] at hd
      obtain ⟨l, hl1, rfl⟩ := Option.map_eq_some_iff.mp hd
      have hl : l ∈ befores := List.mem_of_getElem? hl1
      have l3 := before_len l hl
      cases hv
      clear hd hl1
      refine z_forT1 (K := K) (ds := [.int 299, .int 300, .int 301]) (σ := [some (.ref h), some (.int top), some v_one, some (.int (n : Int)), some v_row, none, some (.str (S [fg])), some (.str (S l)), o8, o9, o10]) (d_tup (ds_cons d_int (ds_cons d_int (ds_cons d_int ds_nil))) (by show 3 ≤ 1000; decide)) (fun i σ' H' => ∃ o8 o9 o10, σ' = [some (.ref h), some (.int top), some v_one, some (.int (n : Int)), some v_row, none, some (.str (S [fg])), some (.str (S l)), o8, o9, o10])
        (fun H' _ => ⟨_, _, _, rfl⟩) (fun i d v σ' H9 D2 hd e9 pv hv kD2 => ?_) (fun σ' H9 e9 pv => ?_)
      · obtain ⟨p8, p9, p10, rfl⟩ := pv
        have hm : ∃ m : Nat, d = .int (m : Int) ∧ 299 ≤ m ∧ m ≤ 301 := by
          have := List.mem_of_getElem? hd
          simp only [List.mem_cons, List.not_mem_nil, or_false] at this
          rcases this with rfl | rfl | rfl
          · exact ⟨299, rfl, by decide, by decide⟩
          · exact ⟨300, rfl, by decide, by decide⟩
          · exact ⟨301, rfl, by decide, by decide⟩
        obtain ⟨m, rfl, m0, m1⟩ := hm
        cases hv
        clear hd
        have ld : Lead (List.replicate (m - l.length) fg) := rep_lead f0 f1 (by omega)
        have ll : (List.replicate (m - l.length) fg).length = m - l.length := List.length_replicate
        refine z_set (K := K) (d := .str (S (List.replicate (m - l.length) fg))) (σ := [some (.ref h), some (.int top), some v_one, some (.int (n : Int)), some v_row, none, some (.str (S [fg])), some (.str (S l)), some (.int (m : Int)), p9, p10]) (d_mulS (d_var ⟨_, rfl, .str _⟩) (d_is (d_sub (d_var ⟨_, rfl, .int _⟩) (d_lenTx (d_var ⟨_, rfl, .str _⟩) (by omega))) (by congr 1; omega)) (by omega) (by omega)) fun v_l H10 e10 h_l => ?_
        cases h_l
        generalize hL : List.replicate (m - l.length) fg = L at ld ll
        have vl : ∀ {H : Hp} {o10 : Option V}, EvD K (tVar 9) [some (.ref h), some (.int top), some v_one, some (.int (n : Int)), some v_row, none, some (.str (S [fg])), some (.str (S l)), some (.int (m : Int)), some (.str (S L)), o10] H (.str (S L)) := d_var ⟨_, rfl, .str _⟩
        have vb : ∀ {H : Hp} {o10 : Option V}, EvD K (tVar 7) [some (.ref h), some (.int top), some v_one, some (.int (n : Int)), some v_row, none, some (.str (S [fg])), some (.str (S l)), some (.int (m : Int)), some (.str (S L)), o10] H (.str (S l)) := d_var ⟨_, rfl, .str _⟩
        have iv : ∀ {H : Hp} {o10 : Option V}, EvD K (tCB (fun xs H Q => ∃ a n, xs = [.str a] ∧ PySem.intText? a = some n ∧ a.length ≤ 640 ∧ Q (.int n) H) (tCons (tVar 9) tNil)) [some (.ref h), some (.int top), some v_one, some (.int (n : Int)), some v_row, none, some (.str (S [fg])), some (.str (S l)), some (.int (m : Int)), some (.str (S L)), o10] H (.int (NumText.digitsVal L : Nat)) := d_intS vl (lead_figs ld) (by omega)
        refine z_set (K := K) (d := rat (NumText.digitsVal L : Nat) 1) (σ := [some (.ref h), some (.int top), some v_one, some (.int (n : Int)), some v_row, none, some (.str (S [fg])), some (.str (S l)), some (.int (m : Int)), some (.str (S L)), p10]) (d_tup (ds_cons iv (ds_cons d_int ds_nil)) (by show 2 ≤ 1000; decide)) fun v_d H11 e11 h_d => ?_
        have e911 := e10.trans e11
        refine ⟨fun σ' H12 => ∃ v, σ' = [some (.ref h), some (.int top), some v_one, some (.int (n : Int)), some v_row, none, some (.str (S [fg])), some (.str (S l)), some (.int (m : Int)), some (.str (S L)), some v] ∧ Ex H9 H12 ∧ Dp K H12 v (dueF l (NumText.digitsVal L : Nat)), ?_, ?_⟩
        · refine z_if1 (σ := [some (.ref h), some (.int top), some v_one, some (.int (n : Int)), some v_row, none, some (.str (S [fg])), some (.str (S l)), some (.int (m : Int)), some (.str (S L)), some v_d]) (b_test (d_eqS vb (d_strS (l := [45]) rfl))) (fun q H12 e12 => ?_) (fun q H12 e12 => ?_)
          · have ql : l = [45] := S_inj (of_decide_eq_true q)
            refine z_set1 (K := K) (d := rat (-(NumText.digitsVal L : Nat)) 1) (d_tup (ds_cons (d_neg iv) (ds_cons d_int ds_nil)) (by show 2 ≤ 1000; decide)) fun v H13 e13 hv => ⟨v, rfl, e911.trans (e12.trans e13), ?_⟩
            unfold dueF
            rw [if_pos ql]
            exact hv
          · have ql : ¬ l = [45] := fun z => of_decide_eq_false q (congrArg S z)
            refine z_if1 (σ := [some (.ref h), some (.int top), some v_one, some (.int (n : Int)), some v_row, none, some (.str (S [fg])), some (.str (S l)), some (.int (m : Int)), some (.str (S L)), some v_d]) (b_test (d_neS vb (d_strS (l := []) rfl))) (fun q2 H13 e13 => ?_) (fun q2 H13 e13 => ?_)
            · have q3 : ¬ l = [] := fun z => by
                subst z
                cases q2
              refine z_set1 (K := K) (d := rat (if l = [45, 49, 47] then -1 else 1) (NumText.digitsVal L : Nat)) (d_tup (ds_cons (d_is (d_ite (b_test (d_eqS vb (d_strS (l := [45, 49, 47]) rfl))) (fun _ => d_neg d_int) (fun _ => d_int)) (if_due l)) (ds_cons iv ds_nil)) (by show 2 ≤ 1000; decide)) fun v H14 e14 hv => ⟨v, rfl, e911.trans (e12.trans (e13.trans e14)), ?_⟩
              unfold dueF
              rw [if_neg ql, if_neg q3]
              exact hv
            · have q3 : l = [] := by
                have : decide (S l = S []) = true := by
                  cases z : decide (S l = S []) with
                  | true => rfl
                  | false => rw [z] at q2; cases q2
                exact S_inj (of_decide_eq_true this)
              refine z_next ⟨v_d, rfl, e911.trans (e12.trans e13), ?_⟩
              unfold dueF
              rw [if_neg ql, if_pos q3]
              exact dp_grow (e12.trans e13) _ _ h_d
        · rintro σ' H12 ⟨v, rfl, e12, hv⟩
          refine z_if1 (b := false) (σ := [some (.ref h), some (.int top), some v_one, some (.int (n : Int)), some v_row, none, some (.str (S [fg])), some (.str (S l)), some (.int (m : Int)), some (.str (S L)), some v]) (b_same (a := if decide ((m : Int) ≤ 300) = true then dueF l (NumText.digitsVal L : Nat) else .none) (due_good _ _ _) (d_is (d_call (ds_cons (d_addS vb vl (by omega)) ds_nil) rfl ⟨_, rfl, fun y z => by
              cases z
              rw [S_len, List.length_append]
              omega, rfl⟩) (by
              have e := far_parse hl ld (by omega)
              have em : l.length + L.length = m := by omega
              rw [em] at e
              exact e)) (d_ite (b_test (K := K) (d_le (d_var ⟨_, rfl, .int _⟩) d_int)) (fun _ => d_var ⟨_, rfl, hv⟩) (fun _ => d_non))) (fun c => by cases c) (fun _ H13 e13 => ?_)
          exact z_next (kD2 _ _ (e12.trans e13) ⟨_, _, _, rfl⟩)
      · obtain ⟨p8, p9, p10, rfl⟩ := pv
        exact kD _ _ e9 ⟨_, _, _, _, rfl⟩
    · obtain ⟨o7, o8, o9, o10, rfl⟩ := pv
      refine z_ret (K := K) (σ := [some (.ref h), some (.int top), some v_one, some (.int (n : Int)), some v_row, none, some (.str (S [fg])), o7, o8, o9, o10]) d_bl fun v H9 e9 hv => ?_
      cases hv
      exact k H9 (hand_grow (e8.trans e9) hh7) (base7.trans (ex_rem (e8.trans e9)))
end
end K01
namespace Dat
open PySem L2 Evl K01
structure DefK (P : Program) (w : World) (K : PySem.W.Frag) (mg : Str → Option Value) (base : Heap) (CX : CXT) (k : Nat) (x : Str) (ps ks : List Str) (gV : List V → List V → List V) (sp : Sp) : Prop where
  ex : ∃ (f : Addr) (fd : FuncData) (g : List Value → List Value → List Value), FnOk P w K mg base CX k f fd ps sp ∧ mg x = some (.ref f) ∧ PySem.W.keepIn K (.ref f) = true ∧ KBn K fd ps 0 ks g gV
section
variable {X : Cx} {CX : CXT} {k : Nat} {ps ks : List Str} {sp : Sp} {E : XK} {x : Str} {p pos : Pos} {kws : List Keyword} {tk : TA} {gV : List V → List V → List V}
/-- f(k = v, ..) -/
theorem pe_dcallK (D : DefK X.prog X.w X.K X.mg X.base CX k x ps ks gV sp) (hr : Room k X.A) (hx : Passes CX X E) (hkw : PK X kws tk) (hg : Gl X x := by rfl)
    (hall : (backToKw pos (keywordEach kws X.env)).all (·.1.isSome) = true := by rfl) (hks : (backToKw pos (keywordEach kws X.env)).filterMap (·.1) = ks := by rfl) (hdb : (x == ("__debug__" : Str)) = false := by decide)
    (hpl : ((backTo pos (starEach [] X.env)).any (·.1) || (backToKw pos (keywordEach kws X.env)).any (·.1.isNone)) = false := by rfl) :
    PE X (.Call (.Name x p) [] kws pos) (tCallN 0 ks.length sp gV E tNil tk) := by
  obtain ⟨f, fd, g, F, hm, hk, hb⟩ := D.ex
  refine ⟨fun pins s σ H Q I h => ?_⟩
  refine wpAny_Call_Name_kw (ld_glob I hg hm ?_ hdb)
  refine PySem.W.callWith_KW0 (h₀ := X.base) I.ok.mod.kin hk hall (thn (hkw.run pos pins s σ H _ I h) fun ws s2 hh => ?_) hpl
  obtain ⟨zs, H2, I2, rz, l1, l2, q2⟩ := hh
  refine ⟨I2.kIn, ?_⟩ ; rw [hks]
  exact run_fnN (us := []) (vs := []) F hr hb hx I2 .nil rz rfl l2 q2
end
theorem lowest_neg2 {t b : Int} (h : 0 < b) : lowest (-t) (-b) = lowest t b := by
  show rat (lowP (-t) (-b)) (lowQ (-t) (-b)) = rat (lowP t b) (lowQ t b)
  unfold lowP lowQ
  rw [if_pos (show -b < 0 by omega), if_pos (show -b < 0 by omega), if_neg (show ¬ b < 0 by omega), if_neg (show ¬ b < 0 by omega), Int.neg_neg, Int.neg_neg, Int.natAbs_neg, Int.natAbs_neg]
theorem lowest_flip {t b : Int} (h : 0 < b) : lowest t (-b) = rat (-(lowP t b)) (lowQ t b) := by
  show rat (lowP t (-b)) (lowQ t (-b)) = _
  unfold lowP lowQ
  rw [if_pos (show -b < 0 by omega), if_pos (show -b < 0 by omega), if_neg (show ¬ b < 0 by omega), if_neg (show ¬ b < 0 by omega), Int.neg_neg, Int.natAbs_neg]
  have hd : ((Nat.gcd t.natAbs b.natAbs : Nat) : Int) ∣ t := Int.ofNat_dvd_left.mpr (Nat.gcd_dvd_left _ _)
  rw [Int.neg_ediv_of_dvd hd]
theorem ratD_lrat {t b : Int} (h : 0 < b) : ratD (rat t b) = lratD (rat t b) := by
  have e1 : ratD (rat t b) = decide (((Nat.gcd t.natAbs b.natAbs : Nat) : Int) = 1) := by
    show (true && ((decide ((1 : Int) ≤ b) && true) && decide (((Nat.gcd t.natAbs b.natAbs : Nat) : Int) = 1))) = _
    rw [decide_eq_true (by omega)]
    rfl
  have e2 : lratD (rat t b) = PyData.eqv (lowest t b) (rat t b) := by
    show (true && (true && (true && (true && (decide (0 < b) && PyData.eqv (lowest t b) (rat t b)))))) = _
    rw [decide_eq_true h]
    rfl
  rw [e1, e2]
  by_cases g : Nat.gcd t.natAbs b.natAbs = 1
  · obtain ⟨l1, l2⟩ := low_cop h g
    have : lowest t b = rat t b := by
      show rat (lowP t b) (lowQ t b) = _
      rw [l1, l2]
    rw [this, decide_eq_true (by omega)]
    exact (eqv_self rfl).symm
  · rw [decide_eq_false (by omega)]
    symm
    have hb : lowQ t b ≠ b := by
      unfold lowQ
      rw [if_neg (by omega)]
      have g0 : 0 < Nat.gcd t.natAbs b.natAbs := Nat.gcd_pos_of_pos_right _ (by omega)
      have g2 : (2 : Int) ≤ ((Nat.gcd t.natAbs b.natAbs : Nat) : Int) := by omega
      intro e
      have := Int.ediv_lt_self_of_pos_of_ne_one (x := b) (y := ((Nat.gcd t.natAbs b.natAbs : Nat) : Int)) h (by omega)
      omega
    show PyData.eqv (.tuple [.int (lowP t b), .int (lowQ t b)]) (.tuple [.int t, .int b]) = false
    simp [PyData.eqv, PyData.eqvAll, hb]
end Dat
namespace Dat
open PySem L2 Evl K01 SX
section
variable {K : PySem.W.Frag} {σ : L2.St} {H B : Hp} {te tb : TE} {t u : TT} {tu tw ts : TS} {D : Ends} {h c : Addr} {ns : List Int}
/-- the hand stands, and all of the base B but the hand stays -/
structure StB (h c : Addr) (ns : List Int) (B H : Hp) : Prop where
  hh : HandOk H h c ns
  ex : Ex B (rem H h)
theorem StB.all (s : StB h c ns B H) : Ex B H := s.ex.trans rem_ex
theorem StB.grow {H' : Hp} (s : StB h c ns B H) (e : Ex H H') : StB h c ns B H' := ⟨hand_grow e s.hh, s.ex.trans (ex_rem e)⟩
def HB (h c : Addr) (ns : List Int) (B : Hp) (t : TT) (σ : L2.St) (b : Bool) : Prop := ∀ H1, StB h c ns B H1 → ∀ Q : Bool → Hp → Prop, (∀ H2, StB h c ns B H2 → Q b H2) → t σ H1 Q
theorem hb_of {b : Bool} (e : EvB t σ B b) : HB h c ns B t σ b := fun H1 s Q q => e H1 s.all Q fun H2 x => q H2 (s.grow x)
theorem hb_nor (a : HB h c ns B t σ false) (b : HB h c ns B u σ false) : HB h c ns B (tOr t u) σ false := fun H1 s Q q => a H1 s _ fun H2 s2 => b H2 s2 Q q
theorem bz_if (s : StB h c ns B H) (e : HB h c ns B t σ false) (k : ∀ H1, StB h c ns B H1 → tw { D with nx := ts D } σ H1) : tSeq (tIfS t tu tw) ts D σ H := e H s _ k
theorem bz_if1 (s : StB h c ns B H) (e : HB h c ns B t σ false) (k : ∀ H1, StB h c ns B H1 → tw D σ H1) : tIfS t tu tw D σ H := e H s _ k
theorem bz_set {i : Nat} {d : PyData} (s : StB h c ns B H) (e : EvD K te σ B d) (k : ∀ v H1, StB h c ns B H1 → Dp K H1 v d → ts D (σ.set i (some v)) H1) : tSeq (tAsg te (gName i)) ts D σ H := e H s.all _ fun v H1 x hv => k v H1 (s.grow x) hv
theorem bz_int {i : Nat} {P : Int → Prop} (s : StB h c ns B H) (e : EI h c ns te σ P) (k : ∀ n H1, StB h c ns B H1 → P n → ts D (σ.set i (some (.int n))) H1) : tSeq (tAsg te (gName i)) ts D σ H := e H s.hh _ fun n H1 a x p => k n H1 ⟨a, s.ex.trans x⟩ p
theorem hz_for {n j : Nat} {tb : TS} (hn : n ≤ 1000) (Pv : Nat → L2.St → Hp → Prop) (p0 : Pv 0 σ H) (step : ∀ i σ' H' (D' : Ends), i < n → Pv i σ' H' → (∀ σ2 H2, Pv (i + 1) σ2 H2 → D'.nx σ2 H2) → tb D' (σ'.set j (some (.int (i : Int)))) H') (fin : ∀ σ' H', Pv n σ' H' → ts D σ' H') :
    tSeq (tFor (iRng1 (tCons (tC (.int (n : Int))) tNil)) (gName j) tb) ts D σ H := by
  refine ⟨(n : Int), rfl, by omega, by omega, for_range (lo := 0) (n := (n : Int).toNat) Pv p0 (fun i σ' H' hi p => ?_) (fun σ' H' p => fin σ' H' (by rw [Int.toNat_natCast] at p; exact p))⟩
  rw [Int.zero_add]
  exact step i σ' H' _ (by omega) p fun σ2 H2 p2 => p2
theorem bz_if2 (s : StB h c ns B H) (e1 : EvB t σ H false) (e2 : HB h c ns B u σ false) (k : ∀ H1, StB h c ns B H1 → tw { D with nx := ts D } σ H1) : tSeq (tIfS (tOr t u) tu tw) ts D σ H := e1 H (Ex.refl H) _ fun H2 x => e2 H2 (s.grow x) _ k
theorem hb_rows {i : Nat} {v : V} {r0 : Rat} {rs : List Rat} (hs : σ[i]? = some (some v)) (hv : Dp K B v (.list ((r0 :: rs).map ratR))) (e : EI h c ns te σ (fun n => 0 ≤ n ∧ n < 6)) (ok : ∀ n : Nat, n < 6 → RowOk r0 rs n) :
    HB h c ns B (tNot (tB (tCall (spD K 2 fRows) [] E0 (tCons (tVar i) (tCons te tNil))))) σ false := fun H1 s Q q =>
  ⟨v, hs, e H1 s.hh _ fun n H2 hh2 x2 pn => by
    obtain ⟨m, rfl⟩ := Int.eq_ofNat_of_zero_le pn.1
    have s2 : StB h c ns B H2 := ⟨hh2, s.ex.trans x2⟩
    exact ⟨[.list ((r0 :: rs).map ratR), .int (m : Int)], .bool true, rfl, .cons (dp_grow s2.all _ _ hv) (.cons (.int _) .nil), ⟨r0, rs, m, rfl, ok m (by have := pn.2; omega), rfl⟩, fun v H3 e3 hv => by
      cases hv
      exact ⟨true, rfl, q H3 (s2.grow e3)⟩⟩⟩
theorem hb_words {j : Nat} {x : Rat} (e : EvD K te σ B (ratR x)) (hj : σ[j]? = some (some (.ref h))) (b1 : x.num.natAbs < 10 ^ 100) (b2 : x.den < 10 ^ 100) : HB h c ns B (tNot (tB (tCall (spWords K) [] E0 (tCons te (tCons (tVar j) tNil))))) σ false := fun H1 s Q q =>
  e H1 s.all _ fun v H2 x2 hv => ⟨_, hj, v, h, c, ns, x, rfl, hv, b1, b2, (s.grow x2).hh, fun H3 hh3 x3 => ⟨true, rfl, q H3 ⟨hh3, (s.grow x2).ex.trans x3⟩⟩⟩
theorem d_callK {C : Addr} {m : Str} {n : Nat} {f : List PyData → PyData → Prop} {g : List PyData → Str → Prop} {E : XK} {tk : TA} {ds : List PyData} {d : PyData} {ks : List Str} (e : EvDs K tk σ H ds) (hl : ds.length = n) (hk : ks.length = n) (hf : f ds.reverse d) :
    EvD K (tCallN 0 ks.length (spE K C m n f g) (fun vs zs => zs.reverse) E tNil tk) σ H d := fun H1 x Q k =>
  e H1 x _ fun vs H2 x2 hvs => ⟨rfl, (dps_len hvs).trans (hl.trans hk.symm), ds.reverse, by rw [List.length_reverse]; exact hl, dps_rev hvs, .inl ⟨d, hf, fun v H' x' hv => k v H' (x2.trans x') hv⟩⟩
theorem d_abs1 {i : Int} (e : EvD K te σ H (.int i)) : EvD K (tCB (fun xs H Q => ∃ i, xs = [.int i] ∧ Q (.int (if i < 0 then -i else i)) H) (tCons te tNil)) σ H (.int (if i < 0 then -i else i)) := fun H1 x Q k =>
  e H1 x _ fun v H2 x2 hv => by
    cases hv
    exact ⟨i, rfl, k _ H2 x2 (.int _)⟩
theorem three_rem {v : V} {n : Int} (hh : HandOk H h c ns) (x : Dp K H v (.list [.int n])) : Dp K (rem H h) v (.list [.int n]) := by
  obtain ⟨p, r, t, hx, _⟩ := hh
  cases x with
  | lst hs ha =>
    rename_i a xs
    obtain ⟨v1, ws, rfl, h1, h2⟩ := dps_cons ha
    obtain rfl := dps_nil h2
    cases h1
    refine .lst ?_ (.cons (.int _) .nil)
    rcases hs with (hq | ⟨u, hq⟩) | hk
    · have na : a ≠ h := fun e => by
        rw [e, hx] at hq
        injection hq with hq
        injection hq with hq
        injection hq with hq _
        cases hq
      exact .inl (.inl (by rw [rem_ne na]; exact hq))
    · have na : a ≠ h := fun e => by
        rw [e, hx] at hq
        injection hq with hq
        cases hq
      exact .inl (.inr ⟨u, by rw [rem_ne na]; exact hq⟩)
    · exact .inr hk
theorem d_intI {i : Int} (e : EvD K te σ H (.int i)) : EvD K (tCB (fun xs H Q => (∃ i, xs = [.int i] ∧ Q (.int i) H) ∨ ∃ k, xs = [.bl k] ∧ Q (.int (if k then 1 else 0)) H) (tCons te tNil)) σ H (.int i) := fun H1 x Q k =>
  e H1 x _ fun v H2 x2 hv => by
    cases hv
    exact .inl ⟨i, rfl, k _ H2 x2 (.int _)⟩
end
def T3 (t : Nat → Int) : List PyData := [.int (t 0), .int (t 1), .int (t 2)]
def R3 (z : Nat → Rat) : List PyData := [ratR (z 0), ratR (z 1), ratR (z 2)]
theorem lt3 {k : Nat} (h : k < 3) : k = 0 ∨ k = 1 ∨ k = 2 := by omega
theorem at_t {t : Nat → Int} {k : Nat} (h : k < 3) : atI (T3 t) (k : Int) = some (.int (t k)) := by
  rcases lt3 h with rfl | rfl | rfl <;> exact L2.atI_nat rfl
theorem at_r {z : Nat → Rat} {k : Nat} (h : k < 3) : atI (R3 z) (k : Int) = some (ratR (z k)) := by
  rcases lt3 h with rfl | rfl | rfl <;> exact L2.atI_nat rfl
theorem three_of {P : Int → Prop} {ds : List PyData} (hl : (ds.length : Int) = 3) (h : ∀ d ∈ ds, ∃ i : Int, d = .int i ∧ P i) : ∃ t : Nat → Int, ds = T3 t ∧ ∀ k, P (t k) := by
  match ds, hl with
  | [d0, d1, d2], _ =>
    obtain ⟨i0, rfl, p0⟩ := h d0 (List.Mem.head _)
    obtain ⟨i1, rfl, p1⟩ := h d1 (List.Mem.tail _ (List.Mem.head _))
    obtain ⟨i2, rfl, p2⟩ := h d2 (List.Mem.tail _ (List.Mem.tail _ (List.Mem.head _)))
    refine ⟨fun k => if k = 0 then i0 else if k = 1 then i1 else i2, rfl, fun k => ?_⟩
    show P (if k = 0 then i0 else if k = 1 then i1 else i2)
    by_cases a : k = 0
    · rw [if_pos a]; exact p0
    · rw [if_neg a]
      by_cases b : k = 1
      · rw [if_pos b]; exact p1
      · rw [if_neg b]; exact p2
end Dat
namespace K01
open PySem L2 Evl Dat SX
def spLaw (K : PySem.W.Frag) : Sp := fun vs H Q _ => ∃ (a : Addr) (ns : List Int), vs = [.ref a] ∧ SqL K H a (ns.map V.int) ∧ ns.length ≤ 63 ∧ ∀ H', Q (.bl true) H'
section
variable {P : Program} {w : World} {K : PySem.W.Frag} {mg : Str → Option Value} {base : Heap}
abbrev s_law : Stmt := topS 50
abbrev N_law : List Str := ["script", "hand", "tops", "k", "bottoms", "row", "sign", "odd", "thing", "low", "high", "one", "things"]
theorem sc_law : FnScope N_law ["script"] (defScope s_law) := ⟨rfl, rfl, rfl, by decide +kernel, rfl, by decide +kernel, by decide +kernel⟩
theorem ok_law {f C aZ aO aH : Addr} {fd : FuncData} (F : Fun K "law" "law" s_law f fd) (T : Bl mg) (gZ : mg "ZERO" = some (.ref aZ)) (hZ : ∀ H, Dp K H (.ref aZ) (ratR 0)) (gO : mg "ONE" = some (.ref aO)) (hO : ∀ H, Dp K H (.ref aO) (ratR 1)) (gH : mg "HALF" = some (.ref aH)) (hH : ∀ H, Dp K H (.ref aH) (rat 1 2))
    (D_law_hand : Def P w K mg base CX0 1 "_law_hand" ["script"] (spHand K)) (D_law_draw : Def P w K mg base CX0 2 "_law_draw" ["hand", "many"] spDraw) (D_law_number : Def P w K mg base CX0 3 "_law_number" ["hand"] spNumber)
    (D_law_ratio : Def P w K mg base CX0 1 "_law_ratio" ["top", "bottom"] (spD K 2 fLowest)) (D_law_same : Def P w K mg base CX0 2 "_law_same" ["told", "due"] (spD K 2 (fSame 2))) (D_law_same3 : Def P w K mg base CX0 3 "_law_same" ["told", "due"] (spD K 2 (fSame 3))) (D_make2 : DefV P w K mg base (L2.CX P w) 3 "make_ratio" ["top", "bottom"] [] (spMakeR K C))
    (D_make1 : DefV P w K mg base (L2.CX P w) 3 "make_ratio" ["top", "bottom"] [.int 1] (spMakeR K C)) (D_makeK : DefK P w K mg base (L2.CX P w) 3 "make_ratio" ["top", "bottom"] ["bottom", "top"] (fun vs zs => zs.reverse) (spMakeR K C))
    (D_is_ratio : Def P w K mg base CX0 2 "is_ratio" ["thing"] (spD K 1 fIsRatio)) (D_law_is_ratio : Def P w K mg base CX0 2 "_law_is_ratio" ["thing"] (spD K 1 fLIsRatio)) (D_law_two : Def P w K mg base CX0 4 "_law_two" ["a", "b"] (spD K 2 fTwo))
    (D_law_rows : Def P w K mg base CX0 4 "_law_rows" ["row", "exponent"] (spD K 2 fRows)) (D_sum_of : Def P w K mg base CX0 3 "sum_of" ["ratios"] (spD K 1 (fFoldR (· + ·) 0))) (D_product_of : Def P w K mg base CX0 3 "product_of" ["ratios"] (spD K 1 (fFoldR (· * ·) 1)))
    (D_law_words : Def P w K mg base CX0 3 "_law_words" ["a", "hand"] (spWords K)) (D_w1 : DW P w K mg base [.non, .non]) (D_w2 : DW P w K mg base [.non]) (D_w3 : DW P w K mg base [])
    (D_law_refused : Def P w K mg base CX0 4 "_law_refused" ["top", "bottom"] (spD K 2 fRefused)) (D_law_over_refused : Def P w K mg base CX0 4 "_law_over_refused" ["one"] (spD K 1 fOverRefused)) (D_law_far : Def P w K mg base CX0 5 "_law_far" ["hand"] (spFar K)) :
    FnOk P w K mg base CX0 6 f fd ["script"] (spLaw K) := by
  refine F.ok sc_law (fun vs H Q E h => ?_) (fun cdv A outer s H vs Q E hr h => ?_)
  · obtain ⟨a, ns, rfl, _⟩ := h
    rfl
  · refine ⟨_, (pss_cons (ps_set (i := 1) sc_law.nd rfl (Or.inr rfl) (pe_dcall D_law_hand (hr.mono (by decide)) pass0 (pa_cons (pv 0) pa_nil)))
    (pss_cons (ps_set (i := 2) sc_law.nd rfl (Or.inr rfl) (pe_lc (own := [("k", 3)]) (g := gName 3) rfl sc_law.nd (pi_range1 rfl T.b_range (pa_cons pe_int pa_nil)) (blkOk_by (own := [("k", 3)]) (N := N_law) (sc := defScope s_law) (by decide +kernel)) (fun _ _ _ _ _ => pg_name (i := 3) sc_law.nd rfl (Or.inl rfl)) (fun _ _ _ _ _ => pts_nil) (fun _ _ _ _ _ => (pe_dcall D_law_number (hr.mono (by decide)) pass0 (pa_cons (pv 1) pa_nil)))))
    (pss_cons (ps_set (i := 4) sc_law.nd rfl (Or.inr rfl) (pe_lc (own := [("k", 3)]) (g := gName 3) rfl sc_law.nd (pi_range1 rfl T.b_range (pa_cons pe_int pa_nil)) (blkOk_by (own := [("k", 3)]) (N := N_law) (sc := defScope s_law) (by decide +kernel)) (fun _ _ _ _ _ => pg_name (i := 3) sc_law.nd rfl (Or.inl rfl)) (fun _ _ _ _ _ => pts_nil) (fun _ _ _ _ _ => (pe_op op_add pe_int (pe_callB call_abs (by rfl) T.b_abs (by decide +kernel) (pa_cons (pe_dcall D_law_number (hr.mono (by decide)) pass0 (pa_cons (pv 1) pa_nil)) pa_nil))))))
    (pss_cons (ps_setLc (i := 5) (own := [("k", 3)]) (g := gName 3) rfl sc_law.nd rfl rfl (sw_true rfl rfl rfl (by decide +kernel)) (pi_range1 rfl T.b_range (pa_cons pe_int pa_nil)) (blkOk_by (own := [("k", 3)]) (N := N_law) (sc := defScope s_law) (by decide +kernel)) (fun _ _ _ _ _ => pg_name (i := 3) sc_law.nd rfl (Or.inl rfl)) (fun _ _ _ _ _ => pts_nil) (fun _ _ _ _ _ => (pe_dcall D_law_ratio (hr.mono (by decide)) pass0 (pa_cons (pe_ix (r := rIxL K) ix_list (pv 2) (pv 3) (fun _ _ => rfl)) (pa_cons (pe_ix (r := rIxL K) ix_list (pv 4) (pv 3) (fun _ _ => rfl)) pa_nil)))))
    (pss_cons (ps_for PassesOwn.never rfl (pi_range1 rfl T.b_range (pa_cons pe_int pa_nil)) (pg_name (i := 3) sc_law.nd rfl (Or.inl rfl)) (pss_cons (ps_set (i := 6) sc_law.nd rfl (Or.inl rfl) (pe_ifExp (pt_cmpR op_eq (pe_dcall D_law_draw (hr.mono (by decide)) pass0 (pa_cons (pv 1) (pa_cons pe_int pa_nil))) pe_int (nomark _)) pe_int (pe_un un_neg pe_int)))
    (pss_cons (ps_if (PW.pt (pw_or (pt_not (pt_val (pe_dcall D_law_same (hr.mono (by decide)) pass0 (pa_cons (pe_dcallV D_make2 (hr.mono (by decide)) passL (pa_cons (pe_op op_mulW (pe_ix (r := rIxL K) ix_list (pv 2) (pv 3) (fun _ _ => rfl)) (pv 6)) (pa_cons (pe_op op_mulW (pe_ix (r := rIxL K) ix_list (pv 4) (pv 3) (fun _ _ => rfl)) (pv 6)) pa_nil))) (pa_cons (pe_ix (r := rIxL K) ix_list (pv 5) (pv 3) (fun _ _ => rfl)) pa_nil))))) (pw_or1 (pt_not (pt_val (pe_dcall D_law_same (hr.mono (by decide)) pass0 (pa_cons (pe_dcallV D_make2 (hr.mono (by decide)) passL (pa_cons (pe_ix (r := rIxL K) ix_list (pv 2) (pv 3) (fun _ _ => rfl)) (pa_cons (pe_un un_neg (pe_ix (r := rIxL K) ix_list (pv 4) (pv 3) (fun _ _ => rfl))) pa_nil))) (pa_cons (pe_tup (pa_cons (pe_un un_neg (pe_ix (r := rIxT K) ix_tup (pe_ix (r := rIxL K) ix_list (pv 5) (pv 3) (fun _ _ => rfl)) pe_int (fun _ _ => rfl))) (pa_cons (pe_ix (r := rIxT K) ix_tup (pe_ix (r := rIxL K) ix_list (pv 5) (pv 3) (fun _ _ => rfl)) pe_int (fun _ _ => rfl)) pa_nil))) pa_nil)))))))) (pss_one (ps_ret pe_bl)) pss_nil)
    (pss_cons (ps_if (PW.pt (pw_or (pt_cmpR op_notBl (pe_dcall D_is_ratio (hr.mono (by decide)) pass0 (pa_cons (pe_ix (r := rIxL K) ix_list (pv 5) (pv 3) (fun _ _ => rfl)) pa_nil)) pe_bl (nomark _)) (pw_or1 (pt_not (pt_val (pe_dcall D_law_same (hr.mono (by decide)) pass0 (pa_cons (pe_dcall D_is_ratio (hr.mono (by decide)) pass0 (pa_cons (pe_tup (pa_cons (pe_ix (r := rIxL K) ix_list (pv 2) (pv 3) (fun _ _ => rfl)) (pa_cons (pe_ix (r := rIxL K) ix_list (pv 4) (pv 3) (fun _ _ => rfl)) pa_nil))) pa_nil)) (pa_cons (pe_dcall D_law_is_ratio (hr.mono (by decide)) pass0 (pa_cons (pe_tup (pa_cons (pe_ix (r := rIxL K) ix_list (pv 2) (pv 3) (fun _ _ => rfl)) (pa_cons (pe_ix (r := rIxL K) ix_list (pv 4) (pv 3) (fun _ _ => rfl)) pa_nil))) pa_nil)) pa_nil)))))))) (pss_one (ps_ret pe_bl)) pss_nil)
    (pss_one (ps_if (pt_not (pt_val (pe_dcall D_law_two (hr.mono (by decide)) pass0 (pa_cons (pe_ix (r := rIxL K) ix_list (pv 5) (pv 3) (fun _ _ => rfl)) (pa_cons (pe_ix (r := rIxL K) ix_list (pv 5) (pe_op op_mod (pe_callTy call_int1 (by rfl) T.b_int (by decide +kernel) (pa_cons (pe_op op_add (pv 3) pe_int) pa_nil)) pe_int) (fun _ _ => rfl)) pa_nil))))) (pss_one (ps_ret pe_bl)) pss_nil))))))
    (pss_cons (ps_if (pt_not (pt_val (pe_dcall D_law_same (hr.mono (by decide)) pass0 (pa_cons (pe_dcallK D_makeK (hr.mono (by decide)) passL (pk_cons (pe_ix (r := rIxL K) ix_list (pv 4) pe_int (fun _ _ => rfl)) (pk_cons (pe_ix (r := rIxL K) ix_list (pv 2) pe_int (fun _ _ => rfl)) pk_nil))) (pa_cons (pe_ix (r := rIxL K) ix_list (pv 5) pe_int (fun _ _ => rfl)) pa_nil))))) (pss_one (ps_ret pe_bl)) pss_nil)
    (pss_cons (ps_if (PW.pt (pw_or (pt_not (pt_val (pe_dcall D_law_same (hr.mono (by decide)) pass0 (pa_cons (pe_dcallV D_make1 (hr.mono (by decide)) passL (pa_cons (pe_ix (r := rIxL K) ix_list (pv 2) pe_int (fun _ _ => rfl)) pa_nil)) (pa_cons (pe_tup (pa_cons (pe_ix (r := rIxL K) ix_list (pv 2) pe_int (fun _ _ => rfl)) (pa_cons pe_int pa_nil))) pa_nil))))) (pw_or (pt_not (pt_val (pe_dcall D_law_same3 (hr.mono (by decide)) pass0 (pa_cons (pe_tup (pa_cons (pe_glob (v := .ref aZ) rfl gZ rfl) (pa_cons (pe_glob (v := .ref aO) rfl gO rfl) (pa_cons (pe_glob (v := .ref aH) rfl gH rfl) pa_nil)))) (pa_cons (pe_tup (pa_cons (pe_tup (pa_cons pe_int (pa_cons pe_int pa_nil))) (pa_cons (pe_tup (pa_cons pe_int (pa_cons pe_int pa_nil))) (pa_cons (pe_tup (pa_cons pe_int (pa_cons pe_int pa_nil))) pa_nil)))) pa_nil))))) (pw_or1 (pt_not (pt_val (pe_dcall D_law_two (hr.mono (by decide)) pass0 (pa_cons (pe_ix (r := rIxL K) ix_list (pv 5) pe_int (fun _ _ => rfl)) (pa_cons (pe_ix (r := rIxL K) ix_list (pv 5) pe_int (fun _ _ => rfl)) pa_nil))))))))) (pss_one (ps_ret pe_bl)) pss_nil)
    (pss_cons (ps_if (PW.pt (pw_or (pt_not (pt_val (pe_dcall D_law_rows (hr.mono (by decide)) pass0 (pa_cons (pv 5) (pa_cons (pe_dcall D_law_draw (hr.mono (by decide)) pass0 (pa_cons (pv 1) (pa_cons pe_int pa_nil))) pa_nil))))) (pw_or (pt_not (pt_val (pe_dcall D_law_same (hr.mono (by decide)) pass0 (pa_cons (pe_dcall D_sum_of (hr.mono (by decide)) pass0 (pa_cons (pe_lst pa_nil) pa_nil)) (pa_cons (pe_tup (pa_cons pe_int (pa_cons pe_int pa_nil))) pa_nil))))) (pw_or1 (pt_not (pt_val (pe_dcall D_law_same (hr.mono (by decide)) pass0 (pa_cons (pe_dcall D_product_of (hr.mono (by decide)) pass0 (pa_cons (pe_tup pa_nil) pa_nil)) (pa_cons (pe_tup (pa_cons pe_int (pa_cons pe_int pa_nil))) pa_nil))))))))) (pss_one (ps_ret pe_bl)) pss_nil)
    (pss_cons (ps_set (i := 7) sc_law.nd rfl (Or.inl rfl) (pe_lst (pa_cons (pe_lst (pa_cons pe_int (pa_cons pe_int pa_nil))) (pa_cons (pe_tup (pa_cons pe_int (pa_cons pe_int pa_nil))) (pa_cons (pe_tup (pa_cons pe_int (pa_cons pe_int pa_nil))) (pa_cons (pe_tup (pa_cons pe_int (pa_cons (pe_un un_neg pe_int) pa_nil))) (pa_cons (pe_tup (pa_cons pe_bl (pa_cons pe_int pa_nil))) (pa_cons (pe_tup (pa_cons pe_int (pa_cons pe_bl pa_nil))) (pa_cons (pe_tup (pa_cons pe_int (pa_cons pe_int pa_nil))) (pa_cons (pe_tup (pa_cons pe_int (pa_cons pe_int (pa_cons pe_int pa_nil)))) (pa_cons (pe_tup (pa_cons pe_int pa_nil)) (pa_cons pe_int (pa_cons pe_non (pa_cons pe_str (pa_cons (pe_tup (pa_cons (pe_tup (pa_cons pe_int (pa_cons pe_int pa_nil))) (pa_cons pe_int pa_nil))) pa_nil)))))))))))))))
    (pss_cons (ps_if (PW.pt (pw_or (pt_val (pe_callB (cr_any rfl) (by rfl) T.b_any (by decide +kernel) (pa_cons (pe_lc (own := [("thing", 8)]) (g := gName 8) rfl sc_law.nd (pi_list (pv 7)) (blkOk_by (own := [("thing", 8)]) (N := N_law) (sc := defScope s_law) (by decide +kernel)) (fun _ _ _ _ _ => pg_name (i := 8) sc_law.nd rfl (Or.inl rfl)) (fun _ _ _ _ _ => pts_nil) (fun _ _ _ _ _ => (pe_cmpR op_notBl (pe_dcall D_is_ratio (hr.mono (by decide)) pass0 (pa_cons (pv 8) pa_nil)) pe_bl (nomark _)))) pa_nil))) (pw_or (pt_not (pt_val (pe_dcall D_law_words (hr.mono (by decide)) pass0 (pa_cons (pe_ix (r := rIxL K) ix_list (pv 5) pe_int (fun _ _ => rfl)) (pa_cons (pv 1) pa_nil))))) (pw_or1 (pt_not (pt_val (pe_dcall D_law_words (hr.mono (by decide)) pass0 (pa_cons (pe_ix (r := rIxL K) ix_list (pv 5) pe_int (fun _ _ => rfl)) (pa_cons (pv 1) pa_nil))))))))) (pss_one (ps_ret pe_bl)) pss_nil)
    (pss_cons (ps_set (i := 9) sc_law.nd rfl (Or.inl rfl) (pe_ix (r := rIxL K) ix_list (pv 2) pe_int (fun _ _ => rfl)))
    (pss_cons (ps_set (i := 10) sc_law.nd rfl (Or.inl rfl) (pe_op op_add (pv 9) (pe_callB call_abs (by rfl) T.b_abs (by decide +kernel) (pa_cons (pe_ix (r := rIxL K) ix_list (pv 2) pe_int (fun _ _ => rfl)) pa_nil))))
    (pss_cons (ps_for PassesOwn.never rfl (pi_tup (pe_tup (pa_cons (pe_op op_sub (pv 9) pe_int) (pa_cons (pv 9) (pa_cons (pv 10) (pa_cons (pe_op op_add (pv 10) pe_int) (pa_cons (pe_ix (r := rIxL K) ix_list (pv 2) pe_int (fun _ _ => rfl)) pa_nil))))))) (pg_name (i := 11) sc_law.nd rfl (Or.inl rfl)) (pss_cons (ps_if (PW.pt (pw_or (pt_not (pt_val (pe_dcall D_law_same (hr.mono (by decide)) pass0 (pa_cons (pe_dcallV D_w3 (hr.mono (by decide)) pass0 (pa_cons (pv 11) (pa_cons (pv 9) (pa_cons (pv 10) pa_nil)))) (pa_cons (pe_and (pe_cmpR op_le (pv 9) (pv 11) (nomark _)) (pe_one (pe_cmpR op_le (pv 11) (pv 10) (nomark _)))) pa_nil))))) (pw_or1 (pt_not (pt_val (pe_dcall D_law_same (hr.mono (by decide)) pass0 (pa_cons (pe_dcallV D_w2 (hr.mono (by decide)) pass0 (pa_cons (pv 11) (pa_cons (pv 9) pa_nil))) (pa_cons (pe_cmpR op_le (pv 9) (pv 11) (nomark _)) pa_nil)))))))) (pss_one (ps_ret pe_bl)) pss_nil)
    (pss_one (ps_if (pt_cmpR op_notBl (pe_dcallV D_w1 (hr.mono (by decide)) pass0 (pa_cons (pv 11) pa_nil)) pe_bl (nomark _)) (pss_one (ps_ret pe_bl)) pss_nil))))
    (pss_cons (ps_if (pt_val (pe_callB (cr_any rfl) (by rfl) T.b_any (by decide +kernel) (pa_cons (pe_lc (own := [("thing", 8)]) (g := gName 8) rfl sc_law.nd (pi_tup (pe_tup (pa_cons pe_bl (pa_cons pe_bl (pa_cons pe_non (pa_cons pe_str (pa_cons (pe_tup (pa_cons pe_int (pa_cons pe_int pa_nil))) pa_nil))))))) (blkOk_by (own := [("thing", 8)]) (N := N_law) (sc := defScope s_law) (by decide +kernel)) (fun _ _ _ _ _ => pg_name (i := 8) sc_law.nd rfl (Or.inl rfl)) (fun _ _ _ _ _ => pts_nil) (fun _ _ _ _ _ => (pe_cmpR op_notBl (pe_dcallV D_w1 (hr.mono (by decide)) pass0 (pa_cons (pv 8) pa_nil)) pe_bl (nomark _)))) pa_nil))) (pss_one (ps_ret pe_bl)) pss_nil)
    (pss_cons (ps_if (PW.pt (pw_or (pt_cmpR op_notBl (pe_dcallV D_w3 (hr.mono (by decide)) pass0 (pa_cons pe_bl (pa_cons pe_int (pa_cons pe_int pa_nil)))) pe_bl (nomark _)) (pw_or1 (pt_cmpR op_notBl (pe_dcallV D_w3 (hr.mono (by decide)) pass0 (pa_cons (pv 10) (pa_cons pe_non (pa_cons (pe_op op_sub (pv 9) pe_int) pa_nil)))) pe_bl (nomark _))))) (pss_one (ps_ret pe_bl)) pss_nil)
    (pss_cons (ps_set (i := 12) sc_law.nd rfl (Or.inl rfl) (pe_tup (pa_cons pe_non (pa_cons pe_bl (pa_cons pe_str (pa_cons (pe_tup (pa_cons pe_int (pa_cons pe_int pa_nil))) (pa_cons (pe_lst (pa_cons pe_int pa_nil)) pa_nil)))))))
    (pss_cons (ps_set (i := 8) sc_law.nd rfl (Or.inl rfl) (pe_ix (r := rIxT K) ix_tup (pv 12) (pe_dcall D_law_draw (hr.mono (by decide)) pass0 (pa_cons (pv 1) (pa_cons pe_int pa_nil))) (fun _ _ => rfl)))
    (pss_cons (ps_if (PW.pt (pw_or (pt_cmpR op_ne (pe_dcall D_law_refused (hr.mono (by decide)) pass0 (pa_cons (pv 8) (pa_cons pe_int pa_nil))) pe_str (nomark _)) (pw_or (pt_cmpR op_ne (pe_dcall D_law_refused (hr.mono (by decide)) pass0 (pa_cons (pv 8) (pa_cons (pe_ix (r := rIxL K) ix_list (pv 4) pe_int (fun _ _ => rfl)) pa_nil))) pe_str (nomark _)) (pw_or1 (pt_cmpR op_ne (pe_dcall D_law_refused (hr.mono (by decide)) pass0 (pa_cons (pe_ix (r := rIxL K) ix_list (pv 2) pe_int (fun _ _ => rfl)) (pa_cons (pv 8) pa_nil))) pe_str (nomark _)))))) (pss_one (ps_ret pe_bl)) pss_nil)
    (pss_cons (ps_if (PW.pt (pw_or (pt_cmpR op_ne (pe_dcall D_law_refused (hr.mono (by decide)) pass0 (pa_cons (pe_ix (r := rIxL K) ix_list (pv 2) pe_int (fun _ _ => rfl)) (pa_cons pe_int pa_nil))) pe_str (nomark _)) (pw_or (pt_cmpR op_ne (pe_dcall D_law_refused (hr.mono (by decide)) pass0 (pa_cons (pe_ix (r := rIxL K) ix_list (pv 2) pe_int (fun _ _ => rfl)) (pa_cons (pe_ix (r := rIxL K) ix_list (pv 4) pe_int (fun _ _ => rfl)) pa_nil))) pe_str (nomark _)) (pw_or1 (pt_cmpR op_ne (pe_dcall D_law_over_refused (hr.mono (by decide)) pass0 (pa_cons (pe_ix (r := rIxL K) ix_list (pv 5) pe_int (fun _ _ => rfl)) pa_nil)) pe_str (nomark _)))))) (pss_one (ps_ret pe_bl)) pss_nil)
    (pss_one (ps_ret (pe_dcall D_law_far (hr.mono (by decide)) pass0 (pa_cons (pv 1) pa_nil))))))))))))))))))))))), ?_⟩
    obtain ⟨a, ns, rfl, hS, hl, k⟩ := h
    refine ⟨_, rfl, a, ns, rfl, hS, hl, fun H1 h c ms sm nh nc hh1 => ?_⟩
    refine hz_list (K := K) (D := _) (σ := [some (.ref a), some (.ref h), none, none, none, none, none, none, none, none, none, none, none]) (Pn := fun i => i = 3) (P := fun d => ∃ i : Int, d = .int i ∧ i.natAbs < 10 ^ 40) hh1 (i_c rfl) (fun n e => by omega) (fun _ => rfl)
      (fun i => eh_int (i_number (P := fun i => i.natAbs < 10 ^ 40) rfl (fun _ p => p)) (fun i p => ⟨i, rfl, p⟩)) fun v_t ds H2 hh2 x2 h_t len p_t => ?_
    obtain ⟨t, rfl, ht⟩ := three_of len fun d hd => (p_t d hd).2
    clear p_t len
    refine hz_list (K := K) (D := _) (σ := [some (.ref a), some (.ref h), some v_t, none, none, none, none, none, none, none, none, none, none]) (Pn := fun i => i = 3) (P := fun d => ∃ i : Int, d = .int i ∧ (1 ≤ i ∧ i.natAbs ≤ 10 ^ 40)) hh2 (i_c rfl) (fun n e => by omega) (fun _ => rfl)
      (fun i => eh_int (i_add (i_c (P := fun i => i = 1) rfl) (i_abs (P := fun i => 0 ≤ i ∧ i.natAbs < 10 ^ 40) (i_number (P := fun i => i.natAbs < 10 ^ 40) rfl (fun _ p => p)) (fun i H Q q => ⟨i, rfl, by have e : (if i < 0 then -i else i) = (i.natAbs : Int) := (by split <;> omega); rw [e]; exact q⟩) (fun i p => ⟨by omega, by rw [Int.natAbs_natCast]; exact p⟩)) (P := fun i => 1 ≤ i ∧ i.natAbs ≤ 10 ^ 40) (fun i j a b => by omega)) (fun i p => ⟨i, rfl, p⟩)) fun v_b ds H3 hh3 x3 h_b len p_b => ?_
    obtain ⟨b, rfl, hb⟩ := three_of len fun d hd => (p_b d hd).2
    clear p_b len
    replace h_t := dp_grow x3 _ _ h_t
    have p133 : (10 : Nat) ^ 40 < 2 ^ 133 := by decide +kernel
    have tb : ∀ k, (t k).natAbs < 2 ^ 134 := fun k => Nat.lt_trans (ht k) (by decide +kernel)
    have bb : ∀ k, (b k).natAbs < 2 ^ 134 := fun k => Nat.lt_of_le_of_lt (hb k).2 (by decide +kernel)
    have b0 : ∀ k, 0 < b k := fun k => by have := (hb k).1; omega
    have bw : ∀ k, (b k).natAbs < 2 ^ 4000 := fun k => Nat.lt_of_le_of_lt (hb k).2 (by decide +kernel)
    obtain ⟨z, hz⟩ := Classical.axiomOfChoice (r := fun (k : Nat) (z : Rat) => lowest (t k) (b k) = ratR z ∧ Sz 134 z) (fun k => low_sz (b0 k) (tb k) (bb k))
    have i_t : ∀ {σ : L2.St} {H : Hp} {te : TE} {k : Nat}, k < 3 → Sl K σ H 2 (.list (T3 t)) → EvD K te σ H (.int (k : Int)) → EvD K (tOp (rIxL K) (tVar 2) te) σ H (.int (t k)) := fun hk s e => d_ixL (d_var s) e (at_t hk)
    have i_b : ∀ {σ : L2.St} {H : Hp} {te : TE} {k : Nat}, k < 3 → Sl K σ H 4 (.list (T3 b)) → EvD K te σ H (.int (k : Int)) → EvD K (tOp (rIxL K) (tVar 4) te) σ H (.int (b k)) := fun hk s e => d_ixL (d_var s) e (at_t hk)
    have i_r : ∀ {σ : L2.St} {H : Hp} {te : TE} {k : Nat}, k < 3 → Sl K σ H 5 (.list (R3 z)) → EvD K te σ H (.int (k : Int)) → EvD K (tOp (rIxL K) (tVar 5) te) σ H (ratR (z k)) := fun hk s e => d_ixL (d_var s) e (at_r hk)
    refine z_new (K := K) (D := _) (σ := [some (.ref a), some (.ref h), some v_t, none, some v_b, none, none, none, none, none, none, none, none]) (n_lcR (n := 3) (fun _ => true) (fun k => lowest (t k) (b k)) (ds_cons d_int ds_nil) (by decide) (fun _ => rfl) (fun i H1 e1 hi H2 e2 R r => r H2 (Ex.refl H2))
      (fun i H1 e1 hi _ => d_call (ds_cons (i_t hi ⟨_, rfl, dp_grow (rem_ex.trans e1) _ _ h_t⟩ (d_var ⟨_, rfl, .int _⟩)) (ds_cons (i_b hi ⟨_, rfl, dp_grow (rem_ex.trans e1) _ _ h_b⟩ (d_var ⟨_, rfl, .int _⟩)) ds_nil)) rfl ⟨_, _, rfl, by have := b0 i; omega, bw i, rfl⟩) (fun _ => rfl)) fun pr xs H4 hpr x4 hxr h_r => ?_
    have hh4 := hand_grow (x4.trans rem_ex) hh3
    have npr : pr ≠ h := fun e => by
      obtain ⟨ys, hy⟩ := hand_lst hh3
      rw [← e, hpr] at hy
      cases hy
    have er : (((List.range 3).filter fun _ => true).map fun k => lowest (t k) (b k)) = R3 z := by
      show [lowest (t 0) (b 0), lowest (t 1) (b 1), lowest (t 2) (b 2)] = _
      rw [(hz 0).1, (hz 1).1, (hz 2).1]
      rfl
    rw [er] at h_r
    obtain ⟨ys, hy⟩ := hand_lst hh4
    generalize hB : rem H4 h = Bs
    have s4 : StB h c ms Bs H4 := ⟨hh4, by rw [hB]; exact Ex.refl _⟩
    have x34 : Ex (rem H3 h) Bs := by rw [← hB]; exact ex_rem (x4.trans rem_ex)
    replace h_t := dp_grow x34 _ _ h_t
    replace h_b := dp_grow x34 _ _ h_b
    have h_row : Dp K Bs (.ref pr) (.list (R3 z)) := by
      rw [← hB]
      exact .lst (SqL.of (by rw [rem_ne npr]; exact hxr)) (dps_rem hy noTup_l _ _ rfl (dps_grow rem_ex _ _ h_r))
    clear hB h_r er hxr x34 x4 hy
    have gr : ∀ z : Rat, goodN 2 (ratR z) = true := fun _ => rfl
    have rat_ok : ∀ z : Rat, ratD (ratR z) = true := fun z => by
      have e := ratD_lrat (t := z.num) (b := z.den) (by have := z.den_pos; omega)
      exact e.trans (lrat_rat z)
    refine hz_for (n := 3) (σ := [some (.ref a), some (.ref h), some v_t, none, some v_b, some (.ref pr), none, none, none, none, none, none, none]) (by decide) (fun i σ' H' => StB h c ms Bs H' ∧ ∃ o3 o6, σ' = [some (.ref a), some (.ref h), some v_t, o3, some v_b, some (.ref pr), o6, none, none, none, none, none, none]) ⟨s4, _, _, rfl⟩ (fun i σ' H' D' hi pv kD => ?_) (fun σ' H' pv => ?_)
    · obtain ⟨s5, o3, o6, rfl⟩ := pv
      refine bz_int (σ := [some (.ref a), some (.ref h), some v_t, some (.int (i : Int)), some v_b, some (.ref pr), o6, none, none, none, none, none, none]) s5 (i_if (P := fun s => s = 1 ∨ s = -1) (i_draw (P := fun _ => True) rfl (by decide) (by decide) (fun _ _ _ => trivial)) (i_c (.inl rfl)) (i_neg (i_c (P := fun i => i = 1) rfl) (fun i e => by subst e; exact .inr rfl))) fun sn H6 s6 hsn => ?_
      have it : EvD K (tOp (rIxL K) (tVar 2) (tVar 3)) [some (.ref a), some (.ref h), some v_t, some (.int (i : Int)), some v_b, some (.ref pr), some (.int sn), none, none, none, none, none, none] Bs (.int (t i)) := i_t hi ⟨_, rfl, h_t⟩ (d_var ⟨_, rfl, .int _⟩)
      have ib : EvD K (tOp (rIxL K) (tVar 4) (tVar 3)) [some (.ref a), some (.ref h), some v_t, some (.int (i : Int)), some v_b, some (.ref pr), some (.int sn), none, none, none, none, none, none] Bs (.int (b i)) := i_b hi ⟨_, rfl, h_b⟩ (d_var ⟨_, rfl, .int _⟩)
      have ir : EvD K (tOp (rIxL K) (tVar 5) (tVar 3)) [some (.ref a), some (.ref h), some v_t, some (.int (i : Int)), some v_b, some (.ref pr), some (.int sn), none, none, none, none, none, none] Bs (ratR (z i)) := i_r hi ⟨_, rfl, h_row⟩ (d_var ⟨_, rfl, .int _⟩)
      have isg : EvD K (tVar 6) [some (.ref a), some (.ref h), some v_t, some (.int (i : Int)), some v_b, some (.ref pr), some (.int sn), none, none, none, none, none, none] Bs (.int sn) := d_var ⟨_, rfl, .int _⟩
      have zi := (hz i).1
      have sb : sn.natAbs < 2 ^ 2 := by rcases hsn with rfl | rfl <;> decide
      have e1 : lowest (t i * sn) (b i * sn) = ratR (z i) := by
        rcases hsn with rfl | rfl
        · rw [Int.mul_one, Int.mul_one]; exact zi
        · rw [show t i * -1 = -(t i) by omega, show b i * -1 = -(b i) by omega, lowest_neg2 (b0 i)]; exact zi
      have hb1 : b i * sn ≠ 0 := by have := b0 i; rcases hsn with rfl | rfl <;> omega
      have hb2 : (b i * sn).natAbs < 2 ^ 4000 := by have := bw i; rcases hsn with rfl | rfl <;> omega
      have hb3 : (-(b i)).natAbs < 2 ^ 4000 := by rw [Int.natAbs_neg]; exact bw i
      have e2 : lowest (t i) (-(b i)) = .tuple [.int (-(z i).num), .int ((z i).den : Int)] := by
        rw [lowest_flip (b0 i)]
        have q : PyData.tuple [.int (lowP (t i) (b i)), .int (lowQ (t i) (b i))] = .tuple [.int (z i).num, .int ((z i).den : Int)] := zi
        injection q with q
        injection q with q1 q2
        injection q1 with q1
        injection q2 with q2 _
        injection q2 with q2
        rw [q1, q2]
      refine bz_if (σ := [some (.ref a), some (.ref h), some v_t, some (.int (i : Int)), some v_b, some (.ref pr), some (.int sn), none, none, none, none, none, none]) s6 (hb_of (b_nor
        (b_same (gr (z i)) (d_is (d_callE (ds_cons (d_mul it isg (wide_mul (tb i) sb (by decide) (by decide) (by decide))) (ds_cons (d_mul ib isg (wide_mul (bb i) sb (by decide) (by decide) (by decide))) ds_nil)) (fun _ => .nil) rfl ⟨_, _, rfl, hb1, hb2, rfl⟩) e1) ir)
        (b_same (a := .tuple [.int (-(z i).num), .int ((z i).den : Int)]) rfl (d_is (d_callE (ds_cons it (ds_cons (d_neg ib) ds_nil)) (fun _ => .nil) rfl ⟨_, _, rfl, by have := b0 i; omega, hb3, rfl⟩) e2) (d_tup (ds_cons (d_neg (d_ixT ir d_int rfl)) (ds_cons (d_ixT ir d_int rfl) ds_nil)) (by show 2 ≤ 1000; decide))))) fun H7 s7 => ?_
      refine z_nx ?_
      have tp : EvD K (tTup (tCons (tOp (rIxL K) (tVar 2) (tVar 3)) (tCons (tOp (rIxL K) (tVar 4) (tVar 3)) tNil))) [some (.ref a), some (.ref h), some v_t, some (.int (i : Int)), some v_b, some (.ref pr), some (.int sn), none, none, none, none, none, none] Bs (rat (t i) (b i)) := d_tup (ds_cons it (ds_cons ib ds_nil)) (by show 2 ≤ 1000; decide)
      refine bz_if (σ := [some (.ref a), some (.ref h), some v_t, some (.int (i : Int)), some v_b, some (.ref pr), some (.int sn), none, none, none, none, none, none]) s7 (hb_of (b_nor (b_test (d_is (d_notBb (d_call (ds_cons ir ds_nil) rfl ⟨_, rfl, rfl⟩) d_bl) (by rw [rat_ok]; rfl)))
        (b_same (a := .bool (ratD (rat (t i) (b i)))) rfl (d_call (ds_cons tp ds_nil) rfl ⟨_, rfl, rfl⟩) (d_is (d_call (ds_cons tp ds_nil) rfl ⟨_, rfl, fun p q e => by
          injection e with e
          injection e with _ e
          injection e with e _
          injection e with e
          rw [← e]
          exact bw i, rfl⟩) (by rw [ratD_lrat (b0 i)]))))) fun H8 s8 => ?_
      refine z_nx ?_
      have next : EvD K (tOp (rIxL K) (tVar 5) (tOp (rI (fun _ j => 0 < j) fun i j => .int (i % j)) (tCB (fun xs H Q => (∃ i, xs = [.int i] ∧ Q (.int i) H) ∨ ∃ k, xs = [.bl k] ∧ Q (.int (if k then 1 else 0)) H) (tCons (tOp (rI0 fun i j => .int (i + j)) (tVar 3) (tC (.int 1))) tNil)) (tC (.int 3)))) [some (.ref a), some (.ref h), some v_t, some (.int (i : Int)), some v_b, some (.ref pr), some (.int sn), none, none, none, none, none, none] Bs (ratR (z ((i + 1) % 3))) :=
        i_r (Nat.mod_lt _ (by decide)) ⟨_, rfl, h_row⟩ (d_is (d_mod (d_intI (d_add (d_var ⟨_, rfl, .int _⟩) d_int)) d_int (by show (0 : Int) < 3; decide)) (by congr 1))
      refine bz_if1 (σ := [some (.ref a), some (.ref h), some v_t, some (.int (i : Int)), some v_b, some (.ref pr), some (.int sn), none, none, none, none, none, none]) s8 (hb_of (b_is (b_not (b_val (d_call (ds_cons ir (ds_cons next ds_nil)) rfl ⟨_, _, rfl, (hz i).2.mono (by decide), (hz _).2.mono (by decide), rfl⟩))) rfl)) fun H9 s9 => ?_
      exact z_next (kD _ _ ⟨s9, _, _, rfl⟩)
    · obtain ⟨s5, o3, o6, rfl⟩ := pv
      have l0 : 0 < 3 := by decide
      have l1 : 1 < 3 := by decide
      have l2 : 2 < 3 := by decide
      have c_t : ∀ {o3 o6 o7 o8 o9 o10 o11 o12 : Option V} {k : Nat}, k < 3 → EvD K (tOp (rIxL K) (tVar 2) (tC (.int (k : Int)))) [some (.ref a), some (.ref h), some v_t, o3, some v_b, some (.ref pr), o6, o7, o8, o9, o10, o11, o12] Bs (.int (t k)) := fun hk => i_t hk ⟨_, rfl, h_t⟩ d_int
      have c_b : ∀ {o3 o6 o7 o8 o9 o10 o11 o12 : Option V} {k : Nat}, k < 3 → EvD K (tOp (rIxL K) (tVar 4) (tC (.int (k : Int)))) [some (.ref a), some (.ref h), some v_t, o3, some v_b, some (.ref pr), o6, o7, o8, o9, o10, o11, o12] Bs (.int (b k)) := fun hk => i_b hk ⟨_, rfl, h_b⟩ d_int
      have c_r : ∀ {o3 o6 o7 o8 o9 o10 o11 o12 : Option V} {k : Nat}, k < 3 → EvD K (tOp (rIxL K) (tVar 5) (tC (.int (k : Int)))) [some (.ref a), some (.ref h), some v_t, o3, some v_b, some (.ref pr), o6, o7, o8, o9, o10, o11, o12] Bs (ratR (z k)) := fun hk => i_r hk ⟨_, rfl, h_row⟩ d_int
      have zero : ∀ {σ : L2.St}, EvD K (tTup (tCons (tC (.int 0)) (tCons (tC (.int 1)) tNil))) σ Bs (ratR 0) := d_tup (ds_cons d_int (ds_cons d_int ds_nil)) (by show 2 ≤ 1000; decide)
      have one : ∀ {σ : L2.St}, EvD K (tTup (tCons (tC (.int 1)) (tCons (tC (.int 1)) tNil))) σ Bs (ratR 1) := d_tup (ds_cons d_int (ds_cons d_int ds_nil)) (by show 2 ≤ 1000; decide)
      have half : ∀ {σ : L2.St}, EvD K (tTup (tCons (tC (.int 1)) (tCons (tC (.int 2)) tNil))) σ Bs (rat 1 2) := d_tup (ds_cons d_int (ds_cons d_int ds_nil)) (by show 2 ≤ 1000; decide)
      refine bz_if (σ := [some (.ref a), some (.ref h), some v_t, o3, some v_b, some (.ref pr), o6, none, none, none, none, none, none]) s5 (hb_of (b_same (gr (z 0)) (d_is (d_callK (ds := [.int (b 0), .int (t 0)]) (n := 2) (ds_cons (c_b l0) (ds_cons (c_t l0) ds_nil)) rfl rfl ⟨t 0, b 0, rfl, by have := b0 0; omega, bw 0, rfl⟩) (hz 0).1) (c_r l0))) fun H6 s6 => ?_
      refine z_nx ?_
      have m1 : lowest (t 0) 1 = rat (t 0) 1 := by
        obtain ⟨p, q⟩ := low_cop (p := t 0) (q := 1) (by decide) (Nat.gcd_one_right _)
        show rat (lowP (t 0) 1) (lowQ (t 0) 1) = _
        rw [p, q]
      have two : ∀ {k : Nat} {te : TE} {σ : L2.St}, EvD K te σ Bs (ratR (z k)) → EvB (tNot (tB (tCall (spD K 2 fTwo) [] E0 (tCons te (tCons te tNil))))) σ Bs false := fun {k te σ} e => b_is (b_not (b_val (d_call (ds_cons e (ds_cons e ds_nil)) rfl ⟨_, _, rfl, (hz k).2.mono (by decide), (hz k).2.mono (by decide), rfl⟩))) rfl
      refine bz_if (σ := [some (.ref a), some (.ref h), some v_t, o3, some v_b, some (.ref pr), o6, none, none, none, none, none, none]) s6 (hb_of (b_nor (b_same (a := rat (t 0) 1) rfl (d_is (d_callE (es := [.int 1]) (ds_cons (c_t l0) ds_nil) (fun _ => .cons (.int _) .nil) rfl ⟨_, _, rfl, by decide, by decide +kernel, rfl⟩) m1) (d_tup (ds_cons (c_t l0) (ds_cons d_int ds_nil)) (by show 2 ≤ 1000; decide)))
        (b_nor (b_is (b_not (b_val (d_call (ds_cons (d_tup (ds_cons (d_c hZ) (ds_cons (d_c hO) (ds_cons (d_c hH) ds_nil))) (by show 3 ≤ 1000; decide)) (ds_cons (d_tup (ds_cons zero (ds_cons one (ds_cons half ds_nil))) (by show 3 ≤ 1000; decide)) ds_nil)) rfl ⟨_, _, rfl, good_dep (n := 3) rfl, by rw [good_same (n := 3) rfl]⟩))) rfl) (two (k := 0) (c_r l0))))) fun H7 s7 => ?_
      refine z_nx ?_
      have rok : ∀ n : Nat, n < 6 → RowOk (z 0) [z 1, z 2] n := fun n hn => row_ok (a := 134) (L := 3) (fun r hr => by
        simp only [List.mem_cons, List.not_mem_nil, or_false] at hr
        rcases hr with rfl | rfl | rfl
        · exact (hz 0).2
        · exact (hz 1).2
        · exact (hz 2).2) (by show 3 ≤ 3; decide) (by decide) (by omega) (by decide) (by decide) (by omega)
      have nil_ok : ∀ {op : Rat → Rat → Rat} {x : Rat}, Sz 1 x → ∀ i, Sz B ((([] : List Rat).take i).foldl op x) := fun hx i => by rw [List.take_nil]; exact hx.mono (by decide)
      refine bz_if (σ := [some (.ref a), some (.ref h), some v_t, o3, some v_b, some (.ref pr), o6, none, none, none, none, none, none]) s7 (hb_nor (hb_rows (i := 5) (r0 := z 0) (rs := [z 1, z 2]) rfl (show Dp K Bs (.ref pr) (.list ((z 0 :: [z 1, z 2]).map ratR)) from h_row) (i_draw rfl (by decide) (by decide) (fun i a b => ⟨a, b⟩)) rok)
        (hb_nor (hb_of (b_same (a := ratR 0) (gr 0) (d_call (ds_cons (d_lst ds_nil (by show 0 ≤ 1000; decide)) ds_nil) rfl ⟨false, [], rfl, (fun r hr => by cases hr), nil_ok sz_zero, rfl⟩) zero))
          (hb_of (b_same (a := ratR 1) (gr 1) (d_call (ds_cons (d_tup ds_nil (by show 0 ≤ 1000; decide)) ds_nil) rfl ⟨true, [], rfl, (fun r hr => by cases hr), nil_ok sz_one, rfl⟩) one)))) fun H8 s8 => ?_
      refine z_nx ?_
      have small : ∀ k, (z k).num.natAbs < 10 ^ 100 ∧ (z k).den < 10 ^ 100 := fun k => by
        have p : (2 : Nat) ^ 134 < 10 ^ 100 := by decide +kernel
        exact ⟨Nat.lt_trans (hz k).2.1 p, Nat.lt_trans (hz k).2.2 p⟩
      refine bz_set (K := K) (σ := [some (.ref a), some (.ref h), some v_t, o3, some v_b, some (.ref pr), o6, none, none, none, none, none, none]) s8 (d_lst (ds_cons (d_lst (ds_cons d_int (ds_cons d_int ds_nil)) (by show 2 ≤ 1000; decide)) (ds_cons (d_tup (ds_cons d_int (ds_cons d_int ds_nil)) (by show 2 ≤ 1000; decide)) (ds_cons (d_tup (ds_cons d_int (ds_cons d_int ds_nil)) (by show 2 ≤ 1000; decide)) (ds_cons (d_tup (ds_cons d_int (ds_cons (d_neg d_int) ds_nil)) (by show 2 ≤ 1000; decide)) (ds_cons (d_tup (ds_cons d_bl (ds_cons d_int ds_nil)) (by show 2 ≤ 1000; decide)) (ds_cons (d_tup (ds_cons d_int (ds_cons d_bl ds_nil)) (by show 2 ≤ 1000; decide)) (ds_cons (d_tup (ds_cons d_int (ds_cons d_int ds_nil)) (by show 2 ≤ 1000; decide)) (ds_cons (d_tup (ds_cons d_int (ds_cons d_int (ds_cons d_int ds_nil))) (by show 3 ≤ 1000; decide)) (ds_cons (d_tup (ds_cons d_int ds_nil) (by show 1 ≤ 1000; decide)) (ds_cons d_int (ds_cons d_non (ds_cons d_str (ds_cons (d_tup (ds_cons (d_tup (ds_cons d_int (ds_cons d_int ds_nil)) (by show 2 ≤ 1000; decide)) (ds_cons d_int ds_nil)) (by show 2 ≤ 1000; decide)) ds_nil))))))))))))) (by show 13 ≤ 1000; decide)) fun v_odd H9 s9 h_odd => ?_
      refine bz_if2 (σ := [some (.ref a), some (.ref h), some v_t, o3, some v_b, some (.ref pr), o6, some v_odd, none, none, none, none, none]) s9 (b_val (d_is (d_anyL (fun d => !decide (ratD d = false)) (d_var ⟨_, rfl, h_odd⟩) (by show 13 ≤ 40000; decide) (fun _ => rfl) (fun d v H1 e hd hv => d_notBb (d_call (ds_cons (d_var ⟨_, rfl, hv⟩) ds_nil) rfl ⟨_, rfl, rfl⟩) d_bl)) (by rfl)))
        (hb_nor (hb_words (c_r l0) rfl (small 0).1 (small 0).2) (hb_words (c_r l1) rfl (small 1).1 (small 1).2)) fun H10 s10 => ?_
      refine z_nx ?_
      refine bz_set (K := K) (σ := [some (.ref a), some (.ref h), some v_t, o3, some v_b, some (.ref pr), o6, some v_odd, none, none, none, none, none]) s10 (c_t l0) fun v_low H11 s11 h_low => ?_
      cases h_low
      refine bz_set (K := K) (σ := [some (.ref a), some (.ref h), some v_t, o3, some v_b, some (.ref pr), o6, some v_odd, none, some (.int (t 0)), none, none, none]) s11 (d_add (d_var (i := 9) ⟨_, rfl, .int (t 0)⟩) (d_abs (c_t l1))) fun v_high H12 s12 h_high => ?_
      cases h_high
      generalize hhi : t 0 + ((t 1).natAbs : Int) = hi2
      have low_hi : t 0 ≤ hi2 := by omega
      have lw : ∀ {H : Hp} {o8 o11 o12 : Option V}, EvD K (tVar 9) [some (.ref a), some (.ref h), some v_t, o3, some v_b, some (.ref pr), o6, some v_odd, o8, some (.int (t 0)), some (.int hi2), o11, o12] H (.int (t 0)) := d_var ⟨_, rfl, .int _⟩
      have hw : ∀ {H : Hp} {o8 o11 o12 : Option V}, EvD K (tVar 10) [some (.ref a), some (.ref h), some v_t, o3, some v_b, some (.ref pr), o6, some v_odd, o8, some (.int (t 0)), some (.int hi2), o11, o12] H (.int hi2) := d_var ⟨_, rfl, .int _⟩
      refine z_forT (K := K) (ds := [.int (t 0 - 1), .int (t 0), .int hi2, .int (hi2 + 1), .int (t 2)]) (σ := [some (.ref a), some (.ref h), some v_t, o3, some v_b, some (.ref pr), o6, some v_odd, none, some (.int (t 0)), some (.int hi2), none, none]) (EvD.mono s12.all (d_tup (ds_cons (d_sub lw d_int) (ds_cons lw (ds_cons hw (ds_cons (d_add hw d_int) (ds_cons (c_t l2) ds_nil))))) (by show 5 ≤ 1000; decide))) (fun i σ' H' => ∃ o11, σ' = [some (.ref a), some (.ref h), some v_t, o3, some v_b, some (.ref pr), o6, some v_odd, none, some (.int (t 0)), some (.int hi2), o11, none]) (fun H' _ => ⟨_, rfl⟩) (fun i d v σ' H13 D' hd e13 pv hv kD => ?_) (fun σ' H13 e13 pv => ?_)
      · obtain ⟨o11, rfl⟩ := pv
        obtain ⟨n, rfl⟩ : ∃ n : Int, d = .int n := by
          have := List.mem_of_getElem? hd
          simp only [List.mem_cons, List.not_mem_nil, or_false] at this
          rcases this with rfl | rfl | rfl | rfl | rfl <;> exact ⟨_, rfl⟩
        cases hv
        have ov : ∀ {H : Hp}, EvD K (tVar 11) [some (.ref a), some (.ref h), some v_t, o3, some v_b, some (.ref pr), o6, some v_odd, none, some (.int (t 0)), some (.int hi2), some (.int n), none] H (.int n) := d_var ⟨_, rfl, .int _⟩
        refine z_if (b := false) (σ := [some (.ref a), some (.ref h), some v_t, o3, some v_b, some (.ref pr), o6, some v_odd, none, some (.int (t 0)), some (.int hi2), some (.int n), none]) (b_nor (b_same (a := .bool (wholeIn (.int n) (.int (t 0)) (.int hi2))) rfl (d_callV (ds_cons ov (ds_cons lw (ds_cons hw ds_nil))) (fun _ => .nil) rfl ⟨_, _, _, rfl, .inr ⟨_, rfl⟩, .inr ⟨_, rfl⟩, rfl⟩) (d_and (d_le lw ov) (fun _ => d_le ov hw)))
          (b_same (a := .bool (wholeIn (.int n) (.int (t 0)) .none)) rfl (d_callV (ds_cons ov (ds_cons lw ds_nil)) (fun _ => .cons .non .nil) rfl ⟨_, _, _, rfl, .inr ⟨_, rfl⟩, .inl rfl, rfl⟩) (d_is (d_le lw ov) (by show _ = PyData.bool (decide (t 0 ≤ n) && true); rw [Bool.and_true])))) (fun c => by cases c) (fun _ H14 e14 => ?_)
        refine z_nx ?_
        refine z_if1 (b := false) (σ := [some (.ref a), some (.ref h), some v_t, o3, some v_b, some (.ref pr), o6, some v_odd, none, some (.int (t 0)), some (.int hi2), some (.int n), none]) (b_test (d_is (d_notBb (d_callV (ds_cons ov ds_nil) (fun _ => .cons .non (.cons .non .nil)) rfl ⟨_, _, _, rfl, .inl rfl, .inl rfl, rfl⟩) d_bl) rfl)) (fun c => by cases c) (fun _ H15 e15 => ?_)
        exact z_next (kD _ _ (e14.trans e15) ⟨_, rfl⟩)
      obtain ⟨o11, rfl⟩ := pv
      have s13 := s12.grow e13
      refine bz_if (σ := [some (.ref a), some (.ref h), some v_t, o3, some v_b, some (.ref pr), o6, some v_odd, none, some (.int (t 0)), some (.int hi2), o11, none]) s13 (hb_of (b_val (d_is (d_anyT (ds := [.bool true, .bool false, .none, .str "1", .tuple [.int 1, .int 1]]) (fun d => !decide (wholeIn d .none .none = false)) (d_tup (ds_cons d_bl (ds_cons d_bl (ds_cons d_non (ds_cons d_str (ds_cons (d_tup (ds_cons d_int (ds_cons d_int ds_nil)) (by show 2 ≤ 1000; decide)) ds_nil))))) (by show 5 ≤ 1000; decide)) (by show 5 ≤ 40000; decide) (fun _ => rfl) (fun d v H1 e hd hv => d_notBb (d_callV (ds_cons (d_var ⟨_, rfl, hv⟩) ds_nil) (fun _ => .cons .non (.cons .non .nil)) rfl ⟨_, _, _, rfl, .inl rfl, .inl rfl, rfl⟩) d_bl)) (by rfl)))) fun H14 s14 => ?_
      refine z_nx ?_
      refine bz_if (σ := [some (.ref a), some (.ref h), some v_t, o3, some v_b, some (.ref pr), o6, some v_odd, none, some (.int (t 0)), some (.int hi2), o11, none]) s14 (hb_of (b_nor (b_test (d_is (d_notBb (d_callV (ds_cons d_bl (ds_cons d_int (ds_cons d_int ds_nil))) (fun _ => .nil) rfl ⟨_, _, _, rfl, .inr ⟨_, rfl⟩, .inr ⟨_, rfl⟩, rfl⟩) d_bl) rfl))
        (b_test (d_is (d_notBb (d_callV (ds_cons hw (ds_cons d_non (ds_cons (d_sub lw d_int) ds_nil))) (fun _ => .nil) rfl ⟨_, _, _, rfl, .inl rfl, .inr ⟨_, rfl⟩, rfl⟩) d_bl) (by
          show PyData.bool (!decide ((true && decide (hi2 ≤ t 0 - 1)) = false)) = .bool false
          rw [decide_eq_false (show ¬ hi2 ≤ t 0 - 1 by omega)]
          rfl))))) fun H15 s15 => ?_
      refine z_nx ?_
      refine bz_set (K := K) (d := .tuple [.none, .bool true, .str "1", .tuple [.int 1, .int 1], .list [.int 3]]) (σ := [some (.ref a), some (.ref h), some v_t, o3, some v_b, some (.ref pr), o6, some v_odd, none, some (.int (t 0)), some (.int hi2), o11, none]) s15 (d_tup (ds_cons d_non (ds_cons d_bl (ds_cons d_str (ds_cons (d_tup (ds_cons d_int (ds_cons d_int ds_nil)) (by show 2 ≤ 1000; decide)) (ds_cons (d_lst (ds_cons d_int ds_nil) (by show 1 ≤ 1000; decide)) ds_nil))))) (by show 5 ≤ 1000; decide)) fun v_ths H16 s16 h_ths => ?_
      have picked : ∀ (r : Int), 0 ≤ r → r < 5 → ∃ p xs zz d, v_ths = .ref p ∧ SqT K (rem H16 h) p xs ∧ atI xs r = some zz ∧ Dp K (rem H16 h) zz d ∧ wholeIn d .none .none = false := by
        intro r q0 q1
        obtain ⟨ys, hy⟩ := hand_lst s16.hh
        cases h_ths with
        | tup hs ha =>
          have sq := st_rem hy noTup_l hs
          have e : r = 0 ∨ r = 1 ∨ r = 2 ∨ r = 3 ∨ r = 4 := by omega
          rcases e with rfl | rfl | rfl | rfl | rfl
          · obtain ⟨zz, hat, hzz⟩ := dps_at (i := ((0 : Nat) : Int)) ha (L2.atI_nat rfl)
            exact ⟨_, _, zz, _, rfl, sq, hat, hand_dp s16.hh rfl hzz, rfl⟩
          · obtain ⟨zz, hat, hzz⟩ := dps_at (i := ((1 : Nat) : Int)) ha (L2.atI_nat rfl)
            exact ⟨_, _, zz, _, rfl, sq, hat, hand_dp s16.hh rfl hzz, rfl⟩
          · obtain ⟨zz, hat, hzz⟩ := dps_at (i := ((2 : Nat) : Int)) ha (L2.atI_nat rfl)
            exact ⟨_, _, zz, _, rfl, sq, hat, hand_dp s16.hh rfl hzz, rfl⟩
          · obtain ⟨zz, hat, hzz⟩ := dps_at (i := ((3 : Nat) : Int)) ha (L2.atI_nat rfl)
            exact ⟨_, _, zz, _, rfl, sq, hat, hand_dp s16.hh rfl hzz, rfl⟩
          · obtain ⟨zz, hat, hzz⟩ := dps_at (i := ((4 : Nat) : Int)) ha (L2.atI_nat rfl)
            exact ⟨_, _, zz, _, rfl, sq, hat, three_rem s16.hh hzz, rfl⟩
      refine ⟨_, rfl, _, rfl, h, c, ms, 5, rfl, by decide, by decide, s16.hh, fun r H17 r0 r1 hh17 he17 => ?_⟩
      obtain ⟨p, xs, zz, d, rfl, hsq, hat, hzz, wf⟩ := picked r r0 r1
      have x17 : rem H17 h = rem H16 h := rem_same he17
      have s17 : StB h c ms Bs H17 := ⟨hh17, by rw [x17]; exact s16.ex⟩
      have ht17 : Dp K H17 zz d := dp_grow (by rw [← x17]; exact rem_ex) _ _ hzz
      refine ⟨p, xs, r, zz, rfl, rfl, ex_t (by rw [← x17]; exact rem_ex) hsq, hat, ?_⟩
      show tSeq _ _ _ [some (.ref a), some (.ref h), some v_t, o3, some v_b, some (.ref pr), o6, some v_odd, some zz, some (.int (t 0)), some (.int hi2), o11, some (.ref p)] _
      have th : EvD K (tVar 8) [some (.ref a), some (.ref h), some v_t, o3, some v_b, some (.ref pr), o6, some v_odd, some zz, some (.int (t 0)), some (.int hi2), o11, some (.ref p)] H17 d := d_var ⟨_, rfl, ht17⟩
      have wt : wholeIn (.int (t 0)) .none .none = true := rfl
      refine z_if (b := false) (σ := [some (.ref a), some (.ref h), some v_t, o3, some v_b, some (.ref pr), o6, some v_odd, some zz, some (.int (t 0)), some (.int hi2), o11, some (.ref p)]) (b_nor (b_test (d_is (d_neS (d_call (ds_cons th (ds_cons d_int ds_nil)) rfl (.inl ⟨"top", ⟨_, _, rfl, .inl ⟨wf, rfl⟩⟩, rfl⟩)) d_str) (by rw [decide_eq_true rfl]; rfl)))
        (b_nor (b_test (d_is (d_neS (d_call (ds_cons th (ds_cons ((c_b l0).mono s17.all) ds_nil)) rfl (.inl ⟨"top", ⟨_, _, rfl, .inl ⟨wf, rfl⟩⟩, rfl⟩)) d_str) (by rw [decide_eq_true rfl]; rfl)))
          (b_test (d_is (d_neS (d_call (ds_cons ((c_t l0).mono s17.all) (ds_cons th ds_nil)) rfl (.inl ⟨"bottom", ⟨_, _, rfl, .inr (.inl ⟨wt, wf, rfl⟩)⟩, rfl⟩)) d_str) (by rw [decide_eq_true rfl]; rfl))))) (fun c => by cases c) (fun _ H18 e18 => ?_)
      have s18 := s17.grow e18
      refine z_nx ?_
      refine bz_if (σ := [some (.ref a), some (.ref h), some v_t, o3, some v_b, some (.ref pr), o6, some v_odd, some zz, some (.int (t 0)), some (.int hi2), o11, some (.ref p)]) s18 (hb_of (b_nor (b_test (d_is (d_neS (d_call (ds_cons (c_t l0) (ds_cons d_int ds_nil)) rfl (.inl ⟨"bottom", ⟨_, _, rfl, .inr (.inr ⟨wt, rfl, rfl⟩)⟩, rfl⟩)) d_str) (by rw [decide_eq_true rfl]; rfl)))
        (b_nor (b_test (d_is (d_neS (d_call (ds_cons (c_t l0) (ds_cons (c_b l0) ds_nil)) rfl (.inr ⟨⟨_, t 0, b 0, rfl, by have := b0 0; omega, bw 0, rfl⟩, rfl⟩)) d_str) (by rw [decide_eq_true rfl]; rfl)))
          (b_test (d_is (d_neS (d_call (ds_cons (c_r l2) ds_nil) rfl ⟨z 2, rfl, rfl⟩) d_str) (by rw [decide_eq_true rfl]; rfl)))))) fun H19 s19 => ?_
      refine z_nx ?_
      exact ⟨_, rfl, h, c, ms, rfl, s19.hh, fun H' _ _ => k H'⟩
end
end K01
namespace HH
open PySem L2 K01
open He (ga ma frG frG_in frG_at FnD DefD SaysE obsE valE eqO eqO_ok ba refV)
def fnNames : List Str := (["is_whole", "is_ratio", "make_ratio", "_lowest", "plus", "minus", "_joined", "times", "over", "negative", "size_of", "compare", "sum_of", "product_of", "least_of", "greatest_of", "floor_of", "power_of", "ratio_text", "parse_ratio"] : List PySem.Str) ++ (["_parse_figures", "_law_mix", "_law_hand", "_law_draw", "_law_ratio", "_law_plus", "_law_times", "_law_less", "_law_size", "_law_whole", "_law_is_ratio", "_law_same", "_law_number", "_law_refused", "_law_over_refused", "_law_two", "_law_rows", "_law_words", "_law_power_holds", "_law_far"] : List PySem.Str) ++ (["law"] : List PySem.Str)
def freeNames : List Str := ["int", "abs", "len", "range", "isinstance", "any", "all", "bool", "str", "tuple", "list", "enumerate", "reversed"]
def fnOk (K : PySem.W.Frag) (x : Str) : Bool := eqO (PySem.W.nsIn K mainGlobals x) (some (some (.ref (ga K x)))) && PySem.W.keepIn K (.ref (ga K x))
abbrev veL : List Value := [.type "ValueError", .type "Exception", .type "BaseException", .type "object"]
/-- what is asked of the one exception class, right under HeldError, in one look -/
def coreB (K : PySem.W.Frag) (C H : Addr) : Bool := match K.lookup C with
  | some ⟨.type "type", _, .cls cd, sl⟩ => (match sl.toList with
    | [_, _, _, _, some (.builtin n), _] => n == "ValueError.__new__"
    | _ => false) && (cd.mro == .ref C :: .ref H :: veL) && cd.hasDict && !cd.hasDel
  | _ => false
theorem core_ok {K : PySem.W.Frag} {C H : Addr} (h : coreB K C H = true) : ∃ nm q N bs sn sub ab col dd k0 k1 k2 k3 k5, K.lookup C = some (excClassObj nm q C N bs (.ref H :: veL) true sn sub ab col dd k0 k1 k2 k3 k5 "ValueError.__new__") := by
  unfold coreB at h
  split at h
  · rename_i dd cd sl hK
    simp only [Bool.and_eq_true, beq_iff_eq, Bool.not_eq_true'] at h
    obtain ⟨⟨⟨hs, hm⟩, hd⟩, hdel⟩ := h
    split at hs
    · rename_i k0 k1 k2 k3 n k5 hsl
      rw [beq_iff_eq] at hs
      subst hs
      obtain ⟨nm, bs, mro, ns, qn, hdc, sn, sub, ab, col, del⟩ := cd
      dsimp only at hm hd hdel
      subst hm hd hdel
      have e : sl = #[k0, k1, k2, k3, some (.builtin "ValueError.__new__"), k5] := by
        obtain ⟨l⟩ := sl
        exact congrArg Array.mk hsl
      subst e
      exact ⟨nm, qn, ns, bs, sn, sub, ab, col, dd, k0, k1, k2, k3, k5, hK⟩
    · cases hs
  · cases h
def oexB (K : PySem.W.Frag) (C H : Addr) : Bool := coreB K C H && (decide (PySem.W.findIn K (.ref C) "__setattr__" = some (some (.builtin "object.__setattr__"))) && (decide (PySem.W.subIn K (.ref C) (.type "BaseException") = some true) && (decide (PySem.W.typeIn K (.ref C) = some (.type "type")) && PySem.W.keepIn K (.ref C))))
theorem oex_ok {K : PySem.W.Frag} {C H : Addr} (h : oexB K C H = true) : OexC K C := by
  obtain ⟨h1, h⟩ := ba h
  obtain ⟨h2, h⟩ := ba h
  obtain ⟨h3, h⟩ := ba h
  obtain ⟨h4, h5⟩ := ba h
  obtain ⟨nm, q, N, bs, sn, sub, ab, col, dd, k0, k1, k2, k3, k5, hK⟩ := core_ok h1
  exact ⟨⟨nm, q, N, bs, .ref H :: veL, sn, sub, ab, col, dd, k0, k1, k2, k3, k5, hK, by rfl⟩, of_decide_eq_true h2, of_decide_eq_true h3, of_decide_eq_true h4, h5⟩
def initOk (K : PySem.W.Frag) (x : Str) : Bool :=
  eqO (PySem.W.findIn K (.ref (ga K x)) "__init__") (some (some (.ref (ma K (ga K x) "__init__")))) && (decide (PySem.W.typeIn K (.ref (ma K (ga K x) "__init__")) = some (.type "function")) && PySem.W.keepIn K (.ref (ma K (ga K x) "__init__")))
def clB (K : PySem.W.Frag) : Bool :=
  eqO (PySem.W.nsIn K mainGlobals "BadRatio") (some (some (.ref (ga K "BadRatio")))) && (oexB K (ga K "BadRatio") (ga K "HeldError") && (xfB K (ga K "BadRatio") && (decide (PySem.W.findIn K (.ref (ga K "BadRatio")) "what" = some none) && (decide (PySem.W.exmOne K (.ref (ga K "BadRatio")) (.ref (ga K "BadRatio")) = some true) && initOk K "BadRatio"))))
def longB (K : PySem.W.Frag) : Bool := match PySem.W.nsIn K mainGlobals "LONGEST" with
  | some (some (.int i _)) => decide (i = 300)
  | _ => false
theorem long_ok {K : PySem.W.Frag} (h : longB K = true) : ∃ t, PySem.W.nsIn K mainGlobals "LONGEST" = some (some (.int 300 t)) := by
  unfold longB at h
  split at h
  · rename_i i t e
    have q := of_decide_eq_true h
    subst q
    exact ⟨t, e⟩
  · cases h
def exB (K : PySem.W.Frag) : Bool := fnNames.all (fun x => fnOk K x) && (freeNames.all (fun x => eqO (PySem.W.nsIn K mainGlobals x) (some none)) && (((eqO (PySem.W.nsIn K mainGlobals "ZERO") (some (some (.ref (ga K "ZERO")))) && He.tupB K "ZERO" [.int 0, .int 1]) && (eqO (PySem.W.nsIn K mainGlobals "ONE") (some (some (.ref (ga K "ONE")))) && He.tupB K "ONE" [.int 1, .int 1]) && (eqO (PySem.W.nsIn K mainGlobals "HALF") (some (some (.ref (ga K "HALF")))) && He.tupB K "HALF" [.int 1, .int 2])) && (eqO (PySem.W.nsIn K mainGlobals "gcd") (some (some (.builtin "math.gcd"))) && (longB K && clB K))))
def fds : List FnD := [⟨("is_ratio", none), "is_ratio", "is_ratio", defArgs (topS 10), defBody (topS 10), defScope (topS 10)⟩,
  ⟨("_lowest", none), "_lowest", "_lowest", defArgs (topS 12), defBody (topS 12), defScope (topS 12)⟩,
  ⟨("plus", none), "plus", "plus", defArgs (topS 13), defBody (topS 13), defScope (topS 13)⟩,
  ⟨("minus", none), "minus", "minus", defArgs (topS 14), defBody (topS 14), defScope (topS 14)⟩,
  ⟨("_joined", none), "_joined", "_joined", defArgs (topS 15), defBody (topS 15), defScope (topS 15)⟩,
  ⟨("times", none), "times", "times", defArgs (topS 16), defBody (topS 16), defScope (topS 16)⟩,
  ⟨("over", none), "over", "over", defArgs (topS 17), defBody (topS 17), defScope (topS 17)⟩,
  ⟨("negative", none), "negative", "negative", defArgs (topS 18), defBody (topS 18), defScope (topS 18)⟩,
  ⟨("size_of", none), "size_of", "size_of", defArgs (topS 19), defBody (topS 19), defScope (topS 19)⟩,
  ⟨("compare", none), "compare", "compare", defArgs (topS 20), defBody (topS 20), defScope (topS 20)⟩,
  ⟨("sum_of", none), "sum_of", "sum_of", defArgs (topS 21), defBody (topS 21), defScope (topS 21)⟩,
  ⟨("product_of", none), "product_of", "product_of", defArgs (topS 22), defBody (topS 22), defScope (topS 22)⟩,
  ⟨("least_of", none), "least_of", "least_of", defArgs (topS 23), defBody (topS 23), defScope (topS 23)⟩,
  ⟨("greatest_of", none), "greatest_of", "greatest_of", defArgs (topS 24), defBody (topS 24), defScope (topS 24)⟩,
  ⟨("floor_of", none), "floor_of", "floor_of", defArgs (topS 25), defBody (topS 25), defScope (topS 25)⟩,
  ⟨("power_of", none), "power_of", "power_of", defArgs (topS 26), defBody (topS 26), defScope (topS 26)⟩,
  ⟨("ratio_text", none), "ratio_text", "ratio_text", defArgs (topS 27), defBody (topS 27), defScope (topS 27)⟩,
  ⟨("parse_ratio", none), "parse_ratio", "parse_ratio", defArgs (topS 28), defBody (topS 28), defScope (topS 28)⟩,
  ⟨("_parse_figures", none), "_parse_figures", "_parse_figures", defArgs (topS 29), defBody (topS 29), defScope (topS 29)⟩,
  ⟨("_law_mix", none), "_law_mix", "_law_mix", defArgs (topS 31), defBody (topS 31), defScope (topS 31)⟩,
  ⟨("_law_hand", none), "_law_hand", "_law_hand", defArgs (topS 32), defBody (topS 32), defScope (topS 32)⟩,
  ⟨("_law_draw", none), "_law_draw", "_law_draw", defArgs (topS 33), defBody (topS 33), defScope (topS 33)⟩,
  ⟨("_law_ratio", none), "_law_ratio", "_law_ratio", defArgs (topS 34), defBody (topS 34), defScope (topS 34)⟩,
  ⟨("_law_plus", none), "_law_plus", "_law_plus", defArgs (topS 35), defBody (topS 35), defScope (topS 35)⟩,
  ⟨("_law_times", none), "_law_times", "_law_times", defArgs (topS 36), defBody (topS 36), defScope (topS 36)⟩,
  ⟨("_law_less", none), "_law_less", "_law_less", defArgs (topS 37), defBody (topS 37), defScope (topS 37)⟩,
  ⟨("_law_size", none), "_law_size", "_law_size", defArgs (topS 38), defBody (topS 38), defScope (topS 38)⟩,
  ⟨("_law_whole", none), "_law_whole", "_law_whole", defArgs (topS 39), defBody (topS 39), defScope (topS 39)⟩,
  ⟨("_law_is_ratio", none), "_law_is_ratio", "_law_is_ratio", defArgs (topS 40), defBody (topS 40), defScope (topS 40)⟩,
  ⟨("_law_same", none), "_law_same", "_law_same", defArgs (topS 41), defBody (topS 41), defScope (topS 41)⟩,
  ⟨("_law_number", none), "_law_number", "_law_number", defArgs (topS 42), defBody (topS 42), defScope (topS 42)⟩,
  ⟨("_law_refused", none), "_law_refused", "_law_refused", defArgs (topS 43), defBody (topS 43), defScope (topS 43)⟩,
  ⟨("_law_over_refused", none), "_law_over_refused", "_law_over_refused", defArgs (topS 44), defBody (topS 44), defScope (topS 44)⟩,
  ⟨("_law_two", none), "_law_two", "_law_two", defArgs (topS 45), defBody (topS 45), defScope (topS 45)⟩,
  ⟨("_law_rows", none), "_law_rows", "_law_rows", defArgs (topS 46), defBody (topS 46), defScope (topS 46)⟩,
  ⟨("_law_words", none), "_law_words", "_law_words", defArgs (topS 47), defBody (topS 47), defScope (topS 47)⟩,
  ⟨("_law_power_holds", none), "_law_power_holds", "_law_power_holds", defArgs (topS 48), defBody (topS 48), defScope (topS 48)⟩,
  ⟨("_law_far", none), "_law_far", "_law_far", defArgs (topS 49), defBody (topS 49), defScope (topS 49)⟩,
  ⟨("law", none), "law", "law", defArgs (topS 50), defBody (topS 50), defScope (topS 50)⟩,
  ⟨("BadRatio", some "__init__"), "__init__", "BadRatio.__init__", defArgs (inClass (topS 3) 0), defBody (inClass (topS 3) 0), defScope (inClass (topS 3) 0)⟩]
def dds : List DefD := [⟨("is_whole", none), "is_whole", "is_whole", defArgs (topS 9), defBody (topS 9), defScope (topS 9), [.non, .non], []⟩,
  ⟨("make_ratio", none), "make_ratio", "make_ratio", defArgs (topS 11), defBody (topS 11), defScope (topS 11), [.int 1], []⟩]
def refsN (o : Obj) : List Addr := match o.data with
  | .dict es _ => es.toList.flatMap fun e => refV e.val
  | .func fd => refV fd.code ++ refV fd.defaults
  | .cls cd => [cd.ns]
  | _ => []
def stepN (g : Addr → Option Obj) (as : List Addr) : List Addr := as.flatMap fun a => match g a with
  | some o => refsN o
  | none => []
/-- the module's names, their codes and defaults -/
def asN (g : Addr → Option Obj) : List Addr := mainGlobals :: (stepN g [mainGlobals] ++ (stepN g (stepN g [mainGlobals]) ++ (stepN g (stepN g (stepN g [mainGlobals])) ++ stepN g (stepN g (stepN g (stepN g [mainGlobals]))))))
def kOf (g : Addr → Option Obj) : PySem.W.Frag := frG g (asN g)
abbrev AlC : Type := Bool × He.Al × He.AlD
def obC (K : PySem.W.Frag) : AlC := (exB K, obsE [] fds K, He.obsD [] dds K)
def valC : AlC := (true, valE fds, He.valD dds)
structure Says (K : PySem.W.Frag) : Prop where
  b : exB K = true
  f : SaysE [] fds K
  d : He.SaysD [] dds K
def hk : PySem.W.Hook where
  α := AlC
  obs := fun s => obC (kOf s.heap.get?)
  val := fun _ => valC
  says := fun _ h => ∃ K : PySem.W.Frag, K.In h ∧ Says K
  of := fun _ _ e => ⟨_, frG_in, ⟨congrArg (fun z : AlC => z.1) e, congrArg (fun z : AlC => z.2.1) e, congrArg (fun z : AlC => z.2.2) e⟩⟩
  keeps := fun _ _ _ ⟨K, hK, c⟩ k => ⟨K, PySem.W.Frag.In.keeps hK k, c⟩
def ob (s : PySem.W.SharedT) : AlC := obC (kOf (HandSHeadRun.getT s))
theorem ob_eq (s : PySem.W.SharedT) : ob s = hk.obs s.abs := by
  have e : HandSHeadRun.getT s = s.abs.heap.get? := funext (HandSHeadRun.getT_eq s)
  unfold ob
  rw [e]
  rfl
section
variable {K : PySem.W.Frag}
theorem Says.fn (c : Says K) (i : Nat) {x : Str} (h : fnNames[i]? = some x := by rfl) : PySem.W.nsIn K mainGlobals x = some (some (.ref (ga K x))) ∧ PySem.W.keepIn K (.ref (ga K x)) = true := by
  obtain ⟨h1, h2⟩ := ba (List.all_eq_true.mp (ba c.b).1 x (List.mem_of_getElem? h))
  exact ⟨eqO_ok h1, h2⟩
theorem Says.free (c : Says K) (i : Nat) {x : Str} (h : freeNames[i]? = some x := by rfl) : PySem.W.nsIn K mainGlobals x = some none := eqO_ok (List.all_eq_true.mp (ba (ba c.b).2).1 x (List.mem_of_getElem? h))
end
end HH
namespace HR
open PySem PySem.W PySem.Calls PyProof.Rows
abbrev R : OpenRow := OpenLaw.row PySem.Challenge.rw_farheld_k01_whole_ratios_reckoned
def names0 : List PySem.Str := (["HeldError", "BadRatio", "LONGEST", "ZERO", "ONE", "HALF", "is_whole", "is_ratio", "make_ratio", "_lowest", "plus", "minus", "_joined", "times", "over", "negative", "size_of", "compare", "sum_of", "product_of"] : List PySem.Str) ++ (["least_of", "greatest_of", "floor_of", "power_of", "ratio_text", "parse_ratio", "_parse_figures", "_law_mix", "_law_hand", "_law_draw", "_law_ratio", "_law_plus", "_law_times"] : List PySem.Str)
def names1 : List PySem.Str := (["_law_less", "_law_size", "_law_whole", "_law_is_ratio", "_law_same", "_law_number", "_law_refused", "_law_over_refused", "_law_two", "_law_rows", "_law_words", "_law_power_holds", "_law_far"] : List PySem.Str)
def names : List PySem.Str := names0 ++ names1
theorem run (w : World) : HandSHeadRun.RunEqI R (view R.prog [0, 50]) HH.hk HH.ob 20000 names w := by
  unfold HandSHeadRun.RunEqI
  kernel_rfl
end HR
namespace HH
open PySem L2 K01 Dat
open He (ga ma frG frG_in frG_at FnD DefD SaysE obsE valE eqO eqO_ok ba refV)
theorem fun_of {K : PySem.W.Frag} {x : Str} {st : Stmt} (h : ∃ oc od osl kV doc pm an cdv ct, K.lookup (ga K x) = some ⟨oc, od, .func (PySem.W.fnOf x x (defArgs st) (defBody st) (defScope st) .none kV doc pm an cdv ct), osl⟩ ∧ PySem.W.codeIn K cdv x = true) (kp : PySem.W.keepIn K (.ref (ga K x)) = true) :
    ∃ fd, Fun K x x st (ga K x) fd := by
  obtain ⟨_, _, _, _, _, _, _, _, _, lk, cd⟩ := h
  exact ⟨_, fun_mk lk cd kp⟩
theorem def_of {P : Program} {w : World} {K : PySem.W.Frag} {mg : Str → Option Value} {base : Heap} {CX : CXT} {k : Nat} {x : Str} {st : Stmt} {ps : List Str} {sp : Sp} {f : Addr} {fd : FuncData} (F : Fun K x x st f fd) (ok : FnOk P w K mg base CX k f fd ps sp) (hm : mg x = some (.ref f))
    (h : ∀ (kV doc pm : Value) (an : Option Addr) (cdv ct : Value) (us : List Value), us.length = ps.length → bindArgs (PySem.W.fnOf x x (defArgs st) (defBody st) (defScope st) .none kV doc pm an cdv ct) ⟨us, []⟩ = pure (ps.zip us)) : Def P w K mg base CX k x ps sp :=
  ⟨f, fd, ok, hm, F.kp, F.binds h⟩
theorem facts {l : PySem.W.OpenLaw} {w : World} {K : PySem.W.Frag} {h : Heap} {mg : Str → Option Value} {fa : Addr} (X : K.In h) (G : h.Ns mainGlobals mg) (hfa : mg "law" = some (.ref fa)) (c : Says K) :
    ∃ fd : FuncData, (∀ (s : Shared) (v : Value), BindsTo s fd ⟨[v], []⟩ [("script", v)]) ∧ ∀ base : Heap, K.In base → base.Ns mainGlobals mg → FnOk l.prog w K mg base CX0 6 fa fd ["script"] (spLaw K) := by
  have fr := fun (i : Nat) {x : Str} (h : freeNames[i]? = some x) => PySem.W.mg_none_of X G (c.free i h)
  have mf := fun (i : Nat) {x : Str} (h : fnNames[i]? = some x) => PySem.W.mg_of X G (c.fn i h).1
  have cb := (ba (ba c.b).2).2
  obtain ⟨cz, cg⟩ := ba cb
  obtain ⟨cg, cl⟩ := ba cg
  obtain ⟨clg, ccl⟩ := ba cl
  obtain ⟨czo, czh⟩ := ba cz
  obtain ⟨czz, czo⟩ := ba czo
  obtain ⟨cz1, cz2⟩ := ba czz
  obtain ⟨co1, co2⟩ := ba czo
  obtain ⟨ch1, ch2⟩ := ba czh
  have gG : mg "gcd" = some (.builtin "math.gcd") := PySem.W.mg_of X G (eqO_ok cg)
  have gZ : mg "ZERO" = some (.ref (ga K "ZERO")) := PySem.W.mg_of X G (eqO_ok cz1)
  have hZ : ∀ H, Dp K H (.ref (ga K "ZERO")) (ratR 0) := fun H => .tup (He.tupB_ok cz2 H) (.cons (.int 0) (.cons (.int 1) .nil))
  have gO : mg "ONE" = some (.ref (ga K "ONE")) := PySem.W.mg_of X G (eqO_ok co1)
  have hO : ∀ H, Dp K H (.ref (ga K "ONE")) (ratR 1) := fun H => .tup (He.tupB_ok co2 H) (.cons (.int 1) (.cons (.int 1) .nil))
  have gH : mg "HALF" = some (.ref (ga K "HALF")) := PySem.W.mg_of X G (eqO_ok ch1)
  have hH : ∀ H, Dp K H (.ref (ga K "HALF")) (rat 1 2) := fun H => .tup (He.tupB_ok ch2 H) (.cons (.int 1) (.cons (.int 2) .nil))
  obtain ⟨tL, hL⟩ := long_ok clg
  have gL : mg "LONGEST" = some (.int 300 tL) := PySem.W.mg_of X G hL
  have T : Bl mg := ⟨fr 0 rfl, fr 1 rfl, fr 2 rfl, fr 3 rfl, fr 4 rfl, fr 5 rfl, fr 6 rfl, fr 7 rfl, fr 8 rfl, fr 9 rfl, fr 10 rfl, fr 11 rfl, gG⟩
  have hrev : mg "reversed" = none := fr 12 rfl
  obtain ⟨cB, ccl⟩ := ba ccl
  obtain ⟨cO, ccl⟩ := ba ccl
  obtain ⟨cX, ccl⟩ := ba ccl
  obtain ⟨cN, ccl⟩ := ba ccl
  obtain ⟨cT, ccl⟩ := ba ccl
  obtain ⟨cI, ccl⟩ := ba ccl
  obtain ⟨cY, cP⟩ := ba ccl
  have gB : mg "BadRatio" = some (.ref (ga K "BadRatio")) := PySem.W.mg_of X G (eqO_ok cB)
  obtain ⟨_, _, _, _, _, _, _, _, _, lkI, cdI⟩ := c.f.def_ 39 rfl
  have FI := fun_mk (x := "__init__") (qual := "BadRatio.__init__") (st := s_i_BadRatio) lkI cdI cP
  have F_is_ratio : ∃ fd, Fun K "is_ratio" "is_ratio" (topS 10) (ga K "is_ratio") fd := fun_of (st := topS 10) (c.f.def_ 0 rfl) (c.fn 1 rfl).2
  have F__lowest : ∃ fd, Fun K "_lowest" "_lowest" (topS 12) (ga K "_lowest") fd := fun_of (st := topS 12) (c.f.def_ 1 rfl) (c.fn 3 rfl).2
  have F_plus : ∃ fd, Fun K "plus" "plus" (topS 13) (ga K "plus") fd := fun_of (st := topS 13) (c.f.def_ 2 rfl) (c.fn 4 rfl).2
  have F_minus : ∃ fd, Fun K "minus" "minus" (topS 14) (ga K "minus") fd := fun_of (st := topS 14) (c.f.def_ 3 rfl) (c.fn 5 rfl).2
  have F__joined : ∃ fd, Fun K "_joined" "_joined" (topS 15) (ga K "_joined") fd := fun_of (st := topS 15) (c.f.def_ 4 rfl) (c.fn 6 rfl).2
  have F_times : ∃ fd, Fun K "times" "times" (topS 16) (ga K "times") fd := fun_of (st := topS 16) (c.f.def_ 5 rfl) (c.fn 7 rfl).2
  have F_over : ∃ fd, Fun K "over" "over" (topS 17) (ga K "over") fd := fun_of (st := topS 17) (c.f.def_ 6 rfl) (c.fn 8 rfl).2
  have F_negative : ∃ fd, Fun K "negative" "negative" (topS 18) (ga K "negative") fd := fun_of (st := topS 18) (c.f.def_ 7 rfl) (c.fn 9 rfl).2
  have F_size_of : ∃ fd, Fun K "size_of" "size_of" (topS 19) (ga K "size_of") fd := fun_of (st := topS 19) (c.f.def_ 8 rfl) (c.fn 10 rfl).2
  have F_compare : ∃ fd, Fun K "compare" "compare" (topS 20) (ga K "compare") fd := fun_of (st := topS 20) (c.f.def_ 9 rfl) (c.fn 11 rfl).2
  have F_sum_of : ∃ fd, Fun K "sum_of" "sum_of" (topS 21) (ga K "sum_of") fd := fun_of (st := topS 21) (c.f.def_ 10 rfl) (c.fn 12 rfl).2
  have F_product_of : ∃ fd, Fun K "product_of" "product_of" (topS 22) (ga K "product_of") fd := fun_of (st := topS 22) (c.f.def_ 11 rfl) (c.fn 13 rfl).2
  have F_least_of : ∃ fd, Fun K "least_of" "least_of" (topS 23) (ga K "least_of") fd := fun_of (st := topS 23) (c.f.def_ 12 rfl) (c.fn 14 rfl).2
  have F_greatest_of : ∃ fd, Fun K "greatest_of" "greatest_of" (topS 24) (ga K "greatest_of") fd := fun_of (st := topS 24) (c.f.def_ 13 rfl) (c.fn 15 rfl).2
  have F_floor_of : ∃ fd, Fun K "floor_of" "floor_of" (topS 25) (ga K "floor_of") fd := fun_of (st := topS 25) (c.f.def_ 14 rfl) (c.fn 16 rfl).2
  have F_power_of : ∃ fd, Fun K "power_of" "power_of" (topS 26) (ga K "power_of") fd := fun_of (st := topS 26) (c.f.def_ 15 rfl) (c.fn 17 rfl).2
  have F_ratio_text : ∃ fd, Fun K "ratio_text" "ratio_text" (topS 27) (ga K "ratio_text") fd := fun_of (st := topS 27) (c.f.def_ 16 rfl) (c.fn 18 rfl).2
  have F_parse_ratio : ∃ fd, Fun K "parse_ratio" "parse_ratio" (topS 28) (ga K "parse_ratio") fd := fun_of (st := topS 28) (c.f.def_ 17 rfl) (c.fn 19 rfl).2
  have F__parse_figures : ∃ fd, Fun K "_parse_figures" "_parse_figures" (topS 29) (ga K "_parse_figures") fd := fun_of (st := topS 29) (c.f.def_ 18 rfl) (c.fn 20 rfl).2
  have F__law_mix : ∃ fd, Fun K "_law_mix" "_law_mix" (topS 31) (ga K "_law_mix") fd := fun_of (st := topS 31) (c.f.def_ 19 rfl) (c.fn 21 rfl).2
  have F__law_hand : ∃ fd, Fun K "_law_hand" "_law_hand" (topS 32) (ga K "_law_hand") fd := fun_of (st := topS 32) (c.f.def_ 20 rfl) (c.fn 22 rfl).2
  have F__law_draw : ∃ fd, Fun K "_law_draw" "_law_draw" (topS 33) (ga K "_law_draw") fd := fun_of (st := topS 33) (c.f.def_ 21 rfl) (c.fn 23 rfl).2
  have F__law_ratio : ∃ fd, Fun K "_law_ratio" "_law_ratio" (topS 34) (ga K "_law_ratio") fd := fun_of (st := topS 34) (c.f.def_ 22 rfl) (c.fn 24 rfl).2
  have F__law_plus : ∃ fd, Fun K "_law_plus" "_law_plus" (topS 35) (ga K "_law_plus") fd := fun_of (st := topS 35) (c.f.def_ 23 rfl) (c.fn 25 rfl).2
  have F__law_times : ∃ fd, Fun K "_law_times" "_law_times" (topS 36) (ga K "_law_times") fd := fun_of (st := topS 36) (c.f.def_ 24 rfl) (c.fn 26 rfl).2
  have F__law_less : ∃ fd, Fun K "_law_less" "_law_less" (topS 37) (ga K "_law_less") fd := fun_of (st := topS 37) (c.f.def_ 25 rfl) (c.fn 27 rfl).2
  have F__law_size : ∃ fd, Fun K "_law_size" "_law_size" (topS 38) (ga K "_law_size") fd := fun_of (st := topS 38) (c.f.def_ 26 rfl) (c.fn 28 rfl).2
  have F__law_whole : ∃ fd, Fun K "_law_whole" "_law_whole" (topS 39) (ga K "_law_whole") fd := fun_of (st := topS 39) (c.f.def_ 27 rfl) (c.fn 29 rfl).2
  have F__law_is_ratio : ∃ fd, Fun K "_law_is_ratio" "_law_is_ratio" (topS 40) (ga K "_law_is_ratio") fd := fun_of (st := topS 40) (c.f.def_ 28 rfl) (c.fn 30 rfl).2
  have F__law_same : ∃ fd, Fun K "_law_same" "_law_same" (topS 41) (ga K "_law_same") fd := fun_of (st := topS 41) (c.f.def_ 29 rfl) (c.fn 31 rfl).2
  have F__law_number : ∃ fd, Fun K "_law_number" "_law_number" (topS 42) (ga K "_law_number") fd := fun_of (st := topS 42) (c.f.def_ 30 rfl) (c.fn 32 rfl).2
  have F__law_refused : ∃ fd, Fun K "_law_refused" "_law_refused" (topS 43) (ga K "_law_refused") fd := fun_of (st := topS 43) (c.f.def_ 31 rfl) (c.fn 33 rfl).2
  have F__law_over_refused : ∃ fd, Fun K "_law_over_refused" "_law_over_refused" (topS 44) (ga K "_law_over_refused") fd := fun_of (st := topS 44) (c.f.def_ 32 rfl) (c.fn 34 rfl).2
  have F__law_two : ∃ fd, Fun K "_law_two" "_law_two" (topS 45) (ga K "_law_two") fd := fun_of (st := topS 45) (c.f.def_ 33 rfl) (c.fn 35 rfl).2
  have F__law_rows : ∃ fd, Fun K "_law_rows" "_law_rows" (topS 46) (ga K "_law_rows") fd := fun_of (st := topS 46) (c.f.def_ 34 rfl) (c.fn 36 rfl).2
  have F__law_words : ∃ fd, Fun K "_law_words" "_law_words" (topS 47) (ga K "_law_words") fd := fun_of (st := topS 47) (c.f.def_ 35 rfl) (c.fn 37 rfl).2
  have F__law_power_holds : ∃ fd, Fun K "_law_power_holds" "_law_power_holds" (topS 48) (ga K "_law_power_holds") fd := fun_of (st := topS 48) (c.f.def_ 36 rfl) (c.fn 38 rfl).2
  have F__law_far : ∃ fd, Fun K "_law_far" "_law_far" (topS 49) (ga K "_law_far") fd := fun_of (st := topS 49) (c.f.def_ 37 rfl) (c.fn 39 rfl).2
  have F_law : ∃ fd, Fun K "law" "law" (topS 50) (ga K "law") fd := fun_of (st := topS 50) (c.f.def_ 38 rfl) (c.fn 40 rfl).2
  have F_is_whole : ∃ fd, FunD K "is_whole" "is_whole" (defArgs (topS 9)) (defBody (topS 9)) (defScope (topS 9)) [.non, .non] [] (ga K "is_whole") fd := c.d.def_ 0 rfl
  have F_make_ratio : ∃ fd, FunD K "make_ratio" "make_ratio" (defArgs (topS 11)) (defBody (topS 11)) (defScope (topS 11)) [.int 1] [] (ga K "make_ratio") fd := c.d.def_ 1 rfl
  obtain ⟨fd, F⟩ := F_law
  have e := hfa.symm.trans (mf 40 rfl)
  cases e
  refine ⟨fd, ?_, fun base _ _ => ?_⟩
  · obtain ⟨oc, od, kV, doc, pm, an, cdv, ct, osl, rfl, lk, hcd⟩ := F.ex
    exact fun s v => BindsTo.of_eq rfl
  · have TC : Cl1 l.prog w K mg base "BadRatio" (ga K "BadRatio") "what" := ⟨oex_ok cO, xfB_ok cX, gB, of_decide_eq_true cN, of_decide_eq_true cT, _, _, eqO_ok cI, of_decide_eq_true cY, ok_i_BadRatio FI (oex_ok cO) (of_decide_eq_true cN), FI.binds fun _ _ _ _ _ _ us hl => match us, hl with | [_, _], _ => rfl⟩
    obtain ⟨fd_is_ratio, F_is_ratio⟩ := F_is_ratio
    obtain ⟨fd__lowest, F__lowest⟩ := F__lowest
    obtain ⟨fd_plus, F_plus⟩ := F_plus
    obtain ⟨fd_minus, F_minus⟩ := F_minus
    obtain ⟨fd__joined, F__joined⟩ := F__joined
    obtain ⟨fd_times, F_times⟩ := F_times
    obtain ⟨fd_over, F_over⟩ := F_over
    obtain ⟨fd_negative, F_negative⟩ := F_negative
    obtain ⟨fd_size_of, F_size_of⟩ := F_size_of
    obtain ⟨fd_compare, F_compare⟩ := F_compare
    obtain ⟨fd_sum_of, F_sum_of⟩ := F_sum_of
    obtain ⟨fd_product_of, F_product_of⟩ := F_product_of
    obtain ⟨fd_least_of, F_least_of⟩ := F_least_of
    obtain ⟨fd_greatest_of, F_greatest_of⟩ := F_greatest_of
    obtain ⟨fd_floor_of, F_floor_of⟩ := F_floor_of
    obtain ⟨fd_power_of, F_power_of⟩ := F_power_of
    obtain ⟨fd_ratio_text, F_ratio_text⟩ := F_ratio_text
    obtain ⟨fd_parse_ratio, F_parse_ratio⟩ := F_parse_ratio
    obtain ⟨fd__parse_figures, F__parse_figures⟩ := F__parse_figures
    obtain ⟨fd__law_mix, F__law_mix⟩ := F__law_mix
    obtain ⟨fd__law_hand, F__law_hand⟩ := F__law_hand
    obtain ⟨fd__law_draw, F__law_draw⟩ := F__law_draw
    obtain ⟨fd__law_ratio, F__law_ratio⟩ := F__law_ratio
    obtain ⟨fd__law_plus, F__law_plus⟩ := F__law_plus
    obtain ⟨fd__law_times, F__law_times⟩ := F__law_times
    obtain ⟨fd__law_less, F__law_less⟩ := F__law_less
    obtain ⟨fd__law_size, F__law_size⟩ := F__law_size
    obtain ⟨fd__law_whole, F__law_whole⟩ := F__law_whole
    obtain ⟨fd__law_is_ratio, F__law_is_ratio⟩ := F__law_is_ratio
    obtain ⟨fd__law_same, F__law_same⟩ := F__law_same
    obtain ⟨fd__law_number, F__law_number⟩ := F__law_number
    obtain ⟨fd__law_refused, F__law_refused⟩ := F__law_refused
    obtain ⟨fd__law_over_refused, F__law_over_refused⟩ := F__law_over_refused
    obtain ⟨fd__law_two, F__law_two⟩ := F__law_two
    obtain ⟨fd__law_rows, F__law_rows⟩ := F__law_rows
    obtain ⟨fd__law_words, F__law_words⟩ := F__law_words
    obtain ⟨fd__law_power_holds, F__law_power_holds⟩ := F__law_power_holds
    obtain ⟨fd__law_far, F__law_far⟩ := F__law_far
    obtain ⟨fd_is_whole, F_is_whole⟩ := F_is_whole
    obtain ⟨fd_make_ratio, F_make_ratio⟩ := F_make_ratio
    have W1 := dw1 (P := l.prog) (w := w) (base := base) F_is_whole T (mf 0 rfl)
    have W2 := dw2 (P := l.prog) (w := w) (base := base) F_is_whole T (mf 0 rfl)
    have W3 := dw3 (P := l.prog) (w := w) (base := base) F_is_whole T (mf 0 rfl)
    have D_is_ratio := def_of (P := l.prog) (w := w) (base := base) (ps := ["thing"]) F_is_ratio (ok_is_ratio (P := l.prog) (w := w) (base := base) F_is_ratio T W1 W2) (mf 1 rfl) fun _ _ _ _ _ _ us hl => match us, hl with | [_], _ => rfl
    have D__lowest := def_of (P := l.prog) (w := w) (base := base) (ps := ["top", "bottom"]) F__lowest (ok_lowest (P := l.prog) (w := w) (base := base) F__lowest T) (mf 3 rfl) fun _ _ _ _ _ _ us hl => match us, hl with | [_, _], _ => rfl
    have D__joined := def_of (P := l.prog) (w := w) (base := base) (ps := ["one", "top", "bottom"]) F__joined (ok_joined (P := l.prog) (w := w) (base := base) F__joined T) (mf 6 rfl) fun _ _ _ _ _ _ us hl => match us, hl with | [_, _, _], _ => rfl
    have D_plus := def_of (P := l.prog) (w := w) (base := base) (ps := ["one", "other"]) F_plus (ok_plus (P := l.prog) (w := w) (base := base) F_plus T D__joined) (mf 4 rfl) fun _ _ _ _ _ _ us hl => match us, hl with | [_, _], _ => rfl
    have D_minus := def_of (P := l.prog) (w := w) (base := base) (ps := ["one", "other"]) F_minus (ok_minus (P := l.prog) (w := w) (base := base) F_minus T D__joined) (mf 5 rfl) fun _ _ _ _ _ _ us hl => match us, hl with | [_, _], _ => rfl
    have D_times := def_of (P := l.prog) (w := w) (base := base) (ps := ["one", "other"]) F_times (ok_times (P := l.prog) (w := w) (base := base) F_times T) (mf 7 rfl) fun _ _ _ _ _ _ us hl => match us, hl with | [_, _], _ => rfl
    have D_negative := def_of (P := l.prog) (w := w) (base := base) (ps := ["one"]) F_negative (ok_negative (P := l.prog) (w := w) (base := base) F_negative T) (mf 9 rfl) fun _ _ _ _ _ _ us hl => match us, hl with | [_], _ => rfl
    have D_size_of := def_of (P := l.prog) (w := w) (base := base) (ps := ["one"]) F_size_of (ok_size_of (P := l.prog) (w := w) (base := base) F_size_of T) (mf 10 rfl) fun _ _ _ _ _ _ us hl => match us, hl with | [_], _ => rfl
    have D_compare := def_of (P := l.prog) (w := w) (base := base) (ps := ["one", "other"]) F_compare (ok_compare (P := l.prog) (w := w) (base := base) F_compare T) (mf 11 rfl) fun _ _ _ _ _ _ us hl => match us, hl with | [_, _], _ => rfl
    have D_sum_of := def_of (P := l.prog) (w := w) (base := base) (ps := ["ratios"]) F_sum_of (ok_sum_of (P := l.prog) (w := w) (base := base) F_sum_of gZ hZ D_plus) (mf 12 rfl) fun _ _ _ _ _ _ us hl => match us, hl with | [_], _ => rfl
    have D_product_of := def_of (P := l.prog) (w := w) (base := base) (ps := ["ratios"]) F_product_of (ok_product_of (P := l.prog) (w := w) (base := base) F_product_of gO hO D_times) (mf 13 rfl) fun _ _ _ _ _ _ us hl => match us, hl with | [_], _ => rfl
    have D_least_of := def_of (P := l.prog) (w := w) (base := base) (ps := ["ratios"]) F_least_of (ok_least_of (P := l.prog) (w := w) (base := base) F_least_of D_compare) (mf 14 rfl) fun _ _ _ _ _ _ us hl => match us, hl with | [_], _ => rfl
    have D_greatest_of := def_of (P := l.prog) (w := w) (base := base) (ps := ["ratios"]) F_greatest_of (ok_greatest_of (P := l.prog) (w := w) (base := base) F_greatest_of D_compare) (mf 15 rfl) fun _ _ _ _ _ _ us hl => match us, hl with | [_], _ => rfl
    have D_floor_of := def_of (P := l.prog) (w := w) (base := base) (ps := ["one"]) F_floor_of (ok_floor_of (P := l.prog) (w := w) (base := base) F_floor_of T) (mf 16 rfl) fun _ _ _ _ _ _ us hl => match us, hl with | [_], _ => rfl
    have D_power_of := def_of (P := l.prog) (w := w) (base := base) (ps := ["one", "exponent"]) F_power_of (ok_power_of (P := l.prog) (w := w) (base := base) F_power_of T) (mf 17 rfl) fun _ _ _ _ _ _ us hl => match us, hl with | [_, _], _ => rfl
    have D_ratio_text := def_of (P := l.prog) (w := w) (base := base) (ps := ["one"]) F_ratio_text (ok_ratio_text (P := l.prog) (w := w) (base := base) F_ratio_text T) (mf 18 rfl) fun _ _ _ _ _ _ us hl => match us, hl with | [_], _ => rfl
    have D__parse_figures := def_of (P := l.prog) (w := w) (base := base) (ps := ["word"]) F__parse_figures (ok_parse_figures (P := l.prog) (w := w) (base := base) F__parse_figures T) (mf 20 rfl) fun _ _ _ _ _ _ us hl => match us, hl with | [_], _ => rfl
    have D_parse_ratio := def_of (P := l.prog) (w := w) (base := base) (ps := ["text"]) F_parse_ratio (ok_parse_ratio (P := l.prog) (w := w) (base := base) F_parse_ratio T gL D__parse_figures D__lowest D_ratio_text) (mf 19 rfl) fun _ _ _ _ _ _ us hl => match us, hl with | [_], _ => rfl
    have D__law_mix := def_of (P := l.prog) (w := w) (base := base) (ps := ["number", "turn"]) F__law_mix (ok_mix (P := l.prog) (w := w) (base := base) F__law_mix T) (mf 21 rfl) fun _ _ _ _ _ _ us hl => match us, hl with | [_, _], _ => rfl
    have D__law_hand := def_of (P := l.prog) (w := w) (base := base) (ps := ["script"]) F__law_hand (ok_hand (P := l.prog) (w := w) (base := base) F__law_hand T) (mf 22 rfl) fun _ _ _ _ _ _ us hl => match us, hl with | [_], _ => rfl
    have D__law_draw := def_of (P := l.prog) (w := w) (base := base) (ps := ["hand", "many"]) F__law_draw (ok_draw (P := l.prog) (w := w) (base := base) F__law_draw T D__law_mix) (mf 23 rfl) fun _ _ _ _ _ _ us hl => match us, hl with | [_, _], _ => rfl
    have D__law_ratio := def_of (P := l.prog) (w := w) (base := base) (ps := ["top", "bottom"]) F__law_ratio (ok_Lratio (P := l.prog) (w := w) (base := base) F__law_ratio T) (mf 24 rfl) fun _ _ _ _ _ _ us hl => match us, hl with | [_, _], _ => rfl
    have D__law_plus := def_of (P := l.prog) (w := w) (base := base) (ps := ["a", "b"]) F__law_plus (ok_L_plus (P := l.prog) (w := w) (base := base) F__law_plus T D__law_ratio) (mf 25 rfl) fun _ _ _ _ _ _ us hl => match us, hl with | [_, _], _ => rfl
    have D__law_times := def_of (P := l.prog) (w := w) (base := base) (ps := ["a", "b"]) F__law_times (ok_L_times (P := l.prog) (w := w) (base := base) F__law_times T D__law_ratio) (mf 26 rfl) fun _ _ _ _ _ _ us hl => match us, hl with | [_, _], _ => rfl
    have D__law_less := def_of (P := l.prog) (w := w) (base := base) (ps := ["a", "b"]) F__law_less (ok_L_less (P := l.prog) (w := w) (base := base) F__law_less T) (mf 27 rfl) fun _ _ _ _ _ _ us hl => match us, hl with | [_, _], _ => rfl
    have D__law_size := def_of (P := l.prog) (w := w) (base := base) (ps := ["a"]) F__law_size (ok_L_size (P := l.prog) (w := w) (base := base) F__law_size T) (mf 28 rfl) fun _ _ _ _ _ _ us hl => match us, hl with | [_], _ => rfl
    have D__law_whole := def_of (P := l.prog) (w := w) (base := base) (ps := ["thing"]) F__law_whole (ok_L_whole (P := l.prog) (w := w) (base := base) F__law_whole T) (mf 29 rfl) fun _ _ _ _ _ _ us hl => match us, hl with | [_], _ => rfl
    have D__law_is_ratio := def_of (P := l.prog) (w := w) (base := base) (ps := ["thing"]) F__law_is_ratio (ok_L_is_ratio (P := l.prog) (w := w) (base := base) F__law_is_ratio T D__law_whole D__law_ratio) (mf 30 rfl) fun _ _ _ _ _ _ us hl => match us, hl with | [_], _ => rfl
    have D__law_same := def_L_same (P := l.prog) (w := w) (base := base) F__law_same T (mf 31 rfl) F__law_same.kp (F__law_same.binds (ps := ["told", "due"]) fun _ _ _ _ _ _ us hl => match us, hl with | [_, _], _ => rfl) 2
    have D__law_same3 := def_L_same (P := l.prog) (w := w) (base := base) F__law_same T (mf 31 rfl) F__law_same.kp (F__law_same.binds (ps := ["told", "due"]) fun _ _ _ _ _ _ us hl => match us, hl with | [_, _], _ => rfl) 3
    have D__law_number := def_of (P := l.prog) (w := w) (base := base) (ps := ["hand"]) F__law_number (ok_L_number (P := l.prog) (w := w) (base := base) F__law_number D__law_draw) (mf 32 rfl) fun _ _ _ _ _ _ us hl => match us, hl with | [_], _ => rfl
    have OKM := ok_make_ratio (P := l.prog) (w := w) (base := base) F_make_ratio T TC W1 D__lowest
    have D_make1 : DefV l.prog w K mg base (L2.CX l.prog w) 3 "make_ratio" ["top", "bottom"] [.int 1] (spMakeR K (ga K "BadRatio")) := defV (dvs := [.int 1]) F_make_ratio OKM (mf 2 rfl) 1 0 (by decide) rfl fun _ _ _ _ _ _ _ us its hl hi => match us, its, hl, hi with | [_], [_], _, _ => ⟨_, rfl, rfl⟩
    have D_make2 : DefV l.prog w K mg base (L2.CX l.prog w) 3 "make_ratio" ["top", "bottom"] [] (spMakeR K (ga K "BadRatio")) := defV (dvs := [.int 1]) F_make_ratio OKM (mf 2 rfl) 2 1 (by decide) rfl fun _ _ _ _ _ _ _ us its hl hi => match us, its, hl, hi with | [_, _], [_], _, _ => ⟨_, rfl, rfl⟩
    obtain ⟨kits, kb⟩ := FunD.kbindsD F_make_ratio (ps := ["top", "bottom"]) 0 ["bottom", "top"] (fun _ _ ws => ws.reverse) (by decide) (fun _ _ r => r.reverse) fun _ _ _ _ _ _ _ us its ws hl hi hw => match us, its, ws, hl, hi, hw with | [], [_], [_, _], _, _, _ => ⟨_, rfl, rfl⟩
    have D_makeK : DefK l.prog w K mg base (L2.CX l.prog w) 3 "make_ratio" ["top", "bottom"] ["bottom", "top"] (fun vs zs => zs.reverse) (spMakeR K (ga K "BadRatio")) := ⟨_, fd_make_ratio, _, OKM, mf 2 rfl, F_make_ratio.kp, kb⟩
    have D_over := def_of (P := l.prog) (w := w) (base := base) (CX := L2.CX l.prog w) (ps := ["one", "other"]) F_over (ok_over (P := l.prog) (w := w) (base := base) F_over T TC D__lowest) (mf 8 rfl) fun _ _ _ _ _ _ us hl => match us, hl with | [_, _], _ => rfl
    have D_overV : DefV l.prog w K mg base (L2.CX l.prog w) 3 "over" ["one", "other"] [] (spOver K (ga K "BadRatio")) := by
      obtain ⟨f, fd, F1, hm, hk, hb⟩ := D_over.ex
      exact ⟨f, fd, [], F1, hm, hk, hb, .nil⟩
    have D__law_refused := def_of (P := l.prog) (w := w) (base := base) (ps := ["top", "bottom"]) F__law_refused (ok_L_refused (P := l.prog) (w := w) (base := base) F__law_refused T TC D_make2) (mf 33 rfl) fun _ _ _ _ _ _ us hl => match us, hl with | [_, _], _ => rfl
    have D__law_over_refused := def_of (P := l.prog) (w := w) (base := base) (ps := ["one"]) F__law_over_refused (ok_L_over_refused (P := l.prog) (w := w) (base := base) F__law_over_refused T TC D_overV) (mf 34 rfl) fun _ _ _ _ _ _ us hl => match us, hl with | [_], _ => rfl
    have D__law_two := def_of (P := l.prog) (w := w) (base := base) (ps := ["a", "b"]) F__law_two (ok_L_two (P := l.prog) (w := w) (base := base) F__law_two T D__law_same D_plus D__law_plus D_times D__law_times D_minus D_negative D_compare D__law_less D_size_of D__law_size D_overV D__law_ratio D_floor_of D__law_whole) (mf 35 rfl) fun _ _ _ _ _ _ us hl => match us, hl with | [_, _], _ => rfl
    have D__law_rows := def_of (P := l.prog) (w := w) (base := base) (ps := ["row", "exponent"]) F__law_rows (ok_L_rows (P := l.prog) (w := w) (base := base) F__law_rows T D__law_same D__law_plus D__law_times D_sum_of D_product_of D_least_of D_greatest_of D__law_is_ratio D__law_less D_power_of) (mf 36 rfl) fun _ _ _ _ _ _ us hl => match us, hl with | [_, _], _ => rfl
    have D__law_words := def_of (P := l.prog) (w := w) (base := base) (ps := ["a", "hand"]) F__law_words (ok_L_words (P := l.prog) (w := w) (base := base) F__law_words T D__law_same D_ratio_text D_parse_ratio D__law_draw) (mf 37 rfl) fun _ _ _ _ _ _ us hl => match us, hl with | [_, _], _ => rfl
    have D__law_power_holds := def_of (P := l.prog) (w := w) (base := base) (ps := ["one", "exponent"]) F__law_power_holds (ok_L_power_holds (P := l.prog) (w := w) (base := base) F__law_power_holds T D__law_same D_power_of) (mf 38 rfl) fun _ _ _ _ _ _ us hl => match us, hl with | [_, _], _ => rfl
    have D__law_far := def_of (P := l.prog) (w := w) (base := base) (ps := ["hand"]) F__law_far (ok_L_far (P := l.prog) (w := w) (base := base) F__law_far T hrev D__law_same D__law_ratio D_parse_ratio D__law_draw D__law_power_holds D__law_rows) (mf 39 rfl) fun _ _ _ _ _ _ us hl => match us, hl with | [_], _ => rfl
    exact ok_law F T gZ hZ gO hO gH hH D__law_hand D__law_draw D__law_number D__law_ratio D__law_same D__law_same3 D_make2 D_make1 D_makeK D_is_ratio D__law_is_ratio D__law_two D__law_rows D_sum_of D_product_of D__law_words W1 W2 W3 D__law_refused D__law_over_refused D__law_far
end HH
open PySem PySem.W PySem.Calls PyProof.Rows
theorem PySem.Challenge.cw_farheld_k01_whole_ratios_reckoned_holds : PySem.Challenge.rw_farheld_k01_whole_ratios_reckoned.Holds := by
  w_on; o_law
  refine HandSHeadRun.head_imp (r := OpenLaw.row PySem.Challenge.rw_farheld_k01_whole_ratios_reckoned) (q := view (OpenLaw.row PySem.Challenge.rw_farheld_k01_whole_ratios_reckoned).prog [0, 50]) (H := HH.hk) (ob := HH.ob) (M := 20000) (loose := HR.names) (d := HandSHeadRun.topDef (OpenLaw.row PySem.Challenge.rw_farheld_k01_whole_ratios_reckoned).prog 50) (kwd := []) HH.ob_eq
    HR.run (by kernel_rfl) (by kernel_rfl) (by kernel_rfl) (by rfl) (by first | assumption | decide +kernel) (by decide +kernel) ⟨rfl, rfl, rfl, rfl, rfl, by decide +kernel⟩ ?hw ?hc
  case hw => w_witness2
  case hc =>
    refine L2.walk_ofE (l := PySem.Challenge.rw_farheld_k01_whole_ratios_reckoned) (n := 63) (k := 6) (x := "script") (CX := L2.CX0) rfl (by decide) (by kernel_rfl) ⟨rfl, by decide, by decide⟩ ?F (fun _ _ _ _ z => z)
    intro w mg fa h Y G hmg0
    obtain ⟨K, KX, c⟩ := Y
    have hmg : mg ("law" : PySem.Str) = some (.ref fa) := by
      have e : (HandSHeadRun.topDef (OpenLaw.row PySem.Challenge.rw_farheld_k01_whole_ratios_reckoned).prog 50).name = ("law" : PySem.Str) := by kernel_rfl
      rw [← e]
      exact hmg0
    obtain ⟨fd, hb, hF⟩ := HH.facts (l := PySem.Challenge.rw_farheld_k01_whole_ratios_reckoned) (w := w) KX G hmg c
    exact ⟨K, fd, K01.spLaw K, KX, hb, fun H a ns hl _ hS => ⟨a, ns, rfl, hS, hl, fun _ => rfl⟩, hF⟩
