/-
  What Of tells: the digest of a text.
-/
import Derived.Test.YtecamiefpdkjoaaDoorDgSteps
namespace Go.Proofs.YtecamiefpdkjoaaDoor.Dg
open Go.RowKit
set_option maxRecDepth 20000

/-- The two runs over a text's blocks: what is whole, and the rest with what stands behind. -/
theorem of_parts (s : ByteArray) (p : Nat) (hp : s.size / 64 = p) (r : ByteArray) (hr : L r = ((L s).drop (64 * p)) ++ padL s.size) (q : Nat) (hq : r.size = 64 * q) :
    bytesL (stepsK roundsN (stepsK roundsN firstN (L (s.extract 0 (64 * p))) p) (L r) q).list = ofL (L s) := by
  have hl := L_size s
  have h1 : L (s.extract 0 (64 * p)) = (L s).take (64 * p) := by rw [L_extract, List.drop_zero]
  have h2 : (L s).take (64 * p) ++ L r = L s ++ padL s.size := by rw [hr, ← List.append_assoc, List.take_append_drop]
  have h3 : ((L s).take (64 * p)).length = 64 * p := by rw [List.length_take]; omega
  have h4 : r.size = s.size - 64 * p + padS s.size := by rw [← L_size, hr, List.length_append, List.length_drop, padL_length, hl]
  unfold ofL ofK
  rw [h1, ← stepsK_add roundsN firstN _ _ p q h3, h2, hl, show (s.size + padS s.size) / 64 = p + q by omega]

theorem Row.setW {w : World} {g : Nat} {t : TypeId} {l : List Nat} (R : Row w g (cw l) t) (i x : Nat) : Row (w.setCell ⟨g, i, none⟩ (.int .u32 (x : Int))) g (cw (l.set i x)) t := by
  have h := R.setCell i (.int .u32 (x : Int))
  rw [cw_set] at h
  exact h
theorem row_set8 {w1 : World} {g : Nat} (R : Row w1 g (cw [0, 0, 0, 0, 0, 0, 0, 0]) 62) (v : W8) : Row ((((((((((((((((w1).setCell ⟨g, 0, none⟩ (.int .u32 (v.a : Int)))).setCell ⟨g, 1, none⟩ (.int .u32 (v.b : Int)))).setCell ⟨g, 2, none⟩ (.int .u32 (v.c : Int)))).setCell ⟨g, 3, none⟩ (.int .u32 (v.d : Int)))).setCell ⟨g, 4, none⟩ (.int .u32 (v.e : Int)))).setCell ⟨g, 5, none⟩ (.int .u32 (v.f : Int)))).setCell ⟨g, 6, none⟩ (.int .u32 (v.g : Int)))).setCell ⟨g, 7, none⟩ (.int .u32 (v.h : Int))) g (cw v.list) 62 := by
  have h := (((((((R.setW 0 v.a).setW 1 v.b).setW 2 v.c).setW 3 v.d).setW 4 v.e).setW 5 v.f).setW 6 v.g).setW 7 v.h
  simp only [List.set_cons_zero, List.set_cons_succ] at h
  exact h
theorem kept_set8 {w w1 : World} {g : Nat} (k : Kept w w1) (h : w.heap.size ≤ g) (v : W8) : Kept w ((((((((((((((((w1).setCell ⟨g, 0, none⟩ (.int .u32 (v.a : Int)))).setCell ⟨g, 1, none⟩ (.int .u32 (v.b : Int)))).setCell ⟨g, 2, none⟩ (.int .u32 (v.c : Int)))).setCell ⟨g, 3, none⟩ (.int .u32 (v.d : Int)))).setCell ⟨g, 4, none⟩ (.int .u32 (v.e : Int)))).setCell ⟨g, 5, none⟩ (.int .u32 (v.f : Int)))).setCell ⟨g, 6, none⟩ (.int .u32 (v.g : Int)))).setCell ⟨g, 7, none⟩ (.int .u32 (v.h : Int))) :=
  (((((((k.setCell h _).setCell h _).setCell h _).setCell h _).setCell h _).setCell h _).setCell h _).setCell h _

set_option maxHeartbeats 1000000 in
theorem of_any (s : ByteArray) (hs : s.size ≤ 4000) (w : World) (hT : Tab w) :
    Calls Tryd.prog 18 #[.string s] w fun e w' => e = .returned (.string (bs (ofL (L s)))) ∧ Kept w w' := by
  obtain ⟨p, hp⟩ : ∃ p, s.size / 64 = p := ⟨_, rfl⟩
  obtain ⟨x, hx⟩ : ∃ x, 64 * p = x := ⟨_, rfl⟩
  have hxI : (s.size : Int) - (s.size : Int) % 64 = (x : Int) := by omega
  have hx1 : x ≤ s.size := by omega
  go_enter Tryd.func18, Tryd.ntmps18
  have hcall := steps_any firstN (s.extract 0 x) p (by rw [← L_size, L_extract, List.drop_zero, List.length_take, L_size]; omega) (by omega)
  obtain ⟨v, hv⟩ : ∃ v, stepsK roundsN firstN (L (s.extract 0 x)) p = v := ⟨_, rfl⟩
  rw [hv] at hcall
  have hcall2 : ∀ w : World, Tab w → Calls Tryd.prog 34 #[.agg #[.int .u32 1779033703, .int .u32 3144134277, .int .u32 1013904242, .int .u32 2773480762, .int .u32 1359893119, .int .u32 2600822924, .int .u32 528734635, .int .u32 1541459225], .string (s.extract 0 x)] w fun e w' => e = .returned (.agg #[.int .u32 (v.a : Int), .int .u32 (v.b : Int), .int .u32 (v.c : Int), .int .u32 (v.d : Int), .int .u32 (v.e : Int), .int .u32 (v.f : Int), .int .u32 (v.g : Int), .int .u32 (v.h : Int)]) ∧ Kept w w' := hcall
  have c0 : w.cell? ⟨0, 0, none⟩ = some (.int .u32 1779033703) := hT.1.cell 0
  have c1 : w.cell? ⟨0, 1, none⟩ = some (.int .u32 3144134277) := hT.1.cell 1
  have c2 : w.cell? ⟨0, 2, none⟩ = some (.int .u32 1013904242) := hT.1.cell 2
  have c3 : w.cell? ⟨0, 3, none⟩ = some (.int .u32 2773480762) := hT.1.cell 3
  have c4 : w.cell? ⟨0, 4, none⟩ = some (.int .u32 1359893119) := hT.1.cell 4
  have c5 : w.cell? ⟨0, 5, none⟩ = some (.int .u32 2600822924) := hT.1.cell 5
  have c6 : w.cell? ⟨0, 6, none⟩ = some (.int .u32 528734635) := hT.1.cell 6
  have c7 : w.cell? ⟨0, 7, none⟩ = some (.int .u32 1541459225) := hT.1.cell 7
  have hw0 : 0 < w.heap.size := hT.1.lt
  have hz0 : w.heap.size ≠ 0 := by omega
  have hz1 : 0 ≠ w.heap.size := by omega
  obtain ⟨r, hr⟩ : ∃ r, s.extract x s.size ++ bs (padL s.size) = r := ⟨_, rfl⟩
  have hrL : L r = (L s).drop (64 * p) ++ padL s.size := by
    rw [← hr, L_append, L_extract, L_bs, hx, List.take_of_length_le (by rw [L_size]; omega)]
  have hrs : r.size = s.size - x + padS s.size := by rw [← L_size, hrL, List.length_append, List.length_drop, padL_length, L_size, hx]
  obtain ⟨q, hq⟩ : ∃ q, r.size / 64 = q := ⟨_, rfl⟩
  have hrq : r.size = 64 * q := by have := padS_mod s.size; omega
  have hr72 := padS_le s.size
  obtain ⟨u, hu⟩ : ∃ u, stepsK roundsN v (L r) q = u := ⟨_, rfl⟩
  have hst : ∀ w : World, Tab w → Calls Tryd.prog 34 #[.agg #[.int .u32 (v.a : Int), .int .u32 (v.b : Int), .int .u32 (v.c : Int), .int .u32 (v.d : Int), .int .u32 (v.e : Int), .int .u32 (v.f : Int), .int .u32 (v.g : Int), .int .u32 (v.h : Int)], .string r] w fun e w' => e = .returned (.agg #[.int .u32 (u.a : Int), .int .u32 (u.b : Int), .int .u32 (u.c : Int), .int .u32 (u.d : Int), .int .u32 (u.e : Int), .int .u32 (u.f : Int), .int .u32 (u.g : Int), .int .u32 (u.h : Int)]) ∧ Kept w w' := by
    have h := steps_any v r q hrq (by omega)
    rw [hu] at h
    exact h
  have hub : ∀ j, u.list.getD j 0 < 4294967296 := by
    rw [← hu, ← hv]
    exact stepsK_bound _ _ (stepsK_bound _ _ first_bound _ _) _ _
  have HO : Hid (bytesL u.list = ofL (L s)) := by
    show _ = _
    rw [← of_parts s p hp r hrL q hrq, ← hu, ← hv, hx]
  have hout : ∀ w : World, Calls Tryd.prog 35 #[.agg #[.int .u32 (u.a : Int), .int .u32 (u.b : Int), .int .u32 (u.c : Int), .int .u32 (u.d : Int), .int .u32 (u.e : Int), .int .u32 (u.f : Int), .int .u32 (u.g : Int), .int .u32 (u.h : Int)]] w fun e w' => e = .returned (.string (bs (bytesL u.list))) ∧ Kept w w' := bytesOf_any u hub
  rw [HO.out] at hout
  have hpad := pad_any s.size (by omega)
  have hpb : (bs (padL s.size)).size ≤ 72 := by rw [bs_size, padL_length]; exact padS_le _
  clear hcall hx hp hrL hrs hq hrq hr72 hu hv hub HO
  go_wp2_with fail
  go_region_held3 (fun w' => w'.cell? ⟨0, 0, none⟩ = some (.int .u32 1779033703) ∧ w'.cell? ⟨0, 1, none⟩ = some (.int .u32 3144134277) ∧ w'.cell? ⟨0, 2, none⟩ = some (.int .u32 1013904242) ∧ w'.cell? ⟨0, 3, none⟩ = some (.int .u32 2773480762) ∧ w'.cell? ⟨0, 4, none⟩ = some (.int .u32 1359893119) ∧ w'.cell? ⟨0, 5, none⟩ = some (.int .u32 2600822924) ∧ w'.cell? ⟨0, 6, none⟩ = some (.int .u32 528734635) ∧ w'.cell? ⟨0, 7, none⟩ = some (.int .u32 1541459225))
    (go_keep)
    ((go_at_call 34; refine (hcall2 _ (by first | exact hT.kept (Kept.drew _) | exact hT.kept ((Kept.drew _).allocR _))).mono ?_; rintro _ w1 ⟨rfl, k1⟩; have T1 : Tab w1 := (by first | exact (hT.kept (Kept.drew _)).kept k1 | exact (hT.kept ((Kept.drew _).allocR _)).kept k1); have m0 : w1.cell? ⟨0, 0, none⟩ = some (.int .u32 1779033703) := T1.1.cell 0; have m1 : w1.cell? ⟨0, 1, none⟩ = some (.int .u32 3144134277) := T1.1.cell 1; have m2 : w1.cell? ⟨0, 2, none⟩ = some (.int .u32 1013904242) := T1.1.cell 2; have m3 : w1.cell? ⟨0, 3, none⟩ = some (.int .u32 2773480762) := T1.1.cell 3; have m4 : w1.cell? ⟨0, 4, none⟩ = some (.int .u32 1359893119) := T1.1.cell 4; have m5 : w1.cell? ⟨0, 5, none⟩ = some (.int .u32 2600822924) := T1.1.cell 5; have m6 : w1.cell? ⟨0, 6, none⟩ = some (.int .u32 528734635) := T1.1.cell 6; have m7 : w1.cell? ⟨0, 7, none⟩ = some (.int .u32 1541459225) := T1.1.cell 7; first | (have R1 : Row w1 w.heap.size (cw [0, 0, 0, 0, 0, 0, 0, 0]) 62 := Row.kept (Row.new8 w.drew 62) k1; have z0 : w1.cell? ⟨w.heap.size, 0, none⟩ = some (.int .u32 0) := R1.cell 0; have y0 : w1.frozen? ⟨w.heap.size, 0, none⟩ = false := R1.frozen 0; have z1 : w1.cell? ⟨w.heap.size, 1, none⟩ = some (.int .u32 0) := R1.cell 1; have y1 : w1.frozen? ⟨w.heap.size, 1, none⟩ = false := R1.frozen 1; have z2 : w1.cell? ⟨w.heap.size, 2, none⟩ = some (.int .u32 0) := R1.cell 2; have y2 : w1.frozen? ⟨w.heap.size, 2, none⟩ = false := R1.frozen 2; have z3 : w1.cell? ⟨w.heap.size, 3, none⟩ = some (.int .u32 0) := R1.cell 3; have y3 : w1.frozen? ⟨w.heap.size, 3, none⟩ = false := R1.frozen 3; have z4 : w1.cell? ⟨w.heap.size, 4, none⟩ = some (.int .u32 0) := R1.cell 4; have y4 : w1.frozen? ⟨w.heap.size, 4, none⟩ = false := R1.frozen 4; have z5 : w1.cell? ⟨w.heap.size, 5, none⟩ = some (.int .u32 0) := R1.cell 5; have y5 : w1.frozen? ⟨w.heap.size, 5, none⟩ = false := R1.frozen 5; have z6 : w1.cell? ⟨w.heap.size, 6, none⟩ = some (.int .u32 0) := R1.cell 6; have y6 : w1.frozen? ⟨w.heap.size, 6, none⟩ = false := R1.frozen 6; have z7 : w1.cell? ⟨w.heap.size, 7, none⟩ = some (.int .u32 0) := R1.cell 7; have y7 : w1.frozen? ⟨w.heap.size, 7, none⟩ = false := R1.frozen 7) | skip))
  all_goals first
    | (have R4 := Row.new w1 #[.int .u32 (v.a : Int), .int .u32 (v.b : Int), .int .u32 (v.c : Int), .int .u32 (v.d : Int), .int .u32 (v.e : Int), .int .u32 (v.f : Int), .int .u32 (v.g : Int), .int .u32 (v.h : Int)] 62
       have K4 : Kept w (w1.alloc (.cells #[.int .u32 (v.a : Int), .int .u32 (v.b : Int), .int .u32 (v.c : Int), .int .u32 (v.d : Int), .int .u32 (v.e : Int), .int .u32 (v.f : Int), .int .u32 (v.g : Int), .int .u32 (v.h : Int)] 62)) := ((Kept.drew w).trans k1).allocR _
       generalize w1.alloc (.cells #[.int .u32 (v.a : Int), .int .u32 (v.b : Int), .int .u32 (v.c : Int), .int .u32 (v.d : Int), .int .u32 (v.e : Int), .int .u32 (v.f : Int), .int .u32 (v.g : Int), .int .u32 (v.h : Int)] 62) = W at R4 K4 ⊢
       generalize w1.heap.size = G at R4 ⊢)
    | (have R4 := row_set8 R1 v
       have K4 := kept_set8 (((Kept.drew w).allocR _).trans k1) (Nat.le_refl _) v
       generalize ((((((((((((((((w1).setCell ⟨w.heap.size, 0, none⟩ (.int .u32 (v.a : Int)))).setCell ⟨w.heap.size, 1, none⟩ (.int .u32 (v.b : Int)))).setCell ⟨w.heap.size, 2, none⟩ (.int .u32 (v.c : Int)))).setCell ⟨w.heap.size, 3, none⟩ (.int .u32 (v.d : Int)))).setCell ⟨w.heap.size, 4, none⟩ (.int .u32 (v.e : Int)))).setCell ⟨w.heap.size, 5, none⟩ (.int .u32 (v.f : Int)))).setCell ⟨w.heap.size, 6, none⟩ (.int .u32 (v.g : Int)))).setCell ⟨w.heap.size, 7, none⟩ (.int .u32 (v.h : Int))) = W at R4 K4 ⊢
       generalize w.heap.size = G at R4 ⊢)
  all_goals
    clear k1 hcall2
    have hT4 := hT.kept K4
    have hne : Nonempty (KeptW W) := ⟨⟨W, Kept.refl W⟩⟩
    have hx2 : decide ((s.size : Int) < (x : Int)) = false := decide_eq_false (by omega)
    have hx3 : decide (s.size < x) = false := decide_eq_false (by omega)
    have d0 : ∀ p : KeptW W, p.v.cell? ⟨G, 0, none⟩ = some (.int .u32 (v.a : Int)) := fun p => (p.h.cell R4.lt).trans (R4.cell 0)
    have d1 : ∀ p : KeptW W, p.v.cell? ⟨G, 1, none⟩ = some (.int .u32 (v.b : Int)) := fun p => (p.h.cell R4.lt).trans (R4.cell 1)
    have d2 : ∀ p : KeptW W, p.v.cell? ⟨G, 2, none⟩ = some (.int .u32 (v.c : Int)) := fun p => (p.h.cell R4.lt).trans (R4.cell 2)
    have d3 : ∀ p : KeptW W, p.v.cell? ⟨G, 3, none⟩ = some (.int .u32 (v.d : Int)) := fun p => (p.h.cell R4.lt).trans (R4.cell 3)
    have d4 : ∀ p : KeptW W, p.v.cell? ⟨G, 4, none⟩ = some (.int .u32 (v.e : Int)) := fun p => (p.h.cell R4.lt).trans (R4.cell 4)
    have d5 : ∀ p : KeptW W, p.v.cell? ⟨G, 5, none⟩ = some (.int .u32 (v.f : Int)) := fun p => (p.h.cell R4.lt).trans (R4.cell 5)
    have d6 : ∀ p : KeptW W, p.v.cell? ⟨G, 6, none⟩ = some (.int .u32 (v.g : Int)) := fun p => (p.h.cell R4.lt).trans (R4.cell 6)
    have d7 : ∀ p : KeptW W, p.v.cell? ⟨G, 7, none⟩ = some (.int .u32 (v.h : Int)) := fun p => (p.h.cell R4.lt).trans (R4.cell 7)
    clear hxI R4 hT
    go_wp2_with fail
    refine region_kept W (Kept.refl W) (by kernel_rfl) (by kernel_rfl) ?_
    repeat (go_big_quiet_step (first
      | (go_at_call 36; exact Calls.keptw (hpad _))
      | (go_at_call 34; exact Calls.keptw (hst _ (hT4.kept (KeptW.h _))))
      | (go_at_call 35; exact Calls.keptw (hout _))))
    refine wpQuiet_nil ?_
    rintro w5 ⟨⟨_, k5⟩, rfl⟩
    go_wp2_with fail
    go_ret
    exact ⟨rfl, K4.trans k5⟩

end Go.Proofs.YtecamiefpdkjoaaDoor.Dg
