/-
  The loops that hold two slices against each other: slices.Equal, Same, and the statements' and the document's own.
-/
import Derived.Test.YtelaiblhnhbgiaaDoorTrEq
namespace Go.Proofs.YtelaiblhnhbgiaaDoor
open Go.RowKit
set_option maxRecDepth 20000

theorem take_eq_step {α : Type} {l m : List α} {k : Nat} {d x y : α} (hk : k < l.length) (hk' : k < m.length) (hx : l.getD k d = x) (hy : m.getD k d = y) (h : l.take k = m.take k) (e : x = y) : l.take (k + 1) = m.take (k + 1) := by
  rw [take_more hk hx, take_more hk' hy, h, e]
theorem ne_at {α : Type} {l m : List α} {k : Nat} {d x y : α} (hx : l.getD k d = x) (hy : m.getD k d = y) (e : x ≠ y) : l ≠ m := fun h => e (by rw [← hx, ← hy, h])

set_option maxHeartbeats 1000000 in
theorem equal_any {w : World} {v u : Value} {l m : List Nd} (P : Ls w 20 v (l.map ndC)) (P' : Ls w 20 u (m.map ndC)) (h16 : ∀ x ∈ l, x.kids.length = 16) (h16' : ∀ x ∈ m, x.kids.length = 16) (hl : l.length ≤ 2000000) (hm : m.length ≤ 2000000) :
    Calls Tryd.prog 31 #[v, u] w fun e w' => e = .returned (.bool (decide (l = m))) ∧ New w w' := by
  obtain ⟨a, c, rfl, hc, HS⟩ := P.open noNd
  obtain ⟨b, c', rfl, hc', HS'⟩ := P'.open noNd
  have _ := hm
  have HM : Hid (∀ i, i < l.length → (l.getD i noNd).kids.length = 16) := fun i h => h16 _ (getD_mem h)
  have HM' : Hid (∀ i, i < m.length → (m.getD i noNd).kids.length = 16) := fun i h => h16' _ (getD_mem h)
  clear h16 h16'
  clear P P'
  by_cases hlen : l.length = m.length
  · have HL : Hid (l.length = m.length) := hlen
    rw [← hlen] at hc' ⊢
    clear hlen
    go_enter Tryd.func31, Tryd.ntmps31
    go_wp2_with fail
    go_loopw [13] (fun i wr => ∃ k : Nat, k ≤ l.length ∧ i = .int .i64 (k : Int) ∧ Hid (l.take k = m.take k) ∧ New w wr) (fun i _ => l.length - (intOf i).toNat)
    case atStart => exact ⟨0, by omega, rfl, rfl, New.refl w⟩
    case round =>
      obtain ⟨k, hk, rfl, htk, N⟩ := hrel
      by_cases hlt : k < l.length
      · obtain ⟨g, o, rfl, hg, hr⟩ := HS.out (by omega)
        obtain ⟨g', o', rfl, hg', hr'⟩ := HS'.out (by have := HL.out; omega)
        have hlt' : k < m.length := by have := HL.out; omega
        obtain ⟨x, hx⟩ : ∃ x, l.getD k noNd = x := ⟨_, rfl⟩
        obtain ⟨y, hy⟩ : ∃ y, m.getD k noNd = y := ⟨_, rfl⟩
        have q1 := fun p : NewW wr => hr p.v (N.trans p.h) k hlt
        have q2 := fun p : NewW wr => hr' p.v (N.trans p.h) k hlt'
        rw [hx] at q1
        rw [hy] at q2
        have hx16 := HM.out k hlt
        have hy16 := HM'.out k hlt'
        rw [hx] at hx16
        rw [hy] at hy16
        have heq := fun w => eq_nodes x y hx16 hy16 w
        unfold ndA at heq
        have hne := NewW.ne wr
        have HX : Hid (l.getD k noNd = x) := hx
        have HY : Hid (m.getD k noNd = y) := hy
        have HLT : Hid (k < m.length) := hlt'
        clear hx hy hr hr' hlt'
        by_cases he : x = y
        · have hb : eqNd x y = true := by rw [he]; exact (eqNd_iff _ _).2 rfl
          have HE : Hid (x = y) := he
          rw [hb] at heq
          clear he
          go_wp2_with fail
          refine region_new wr (New.refl wr) (by kernel_rfl) (by kernel_rfl) ?_
          iterate 3 (go_big_quiet_step (fail))
          refine wpQuiet_load_mid (by rfl) 49 _ (by rfl) g (o + k * 20) (by rfl) (ndC x) q1 _ Tryd.underlying49 rfl (by rw [ndC_len (by assumption)]; exact i49) ?_
          simp only [Act.put, List.setIfInBounds_toArray, List.set_cons_zero, List.set_cons_succ]
          iterate 3 (go_big_quiet_step (fail))
          refine wpQuiet_load_mid (by rfl) 49 _ (by rfl) g' (o' + k * 20) (by rfl) (ndC y) q2 _ Tryd.underlying49 rfl (by rw [ndC_len (by assumption)]; exact i49) ?_
          simp only [Act.put, List.setIfInBounds_toArray, List.set_cons_zero, List.set_cons_succ]
          repeat (go_big_quiet_step (fail))
          refine wpQuiet_nil ?_
          rintro W3 ⟨⟨_, k3⟩, rfl⟩
          go_wp2_with fail
          refine ⟨⟨k + 1, by omega, by go_num, take_eq_step hlt HLT.out HX.out HY.out htk.out HE.out, N.trans k3⟩, by simp [intOf]; omega⟩
        · have hb : eqNd x y = false := by
            rw [Bool.eq_false_iff]; intro h; exact he ((eqNd_iff _ _).1 h)
          have HE : Hid (decide (l = m) = false) := decide_eq_false (ne_at HX.out HY.out he)
          rw [hb] at heq
          clear he
          go_wp2_with fail
          refine region_new wr (New.refl wr) (by kernel_rfl) (by kernel_rfl) ?_
          iterate 3 (go_big_quiet_step (fail))
          refine wpQuiet_load_mid (by rfl) 49 _ (by rfl) g (o + k * 20) (by rfl) (ndC x) q1 _ Tryd.underlying49 rfl (by rw [ndC_len (by assumption)]; exact i49) ?_
          simp only [Act.put, List.setIfInBounds_toArray, List.set_cons_zero, List.set_cons_succ]
          iterate 3 (go_big_quiet_step (fail))
          refine wpQuiet_load_mid (by rfl) 49 _ (by rfl) g' (o' + k * 20) (by rfl) (ndC y) q2 _ Tryd.underlying49 rfl (by rw [ndC_len (by assumption)]; exact i49) ?_
          simp only [Act.put, List.setIfInBounds_toArray, List.set_cons_zero, List.set_cons_succ]
          repeat (go_big_quiet_step (fail))
          refine wpQuiet_nil ?_
          rintro W3 ⟨⟨_, k3⟩, rfl⟩
          go_wp2_with fail
          go_ret
          exact ⟨ret_bool HE.out.symm, N.trans k3⟩
      · have HE : Hid (decide (l = m) = true) := decide_eq_true (by
          have := htk.out
          have h1 := HL.out
          rw [List.take_of_length_le (by omega), List.take_of_length_le (by omega)] at this
          exact this)
        go_wp2_with fail
        go_ret
        exact ⟨ret_bool HE.out.symm, N⟩
  · have HE : Hid (decide (l = m) = false) := decide_eq_false (fun h => hlen (by rw [h]))
    have hd : ((l.length : Int) != (m.length : Int)) = true := by rw [bne_iff_ne]; omega
    go_enter Tryd.func31, Tryd.ntmps31
    go_wp2_with fail
    go_ret
    exact ⟨ret_bool HE.out.symm, New.refl w⟩

set_option maxHeartbeats 1000000 in
theorem keepTrie_any {w : World} {v u : Value} {l m : List Nd} (P : Ls w 20 v (l.map ndC)) (P' : Ls w 20 u (m.map ndC)) (h16 : ∀ x ∈ l, x.kids.length = 16) (h16' : ∀ x ∈ m, x.kids.length = 16) (hl : l.length ≤ 2000000) (hm : m.length ≤ 2000000) :
    Calls Tryd.prog 16 #[v, u] w fun e w' => e = .returned (.bool (decide (l = m))) ∧ New w w' := by
  obtain ⟨a, c, rfl, hc, HS⟩ := P.open noNd
  obtain ⟨b, c', rfl, hc', HS'⟩ := P'.open noNd
  have _ := hm
  have HM : Hid (∀ i, i < l.length → (l.getD i noNd).kids.length = 16) := fun i h => h16 _ (getD_mem h)
  have HM' : Hid (∀ i, i < m.length → (m.getD i noNd).kids.length = 16) := fun i h => h16' _ (getD_mem h)
  clear h16 h16'
  clear P P'
  by_cases hlen : l.length = m.length
  · have HL : Hid (l.length = m.length) := hlen
    rw [← hlen] at hc' ⊢
    clear hlen
    go_enter Tryd.func16, Tryd.ntmps16
    go_wp2_with fail
    go_loopw [5] (fun i wr => ∃ k : Nat, k ≤ l.length ∧ i = .int .i64 (k : Int) ∧ Hid (l.take k = m.take k) ∧ New w wr) (fun i _ => l.length - (intOf i).toNat)
    case atStart => exact ⟨0, by omega, rfl, rfl, New.refl w⟩
    case round =>
      obtain ⟨k, hk, rfl, htk, N⟩ := hrel
      by_cases hlt : k < l.length
      · obtain ⟨g, o, rfl, hg, hr⟩ := HS.out (by omega)
        obtain ⟨g', o', rfl, hg', hr'⟩ := HS'.out (by have := HL.out; omega)
        have hlt' : k < m.length := by have := HL.out; omega
        obtain ⟨x, hx⟩ : ∃ x, l.getD k noNd = x := ⟨_, rfl⟩
        obtain ⟨y, hy⟩ : ∃ y, m.getD k noNd = y := ⟨_, rfl⟩
        have q1 := fun p : NewW wr => hr p.v (N.trans p.h) k hlt
        have q2 := fun p : NewW wr => hr' p.v (N.trans p.h) k hlt'
        rw [hx] at q1
        rw [hy] at q2
        have hx16 := HM.out k hlt
        have hy16 := HM'.out k hlt'
        rw [hx] at hx16
        rw [hy] at hy16
        have heq := fun w => eq_nodes x y hx16 hy16 w
        unfold ndA at heq
        have hne := NewW.ne wr
        have HX : Hid (l.getD k noNd = x) := hx
        have HY : Hid (m.getD k noNd = y) := hy
        have HLT : Hid (k < m.length) := hlt'
        clear hx hy hr hr' hlt'
        by_cases he : x = y
        · have hb : eqNd x y = true := by rw [he]; exact (eqNd_iff _ _).2 rfl
          have HE : Hid (x = y) := he
          rw [hb] at heq
          clear he
          go_wp2_with fail
          refine region_new wr (New.refl wr) (by kernel_rfl) (by kernel_rfl) ?_
          iterate 3 (go_big_quiet_step (fail))
          refine wpQuiet_load_mid (by rfl) 49 _ (by rfl) g (o + k * 20) (by rfl) (ndC x) q1 _ Tryd.underlying49 rfl (by rw [ndC_len (by assumption)]; exact i49) ?_
          simp only [Act.put, List.setIfInBounds_toArray, List.set_cons_zero, List.set_cons_succ]
          iterate 3 (go_big_quiet_step (fail))
          refine wpQuiet_load_mid (by rfl) 49 _ (by rfl) g' (o' + k * 20) (by rfl) (ndC y) q2 _ Tryd.underlying49 rfl (by rw [ndC_len (by assumption)]; exact i49) ?_
          simp only [Act.put, List.setIfInBounds_toArray, List.set_cons_zero, List.set_cons_succ]
          repeat (go_big_quiet_step (fail))
          refine wpQuiet_nil ?_
          rintro W3 ⟨⟨_, k3⟩, rfl⟩
          go_wp2_with fail
          refine ⟨⟨k + 1, by omega, by go_num, take_eq_step hlt HLT.out HX.out HY.out htk.out HE.out, N.trans k3⟩, by simp [intOf]; omega⟩
        · have hb : eqNd x y = false := by
            rw [Bool.eq_false_iff]; intro h; exact he ((eqNd_iff _ _).1 h)
          have HE : Hid (decide (l = m) = false) := decide_eq_false (ne_at HX.out HY.out he)
          rw [hb] at heq
          clear he
          go_wp2_with fail
          refine region_new wr (New.refl wr) (by kernel_rfl) (by kernel_rfl) ?_
          iterate 3 (go_big_quiet_step (fail))
          refine wpQuiet_load_mid (by rfl) 49 _ (by rfl) g (o + k * 20) (by rfl) (ndC x) q1 _ Tryd.underlying49 rfl (by rw [ndC_len (by assumption)]; exact i49) ?_
          simp only [Act.put, List.setIfInBounds_toArray, List.set_cons_zero, List.set_cons_succ]
          iterate 3 (go_big_quiet_step (fail))
          refine wpQuiet_load_mid (by rfl) 49 _ (by rfl) g' (o' + k * 20) (by rfl) (ndC y) q2 _ Tryd.underlying49 rfl (by rw [ndC_len (by assumption)]; exact i49) ?_
          simp only [Act.put, List.setIfInBounds_toArray, List.set_cons_zero, List.set_cons_succ]
          repeat (go_big_quiet_step (fail))
          refine wpQuiet_nil ?_
          rintro W3 ⟨⟨_, k3⟩, rfl⟩
          go_wp2_with fail
          go_ret
          exact ⟨ret_bool HE.out.symm, N.trans k3⟩
      · have HE : Hid (decide (l = m) = true) := decide_eq_true (by
          have := htk.out
          have h1 := HL.out
          rw [List.take_of_length_le (by omega), List.take_of_length_le (by omega)] at this
          exact this)
        go_wp2_with fail
        go_ret
        exact ⟨ret_bool HE.out.symm, N⟩
  · have HE : Hid (decide (l = m) = false) := decide_eq_false (fun h => hlen (by rw [h]))
    have hd : ((l.length : Int) != (m.length : Int)) = true := by rw [bne_iff_ne]; omega
    go_enter Tryd.func16, Tryd.ntmps16
    go_wp2_with fail
    go_ret
    exact ⟨ret_bool HE.out.symm, New.refl w⟩

set_option maxHeartbeats 1000000 in
theorem refSame_any {w : World} {v u : Value} {l m : List Nd} (P : Ls w 20 v (l.map ndC)) (P' : Ls w 20 u (m.map ndC)) (h16 : ∀ x ∈ l, x.kids.length = 16) (h16' : ∀ x ∈ m, x.kids.length = 16) (hl : l.length ≤ 2000000) (hm : m.length ≤ 2000000) :
    Calls Tryd.prog 30 #[v, u] w fun e w' => e = .returned (.bool (decide (l = m))) ∧ New w w' := by
  obtain ⟨a, c, rfl, hc, HS⟩ := P.open noNd
  obtain ⟨b, c', rfl, hc', HS'⟩ := P'.open noNd
  have _ := hm
  have HM : Hid (∀ i, i < l.length → (l.getD i noNd).kids.length = 16) := fun i h => h16 _ (getD_mem h)
  have HM' : Hid (∀ i, i < m.length → (m.getD i noNd).kids.length = 16) := fun i h => h16' _ (getD_mem h)
  clear h16 h16'
  clear P P'
  by_cases hlen : l.length = m.length
  · have HL : Hid (l.length = m.length) := hlen
    rw [← hlen] at hc' ⊢
    clear hlen
    go_enter Tryd.func30, Tryd.ntmps30
    go_wp2_with fail
    go_loopw [5] (fun i wr => ∃ k : Nat, k ≤ l.length ∧ i = .int .i64 (k : Int) ∧ Hid (l.take k = m.take k) ∧ New w wr) (fun i _ => l.length - (intOf i).toNat)
    case atStart => exact ⟨0, by omega, rfl, rfl, New.refl w⟩
    case round =>
      obtain ⟨k, hk, rfl, htk, N⟩ := hrel
      by_cases hlt : k < l.length
      · obtain ⟨g, o, rfl, hg, hr⟩ := HS.out (by omega)
        obtain ⟨g', o', rfl, hg', hr'⟩ := HS'.out (by have := HL.out; omega)
        have hlt' : k < m.length := by have := HL.out; omega
        obtain ⟨x, hx⟩ : ∃ x, l.getD k noNd = x := ⟨_, rfl⟩
        obtain ⟨y, hy⟩ : ∃ y, m.getD k noNd = y := ⟨_, rfl⟩
        have q1 := fun p : NewW wr => hr p.v (N.trans p.h) k hlt
        have q2 := fun p : NewW wr => hr' p.v (N.trans p.h) k hlt'
        rw [hx] at q1
        rw [hy] at q2
        have hx16 := HM.out k hlt
        have hy16 := HM'.out k hlt'
        rw [hx] at hx16
        rw [hy] at hy16
        have heq := fun w => eq_nodes x y hx16 hy16 w
        unfold ndA at heq
        have hne := NewW.ne wr
        have HX : Hid (l.getD k noNd = x) := hx
        have HY : Hid (m.getD k noNd = y) := hy
        have HLT : Hid (k < m.length) := hlt'
        clear hx hy hr hr' hlt'
        by_cases he : x = y
        · have hb : eqNd x y = true := by rw [he]; exact (eqNd_iff _ _).2 rfl
          have HE : Hid (x = y) := he
          rw [hb] at heq
          clear he
          go_wp2_with fail
          refine region_new wr (New.refl wr) (by kernel_rfl) (by kernel_rfl) ?_
          iterate 3 (go_big_quiet_step (fail))
          refine wpQuiet_load_mid (by rfl) 49 _ (by rfl) g (o + k * 20) (by rfl) (ndC x) q1 _ Tryd.underlying49 rfl (by rw [ndC_len (by assumption)]; exact i49) ?_
          simp only [Act.put, List.setIfInBounds_toArray, List.set_cons_zero, List.set_cons_succ]
          iterate 3 (go_big_quiet_step (fail))
          refine wpQuiet_load_mid (by rfl) 49 _ (by rfl) g' (o' + k * 20) (by rfl) (ndC y) q2 _ Tryd.underlying49 rfl (by rw [ndC_len (by assumption)]; exact i49) ?_
          simp only [Act.put, List.setIfInBounds_toArray, List.set_cons_zero, List.set_cons_succ]
          repeat (go_big_quiet_step (fail))
          refine wpQuiet_nil ?_
          rintro W3 ⟨⟨_, k3⟩, rfl⟩
          go_wp2_with fail
          refine ⟨⟨k + 1, by omega, by go_num, take_eq_step hlt HLT.out HX.out HY.out htk.out HE.out, N.trans k3⟩, by simp [intOf]; omega⟩
        · have hb : eqNd x y = false := by
            rw [Bool.eq_false_iff]; intro h; exact he ((eqNd_iff _ _).1 h)
          have HE : Hid (decide (l = m) = false) := decide_eq_false (ne_at HX.out HY.out he)
          rw [hb] at heq
          clear he
          go_wp2_with fail
          refine region_new wr (New.refl wr) (by kernel_rfl) (by kernel_rfl) ?_
          iterate 3 (go_big_quiet_step (fail))
          refine wpQuiet_load_mid (by rfl) 49 _ (by rfl) g (o + k * 20) (by rfl) (ndC x) q1 _ Tryd.underlying49 rfl (by rw [ndC_len (by assumption)]; exact i49) ?_
          simp only [Act.put, List.setIfInBounds_toArray, List.set_cons_zero, List.set_cons_succ]
          iterate 3 (go_big_quiet_step (fail))
          refine wpQuiet_load_mid (by rfl) 49 _ (by rfl) g' (o' + k * 20) (by rfl) (ndC y) q2 _ Tryd.underlying49 rfl (by rw [ndC_len (by assumption)]; exact i49) ?_
          simp only [Act.put, List.setIfInBounds_toArray, List.set_cons_zero, List.set_cons_succ]
          repeat (go_big_quiet_step (fail))
          refine wpQuiet_nil ?_
          rintro W3 ⟨⟨_, k3⟩, rfl⟩
          go_wp2_with fail
          go_ret
          exact ⟨ret_bool HE.out.symm, N.trans k3⟩
      · have HE : Hid (decide (l = m) = true) := decide_eq_true (by
          have := htk.out
          have h1 := HL.out
          rw [List.take_of_length_le (by omega), List.take_of_length_le (by omega)] at this
          exact this)
        go_wp2_with fail
        go_ret
        exact ⟨ret_bool HE.out.symm, N⟩
  · have HE : Hid (decide (l = m) = false) := decide_eq_false (fun h => hlen (by rw [h]))
    have hd : ((l.length : Int) != (m.length : Int)) = true := by rw [bne_iff_ne]; omega
    go_enter Tryd.func30, Tryd.ntmps30
    go_wp2_with fail
    go_ret
    exact ⟨ret_bool HE.out.symm, New.refl w⟩

set_option maxHeartbeats 1000000 in
theorem keepPairs_any {w : World} {v u : Value} {l m : List Pr} (P : Ls w 2 v (l.map prC)) (P' : Ls w 2 u (m.map prC)) (hl : l.length ≤ 2000000) (hm : m.length ≤ 2000000) :
    Calls Tryd.prog 17 #[v, u] w fun e w' => e = .returned (.bool (decide (l = m))) ∧ New w w' := by
  obtain ⟨a, c, rfl, hc, HS⟩ := P.open ([], [])
  obtain ⟨b, c', rfl, hc', HS'⟩ := P'.open ([], [])
  have _ := hm
  clear P P'
  by_cases hlen : l.length = m.length
  · have HL : Hid (l.length = m.length) := hlen
    rw [← hlen] at hc' ⊢
    clear hlen
    go_enter Tryd.func17, Tryd.ntmps17
    go_wp2_with fail
    go_loopw [5] (fun i wr => ∃ k : Nat, k ≤ l.length ∧ i = .int .i64 (k : Int) ∧ Hid (l.take k = m.take k) ∧ New w wr) (fun i _ => l.length - (intOf i).toNat)
    case atStart => exact ⟨0, by omega, rfl, rfl, New.refl w⟩
    case round =>
      obtain ⟨k, hk, rfl, htk, N⟩ := hrel
      by_cases hlt : k < l.length
      · obtain ⟨g, o, rfl, hg, hr⟩ := HS.out (by omega)
        obtain ⟨g', o', rfl, hg', hr'⟩ := HS'.out (by have := HL.out; omega)
        have hlt' : k < m.length := by have := HL.out; omega
        obtain ⟨x, hx⟩ : ∃ x, l.getD k ([], []) = x := ⟨_, rfl⟩
        obtain ⟨y, hy⟩ : ∃ y, m.getD k ([], []) = y := ⟨_, rfl⟩
        have q1 := fun p : NewW wr => hr p.v (N.trans p.h) k hlt
        have q2 := fun p : NewW wr => hr' p.v (N.trans p.h) k hlt'
        rw [hx] at q1
        rw [hy] at q2
        have heq := fun w => eq_pairs x y w
        have hne := NewW.ne wr
        have HX : Hid (l.getD k ([], []) = x) := hx
        have HY : Hid (m.getD k ([], []) = y) := hy
        have HLT : Hid (k < m.length) := hlt'
        clear hx hy hr hr' hlt'
        by_cases he : x = y
        · have hb : eqPr x y = true := by rw [he]; exact (eqPr_iff _ _).2 rfl
          have HE : Hid (x = y) := he
          rw [hb] at heq
          clear he
          go_wp2_with fail
          refine region_new wr (New.refl wr) (by kernel_rfl) (by kernel_rfl) ?_
          iterate 3 (go_big_quiet_step (fail))
          refine wpQuiet_load_mid (by rfl) 52 _ (by rfl) g (o + k * 2) (by rfl) (prC x) q1 _ Tryd.underlying52 rfl i52 ?_
          simp only [Act.put, List.setIfInBounds_toArray, List.set_cons_zero, List.set_cons_succ]
          iterate 3 (go_big_quiet_step (fail))
          refine wpQuiet_load_mid (by rfl) 52 _ (by rfl) g' (o' + k * 2) (by rfl) (prC y) q2 _ Tryd.underlying52 rfl i52 ?_
          simp only [Act.put, List.setIfInBounds_toArray, List.set_cons_zero, List.set_cons_succ]
          repeat (go_big_quiet_step (fail))
          refine wpQuiet_nil ?_
          rintro W3 ⟨⟨_, k3⟩, rfl⟩
          go_wp2_with fail
          refine ⟨⟨k + 1, by omega, by go_num, take_eq_step hlt HLT.out HX.out HY.out htk.out HE.out, N.trans k3⟩, by simp [intOf]; omega⟩
        · have hb : eqPr x y = false := by
            rw [Bool.eq_false_iff]; intro h; exact he ((eqPr_iff _ _).1 h)
          have HE : Hid (decide (l = m) = false) := decide_eq_false (ne_at HX.out HY.out he)
          rw [hb] at heq
          clear he
          go_wp2_with fail
          refine region_new wr (New.refl wr) (by kernel_rfl) (by kernel_rfl) ?_
          iterate 3 (go_big_quiet_step (fail))
          refine wpQuiet_load_mid (by rfl) 52 _ (by rfl) g (o + k * 2) (by rfl) (prC x) q1 _ Tryd.underlying52 rfl i52 ?_
          simp only [Act.put, List.setIfInBounds_toArray, List.set_cons_zero, List.set_cons_succ]
          iterate 3 (go_big_quiet_step (fail))
          refine wpQuiet_load_mid (by rfl) 52 _ (by rfl) g' (o' + k * 2) (by rfl) (prC y) q2 _ Tryd.underlying52 rfl i52 ?_
          simp only [Act.put, List.setIfInBounds_toArray, List.set_cons_zero, List.set_cons_succ]
          repeat (go_big_quiet_step (fail))
          refine wpQuiet_nil ?_
          rintro W3 ⟨⟨_, k3⟩, rfl⟩
          go_wp2_with fail
          go_ret
          exact ⟨ret_bool HE.out.symm, N.trans k3⟩
      · have HE : Hid (decide (l = m) = true) := decide_eq_true (by
          have := htk.out
          have h1 := HL.out
          rw [List.take_of_length_le (by omega), List.take_of_length_le (by omega)] at this
          exact this)
        go_wp2_with fail
        go_ret
        exact ⟨ret_bool HE.out.symm, N⟩
  · have HE : Hid (decide (l = m) = false) := decide_eq_false (fun h => hlen (by rw [h]))
    have hd : ((l.length : Int) != (m.length : Int)) = true := by rw [bne_iff_ne]; omega
    go_enter Tryd.func17, Tryd.ntmps17
    go_wp2_with fail
    go_ret
    exact ⟨ret_bool HE.out.symm, New.refl w⟩

set_option maxHeartbeats 1000000 in
theorem keepTexts_any {w : World} {v u : Value} {l m : List Bt} (P : Ls w 1 v (l.map txC)) (P' : Ls w 1 u (m.map txC)) (hl : l.length ≤ 2000000) (hm : m.length ≤ 2000000) :
    Calls Tryd.prog 18 #[v, u] w fun e w' => e = .returned (.bool (decide (l = m))) ∧ New w w' := by
  obtain ⟨a, c, rfl, hc, HS⟩ := P.open []
  obtain ⟨b, c', rfl, hc', HS'⟩ := P'.open []
  have _ := hm
  clear P P'
  by_cases hlen : l.length = m.length
  · have HL : Hid (l.length = m.length) := hlen
    rw [← hlen] at hc' ⊢
    clear hlen
    go_enter Tryd.func18, Tryd.ntmps18
    go_wp2_with fail
    go_loopw [5] (fun i wr => ∃ k : Nat, k ≤ l.length ∧ i = .int .i64 (k : Int) ∧ Hid (l.take k = m.take k) ∧ New w wr) (fun i _ => l.length - (intOf i).toNat)
    case atStart => exact ⟨0, by omega, rfl, rfl, New.refl w⟩
    case round =>
      obtain ⟨k, hk, rfl, htk, N⟩ := hrel
      by_cases hlt : k < l.length
      · obtain ⟨g, o, rfl, hg, hr⟩ := HS.out (by omega)
        obtain ⟨g', o', rfl, hg', hr'⟩ := HS'.out (by have := HL.out; omega)
        have hlt' : k < m.length := by have := HL.out; omega
        obtain ⟨x, hx⟩ : ∃ x, l.getD k [] = x := ⟨_, rfl⟩
        obtain ⟨y, hy⟩ : ∃ y, m.getD k [] = y := ⟨_, rfl⟩
        have q1 := fun p : NewW wr => hr p.v (N.trans p.h) k hlt
        have q2 := fun p : NewW wr => hr' p.v (N.trans p.h) k hlt'
        rw [hx] at q1
        rw [hy] at q2
        have q3 : ∀ p : NewW wr, p.v.cell? ⟨g, o + k * 1, none⟩ = some (.string (bs x)) := fun p => q1 p 0 _ rfl
        have q4 : ∀ p : NewW wr, p.v.cell? ⟨g', o' + k * 1, none⟩ = some (.string (bs y)) := fun p => q2 p 0 _ rfl
        rw [Nat.mul_one] at q3 q4
        clear q1 q2
        have heq : ((bs x).toList == (bs y).toList) = (x == y) := text_beq x y
        have hne := NewW.ne wr
        have HX : Hid (l.getD k [] = x) := hx
        have HY : Hid (m.getD k [] = y) := hy
        have HLT : Hid (k < m.length) := hlt'
        clear hx hy hr hr' hlt'
        by_cases he : x = y
        · have hb : (x == y) = true := by rw [he]; exact beq_self_eq_true _
          have HE : Hid (x = y) := he
          rw [hb] at heq
          clear he
          go_wp2_with fail
          refine region_new wr (New.refl wr) (by kernel_rfl) (by kernel_rfl) ?_
          repeat (go_big_quiet_step (fail))
          refine wpQuiet_nil ?_
          rintro W3 ⟨⟨_, k3⟩, rfl⟩
          go_wp2_with fail
          refine ⟨⟨k + 1, by omega, by go_num, take_eq_step hlt HLT.out HX.out HY.out htk.out HE.out, N.trans k3⟩, by simp [intOf]; omega⟩
        · have hb : (x == y) = false := by
            rw [Bool.eq_false_iff]; intro h; exact he (by simpa using h)
          have HE : Hid (decide (l = m) = false) := decide_eq_false (ne_at HX.out HY.out he)
          rw [hb] at heq
          clear he
          go_wp2_with fail
          refine region_new wr (New.refl wr) (by kernel_rfl) (by kernel_rfl) ?_
          repeat (go_big_quiet_step (fail))
          refine wpQuiet_nil ?_
          rintro W3 ⟨⟨_, k3⟩, rfl⟩
          go_wp2_with fail
          go_ret
          exact ⟨ret_bool HE.out.symm, N.trans k3⟩
      · have HE : Hid (decide (l = m) = true) := decide_eq_true (by
          have := htk.out
          have h1 := HL.out
          rw [List.take_of_length_le (by omega), List.take_of_length_le (by omega)] at this
          exact this)
        go_wp2_with fail
        go_ret
        exact ⟨ret_bool HE.out.symm, N⟩
  · have HE : Hid (decide (l = m) = false) := decide_eq_false (fun h => hlen (by rw [h]))
    have hd : ((l.length : Int) != (m.length : Int)) = true := by rw [bne_iff_ne]; omega
    go_enter Tryd.func18, Tryd.ntmps18
    go_wp2_with fail
    go_ret
    exact ⟨ret_bool HE.out.symm, New.refl w⟩

theorem same_any {w : World} {v u : Value} {l m : List Nd} (P : Ls w 20 v (l.map ndC)) (P' : Ls w 20 u (m.map ndC)) (h16 : ∀ x ∈ l, x.kids.length = 16) (h16' : ∀ x ∈ m, x.kids.length = 16) (hl : l.length ≤ 2000000) (hm : m.length ≤ 2000000) :
    Calls Tryd.prog 20 #[v, u] w fun e w' => e = .returned (.bool (decide (l = m))) ∧ New w w' := by
  have h := equal_any P P' h16 h16' hl hm
  clear P P' h16 h16' hl hm
  go_enter Tryd.func20, Tryd.ntmps20
  go_wp2_with fail
  refine Calls.mono h ?_
  rintro _ W1 ⟨rfl, N1⟩
  go_wp2_with fail
  go_ret
  exact ⟨rfl, N1⟩

end Go.Proofs.YtelaiblhnhbgiaaDoor
