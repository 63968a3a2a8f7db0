/-
  The document's own queue, a list that rises: what Push does with it.
-/
import Derived.Test.YtmpignlciicaeaaRef
import Derived.Test.YtmpignlciicaeaaOrd
import Derived.Deep.RegionHeld3
namespace Go.Proofs.Ytmpignlciicaeaa
open Go.RowKit

theorem wpOp_app {ops : Array Oper} {i : Nat} {w : World} {o : Oper} {a : Act} {K : Act → World → Prop} {Q : Exit → Act → World → Prop} (d : Option Tmp) (ho : ops[i]? = some o) (hd : o.dst = d) (hw : Region.wanted o (yielded ops a.tmps) = true) (s x : Operand) (t : TypeId)
    (hop : o.op = .call { callee := .builtin .append, args := #[s, x], argTypes := #[t, t] }) (ht : Try.prog.underlying t = some (.slice 3))
    (b cap n m c : Nat) (xs zs : List Int) (p : Option Addr) (hs : a.eval s = .slice (some ⟨b, 0, none⟩) n cap) (hx : a.eval x = .slice p m c) (hn : xs.length = n) (hm : zs.length = m)
    (R : Row w b cap xs) (A : Arg w p zs) (hl : n + m ≤ 1000000)
    (h : ∀ b' cap' w', Row w' b' cap' (xs ++ zs) → w.grownBy w' (some b) → (b' = b ∨ b' = w.heap.size) → K (a.put d (.slice (some ⟨b', 0, none⟩) (n + m) cap')) w') : wpOp Try.prog ops Q i K a w := by
  subst hd
  exact wpOp_wp ho hw (wp_app s x t hop ht b cap n m c xs zs p hs hx hn hm R A hl h)

/-- A block with one number. -/
def Lit (w : World) (H : Nat) (v : Int) : Prop := w.heap[H]? = some (.cells #[.int .i64 v] 3 (0, 0))
theorem Lit.arg {w : World} {H : Nat} {v : Int} (h : Lit w H v) : Arg w (some ⟨H, 0, none⟩) [v] := fun _ => ⟨_, rfl, fun i hi => by
  obtain rfl : i = 0 := by simpa using hi
  rw [addr_zero, cell_of_row w H 0 _ 3 (0, 0) h]
  rfl⟩
theorem Lit.grown {w w' : World} {H b : Nat} {v : Int} (h : Lit w H v) (k : w.grownBy w' (some b)) (hn : H ≠ b) : Lit w' H v :=
  (k.block H (Array.getElem?_eq_some_iff.1 h).1 (by simpa using hn)).trans h

theorem lit_new (w : World) (v : Int) : Lit (w.alloc (.cells #[.int .i64 v] 3)) w.heap.size v := heap_alloc_new w _

set_option linter.unusedSimpArgs false in
set_option maxHeartbeats 4000000 in
theorem rpush_any {w : World} {a b : Nat} {S : List Int} (hR : Rf w a b S) (hl : S.length ≤ 10000) (v : Int) :
    Calls Try.prog 8 #[.pointer (some ⟨a, 0, none⟩), .int .i64 v] w fun e w' => e = .returned (.tuple #[]) ∧ ∃ b', Rf w' a b' (ins v S) ∧ Only a a w w' ∧ w.heap.size ≤ b' := by
  have hlt := hR.lt
  have HR : Hid (Rf w a b S) := hR
  obtain ⟨n, hn⟩ : ∃ n, S.length = n := ⟨_, rfl⟩
  have HN : Hid (S.length = n) := hn
  rw [hn] at hl
  have hcase : ∃ p cap, w.cell? ⟨a, 0, none⟩ = some (.slice p n cap) ∧ w.frozen? ⟨a, 0, none⟩ = false ∧ ((p = none ∧ n = 0 ∧ cap = 0) ∨ (p = some ⟨b, 0, none⟩ ∧ Row w b cap S ∧ n ≤ cap)) := by
    obtain ⟨t, u, h1, h2⟩ := hR
    have h3 := frozen_of_row w a 0 _ t h1
    have h4 := cell_of_row w a 0 _ t (0, 0) h1
    rcases h2 with ⟨rfl, rfl, _⟩ | ⟨cap, rfl, r, _⟩
    · obtain rfl : 0 = n := hn
      exact ⟨none, 0, h4, h3, .inl ⟨rfl, rfl, rfl⟩⟩
    · rw [hn] at h4
      exact ⟨_, cap, h4, h3, .inr ⟨rfl, r, by have := r.le; omega⟩⟩
  obtain ⟨p, cap, hc, hf, hpc⟩ := hcase
  have HPC : Hid ((p = none ∧ n = 0 ∧ cap = 0) ∨ (p = some ⟨b, 0, none⟩ ∧ Row w b cap S ∧ n ≤ cap)) := hpc
  clear hn hR hpc
  go_enter Try.func8, Try.ntmps8
  go_wp2_with fail
  go_loop [4] (fun u => ∃ k : Nat, u = .int .i64 (k : Int) ∧ k ≤ n ∧ ∀ j, j < k → g S j ≤ v) (fun u => n - (intOf u).toNat)
  case atStart => exact ⟨0, rfl, by omega, fun j hj => absurd hj (by omega)⟩
  case round =>
    obtain ⟨k, rfl, hk, hj⟩ := hrel
    have HJ : Hid (∀ j, j < k → g S j ≤ v) := hj
    clear hj
    have hways : (k < n ∧ g S k ≤ v) ∨ ((k < n ∧ v < g S k) ∨ k = n) := by omega
    rcases hways with ⟨hkn, hv⟩ | hout
    · rcases HPC.out with ⟨_, h0, _⟩ | ⟨rfl, hr, hle⟩
      · omega
      have hcx := hr.cell (i := k) (by rw [HN.out]; exact hkn)
      have hvb : decide (g S k ≤ v) = true := decide_eq_true hv
      go_wp2_with fail
      exact ⟨⟨k + 1, by simp, by omega, fun j hj => (Nat.lt_or_ge j k).elim (fun h => HJ.out j h) (fun h => by rw [show j = k by omega]; exact hv)⟩, by simp [intOf]; omega⟩
    · have HI : Hid (ins v S = (S.take k ++ [v]) ++ S.drop k) := by
        show _ = _
        rw [ins_at (by rw [HN.out]; exact hk) HJ.out (by rw [HN.out]; exact hout.elim (fun h => .inr h.2) (fun h => .inl h)), List.append_assoc, List.singleton_append]
      have HTK : Hid ((S.take k).length = k) := by show _ = _; rw [List.length_take, HN.out]; omega
      have HT1 : Hid ((S.take k ++ [v]).length = k + 1) := by show _ = _; rw [List.length_append, HTK.out]; rfl
      have HDK : Hid ((S.drop k).length = n - k) := by show _ = _; rw [List.length_drop, HN.out]
      have HIL : Hid ((ins v S).length = k + 1 + (n - k)) := by show _ = _; rw [ins_length, HN.out]; omega
      have HAT : Hid (∀ W, Below w.heap.size w W → Arg W p (S.take k)) := fun W hW h0 => by
        rw [HTK.out] at h0
        rcases HPC.out with ⟨_, h1, _⟩ | ⟨rfl, hr, hle⟩
        · omega
        · exact (hr.take k).arg.below hW (by rw [HTK.out]; exact h0)
      have HAD : Hid (∀ W, Below w.heap.size w W → ∀ q : Option Addr, (0 < n - k → q = some ⟨b, k, none⟩) → Arg W q (S.drop k)) := fun W hW q hq h0 => by
        rw [HDK.out] at h0
        rcases HPC.out with ⟨_, h1, _⟩ | ⟨rfl, hr, hle⟩
        · omega
        · refine ⟨_, hq h0, fun i hi => ?_⟩
          rw [HDK.out] at hi
          have h2 := hr.cell (i := k + i) (by rw [HN.out]; omega)
          rw [addr_add, hW.cell (show b < w.heap.size from hr.lt), h2]
          simp [g]
      have FA : Hid (Row (w.alloc (.cells #[] 3)).drew w.heap.size 0 []) := row_new w
      have FC : Hid (Row ((w.alloc (.cells #[] 3)).alloc (.cells #[.int .i64 v] 3)).drew w.heap.size 0 []) := (row_new w).of (heap_alloc_old _ _ (row_new w).lt)
      have FB : Hid (Row ((w.alloc (.cells #[.int .i64 v] 3)).alloc (.cells #[] 3)).drew (w.heap.size + 1) 0 []) := by
        have h := row_new (w.alloc (.cells #[.int .i64 v] 3))
        rw [World.size_alloc] at h
        exact h
      have LB : Hid (Lit ((w.alloc (.cells #[.int .i64 v] 3)).alloc (.cells #[] 3)).drew w.heap.size v) := (heap_alloc_old _ _ (by rw [World.size_alloc]; omega)).trans (lit_new w v)
      have LC : Hid (Lit ((w.alloc (.cells #[] 3)).alloc (.cells #[.int .i64 v] 3)).drew (w.heap.size + 1) v) := by
        have h := lit_new (w.alloc (.cells #[] 3)) v
        rw [World.size_alloc] at h
        exact h
      have BA : Hid (Below w.heap.size w (w.alloc (.cells #[] 3)).drew) := ((Below.refl _ w).alloc (Nat.le_refl _) _).drew
      have BB : Hid (Below w.heap.size w ((w.alloc (.cells #[.int .i64 v] 3)).alloc (.cells #[] 3)).drew) := (((Below.refl _ w).alloc (Nat.le_refl _) _).alloc (by rw [World.size_alloc]; omega) _).drew
      have BC : Hid (Below w.heap.size w ((w.alloc (.cells #[] 3)).alloc (.cells #[.int .i64 v] 3)).drew) := (((Below.refl _ w).alloc (Nat.le_refl _) _).alloc (by rw [World.size_alloc]; omega) _).drew
      have hsplit : (p = none ∧ k = 0 ∧ n = 0 ∧ cap = 0) ∨ (p = some ⟨b, 0, none⟩ ∧ Row w b cap S ∧ n ≤ cap ∧ k < cap) ∨ (p = some ⟨b, 0, none⟩ ∧ Row w b cap S ∧ n = cap ∧ k = cap) := by
        rcases HPC.out with ⟨h1, h2, h3⟩ | ⟨h1, h2, h3⟩
        · exact .inl ⟨h1, by omega, h2, h3⟩
        · by_cases h4 : k < cap
          · exact .inr (.inl ⟨h1, h2, h3, h4⟩)
          · exact .inr (.inr ⟨h1, h2, by omega, by omega⟩)
      rcases hsplit with ⟨rfl, rfl, rfl, rfl⟩ | ⟨rfl, hr, hle, hkc⟩ | ⟨rfl, hr, hnc, hkc⟩
      · go_wp2_with fail
        refine wp_region_noPanic ?_
        refine wpG.region 21 (fun w' => w'.cell? ⟨a, 0, none⟩ = some (.slice none 0 0)) (by kernel_rfl) ?_
        have hS0 : w.drew.cell? ⟨a, 0, none⟩ = some (.slice none 0 0) := hc
        refine wpG.take (i := 0) (v := .pointer (some ⟨a, 0, none⟩)) (some 25) rfl (by kernel_rfl) (fun _ _ _ h => h) rfl (by rfl) hS0 (by intro w hSw; go_simp) ?_
        simp only [Act.put, List.setIfInBounds_toArray, List.set_cons_zero, List.set_cons_succ]
        refine wpG.take (i := 2) (v := .pointer (some ⟨a, 0, none⟩)) (some 27) rfl (by kernel_rfl) (fun _ _ _ h => h) rfl (by rfl) hS0 (by intro w hSw; go_simp) ?_
        simp only [Act.put, List.setIfInBounds_toArray, List.set_cons_zero, List.set_cons_succ]
        refine wpG.take (i := 3) (v := .pointer (some ⟨a, 0, none⟩)) (some 28) rfl (by kernel_rfl) (fun _ _ _ h => h) rfl (by rfl) hS0 (by intro w hSw; go_simp) ?_
        simp only [Act.put, List.setIfInBounds_toArray, List.set_cons_zero, List.set_cons_succ]
        refine wpG.take (i := 4) (v := .pointer (some ⟨a, 0, none⟩)) (some 29) rfl (by kernel_rfl) (fun _ _ _ h => h) rfl (by rfl) hS0 (by intro w hSw; go_simp) ?_
        simp only [Act.put, List.setIfInBounds_toArray, List.set_cons_zero, List.set_cons_succ]
        refine wpG.take (i := 5) (v := .slice none 0 0) (some 30) rfl (by kernel_rfl) (fun _ _ _ h => h) rfl (by rfl) hS0 (by intro w hSw; go_simp) ?_
        simp only [Act.put, List.setIfInBounds_toArray, List.set_cons_zero, List.set_cons_succ]
        refine wpG.take (i := 6) (v := .int .i64 0) (some 31) rfl (by kernel_rfl) (fun _ _ _ h => h) rfl (by rfl) hS0 (by intro w hSw; go_simp) ?_
        simp only [Act.put, List.setIfInBounds_toArray, List.set_cons_zero, List.set_cons_succ]
        refine wpG.take (i := 7) (v := .slice none 0 0) (some 32) rfl (by kernel_rfl) (fun _ _ _ h => h) rfl (by rfl) hS0 (by intro w hSw; go_simp) ?_
        simp only [Act.put, List.setIfInBounds_toArray, List.set_cons_zero, List.set_cons_succ]
        refine wpG.take (i := 9) (v := .int .i64 v) (some 34) rfl (by kernel_rfl) (fun _ _ _ h => h) rfl (by rfl) hS0 (by intro w hSw; go_simp) ?_
        simp only [Act.put, List.setIfInBounds_toArray, List.set_cons_zero, List.set_cons_succ]
        refine wpG.take (i := 12) (v := .pointer (some ⟨a, 0, none⟩)) (some 37) rfl (by kernel_rfl) (fun _ _ _ h => h) rfl (by rfl) hS0 (by intro w hSw; go_simp) ?_
        simp only [Act.put, List.setIfInBounds_toArray, List.set_cons_zero, List.set_cons_succ]
        refine wpG.take (i := 13) (v := .pointer (some ⟨a, 0, none⟩)) (some 38) rfl (by kernel_rfl) (fun _ _ _ h => h) rfl (by rfl) hS0 (by intro w hSw; go_simp) ?_
        simp only [Act.put, List.setIfInBounds_toArray, List.set_cons_zero, List.set_cons_succ]
        refine wpG.take (i := 14) (v := .pointer (some ⟨a, 0, none⟩)) (some 39) rfl (by kernel_rfl) (fun _ _ _ h => h) rfl (by rfl) hS0 (by intro w hSw; go_simp) ?_
        simp only [Act.put, List.setIfInBounds_toArray, List.set_cons_zero, List.set_cons_succ]
        refine wpG.take (i := 15) (v := .slice none 0 0) (some 40) rfl (by kernel_rfl) (fun _ _ _ h => h) rfl (by rfl) hS0 (by intro w hSw; go_simp) ?_
        simp only [Act.put, List.setIfInBounds_toArray, List.set_cons_zero, List.set_cons_succ]
        refine wpG.take (i := 16) (v := .int .i64 0) (some 41) rfl (by kernel_rfl) (fun _ _ _ h => h) rfl (by rfl) hS0 (by intro w hSw; go_simp) ?_
        simp only [Act.put, List.setIfInBounds_toArray, List.set_cons_zero, List.set_cons_succ]
        refine wpG.take (i := 17) (v := .slice none 0 0) (some 42) rfl (by kernel_rfl) (fun _ _ _ h => h) rfl (by rfl) hS0 (by intro w hSw; go_simp) ?_
        simp only [Act.put, List.setIfInBounds_toArray, List.set_cons_zero, List.set_cons_succ]
        refine wpG.two 1 10 (by kernel_rfl) ?_ ?_
        · have hSA : ((w.alloc (.cells #[] 3)).drew).cell? ⟨a, 0, none⟩ = some (.slice none 0 0) := (BA.out.cell (p := ⟨a, 0, none⟩) hlt.1).trans hc
          refine wpOp_run (some 26) (.slice (some ⟨w.heap.size, 0, none⟩) 0 0) ((w.alloc (.cells #[] 3)).drew) rfl rfl (by rfl) (by go_simp) ⟨fun _ => hSA, ?_⟩
          simp only [Act.put, List.setIfInBounds_toArray, List.set_cons_zero, List.set_cons_succ]
          refine wpG.two 8 10 (by kernel_rfl) ?_ ?_
          · skip
            refine wpOp_app (some 33) rfl rfl (by rfl) (.tmp 26) (.tmp 32) 22 rfl Try.underlying22 _ _ 0 _ _ [] _ _ rfl rfl rfl HTK.out FA.out (HAT.out _ BA.out) (by omega) ?_
            intro b1 cap1 w1 R1 G1 h1
            rw [Nat.zero_add]
            rw [List.nil_append] at R1
            have B1 : Below w.heap.size w w1 := BA.out.grown G1 BA.out.size (fun j hj => by cases hj; omega)
            have hb1 : w.heap.size ≤ b1 := by rcases h1 with h | h <;> (have := BA.out.size; omega)
            have hs1 := B1.size
            have hca1 : w1.cell? ⟨a, 0, none⟩ = some (.slice none 0 0) := (B1.cell (p := ⟨a, 0, none⟩) hlt.1).trans hc
            refine ⟨fun _ => hca1, ?_⟩
            simp only [Act.put, List.setIfInBounds_toArray, List.set_cons_zero, List.set_cons_succ]
            refine wpG.one 10 (by kernel_rfl) ?_
            have hSL : (w1.alloc (.cells #[.int .i64 v] 3)).cell? ⟨a, 0, none⟩ = some (.slice none 0 0) := ((B1.alloc B1.size _).cell (p := ⟨a, 0, none⟩) hlt.1).trans hc
            refine wpOp_run (some 35) (.slice (some ⟨w1.heap.size, 0, none⟩) 1 1) (w1.alloc (.cells #[.int .i64 v] 3)) rfl rfl (by rfl) (by go_simp) ⟨fun _ => hSL, ?_⟩
            simp only [Act.put, List.setIfInBounds_toArray, List.set_cons_zero, List.set_cons_succ]
            refine wpG.one 11 (by kernel_rfl) ?_
            refine wpOp_app (some 36) rfl rfl (by rfl) (.tmp 33) (.tmp 35) 22 rfl Try.underlying22 _ _ _ 1 _ _ [v] _ rfl rfl HTK.out rfl (R1.of (heap_alloc_old _ _ R1.lt)) ((lit_new w1 v).arg) (by omega) ?_
            intro b2 cap2 w2 R2 G2 h2
            have B2 : Below w.heap.size w w2 := (B1.alloc B1.size (.cells #[.int .i64 v] 3)).grown G2 (B1.alloc B1.size (.cells #[.int .i64 v] 3)).size (fun j hj => by cases hj; omega)
            have hb2 : w.heap.size ≤ b2 := by rcases h2 with h | h <;> (have := (B1.alloc B1.size (.cells #[.int .i64 v] 3)).size; omega)
            have hs2 := B2.size
            have hca2 : w2.cell? ⟨a, 0, none⟩ = some (.slice none 0 0) := (B2.cell (p := ⟨a, 0, none⟩) hlt.1).trans hc
            refine ⟨fun _ => hca2, ?_⟩
            simp only [Act.put, List.setIfInBounds_toArray, List.set_cons_zero, List.set_cons_succ]
            refine wpG.one 18 (by kernel_rfl) ?_
            refine wpOp_app (some 43) rfl rfl (by rfl) (.tmp 36) (.tmp 42) 22 rfl Try.underlying22 _ _ _ _ _ _ _ _ rfl rfl HT1.out HDK.out R2 (HAD.out _ B2 _ (by intro h; first | rfl | omega)) (by omega) ?_
            intro b3 cap3 w3 R3 G3 h3
            have B3 : Below w.heap.size w w3 := B2.grown G3 B2.size (fun j hj => by cases hj; omega)
            have hb3 : w.heap.size ≤ b3 := by rcases h3 with h | h <;> omega
            have hca3 : w3.cell? ⟨a, 0, none⟩ = some (.slice none 0 0) := (B3.cell (p := ⟨a, 0, none⟩) hlt.1).trans hc
            have hfa3 : w3.frozen? ⟨a, 0, none⟩ = false := (B3.frozen (p := ⟨a, 0, none⟩) hlt.1).trans hf
            refine ⟨fun _ => hca3, ?_⟩
            simp only [Act.put, List.setIfInBounds_toArray, List.set_cons_zero, List.set_cons_succ]
            refine wpG.one 19 (by kernel_rfl) ?_
            refine wpOp_run (some 44) (.pointer (some ⟨a, 0, none⟩)) (w3) rfl rfl (by rfl) (by go_simp) ⟨fun _ => hca3, ?_⟩
            simp only [Act.put, List.setIfInBounds_toArray, List.set_cons_zero, List.set_cons_succ]
            refine wpG.one 20 (by kernel_rfl) ?_
            refine wpOp_run (some 45) (.pointer (some ⟨a, 0, none⟩)) (w3) rfl rfl (by rfl) (by go_simp) ⟨fun _ => hca3, ?_⟩
            simp only [Act.put, List.setIfInBounds_toArray, List.set_cons_zero, List.set_cons_succ]
            refine wpG.one 21 (by kernel_rfl) ?_
            refine wpOp_wp rfl (by rfl) ?_
            go_simp
            refine wpG.done (by kernel_rfl) ?_ _
            refine NoPanic.normal ?_
            clear hca1 hca2 hca3 hfa3 h1 h2 h3
            go_wp2_with fail
            go_end0
            refine ⟨rfl, b3, ?_, (Only.of_below B3).then (Only.setA a a 0 _ _), hb3⟩
            rw [← HI.out] at R3
            have hfin := HR.out.names (B3.block a hlt.1) R3 (by omega)
            rw [HIL.out] at hfin
            exact hfin
          · have hSC : (((w.alloc (.cells #[] 3)).alloc (.cells #[.int .i64 v] 3)).drew).cell? ⟨a, 0, none⟩ = some (.slice none 0 0) := (BC.out.cell (p := ⟨a, 0, none⟩) hlt.1).trans hc
            refine wpOp_run (some 35) (.slice (some ⟨w.heap.size + 1, 0, none⟩) 1 1) (((w.alloc (.cells #[] 3)).alloc (.cells #[.int .i64 v] 3)).drew) rfl rfl (by rfl) (by go_simp) ⟨fun _ => hSC, ?_⟩
            simp only [Act.put, List.setIfInBounds_toArray, List.set_cons_zero, List.set_cons_succ]
            refine wpG.one 8 (by kernel_rfl) ?_
            refine wpOp_app (some 33) rfl rfl (by rfl) (.tmp 26) (.tmp 32) 22 rfl Try.underlying22 _ _ 0 _ _ [] _ _ rfl rfl rfl HTK.out FC.out (HAT.out _ BC.out) (by omega) ?_
            intro b1 cap1 w1 R1 G1 h1
            rw [Nat.zero_add]
            rw [List.nil_append] at R1
            have L1 := LC.out.grown G1 (by omega)
            have B1 : Below w.heap.size w w1 := BC.out.grown G1 BC.out.size (fun j hj => by cases hj; omega)
            have hb1 : w.heap.size ≤ b1 := by rcases h1 with h | h <;> (have := BC.out.size; omega)
            have hs1 := B1.size
            have hca1 : w1.cell? ⟨a, 0, none⟩ = some (.slice none 0 0) := (B1.cell (p := ⟨a, 0, none⟩) hlt.1).trans hc
            refine ⟨fun _ => hca1, ?_⟩
            simp only [Act.put, List.setIfInBounds_toArray, List.set_cons_zero, List.set_cons_succ]
            refine wpG.one 11 (by kernel_rfl) ?_
            refine wpOp_app (some 36) rfl rfl (by rfl) (.tmp 33) (.tmp 35) 22 rfl Try.underlying22 _ _ _ 1 _ _ [v] _ rfl rfl HTK.out rfl (R1) (Lit.arg L1) (by omega) ?_
            intro b2 cap2 w2 R2 G2 h2
            have B2 : Below w.heap.size w w2 := (B1).grown G2 (B1).size (fun j hj => by cases hj; omega)
            have hb2 : w.heap.size ≤ b2 := by rcases h2 with h | h <;> (have := (B1).size; omega)
            have hs2 := B2.size
            have hca2 : w2.cell? ⟨a, 0, none⟩ = some (.slice none 0 0) := (B2.cell (p := ⟨a, 0, none⟩) hlt.1).trans hc
            refine ⟨fun _ => hca2, ?_⟩
            simp only [Act.put, List.setIfInBounds_toArray, List.set_cons_zero, List.set_cons_succ]
            refine wpG.one 18 (by kernel_rfl) ?_
            refine wpOp_app (some 43) rfl rfl (by rfl) (.tmp 36) (.tmp 42) 22 rfl Try.underlying22 _ _ _ _ _ _ _ _ rfl rfl HT1.out HDK.out R2 (HAD.out _ B2 _ (by intro h; first | rfl | omega)) (by omega) ?_
            intro b3 cap3 w3 R3 G3 h3
            have B3 : Below w.heap.size w w3 := B2.grown G3 B2.size (fun j hj => by cases hj; omega)
            have hb3 : w.heap.size ≤ b3 := by rcases h3 with h | h <;> omega
            have hca3 : w3.cell? ⟨a, 0, none⟩ = some (.slice none 0 0) := (B3.cell (p := ⟨a, 0, none⟩) hlt.1).trans hc
            have hfa3 : w3.frozen? ⟨a, 0, none⟩ = false := (B3.frozen (p := ⟨a, 0, none⟩) hlt.1).trans hf
            refine ⟨fun _ => hca3, ?_⟩
            simp only [Act.put, List.setIfInBounds_toArray, List.set_cons_zero, List.set_cons_succ]
            refine wpG.one 19 (by kernel_rfl) ?_
            refine wpOp_run (some 44) (.pointer (some ⟨a, 0, none⟩)) (w3) rfl rfl (by rfl) (by go_simp) ⟨fun _ => hca3, ?_⟩
            simp only [Act.put, List.setIfInBounds_toArray, List.set_cons_zero, List.set_cons_succ]
            refine wpG.one 20 (by kernel_rfl) ?_
            refine wpOp_run (some 45) (.pointer (some ⟨a, 0, none⟩)) (w3) rfl rfl (by rfl) (by go_simp) ⟨fun _ => hca3, ?_⟩
            simp only [Act.put, List.setIfInBounds_toArray, List.set_cons_zero, List.set_cons_succ]
            refine wpG.one 21 (by kernel_rfl) ?_
            refine wpOp_wp rfl (by rfl) ?_
            go_simp
            refine wpG.done (by kernel_rfl) ?_ _
            refine NoPanic.normal ?_
            clear hca1 hca2 hca3 hfa3 h1 h2 h3
            go_wp2_with fail
            go_end0
            refine ⟨rfl, b3, ?_, (Only.of_below B3).then (Only.setA a a 0 _ _), hb3⟩
            rw [← HI.out] at R3
            have hfin := HR.out.names (B3.block a hlt.1) R3 (by omega)
            rw [HIL.out] at hfin
            exact hfin
        · have hSB : ((w.alloc (.cells #[.int .i64 v] 3)).drew).cell? ⟨a, 0, none⟩ = some (.slice none 0 0) := (((Below.refl w.heap.size w).alloc (Nat.le_refl _) (.cells #[.int .i64 v] 3)).drew.cell (p := ⟨a, 0, none⟩) hlt.1).trans hc
          refine wpOp_run (some 35) (.slice (some ⟨w.heap.size, 0, none⟩) 1 1) ((w.alloc (.cells #[.int .i64 v] 3)).drew) rfl rfl (by rfl) (by go_simp) ⟨fun _ => hSB, ?_⟩
          simp only [Act.put, List.setIfInBounds_toArray, List.set_cons_zero, List.set_cons_succ]
          refine wpG.one 1 (by kernel_rfl) ?_
          have hSD : (((w.alloc (.cells #[.int .i64 v] 3)).alloc (.cells #[] 3)).drew).cell? ⟨a, 0, none⟩ = some (.slice none 0 0) := (BB.out.cell (p := ⟨a, 0, none⟩) hlt.1).trans hc
          refine wpOp_run (some 26) (.slice (some ⟨w.heap.size + 1, 0, none⟩) 0 0) (((w.alloc (.cells #[.int .i64 v] 3)).alloc (.cells #[] 3)).drew) rfl rfl (by rfl) (by go_simp) ⟨fun _ => hSD, ?_⟩
          simp only [Act.put, List.setIfInBounds_toArray, List.set_cons_zero, List.set_cons_succ]
          refine wpG.one 8 (by kernel_rfl) ?_
          refine wpOp_app (some 33) rfl rfl (by rfl) (.tmp 26) (.tmp 32) 22 rfl Try.underlying22 _ _ 0 _ _ [] _ _ rfl rfl rfl HTK.out FB.out (HAT.out _ BB.out) (by omega) ?_
          intro b1 cap1 w1 R1 G1 h1
          rw [Nat.zero_add]
          rw [List.nil_append] at R1
          have L1 := LB.out.grown G1 (by omega)
          have B1 : Below w.heap.size w w1 := BB.out.grown G1 BB.out.size (fun j hj => by cases hj; omega)
          have hb1 : w.heap.size ≤ b1 := by rcases h1 with h | h <;> (have := BB.out.size; omega)
          have hs1 := B1.size
          have hca1 : w1.cell? ⟨a, 0, none⟩ = some (.slice none 0 0) := (B1.cell (p := ⟨a, 0, none⟩) hlt.1).trans hc
          refine ⟨fun _ => hca1, ?_⟩
          simp only [Act.put, List.setIfInBounds_toArray, List.set_cons_zero, List.set_cons_succ]
          refine wpG.one 11 (by kernel_rfl) ?_
          refine wpOp_app (some 36) rfl rfl (by rfl) (.tmp 33) (.tmp 35) 22 rfl Try.underlying22 _ _ _ 1 _ _ [v] _ rfl rfl HTK.out rfl (R1) (Lit.arg L1) (by omega) ?_
          intro b2 cap2 w2 R2 G2 h2
          have B2 : Below w.heap.size w w2 := (B1).grown G2 (B1).size (fun j hj => by cases hj; omega)
          have hb2 : w.heap.size ≤ b2 := by rcases h2 with h | h <;> (have := (B1).size; omega)
          have hs2 := B2.size
          have hca2 : w2.cell? ⟨a, 0, none⟩ = some (.slice none 0 0) := (B2.cell (p := ⟨a, 0, none⟩) hlt.1).trans hc
          refine ⟨fun _ => hca2, ?_⟩
          simp only [Act.put, List.setIfInBounds_toArray, List.set_cons_zero, List.set_cons_succ]
          refine wpG.one 18 (by kernel_rfl) ?_
          refine wpOp_app (some 43) rfl rfl (by rfl) (.tmp 36) (.tmp 42) 22 rfl Try.underlying22 _ _ _ _ _ _ _ _ rfl rfl HT1.out HDK.out R2 (HAD.out _ B2 _ (by intro h; first | rfl | omega)) (by omega) ?_
          intro b3 cap3 w3 R3 G3 h3
          have B3 : Below w.heap.size w w3 := B2.grown G3 B2.size (fun j hj => by cases hj; omega)
          have hb3 : w.heap.size ≤ b3 := by rcases h3 with h | h <;> omega
          have hca3 : w3.cell? ⟨a, 0, none⟩ = some (.slice none 0 0) := (B3.cell (p := ⟨a, 0, none⟩) hlt.1).trans hc
          have hfa3 : w3.frozen? ⟨a, 0, none⟩ = false := (B3.frozen (p := ⟨a, 0, none⟩) hlt.1).trans hf
          refine ⟨fun _ => hca3, ?_⟩
          simp only [Act.put, List.setIfInBounds_toArray, List.set_cons_zero, List.set_cons_succ]
          refine wpG.one 19 (by kernel_rfl) ?_
          refine wpOp_run (some 44) (.pointer (some ⟨a, 0, none⟩)) (w3) rfl rfl (by rfl) (by go_simp) ⟨fun _ => hca3, ?_⟩
          simp only [Act.put, List.setIfInBounds_toArray, List.set_cons_zero, List.set_cons_succ]
          refine wpG.one 20 (by kernel_rfl) ?_
          refine wpOp_run (some 45) (.pointer (some ⟨a, 0, none⟩)) (w3) rfl rfl (by rfl) (by go_simp) ⟨fun _ => hca3, ?_⟩
          simp only [Act.put, List.setIfInBounds_toArray, List.set_cons_zero, List.set_cons_succ]
          refine wpG.one 21 (by kernel_rfl) ?_
          refine wpOp_wp rfl (by rfl) ?_
          go_simp
          refine wpG.done (by kernel_rfl) ?_ _
          refine NoPanic.normal ?_
          clear hca1 hca2 hca3 hfa3 h1 h2 h3
          go_wp2_with fail
          go_end0
          refine ⟨rfl, b3, ?_, (Only.of_below B3).then (Only.setA a a 0 _ _), hb3⟩
          rw [← HI.out] at R3
          have hfin := HR.out.names (B3.block a hlt.1) R3 (by omega)
          rw [HIL.out] at hfin
          exact hfin
      · have i1 : (k : Int) ≤ (n : Int) := by omega
        have i2 : (n : Int) ≤ (cap : Int) := by omega
        have i3 : (k : Int) < (cap : Int) := by omega
        have i4 : (k : Int) ≤ (cap : Int) := by omega
        have i5 : ¬ cap = k := by omega
        rcases hout with ⟨hkn, hv⟩ | hkn
        · have hcx := hr.cell (i := k) (by rw [HN.out]; exact hkn)
          have hvb : decide (g S k ≤ v) = false := decide_eq_false (by omega)
          go_wp2_with fail
          refine wp_region_noPanic ?_
          refine wpG.region 21 (fun w' => w'.cell? ⟨a, 0, none⟩ = some (.slice (some ⟨b, 0, none⟩) n cap)) (by kernel_rfl) ?_
          have hS0 : w.drew.cell? ⟨a, 0, none⟩ = some (.slice (some ⟨b, 0, none⟩) n cap) := hc
          refine wpG.take (i := 0) (v := .pointer (some ⟨a, 0, none⟩)) (some 25) rfl (by kernel_rfl) (fun _ _ _ h => h) rfl (by rfl) hS0 (by intro w hSw; go_simp) ?_
          simp only [Act.put, List.setIfInBounds_toArray, List.set_cons_zero, List.set_cons_succ]
          refine wpG.take (i := 2) (v := .pointer (some ⟨a, 0, none⟩)) (some 27) rfl (by kernel_rfl) (fun _ _ _ h => h) rfl (by rfl) hS0 (by intro w hSw; go_simp) ?_
          simp only [Act.put, List.setIfInBounds_toArray, List.set_cons_zero, List.set_cons_succ]
          refine wpG.take (i := 3) (v := .pointer (some ⟨a, 0, none⟩)) (some 28) rfl (by kernel_rfl) (fun _ _ _ h => h) rfl (by rfl) hS0 (by intro w hSw; go_simp) ?_
          simp only [Act.put, List.setIfInBounds_toArray, List.set_cons_zero, List.set_cons_succ]
          refine wpG.take (i := 4) (v := .pointer (some ⟨a, 0, none⟩)) (some 29) rfl (by kernel_rfl) (fun _ _ _ h => h) rfl (by rfl) hS0 (by intro w hSw; go_simp) ?_
          simp only [Act.put, List.setIfInBounds_toArray, List.set_cons_zero, List.set_cons_succ]
          refine wpG.take (i := 5) (v := .slice (some ⟨b, 0, none⟩) n cap) (some 30) rfl (by kernel_rfl) (fun _ _ _ h => h) rfl (by rfl) hS0 (by intro w hSw; go_simp) ?_
          simp only [Act.put, List.setIfInBounds_toArray, List.set_cons_zero, List.set_cons_succ]
          refine wpG.take (i := 6) (v := .int .i64 (k : Int)) (some 31) rfl (by kernel_rfl) (fun _ _ _ h => h) rfl (by rfl) hS0 (by intro w hSw; go_simp) ?_
          simp only [Act.put, List.setIfInBounds_toArray, List.set_cons_zero, List.set_cons_succ]
          refine wpG.take (i := 7) (v := .slice (some ⟨b, 0, none⟩) k cap) (some 32) rfl (by kernel_rfl) (fun _ _ _ h => h) rfl (by rfl) hS0 (by intro w hSw; go_simp) ?_
          simp only [Act.put, List.setIfInBounds_toArray, List.set_cons_zero, List.set_cons_succ]
          refine wpG.take (i := 9) (v := .int .i64 v) (some 34) rfl (by kernel_rfl) (fun _ _ _ h => h) rfl (by rfl) hS0 (by intro w hSw; go_simp) ?_
          simp only [Act.put, List.setIfInBounds_toArray, List.set_cons_zero, List.set_cons_succ]
          refine wpG.take (i := 12) (v := .pointer (some ⟨a, 0, none⟩)) (some 37) rfl (by kernel_rfl) (fun _ _ _ h => h) rfl (by rfl) hS0 (by intro w hSw; go_simp) ?_
          simp only [Act.put, List.setIfInBounds_toArray, List.set_cons_zero, List.set_cons_succ]
          refine wpG.take (i := 13) (v := .pointer (some ⟨a, 0, none⟩)) (some 38) rfl (by kernel_rfl) (fun _ _ _ h => h) rfl (by rfl) hS0 (by intro w hSw; go_simp) ?_
          simp only [Act.put, List.setIfInBounds_toArray, List.set_cons_zero, List.set_cons_succ]
          refine wpG.take (i := 14) (v := .pointer (some ⟨a, 0, none⟩)) (some 39) rfl (by kernel_rfl) (fun _ _ _ h => h) rfl (by rfl) hS0 (by intro w hSw; go_simp) ?_
          simp only [Act.put, List.setIfInBounds_toArray, List.set_cons_zero, List.set_cons_succ]
          refine wpG.take (i := 15) (v := .slice (some ⟨b, 0, none⟩) n cap) (some 40) rfl (by kernel_rfl) (fun _ _ _ h => h) rfl (by rfl) hS0 (by intro w hSw; go_simp) ?_
          simp only [Act.put, List.setIfInBounds_toArray, List.set_cons_zero, List.set_cons_succ]
          refine wpG.take (i := 16) (v := .int .i64 (k : Int)) (some 41) rfl (by kernel_rfl) (fun _ _ _ h => h) rfl (by rfl) hS0 (by intro w hSw; go_simp) ?_
          simp only [Act.put, List.setIfInBounds_toArray, List.set_cons_zero, List.set_cons_succ]
          refine wpG.take (i := 17) (v := .slice (some ⟨b, k, none⟩) (n - k) (cap - k)) (some 42) rfl (by kernel_rfl) (fun _ _ _ h => h) rfl (by rfl) hS0 (by intro w hSw; go_simp) ?_
          simp only [Act.put, List.setIfInBounds_toArray, List.set_cons_zero, List.set_cons_succ]
          refine wpG.two 1 10 (by kernel_rfl) ?_ ?_
          · have hSA : ((w.alloc (.cells #[] 3)).drew).cell? ⟨a, 0, none⟩ = some (.slice (some ⟨b, 0, none⟩) n cap) := (BA.out.cell (p := ⟨a, 0, none⟩) hlt.1).trans hc
            refine wpOp_run (some 26) (.slice (some ⟨w.heap.size, 0, none⟩) 0 0) ((w.alloc (.cells #[] 3)).drew) rfl rfl (by rfl) (by go_simp) ⟨fun _ => hSA, ?_⟩
            simp only [Act.put, List.setIfInBounds_toArray, List.set_cons_zero, List.set_cons_succ]
            refine wpG.two 8 10 (by kernel_rfl) ?_ ?_
            · skip
              refine wpOp_app (some 33) rfl rfl (by rfl) (.tmp 26) (.tmp 32) 22 rfl Try.underlying22 _ _ 0 _ _ [] _ _ rfl rfl rfl HTK.out FA.out (HAT.out _ BA.out) (by omega) ?_
              intro b1 cap1 w1 R1 G1 h1
              rw [Nat.zero_add]
              rw [List.nil_append] at R1
              have B1 : Below w.heap.size w w1 := BA.out.grown G1 BA.out.size (fun j hj => by cases hj; omega)
              have hb1 : w.heap.size ≤ b1 := by rcases h1 with h | h <;> (have := BA.out.size; omega)
              have hs1 := B1.size
              have hca1 : w1.cell? ⟨a, 0, none⟩ = some (.slice (some ⟨b, 0, none⟩) n cap) := (B1.cell (p := ⟨a, 0, none⟩) hlt.1).trans hc
              refine ⟨fun _ => hca1, ?_⟩
              simp only [Act.put, List.setIfInBounds_toArray, List.set_cons_zero, List.set_cons_succ]
              refine wpG.one 10 (by kernel_rfl) ?_
              have hSL : (w1.alloc (.cells #[.int .i64 v] 3)).cell? ⟨a, 0, none⟩ = some (.slice (some ⟨b, 0, none⟩) n cap) := ((B1.alloc B1.size _).cell (p := ⟨a, 0, none⟩) hlt.1).trans hc
              refine wpOp_run (some 35) (.slice (some ⟨w1.heap.size, 0, none⟩) 1 1) (w1.alloc (.cells #[.int .i64 v] 3)) rfl rfl (by rfl) (by go_simp) ⟨fun _ => hSL, ?_⟩
              simp only [Act.put, List.setIfInBounds_toArray, List.set_cons_zero, List.set_cons_succ]
              refine wpG.one 11 (by kernel_rfl) ?_
              refine wpOp_app (some 36) rfl rfl (by rfl) (.tmp 33) (.tmp 35) 22 rfl Try.underlying22 _ _ _ 1 _ _ [v] _ rfl rfl HTK.out rfl (R1.of (heap_alloc_old _ _ R1.lt)) ((lit_new w1 v).arg) (by omega) ?_
              intro b2 cap2 w2 R2 G2 h2
              have B2 : Below w.heap.size w w2 := (B1.alloc B1.size (.cells #[.int .i64 v] 3)).grown G2 (B1.alloc B1.size (.cells #[.int .i64 v] 3)).size (fun j hj => by cases hj; omega)
              have hb2 : w.heap.size ≤ b2 := by rcases h2 with h | h <;> (have := (B1.alloc B1.size (.cells #[.int .i64 v] 3)).size; omega)
              have hs2 := B2.size
              have hca2 : w2.cell? ⟨a, 0, none⟩ = some (.slice (some ⟨b, 0, none⟩) n cap) := (B2.cell (p := ⟨a, 0, none⟩) hlt.1).trans hc
              refine ⟨fun _ => hca2, ?_⟩
              simp only [Act.put, List.setIfInBounds_toArray, List.set_cons_zero, List.set_cons_succ]
              refine wpG.one 18 (by kernel_rfl) ?_
              refine wpOp_app (some 43) rfl rfl (by rfl) (.tmp 36) (.tmp 42) 22 rfl Try.underlying22 _ _ _ _ _ _ _ _ rfl rfl HT1.out HDK.out R2 (HAD.out _ B2 _ (by intro h; first | rfl | omega)) (by omega) ?_
              intro b3 cap3 w3 R3 G3 h3
              have B3 : Below w.heap.size w w3 := B2.grown G3 B2.size (fun j hj => by cases hj; omega)
              have hb3 : w.heap.size ≤ b3 := by rcases h3 with h | h <;> omega
              have hca3 : w3.cell? ⟨a, 0, none⟩ = some (.slice (some ⟨b, 0, none⟩) n cap) := (B3.cell (p := ⟨a, 0, none⟩) hlt.1).trans hc
              have hfa3 : w3.frozen? ⟨a, 0, none⟩ = false := (B3.frozen (p := ⟨a, 0, none⟩) hlt.1).trans hf
              refine ⟨fun _ => hca3, ?_⟩
              simp only [Act.put, List.setIfInBounds_toArray, List.set_cons_zero, List.set_cons_succ]
              refine wpG.one 19 (by kernel_rfl) ?_
              refine wpOp_run (some 44) (.pointer (some ⟨a, 0, none⟩)) (w3) rfl rfl (by rfl) (by go_simp) ⟨fun _ => hca3, ?_⟩
              simp only [Act.put, List.setIfInBounds_toArray, List.set_cons_zero, List.set_cons_succ]
              refine wpG.one 20 (by kernel_rfl) ?_
              refine wpOp_run (some 45) (.pointer (some ⟨a, 0, none⟩)) (w3) rfl rfl (by rfl) (by go_simp) ⟨fun _ => hca3, ?_⟩
              simp only [Act.put, List.setIfInBounds_toArray, List.set_cons_zero, List.set_cons_succ]
              refine wpG.one 21 (by kernel_rfl) ?_
              refine wpOp_wp rfl (by rfl) ?_
              go_simp
              refine wpG.done (by kernel_rfl) ?_ _
              refine NoPanic.normal ?_
              clear hca1 hca2 hca3 hfa3 h1 h2 h3
              go_wp2_with fail
              go_end0
              refine ⟨rfl, b3, ?_, (Only.of_below B3).then (Only.setA a a 0 _ _), hb3⟩
              rw [← HI.out] at R3
              have hfin := HR.out.names (B3.block a hlt.1) R3 (by omega)
              rw [HIL.out] at hfin
              exact hfin
            · have hSC : (((w.alloc (.cells #[] 3)).alloc (.cells #[.int .i64 v] 3)).drew).cell? ⟨a, 0, none⟩ = some (.slice (some ⟨b, 0, none⟩) n cap) := (BC.out.cell (p := ⟨a, 0, none⟩) hlt.1).trans hc
              refine wpOp_run (some 35) (.slice (some ⟨w.heap.size + 1, 0, none⟩) 1 1) (((w.alloc (.cells #[] 3)).alloc (.cells #[.int .i64 v] 3)).drew) rfl rfl (by rfl) (by go_simp) ⟨fun _ => hSC, ?_⟩
              simp only [Act.put, List.setIfInBounds_toArray, List.set_cons_zero, List.set_cons_succ]
              refine wpG.one 8 (by kernel_rfl) ?_
              refine wpOp_app (some 33) rfl rfl (by rfl) (.tmp 26) (.tmp 32) 22 rfl Try.underlying22 _ _ 0 _ _ [] _ _ rfl rfl rfl HTK.out FC.out (HAT.out _ BC.out) (by omega) ?_
              intro b1 cap1 w1 R1 G1 h1
              rw [Nat.zero_add]
              rw [List.nil_append] at R1
              have L1 := LC.out.grown G1 (by omega)
              have B1 : Below w.heap.size w w1 := BC.out.grown G1 BC.out.size (fun j hj => by cases hj; omega)
              have hb1 : w.heap.size ≤ b1 := by rcases h1 with h | h <;> (have := BC.out.size; omega)
              have hs1 := B1.size
              have hca1 : w1.cell? ⟨a, 0, none⟩ = some (.slice (some ⟨b, 0, none⟩) n cap) := (B1.cell (p := ⟨a, 0, none⟩) hlt.1).trans hc
              refine ⟨fun _ => hca1, ?_⟩
              simp only [Act.put, List.setIfInBounds_toArray, List.set_cons_zero, List.set_cons_succ]
              refine wpG.one 11 (by kernel_rfl) ?_
              refine wpOp_app (some 36) rfl rfl (by rfl) (.tmp 33) (.tmp 35) 22 rfl Try.underlying22 _ _ _ 1 _ _ [v] _ rfl rfl HTK.out rfl (R1) (Lit.arg L1) (by omega) ?_
              intro b2 cap2 w2 R2 G2 h2
              have B2 : Below w.heap.size w w2 := (B1).grown G2 (B1).size (fun j hj => by cases hj; omega)
              have hb2 : w.heap.size ≤ b2 := by rcases h2 with h | h <;> (have := (B1).size; omega)
              have hs2 := B2.size
              have hca2 : w2.cell? ⟨a, 0, none⟩ = some (.slice (some ⟨b, 0, none⟩) n cap) := (B2.cell (p := ⟨a, 0, none⟩) hlt.1).trans hc
              refine ⟨fun _ => hca2, ?_⟩
              simp only [Act.put, List.setIfInBounds_toArray, List.set_cons_zero, List.set_cons_succ]
              refine wpG.one 18 (by kernel_rfl) ?_
              refine wpOp_app (some 43) rfl rfl (by rfl) (.tmp 36) (.tmp 42) 22 rfl Try.underlying22 _ _ _ _ _ _ _ _ rfl rfl HT1.out HDK.out R2 (HAD.out _ B2 _ (by intro h; first | rfl | omega)) (by omega) ?_
              intro b3 cap3 w3 R3 G3 h3
              have B3 : Below w.heap.size w w3 := B2.grown G3 B2.size (fun j hj => by cases hj; omega)
              have hb3 : w.heap.size ≤ b3 := by rcases h3 with h | h <;> omega
              have hca3 : w3.cell? ⟨a, 0, none⟩ = some (.slice (some ⟨b, 0, none⟩) n cap) := (B3.cell (p := ⟨a, 0, none⟩) hlt.1).trans hc
              have hfa3 : w3.frozen? ⟨a, 0, none⟩ = false := (B3.frozen (p := ⟨a, 0, none⟩) hlt.1).trans hf
              refine ⟨fun _ => hca3, ?_⟩
              simp only [Act.put, List.setIfInBounds_toArray, List.set_cons_zero, List.set_cons_succ]
              refine wpG.one 19 (by kernel_rfl) ?_
              refine wpOp_run (some 44) (.pointer (some ⟨a, 0, none⟩)) (w3) rfl rfl (by rfl) (by go_simp) ⟨fun _ => hca3, ?_⟩
              simp only [Act.put, List.setIfInBounds_toArray, List.set_cons_zero, List.set_cons_succ]
              refine wpG.one 20 (by kernel_rfl) ?_
              refine wpOp_run (some 45) (.pointer (some ⟨a, 0, none⟩)) (w3) rfl rfl (by rfl) (by go_simp) ⟨fun _ => hca3, ?_⟩
              simp only [Act.put, List.setIfInBounds_toArray, List.set_cons_zero, List.set_cons_succ]
              refine wpG.one 21 (by kernel_rfl) ?_
              refine wpOp_wp rfl (by rfl) ?_
              go_simp
              refine wpG.done (by kernel_rfl) ?_ _
              refine NoPanic.normal ?_
              clear hca1 hca2 hca3 hfa3 h1 h2 h3
              go_wp2_with fail
              go_end0
              refine ⟨rfl, b3, ?_, (Only.of_below B3).then (Only.setA a a 0 _ _), hb3⟩
              rw [← HI.out] at R3
              have hfin := HR.out.names (B3.block a hlt.1) R3 (by omega)
              rw [HIL.out] at hfin
              exact hfin
          · have hSB : ((w.alloc (.cells #[.int .i64 v] 3)).drew).cell? ⟨a, 0, none⟩ = some (.slice (some ⟨b, 0, none⟩) n cap) := (((Below.refl w.heap.size w).alloc (Nat.le_refl _) (.cells #[.int .i64 v] 3)).drew.cell (p := ⟨a, 0, none⟩) hlt.1).trans hc
            refine wpOp_run (some 35) (.slice (some ⟨w.heap.size, 0, none⟩) 1 1) ((w.alloc (.cells #[.int .i64 v] 3)).drew) rfl rfl (by rfl) (by go_simp) ⟨fun _ => hSB, ?_⟩
            simp only [Act.put, List.setIfInBounds_toArray, List.set_cons_zero, List.set_cons_succ]
            refine wpG.one 1 (by kernel_rfl) ?_
            have hSD : (((w.alloc (.cells #[.int .i64 v] 3)).alloc (.cells #[] 3)).drew).cell? ⟨a, 0, none⟩ = some (.slice (some ⟨b, 0, none⟩) n cap) := (BB.out.cell (p := ⟨a, 0, none⟩) hlt.1).trans hc
            refine wpOp_run (some 26) (.slice (some ⟨w.heap.size + 1, 0, none⟩) 0 0) (((w.alloc (.cells #[.int .i64 v] 3)).alloc (.cells #[] 3)).drew) rfl rfl (by rfl) (by go_simp) ⟨fun _ => hSD, ?_⟩
            simp only [Act.put, List.setIfInBounds_toArray, List.set_cons_zero, List.set_cons_succ]
            refine wpG.one 8 (by kernel_rfl) ?_
            refine wpOp_app (some 33) rfl rfl (by rfl) (.tmp 26) (.tmp 32) 22 rfl Try.underlying22 _ _ 0 _ _ [] _ _ rfl rfl rfl HTK.out FB.out (HAT.out _ BB.out) (by omega) ?_
            intro b1 cap1 w1 R1 G1 h1
            rw [Nat.zero_add]
            rw [List.nil_append] at R1
            have L1 := LB.out.grown G1 (by omega)
            have B1 : Below w.heap.size w w1 := BB.out.grown G1 BB.out.size (fun j hj => by cases hj; omega)
            have hb1 : w.heap.size ≤ b1 := by rcases h1 with h | h <;> (have := BB.out.size; omega)
            have hs1 := B1.size
            have hca1 : w1.cell? ⟨a, 0, none⟩ = some (.slice (some ⟨b, 0, none⟩) n cap) := (B1.cell (p := ⟨a, 0, none⟩) hlt.1).trans hc
            refine ⟨fun _ => hca1, ?_⟩
            simp only [Act.put, List.setIfInBounds_toArray, List.set_cons_zero, List.set_cons_succ]
            refine wpG.one 11 (by kernel_rfl) ?_
            refine wpOp_app (some 36) rfl rfl (by rfl) (.tmp 33) (.tmp 35) 22 rfl Try.underlying22 _ _ _ 1 _ _ [v] _ rfl rfl HTK.out rfl (R1) (Lit.arg L1) (by omega) ?_
            intro b2 cap2 w2 R2 G2 h2
            have B2 : Below w.heap.size w w2 := (B1).grown G2 (B1).size (fun j hj => by cases hj; omega)
            have hb2 : w.heap.size ≤ b2 := by rcases h2 with h | h <;> (have := (B1).size; omega)
            have hs2 := B2.size
            have hca2 : w2.cell? ⟨a, 0, none⟩ = some (.slice (some ⟨b, 0, none⟩) n cap) := (B2.cell (p := ⟨a, 0, none⟩) hlt.1).trans hc
            refine ⟨fun _ => hca2, ?_⟩
            simp only [Act.put, List.setIfInBounds_toArray, List.set_cons_zero, List.set_cons_succ]
            refine wpG.one 18 (by kernel_rfl) ?_
            refine wpOp_app (some 43) rfl rfl (by rfl) (.tmp 36) (.tmp 42) 22 rfl Try.underlying22 _ _ _ _ _ _ _ _ rfl rfl HT1.out HDK.out R2 (HAD.out _ B2 _ (by intro h; first | rfl | omega)) (by omega) ?_
            intro b3 cap3 w3 R3 G3 h3
            have B3 : Below w.heap.size w w3 := B2.grown G3 B2.size (fun j hj => by cases hj; omega)
            have hb3 : w.heap.size ≤ b3 := by rcases h3 with h | h <;> omega
            have hca3 : w3.cell? ⟨a, 0, none⟩ = some (.slice (some ⟨b, 0, none⟩) n cap) := (B3.cell (p := ⟨a, 0, none⟩) hlt.1).trans hc
            have hfa3 : w3.frozen? ⟨a, 0, none⟩ = false := (B3.frozen (p := ⟨a, 0, none⟩) hlt.1).trans hf
            refine ⟨fun _ => hca3, ?_⟩
            simp only [Act.put, List.setIfInBounds_toArray, List.set_cons_zero, List.set_cons_succ]
            refine wpG.one 19 (by kernel_rfl) ?_
            refine wpOp_run (some 44) (.pointer (some ⟨a, 0, none⟩)) (w3) rfl rfl (by rfl) (by go_simp) ⟨fun _ => hca3, ?_⟩
            simp only [Act.put, List.setIfInBounds_toArray, List.set_cons_zero, List.set_cons_succ]
            refine wpG.one 20 (by kernel_rfl) ?_
            refine wpOp_run (some 45) (.pointer (some ⟨a, 0, none⟩)) (w3) rfl rfl (by rfl) (by go_simp) ⟨fun _ => hca3, ?_⟩
            simp only [Act.put, List.setIfInBounds_toArray, List.set_cons_zero, List.set_cons_succ]
            refine wpG.one 21 (by kernel_rfl) ?_
            refine wpOp_wp rfl (by rfl) ?_
            go_simp
            refine wpG.done (by kernel_rfl) ?_ _
            refine NoPanic.normal ?_
            clear hca1 hca2 hca3 hfa3 h1 h2 h3
            go_wp2_with fail
            go_end0
            refine ⟨rfl, b3, ?_, (Only.of_below B3).then (Only.setA a a 0 _ _), hb3⟩
            rw [← HI.out] at R3
            have hfin := HR.out.names (B3.block a hlt.1) R3 (by omega)
            rw [HIL.out] at hfin
            exact hfin
        · have i6 : ¬ (k : Int) < (n : Int) := by omega
          clear hkn
          go_wp2_with fail
          refine wp_region_noPanic ?_
          refine wpG.region 21 (fun w' => w'.cell? ⟨a, 0, none⟩ = some (.slice (some ⟨b, 0, none⟩) n cap)) (by kernel_rfl) ?_
          have hS0 : w.drew.cell? ⟨a, 0, none⟩ = some (.slice (some ⟨b, 0, none⟩) n cap) := hc
          refine wpG.take (i := 0) (v := .pointer (some ⟨a, 0, none⟩)) (some 25) rfl (by kernel_rfl) (fun _ _ _ h => h) rfl (by rfl) hS0 (by intro w hSw; go_simp) ?_
          simp only [Act.put, List.setIfInBounds_toArray, List.set_cons_zero, List.set_cons_succ]
          refine wpG.take (i := 2) (v := .pointer (some ⟨a, 0, none⟩)) (some 27) rfl (by kernel_rfl) (fun _ _ _ h => h) rfl (by rfl) hS0 (by intro w hSw; go_simp) ?_
          simp only [Act.put, List.setIfInBounds_toArray, List.set_cons_zero, List.set_cons_succ]
          refine wpG.take (i := 3) (v := .pointer (some ⟨a, 0, none⟩)) (some 28) rfl (by kernel_rfl) (fun _ _ _ h => h) rfl (by rfl) hS0 (by intro w hSw; go_simp) ?_
          simp only [Act.put, List.setIfInBounds_toArray, List.set_cons_zero, List.set_cons_succ]
          refine wpG.take (i := 4) (v := .pointer (some ⟨a, 0, none⟩)) (some 29) rfl (by kernel_rfl) (fun _ _ _ h => h) rfl (by rfl) hS0 (by intro w hSw; go_simp) ?_
          simp only [Act.put, List.setIfInBounds_toArray, List.set_cons_zero, List.set_cons_succ]
          refine wpG.take (i := 5) (v := .slice (some ⟨b, 0, none⟩) n cap) (some 30) rfl (by kernel_rfl) (fun _ _ _ h => h) rfl (by rfl) hS0 (by intro w hSw; go_simp) ?_
          simp only [Act.put, List.setIfInBounds_toArray, List.set_cons_zero, List.set_cons_succ]
          refine wpG.take (i := 6) (v := .int .i64 (k : Int)) (some 31) rfl (by kernel_rfl) (fun _ _ _ h => h) rfl (by rfl) hS0 (by intro w hSw; go_simp) ?_
          simp only [Act.put, List.setIfInBounds_toArray, List.set_cons_zero, List.set_cons_succ]
          refine wpG.take (i := 7) (v := .slice (some ⟨b, 0, none⟩) k cap) (some 32) rfl (by kernel_rfl) (fun _ _ _ h => h) rfl (by rfl) hS0 (by intro w hSw; go_simp) ?_
          simp only [Act.put, List.setIfInBounds_toArray, List.set_cons_zero, List.set_cons_succ]
          refine wpG.take (i := 9) (v := .int .i64 v) (some 34) rfl (by kernel_rfl) (fun _ _ _ h => h) rfl (by rfl) hS0 (by intro w hSw; go_simp) ?_
          simp only [Act.put, List.setIfInBounds_toArray, List.set_cons_zero, List.set_cons_succ]
          refine wpG.take (i := 12) (v := .pointer (some ⟨a, 0, none⟩)) (some 37) rfl (by kernel_rfl) (fun _ _ _ h => h) rfl (by rfl) hS0 (by intro w hSw; go_simp) ?_
          simp only [Act.put, List.setIfInBounds_toArray, List.set_cons_zero, List.set_cons_succ]
          refine wpG.take (i := 13) (v := .pointer (some ⟨a, 0, none⟩)) (some 38) rfl (by kernel_rfl) (fun _ _ _ h => h) rfl (by rfl) hS0 (by intro w hSw; go_simp) ?_
          simp only [Act.put, List.setIfInBounds_toArray, List.set_cons_zero, List.set_cons_succ]
          refine wpG.take (i := 14) (v := .pointer (some ⟨a, 0, none⟩)) (some 39) rfl (by kernel_rfl) (fun _ _ _ h => h) rfl (by rfl) hS0 (by intro w hSw; go_simp) ?_
          simp only [Act.put, List.setIfInBounds_toArray, List.set_cons_zero, List.set_cons_succ]
          refine wpG.take (i := 15) (v := .slice (some ⟨b, 0, none⟩) n cap) (some 40) rfl (by kernel_rfl) (fun _ _ _ h => h) rfl (by rfl) hS0 (by intro w hSw; go_simp) ?_
          simp only [Act.put, List.setIfInBounds_toArray, List.set_cons_zero, List.set_cons_succ]
          refine wpG.take (i := 16) (v := .int .i64 (k : Int)) (some 41) rfl (by kernel_rfl) (fun _ _ _ h => h) rfl (by rfl) hS0 (by intro w hSw; go_simp) ?_
          simp only [Act.put, List.setIfInBounds_toArray, List.set_cons_zero, List.set_cons_succ]
          refine wpG.take (i := 17) (v := .slice (some ⟨b, k, none⟩) (n - k) (cap - k)) (some 42) rfl (by kernel_rfl) (fun _ _ _ h => h) rfl (by rfl) hS0 (by intro w hSw; go_simp) ?_
          simp only [Act.put, List.setIfInBounds_toArray, List.set_cons_zero, List.set_cons_succ]
          refine wpG.two 1 10 (by kernel_rfl) ?_ ?_
          · have hSA : ((w.alloc (.cells #[] 3)).drew).cell? ⟨a, 0, none⟩ = some (.slice (some ⟨b, 0, none⟩) n cap) := (BA.out.cell (p := ⟨a, 0, none⟩) hlt.1).trans hc
            refine wpOp_run (some 26) (.slice (some ⟨w.heap.size, 0, none⟩) 0 0) ((w.alloc (.cells #[] 3)).drew) rfl rfl (by rfl) (by go_simp) ⟨fun _ => hSA, ?_⟩
            simp only [Act.put, List.setIfInBounds_toArray, List.set_cons_zero, List.set_cons_succ]
            refine wpG.two 8 10 (by kernel_rfl) ?_ ?_
            · skip
              refine wpOp_app (some 33) rfl rfl (by rfl) (.tmp 26) (.tmp 32) 22 rfl Try.underlying22 _ _ 0 _ _ [] _ _ rfl rfl rfl HTK.out FA.out (HAT.out _ BA.out) (by omega) ?_
              intro b1 cap1 w1 R1 G1 h1
              rw [Nat.zero_add]
              rw [List.nil_append] at R1
              have B1 : Below w.heap.size w w1 := BA.out.grown G1 BA.out.size (fun j hj => by cases hj; omega)
              have hb1 : w.heap.size ≤ b1 := by rcases h1 with h | h <;> (have := BA.out.size; omega)
              have hs1 := B1.size
              have hca1 : w1.cell? ⟨a, 0, none⟩ = some (.slice (some ⟨b, 0, none⟩) n cap) := (B1.cell (p := ⟨a, 0, none⟩) hlt.1).trans hc
              refine ⟨fun _ => hca1, ?_⟩
              simp only [Act.put, List.setIfInBounds_toArray, List.set_cons_zero, List.set_cons_succ]
              refine wpG.one 10 (by kernel_rfl) ?_
              have hSL : (w1.alloc (.cells #[.int .i64 v] 3)).cell? ⟨a, 0, none⟩ = some (.slice (some ⟨b, 0, none⟩) n cap) := ((B1.alloc B1.size _).cell (p := ⟨a, 0, none⟩) hlt.1).trans hc
              refine wpOp_run (some 35) (.slice (some ⟨w1.heap.size, 0, none⟩) 1 1) (w1.alloc (.cells #[.int .i64 v] 3)) rfl rfl (by rfl) (by go_simp) ⟨fun _ => hSL, ?_⟩
              simp only [Act.put, List.setIfInBounds_toArray, List.set_cons_zero, List.set_cons_succ]
              refine wpG.one 11 (by kernel_rfl) ?_
              refine wpOp_app (some 36) rfl rfl (by rfl) (.tmp 33) (.tmp 35) 22 rfl Try.underlying22 _ _ _ 1 _ _ [v] _ rfl rfl HTK.out rfl (R1.of (heap_alloc_old _ _ R1.lt)) ((lit_new w1 v).arg) (by omega) ?_
              intro b2 cap2 w2 R2 G2 h2
              have B2 : Below w.heap.size w w2 := (B1.alloc B1.size (.cells #[.int .i64 v] 3)).grown G2 (B1.alloc B1.size (.cells #[.int .i64 v] 3)).size (fun j hj => by cases hj; omega)
              have hb2 : w.heap.size ≤ b2 := by rcases h2 with h | h <;> (have := (B1.alloc B1.size (.cells #[.int .i64 v] 3)).size; omega)
              have hs2 := B2.size
              have hca2 : w2.cell? ⟨a, 0, none⟩ = some (.slice (some ⟨b, 0, none⟩) n cap) := (B2.cell (p := ⟨a, 0, none⟩) hlt.1).trans hc
              refine ⟨fun _ => hca2, ?_⟩
              simp only [Act.put, List.setIfInBounds_toArray, List.set_cons_zero, List.set_cons_succ]
              refine wpG.one 18 (by kernel_rfl) ?_
              refine wpOp_app (some 43) rfl rfl (by rfl) (.tmp 36) (.tmp 42) 22 rfl Try.underlying22 _ _ _ _ _ _ _ _ rfl rfl HT1.out HDK.out R2 (HAD.out _ B2 _ (by intro h; first | rfl | omega)) (by omega) ?_
              intro b3 cap3 w3 R3 G3 h3
              have B3 : Below w.heap.size w w3 := B2.grown G3 B2.size (fun j hj => by cases hj; omega)
              have hb3 : w.heap.size ≤ b3 := by rcases h3 with h | h <;> omega
              have hca3 : w3.cell? ⟨a, 0, none⟩ = some (.slice (some ⟨b, 0, none⟩) n cap) := (B3.cell (p := ⟨a, 0, none⟩) hlt.1).trans hc
              have hfa3 : w3.frozen? ⟨a, 0, none⟩ = false := (B3.frozen (p := ⟨a, 0, none⟩) hlt.1).trans hf
              refine ⟨fun _ => hca3, ?_⟩
              simp only [Act.put, List.setIfInBounds_toArray, List.set_cons_zero, List.set_cons_succ]
              refine wpG.one 19 (by kernel_rfl) ?_
              refine wpOp_run (some 44) (.pointer (some ⟨a, 0, none⟩)) (w3) rfl rfl (by rfl) (by go_simp) ⟨fun _ => hca3, ?_⟩
              simp only [Act.put, List.setIfInBounds_toArray, List.set_cons_zero, List.set_cons_succ]
              refine wpG.one 20 (by kernel_rfl) ?_
              refine wpOp_run (some 45) (.pointer (some ⟨a, 0, none⟩)) (w3) rfl rfl (by rfl) (by go_simp) ⟨fun _ => hca3, ?_⟩
              simp only [Act.put, List.setIfInBounds_toArray, List.set_cons_zero, List.set_cons_succ]
              refine wpG.one 21 (by kernel_rfl) ?_
              refine wpOp_wp rfl (by rfl) ?_
              go_simp
              refine wpG.done (by kernel_rfl) ?_ _
              refine NoPanic.normal ?_
              clear hca1 hca2 hca3 hfa3 h1 h2 h3
              go_wp2_with fail
              go_end0
              refine ⟨rfl, b3, ?_, (Only.of_below B3).then (Only.setA a a 0 _ _), hb3⟩
              rw [← HI.out] at R3
              have hfin := HR.out.names (B3.block a hlt.1) R3 (by omega)
              rw [HIL.out] at hfin
              exact hfin
            · have hSC : (((w.alloc (.cells #[] 3)).alloc (.cells #[.int .i64 v] 3)).drew).cell? ⟨a, 0, none⟩ = some (.slice (some ⟨b, 0, none⟩) n cap) := (BC.out.cell (p := ⟨a, 0, none⟩) hlt.1).trans hc
              refine wpOp_run (some 35) (.slice (some ⟨w.heap.size + 1, 0, none⟩) 1 1) (((w.alloc (.cells #[] 3)).alloc (.cells #[.int .i64 v] 3)).drew) rfl rfl (by rfl) (by go_simp) ⟨fun _ => hSC, ?_⟩
              simp only [Act.put, List.setIfInBounds_toArray, List.set_cons_zero, List.set_cons_succ]
              refine wpG.one 8 (by kernel_rfl) ?_
              refine wpOp_app (some 33) rfl rfl (by rfl) (.tmp 26) (.tmp 32) 22 rfl Try.underlying22 _ _ 0 _ _ [] _ _ rfl rfl rfl HTK.out FC.out (HAT.out _ BC.out) (by omega) ?_
              intro b1 cap1 w1 R1 G1 h1
              rw [Nat.zero_add]
              rw [List.nil_append] at R1
              have L1 := LC.out.grown G1 (by omega)
              have B1 : Below w.heap.size w w1 := BC.out.grown G1 BC.out.size (fun j hj => by cases hj; omega)
              have hb1 : w.heap.size ≤ b1 := by rcases h1 with h | h <;> (have := BC.out.size; omega)
              have hs1 := B1.size
              have hca1 : w1.cell? ⟨a, 0, none⟩ = some (.slice (some ⟨b, 0, none⟩) n cap) := (B1.cell (p := ⟨a, 0, none⟩) hlt.1).trans hc
              refine ⟨fun _ => hca1, ?_⟩
              simp only [Act.put, List.setIfInBounds_toArray, List.set_cons_zero, List.set_cons_succ]
              refine wpG.one 11 (by kernel_rfl) ?_
              refine wpOp_app (some 36) rfl rfl (by rfl) (.tmp 33) (.tmp 35) 22 rfl Try.underlying22 _ _ _ 1 _ _ [v] _ rfl rfl HTK.out rfl (R1) (Lit.arg L1) (by omega) ?_
              intro b2 cap2 w2 R2 G2 h2
              have B2 : Below w.heap.size w w2 := (B1).grown G2 (B1).size (fun j hj => by cases hj; omega)
              have hb2 : w.heap.size ≤ b2 := by rcases h2 with h | h <;> (have := (B1).size; omega)
              have hs2 := B2.size
              have hca2 : w2.cell? ⟨a, 0, none⟩ = some (.slice (some ⟨b, 0, none⟩) n cap) := (B2.cell (p := ⟨a, 0, none⟩) hlt.1).trans hc
              refine ⟨fun _ => hca2, ?_⟩
              simp only [Act.put, List.setIfInBounds_toArray, List.set_cons_zero, List.set_cons_succ]
              refine wpG.one 18 (by kernel_rfl) ?_
              refine wpOp_app (some 43) rfl rfl (by rfl) (.tmp 36) (.tmp 42) 22 rfl Try.underlying22 _ _ _ _ _ _ _ _ rfl rfl HT1.out HDK.out R2 (HAD.out _ B2 _ (by intro h; first | rfl | omega)) (by omega) ?_
              intro b3 cap3 w3 R3 G3 h3
              have B3 : Below w.heap.size w w3 := B2.grown G3 B2.size (fun j hj => by cases hj; omega)
              have hb3 : w.heap.size ≤ b3 := by rcases h3 with h | h <;> omega
              have hca3 : w3.cell? ⟨a, 0, none⟩ = some (.slice (some ⟨b, 0, none⟩) n cap) := (B3.cell (p := ⟨a, 0, none⟩) hlt.1).trans hc
              have hfa3 : w3.frozen? ⟨a, 0, none⟩ = false := (B3.frozen (p := ⟨a, 0, none⟩) hlt.1).trans hf
              refine ⟨fun _ => hca3, ?_⟩
              simp only [Act.put, List.setIfInBounds_toArray, List.set_cons_zero, List.set_cons_succ]
              refine wpG.one 19 (by kernel_rfl) ?_
              refine wpOp_run (some 44) (.pointer (some ⟨a, 0, none⟩)) (w3) rfl rfl (by rfl) (by go_simp) ⟨fun _ => hca3, ?_⟩
              simp only [Act.put, List.setIfInBounds_toArray, List.set_cons_zero, List.set_cons_succ]
              refine wpG.one 20 (by kernel_rfl) ?_
              refine wpOp_run (some 45) (.pointer (some ⟨a, 0, none⟩)) (w3) rfl rfl (by rfl) (by go_simp) ⟨fun _ => hca3, ?_⟩
              simp only [Act.put, List.setIfInBounds_toArray, List.set_cons_zero, List.set_cons_succ]
              refine wpG.one 21 (by kernel_rfl) ?_
              refine wpOp_wp rfl (by rfl) ?_
              go_simp
              refine wpG.done (by kernel_rfl) ?_ _
              refine NoPanic.normal ?_
              clear hca1 hca2 hca3 hfa3 h1 h2 h3
              go_wp2_with fail
              go_end0
              refine ⟨rfl, b3, ?_, (Only.of_below B3).then (Only.setA a a 0 _ _), hb3⟩
              rw [← HI.out] at R3
              have hfin := HR.out.names (B3.block a hlt.1) R3 (by omega)
              rw [HIL.out] at hfin
              exact hfin
          · have hSB : ((w.alloc (.cells #[.int .i64 v] 3)).drew).cell? ⟨a, 0, none⟩ = some (.slice (some ⟨b, 0, none⟩) n cap) := (((Below.refl w.heap.size w).alloc (Nat.le_refl _) (.cells #[.int .i64 v] 3)).drew.cell (p := ⟨a, 0, none⟩) hlt.1).trans hc
            refine wpOp_run (some 35) (.slice (some ⟨w.heap.size, 0, none⟩) 1 1) ((w.alloc (.cells #[.int .i64 v] 3)).drew) rfl rfl (by rfl) (by go_simp) ⟨fun _ => hSB, ?_⟩
            simp only [Act.put, List.setIfInBounds_toArray, List.set_cons_zero, List.set_cons_succ]
            refine wpG.one 1 (by kernel_rfl) ?_
            have hSD : (((w.alloc (.cells #[.int .i64 v] 3)).alloc (.cells #[] 3)).drew).cell? ⟨a, 0, none⟩ = some (.slice (some ⟨b, 0, none⟩) n cap) := (BB.out.cell (p := ⟨a, 0, none⟩) hlt.1).trans hc
            refine wpOp_run (some 26) (.slice (some ⟨w.heap.size + 1, 0, none⟩) 0 0) (((w.alloc (.cells #[.int .i64 v] 3)).alloc (.cells #[] 3)).drew) rfl rfl (by rfl) (by go_simp) ⟨fun _ => hSD, ?_⟩
            simp only [Act.put, List.setIfInBounds_toArray, List.set_cons_zero, List.set_cons_succ]
            refine wpG.one 8 (by kernel_rfl) ?_
            refine wpOp_app (some 33) rfl rfl (by rfl) (.tmp 26) (.tmp 32) 22 rfl Try.underlying22 _ _ 0 _ _ [] _ _ rfl rfl rfl HTK.out FB.out (HAT.out _ BB.out) (by omega) ?_
            intro b1 cap1 w1 R1 G1 h1
            rw [Nat.zero_add]
            rw [List.nil_append] at R1
            have L1 := LB.out.grown G1 (by omega)
            have B1 : Below w.heap.size w w1 := BB.out.grown G1 BB.out.size (fun j hj => by cases hj; omega)
            have hb1 : w.heap.size ≤ b1 := by rcases h1 with h | h <;> (have := BB.out.size; omega)
            have hs1 := B1.size
            have hca1 : w1.cell? ⟨a, 0, none⟩ = some (.slice (some ⟨b, 0, none⟩) n cap) := (B1.cell (p := ⟨a, 0, none⟩) hlt.1).trans hc
            refine ⟨fun _ => hca1, ?_⟩
            simp only [Act.put, List.setIfInBounds_toArray, List.set_cons_zero, List.set_cons_succ]
            refine wpG.one 11 (by kernel_rfl) ?_
            refine wpOp_app (some 36) rfl rfl (by rfl) (.tmp 33) (.tmp 35) 22 rfl Try.underlying22 _ _ _ 1 _ _ [v] _ rfl rfl HTK.out rfl (R1) (Lit.arg L1) (by omega) ?_
            intro b2 cap2 w2 R2 G2 h2
            have B2 : Below w.heap.size w w2 := (B1).grown G2 (B1).size (fun j hj => by cases hj; omega)
            have hb2 : w.heap.size ≤ b2 := by rcases h2 with h | h <;> (have := (B1).size; omega)
            have hs2 := B2.size
            have hca2 : w2.cell? ⟨a, 0, none⟩ = some (.slice (some ⟨b, 0, none⟩) n cap) := (B2.cell (p := ⟨a, 0, none⟩) hlt.1).trans hc
            refine ⟨fun _ => hca2, ?_⟩
            simp only [Act.put, List.setIfInBounds_toArray, List.set_cons_zero, List.set_cons_succ]
            refine wpG.one 18 (by kernel_rfl) ?_
            refine wpOp_app (some 43) rfl rfl (by rfl) (.tmp 36) (.tmp 42) 22 rfl Try.underlying22 _ _ _ _ _ _ _ _ rfl rfl HT1.out HDK.out R2 (HAD.out _ B2 _ (by intro h; first | rfl | omega)) (by omega) ?_
            intro b3 cap3 w3 R3 G3 h3
            have B3 : Below w.heap.size w w3 := B2.grown G3 B2.size (fun j hj => by cases hj; omega)
            have hb3 : w.heap.size ≤ b3 := by rcases h3 with h | h <;> omega
            have hca3 : w3.cell? ⟨a, 0, none⟩ = some (.slice (some ⟨b, 0, none⟩) n cap) := (B3.cell (p := ⟨a, 0, none⟩) hlt.1).trans hc
            have hfa3 : w3.frozen? ⟨a, 0, none⟩ = false := (B3.frozen (p := ⟨a, 0, none⟩) hlt.1).trans hf
            refine ⟨fun _ => hca3, ?_⟩
            simp only [Act.put, List.setIfInBounds_toArray, List.set_cons_zero, List.set_cons_succ]
            refine wpG.one 19 (by kernel_rfl) ?_
            refine wpOp_run (some 44) (.pointer (some ⟨a, 0, none⟩)) (w3) rfl rfl (by rfl) (by go_simp) ⟨fun _ => hca3, ?_⟩
            simp only [Act.put, List.setIfInBounds_toArray, List.set_cons_zero, List.set_cons_succ]
            refine wpG.one 20 (by kernel_rfl) ?_
            refine wpOp_run (some 45) (.pointer (some ⟨a, 0, none⟩)) (w3) rfl rfl (by rfl) (by go_simp) ⟨fun _ => hca3, ?_⟩
            simp only [Act.put, List.setIfInBounds_toArray, List.set_cons_zero, List.set_cons_succ]
            refine wpG.one 21 (by kernel_rfl) ?_
            refine wpOp_wp rfl (by rfl) ?_
            go_simp
            refine wpG.done (by kernel_rfl) ?_ _
            refine NoPanic.normal ?_
            clear hca1 hca2 hca3 hfa3 h1 h2 h3
            go_wp2_with fail
            go_end0
            refine ⟨rfl, b3, ?_, (Only.of_below B3).then (Only.setA a a 0 _ _), hb3⟩
            rw [← HI.out] at R3
            have hfin := HR.out.names (B3.block a hlt.1) R3 (by omega)
            rw [HIL.out] at hfin
            exact hfin
      · have i1 : (k : Int) ≤ (n : Int) := by omega
        have i2 : (n : Int) ≤ (cap : Int) := by omega
        have i4 : (k : Int) ≤ (cap : Int) := by omega
        have i6 : ¬ (k : Int) < (n : Int) := by omega
        have HC : Hid (n = cap ∧ k = cap) := ⟨hnc, hkc⟩
        clear hnc hkc hout
        go_wp2_with fail
        refine wp_region_noPanic ?_
        refine wpG.region 21 (fun w' => w'.cell? ⟨a, 0, none⟩ = some (.slice (some ⟨b, 0, none⟩) n cap)) (by kernel_rfl) ?_
        have hS0 : w.drew.cell? ⟨a, 0, none⟩ = some (.slice (some ⟨b, 0, none⟩) n cap) := hc
        refine wpG.take (i := 0) (v := .pointer (some ⟨a, 0, none⟩)) (some 25) rfl (by kernel_rfl) (fun _ _ _ h => h) rfl (by rfl) hS0 (by intro w hSw; go_simp) ?_
        simp only [Act.put, List.setIfInBounds_toArray, List.set_cons_zero, List.set_cons_succ]
        refine wpG.take (i := 2) (v := .pointer (some ⟨a, 0, none⟩)) (some 27) rfl (by kernel_rfl) (fun _ _ _ h => h) rfl (by rfl) hS0 (by intro w hSw; go_simp) ?_
        simp only [Act.put, List.setIfInBounds_toArray, List.set_cons_zero, List.set_cons_succ]
        refine wpG.take (i := 3) (v := .pointer (some ⟨a, 0, none⟩)) (some 28) rfl (by kernel_rfl) (fun _ _ _ h => h) rfl (by rfl) hS0 (by intro w hSw; go_simp) ?_
        simp only [Act.put, List.setIfInBounds_toArray, List.set_cons_zero, List.set_cons_succ]
        refine wpG.take (i := 4) (v := .pointer (some ⟨a, 0, none⟩)) (some 29) rfl (by kernel_rfl) (fun _ _ _ h => h) rfl (by rfl) hS0 (by intro w hSw; go_simp) ?_
        simp only [Act.put, List.setIfInBounds_toArray, List.set_cons_zero, List.set_cons_succ]
        refine wpG.take (i := 5) (v := .slice (some ⟨b, 0, none⟩) n cap) (some 30) rfl (by kernel_rfl) (fun _ _ _ h => h) rfl (by rfl) hS0 (by intro w hSw; go_simp) ?_
        simp only [Act.put, List.setIfInBounds_toArray, List.set_cons_zero, List.set_cons_succ]
        refine wpG.take (i := 6) (v := .int .i64 (k : Int)) (some 31) rfl (by kernel_rfl) (fun _ _ _ h => h) rfl (by rfl) hS0 (by intro w hSw; go_simp) ?_
        simp only [Act.put, List.setIfInBounds_toArray, List.set_cons_zero, List.set_cons_succ]
        refine wpG.take (i := 7) (v := .slice (some ⟨b, 0, none⟩) k cap) (some 32) rfl (by kernel_rfl) (fun _ _ _ h => h) rfl (by rfl) hS0 (by intro w hSw; go_simp) ?_
        simp only [Act.put, List.setIfInBounds_toArray, List.set_cons_zero, List.set_cons_succ]
        refine wpG.take (i := 9) (v := .int .i64 v) (some 34) rfl (by kernel_rfl) (fun _ _ _ h => h) rfl (by rfl) hS0 (by intro w hSw; go_simp) ?_
        simp only [Act.put, List.setIfInBounds_toArray, List.set_cons_zero, List.set_cons_succ]
        refine wpG.take (i := 12) (v := .pointer (some ⟨a, 0, none⟩)) (some 37) rfl (by kernel_rfl) (fun _ _ _ h => h) rfl (by rfl) hS0 (by intro w hSw; go_simp) ?_
        simp only [Act.put, List.setIfInBounds_toArray, List.set_cons_zero, List.set_cons_succ]
        refine wpG.take (i := 13) (v := .pointer (some ⟨a, 0, none⟩)) (some 38) rfl (by kernel_rfl) (fun _ _ _ h => h) rfl (by rfl) hS0 (by intro w hSw; go_simp) ?_
        simp only [Act.put, List.setIfInBounds_toArray, List.set_cons_zero, List.set_cons_succ]
        refine wpG.take (i := 14) (v := .pointer (some ⟨a, 0, none⟩)) (some 39) rfl (by kernel_rfl) (fun _ _ _ h => h) rfl (by rfl) hS0 (by intro w hSw; go_simp) ?_
        simp only [Act.put, List.setIfInBounds_toArray, List.set_cons_zero, List.set_cons_succ]
        refine wpG.take (i := 15) (v := .slice (some ⟨b, 0, none⟩) n cap) (some 40) rfl (by kernel_rfl) (fun _ _ _ h => h) rfl (by rfl) hS0 (by intro w hSw; go_simp) ?_
        simp only [Act.put, List.setIfInBounds_toArray, List.set_cons_zero, List.set_cons_succ]
        refine wpG.take (i := 16) (v := .int .i64 (k : Int)) (some 41) rfl (by kernel_rfl) (fun _ _ _ h => h) rfl (by rfl) hS0 (by intro w hSw; go_simp) ?_
        simp only [Act.put, List.setIfInBounds_toArray, List.set_cons_zero, List.set_cons_succ]
        refine wpG.take (i := 17) (v := .slice (some ⟨b, 0, none⟩) (n - k) (cap - k)) (some 42) rfl (by kernel_rfl) (fun _ _ _ h => h) rfl (by rfl) hS0 (by intro w hSw; go_simp; exact fun h => absurd (by have := HC.out; omega) h) ?_
        simp only [Act.put, List.setIfInBounds_toArray, List.set_cons_zero, List.set_cons_succ]
        refine wpG.two 1 10 (by kernel_rfl) ?_ ?_
        · have hSA : ((w.alloc (.cells #[] 3)).drew).cell? ⟨a, 0, none⟩ = some (.slice (some ⟨b, 0, none⟩) n cap) := (BA.out.cell (p := ⟨a, 0, none⟩) hlt.1).trans hc
          refine wpOp_run (some 26) (.slice (some ⟨w.heap.size, 0, none⟩) 0 0) ((w.alloc (.cells #[] 3)).drew) rfl rfl (by rfl) (by go_simp) ⟨fun _ => hSA, ?_⟩
          simp only [Act.put, List.setIfInBounds_toArray, List.set_cons_zero, List.set_cons_succ]
          refine wpG.two 8 10 (by kernel_rfl) ?_ ?_
          · skip
            refine wpOp_app (some 33) rfl rfl (by rfl) (.tmp 26) (.tmp 32) 22 rfl Try.underlying22 _ _ 0 _ _ [] _ _ rfl rfl rfl HTK.out FA.out (HAT.out _ BA.out) (by omega) ?_
            intro b1 cap1 w1 R1 G1 h1
            rw [Nat.zero_add]
            rw [List.nil_append] at R1
            have B1 : Below w.heap.size w w1 := BA.out.grown G1 BA.out.size (fun j hj => by cases hj; omega)
            have hb1 : w.heap.size ≤ b1 := by rcases h1 with h | h <;> (have := BA.out.size; omega)
            have hs1 := B1.size
            have hca1 : w1.cell? ⟨a, 0, none⟩ = some (.slice (some ⟨b, 0, none⟩) n cap) := (B1.cell (p := ⟨a, 0, none⟩) hlt.1).trans hc
            refine ⟨fun _ => hca1, ?_⟩
            simp only [Act.put, List.setIfInBounds_toArray, List.set_cons_zero, List.set_cons_succ]
            refine wpG.one 10 (by kernel_rfl) ?_
            have hSL : (w1.alloc (.cells #[.int .i64 v] 3)).cell? ⟨a, 0, none⟩ = some (.slice (some ⟨b, 0, none⟩) n cap) := ((B1.alloc B1.size _).cell (p := ⟨a, 0, none⟩) hlt.1).trans hc
            refine wpOp_run (some 35) (.slice (some ⟨w1.heap.size, 0, none⟩) 1 1) (w1.alloc (.cells #[.int .i64 v] 3)) rfl rfl (by rfl) (by go_simp) ⟨fun _ => hSL, ?_⟩
            simp only [Act.put, List.setIfInBounds_toArray, List.set_cons_zero, List.set_cons_succ]
            refine wpG.one 11 (by kernel_rfl) ?_
            refine wpOp_app (some 36) rfl rfl (by rfl) (.tmp 33) (.tmp 35) 22 rfl Try.underlying22 _ _ _ 1 _ _ [v] _ rfl rfl HTK.out rfl (R1.of (heap_alloc_old _ _ R1.lt)) ((lit_new w1 v).arg) (by omega) ?_
            intro b2 cap2 w2 R2 G2 h2
            have B2 : Below w.heap.size w w2 := (B1.alloc B1.size (.cells #[.int .i64 v] 3)).grown G2 (B1.alloc B1.size (.cells #[.int .i64 v] 3)).size (fun j hj => by cases hj; omega)
            have hb2 : w.heap.size ≤ b2 := by rcases h2 with h | h <;> (have := (B1.alloc B1.size (.cells #[.int .i64 v] 3)).size; omega)
            have hs2 := B2.size
            have hca2 : w2.cell? ⟨a, 0, none⟩ = some (.slice (some ⟨b, 0, none⟩) n cap) := (B2.cell (p := ⟨a, 0, none⟩) hlt.1).trans hc
            refine ⟨fun _ => hca2, ?_⟩
            simp only [Act.put, List.setIfInBounds_toArray, List.set_cons_zero, List.set_cons_succ]
            refine wpG.one 18 (by kernel_rfl) ?_
            refine wpOp_app (some 43) rfl rfl (by rfl) (.tmp 36) (.tmp 42) 22 rfl Try.underlying22 _ _ _ _ _ _ _ _ rfl rfl HT1.out HDK.out R2 (HAD.out _ B2 _ (by intro h; first | rfl | omega)) (by omega) ?_
            intro b3 cap3 w3 R3 G3 h3
            have B3 : Below w.heap.size w w3 := B2.grown G3 B2.size (fun j hj => by cases hj; omega)
            have hb3 : w.heap.size ≤ b3 := by rcases h3 with h | h <;> omega
            have hca3 : w3.cell? ⟨a, 0, none⟩ = some (.slice (some ⟨b, 0, none⟩) n cap) := (B3.cell (p := ⟨a, 0, none⟩) hlt.1).trans hc
            have hfa3 : w3.frozen? ⟨a, 0, none⟩ = false := (B3.frozen (p := ⟨a, 0, none⟩) hlt.1).trans hf
            refine ⟨fun _ => hca3, ?_⟩
            simp only [Act.put, List.setIfInBounds_toArray, List.set_cons_zero, List.set_cons_succ]
            refine wpG.one 19 (by kernel_rfl) ?_
            refine wpOp_run (some 44) (.pointer (some ⟨a, 0, none⟩)) (w3) rfl rfl (by rfl) (by go_simp) ⟨fun _ => hca3, ?_⟩
            simp only [Act.put, List.setIfInBounds_toArray, List.set_cons_zero, List.set_cons_succ]
            refine wpG.one 20 (by kernel_rfl) ?_
            refine wpOp_run (some 45) (.pointer (some ⟨a, 0, none⟩)) (w3) rfl rfl (by rfl) (by go_simp) ⟨fun _ => hca3, ?_⟩
            simp only [Act.put, List.setIfInBounds_toArray, List.set_cons_zero, List.set_cons_succ]
            refine wpG.one 21 (by kernel_rfl) ?_
            refine wpOp_wp rfl (by rfl) ?_
            go_simp
            refine wpG.done (by kernel_rfl) ?_ _
            refine NoPanic.normal ?_
            clear hca1 hca2 hca3 hfa3 h1 h2 h3
            go_wp2_with fail
            go_end0
            refine ⟨rfl, b3, ?_, (Only.of_below B3).then (Only.setA a a 0 _ _), hb3⟩
            rw [← HI.out] at R3
            have hfin := HR.out.names (B3.block a hlt.1) R3 (by omega)
            rw [HIL.out] at hfin
            exact hfin
          · have hSC : (((w.alloc (.cells #[] 3)).alloc (.cells #[.int .i64 v] 3)).drew).cell? ⟨a, 0, none⟩ = some (.slice (some ⟨b, 0, none⟩) n cap) := (BC.out.cell (p := ⟨a, 0, none⟩) hlt.1).trans hc
            refine wpOp_run (some 35) (.slice (some ⟨w.heap.size + 1, 0, none⟩) 1 1) (((w.alloc (.cells #[] 3)).alloc (.cells #[.int .i64 v] 3)).drew) rfl rfl (by rfl) (by go_simp) ⟨fun _ => hSC, ?_⟩
            simp only [Act.put, List.setIfInBounds_toArray, List.set_cons_zero, List.set_cons_succ]
            refine wpG.one 8 (by kernel_rfl) ?_
            refine wpOp_app (some 33) rfl rfl (by rfl) (.tmp 26) (.tmp 32) 22 rfl Try.underlying22 _ _ 0 _ _ [] _ _ rfl rfl rfl HTK.out FC.out (HAT.out _ BC.out) (by omega) ?_
            intro b1 cap1 w1 R1 G1 h1
            rw [Nat.zero_add]
            rw [List.nil_append] at R1
            have L1 := LC.out.grown G1 (by omega)
            have B1 : Below w.heap.size w w1 := BC.out.grown G1 BC.out.size (fun j hj => by cases hj; omega)
            have hb1 : w.heap.size ≤ b1 := by rcases h1 with h | h <;> (have := BC.out.size; omega)
            have hs1 := B1.size
            have hca1 : w1.cell? ⟨a, 0, none⟩ = some (.slice (some ⟨b, 0, none⟩) n cap) := (B1.cell (p := ⟨a, 0, none⟩) hlt.1).trans hc
            refine ⟨fun _ => hca1, ?_⟩
            simp only [Act.put, List.setIfInBounds_toArray, List.set_cons_zero, List.set_cons_succ]
            refine wpG.one 11 (by kernel_rfl) ?_
            refine wpOp_app (some 36) rfl rfl (by rfl) (.tmp 33) (.tmp 35) 22 rfl Try.underlying22 _ _ _ 1 _ _ [v] _ rfl rfl HTK.out rfl (R1) (Lit.arg L1) (by omega) ?_
            intro b2 cap2 w2 R2 G2 h2
            have B2 : Below w.heap.size w w2 := (B1).grown G2 (B1).size (fun j hj => by cases hj; omega)
            have hb2 : w.heap.size ≤ b2 := by rcases h2 with h | h <;> (have := (B1).size; omega)
            have hs2 := B2.size
            have hca2 : w2.cell? ⟨a, 0, none⟩ = some (.slice (some ⟨b, 0, none⟩) n cap) := (B2.cell (p := ⟨a, 0, none⟩) hlt.1).trans hc
            refine ⟨fun _ => hca2, ?_⟩
            simp only [Act.put, List.setIfInBounds_toArray, List.set_cons_zero, List.set_cons_succ]
            refine wpG.one 18 (by kernel_rfl) ?_
            refine wpOp_app (some 43) rfl rfl (by rfl) (.tmp 36) (.tmp 42) 22 rfl Try.underlying22 _ _ _ _ _ _ _ _ rfl rfl HT1.out HDK.out R2 (HAD.out _ B2 _ (by intro h; first | rfl | omega)) (by omega) ?_
            intro b3 cap3 w3 R3 G3 h3
            have B3 : Below w.heap.size w w3 := B2.grown G3 B2.size (fun j hj => by cases hj; omega)
            have hb3 : w.heap.size ≤ b3 := by rcases h3 with h | h <;> omega
            have hca3 : w3.cell? ⟨a, 0, none⟩ = some (.slice (some ⟨b, 0, none⟩) n cap) := (B3.cell (p := ⟨a, 0, none⟩) hlt.1).trans hc
            have hfa3 : w3.frozen? ⟨a, 0, none⟩ = false := (B3.frozen (p := ⟨a, 0, none⟩) hlt.1).trans hf
            refine ⟨fun _ => hca3, ?_⟩
            simp only [Act.put, List.setIfInBounds_toArray, List.set_cons_zero, List.set_cons_succ]
            refine wpG.one 19 (by kernel_rfl) ?_
            refine wpOp_run (some 44) (.pointer (some ⟨a, 0, none⟩)) (w3) rfl rfl (by rfl) (by go_simp) ⟨fun _ => hca3, ?_⟩
            simp only [Act.put, List.setIfInBounds_toArray, List.set_cons_zero, List.set_cons_succ]
            refine wpG.one 20 (by kernel_rfl) ?_
            refine wpOp_run (some 45) (.pointer (some ⟨a, 0, none⟩)) (w3) rfl rfl (by rfl) (by go_simp) ⟨fun _ => hca3, ?_⟩
            simp only [Act.put, List.setIfInBounds_toArray, List.set_cons_zero, List.set_cons_succ]
            refine wpG.one 21 (by kernel_rfl) ?_
            refine wpOp_wp rfl (by rfl) ?_
            go_simp
            refine wpG.done (by kernel_rfl) ?_ _
            refine NoPanic.normal ?_
            clear hca1 hca2 hca3 hfa3 h1 h2 h3
            go_wp2_with fail
            go_end0
            refine ⟨rfl, b3, ?_, (Only.of_below B3).then (Only.setA a a 0 _ _), hb3⟩
            rw [← HI.out] at R3
            have hfin := HR.out.names (B3.block a hlt.1) R3 (by omega)
            rw [HIL.out] at hfin
            exact hfin
        · have hSB : ((w.alloc (.cells #[.int .i64 v] 3)).drew).cell? ⟨a, 0, none⟩ = some (.slice (some ⟨b, 0, none⟩) n cap) := (((Below.refl w.heap.size w).alloc (Nat.le_refl _) (.cells #[.int .i64 v] 3)).drew.cell (p := ⟨a, 0, none⟩) hlt.1).trans hc
          refine wpOp_run (some 35) (.slice (some ⟨w.heap.size, 0, none⟩) 1 1) ((w.alloc (.cells #[.int .i64 v] 3)).drew) rfl rfl (by rfl) (by go_simp) ⟨fun _ => hSB, ?_⟩
          simp only [Act.put, List.setIfInBounds_toArray, List.set_cons_zero, List.set_cons_succ]
          refine wpG.one 1 (by kernel_rfl) ?_
          have hSD : (((w.alloc (.cells #[.int .i64 v] 3)).alloc (.cells #[] 3)).drew).cell? ⟨a, 0, none⟩ = some (.slice (some ⟨b, 0, none⟩) n cap) := (BB.out.cell (p := ⟨a, 0, none⟩) hlt.1).trans hc
          refine wpOp_run (some 26) (.slice (some ⟨w.heap.size + 1, 0, none⟩) 0 0) (((w.alloc (.cells #[.int .i64 v] 3)).alloc (.cells #[] 3)).drew) rfl rfl (by rfl) (by go_simp) ⟨fun _ => hSD, ?_⟩
          simp only [Act.put, List.setIfInBounds_toArray, List.set_cons_zero, List.set_cons_succ]
          refine wpG.one 8 (by kernel_rfl) ?_
          refine wpOp_app (some 33) rfl rfl (by rfl) (.tmp 26) (.tmp 32) 22 rfl Try.underlying22 _ _ 0 _ _ [] _ _ rfl rfl rfl HTK.out FB.out (HAT.out _ BB.out) (by omega) ?_
          intro b1 cap1 w1 R1 G1 h1
          rw [Nat.zero_add]
          rw [List.nil_append] at R1
          have L1 := LB.out.grown G1 (by omega)
          have B1 : Below w.heap.size w w1 := BB.out.grown G1 BB.out.size (fun j hj => by cases hj; omega)
          have hb1 : w.heap.size ≤ b1 := by rcases h1 with h | h <;> (have := BB.out.size; omega)
          have hs1 := B1.size
          have hca1 : w1.cell? ⟨a, 0, none⟩ = some (.slice (some ⟨b, 0, none⟩) n cap) := (B1.cell (p := ⟨a, 0, none⟩) hlt.1).trans hc
          refine ⟨fun _ => hca1, ?_⟩
          simp only [Act.put, List.setIfInBounds_toArray, List.set_cons_zero, List.set_cons_succ]
          refine wpG.one 11 (by kernel_rfl) ?_
          refine wpOp_app (some 36) rfl rfl (by rfl) (.tmp 33) (.tmp 35) 22 rfl Try.underlying22 _ _ _ 1 _ _ [v] _ rfl rfl HTK.out rfl (R1) (Lit.arg L1) (by omega) ?_
          intro b2 cap2 w2 R2 G2 h2
          have B2 : Below w.heap.size w w2 := (B1).grown G2 (B1).size (fun j hj => by cases hj; omega)
          have hb2 : w.heap.size ≤ b2 := by rcases h2 with h | h <;> (have := (B1).size; omega)
          have hs2 := B2.size
          have hca2 : w2.cell? ⟨a, 0, none⟩ = some (.slice (some ⟨b, 0, none⟩) n cap) := (B2.cell (p := ⟨a, 0, none⟩) hlt.1).trans hc
          refine ⟨fun _ => hca2, ?_⟩
          simp only [Act.put, List.setIfInBounds_toArray, List.set_cons_zero, List.set_cons_succ]
          refine wpG.one 18 (by kernel_rfl) ?_
          refine wpOp_app (some 43) rfl rfl (by rfl) (.tmp 36) (.tmp 42) 22 rfl Try.underlying22 _ _ _ _ _ _ _ _ rfl rfl HT1.out HDK.out R2 (HAD.out _ B2 _ (by intro h; first | rfl | omega)) (by omega) ?_
          intro b3 cap3 w3 R3 G3 h3
          have B3 : Below w.heap.size w w3 := B2.grown G3 B2.size (fun j hj => by cases hj; omega)
          have hb3 : w.heap.size ≤ b3 := by rcases h3 with h | h <;> omega
          have hca3 : w3.cell? ⟨a, 0, none⟩ = some (.slice (some ⟨b, 0, none⟩) n cap) := (B3.cell (p := ⟨a, 0, none⟩) hlt.1).trans hc
          have hfa3 : w3.frozen? ⟨a, 0, none⟩ = false := (B3.frozen (p := ⟨a, 0, none⟩) hlt.1).trans hf
          refine ⟨fun _ => hca3, ?_⟩
          simp only [Act.put, List.setIfInBounds_toArray, List.set_cons_zero, List.set_cons_succ]
          refine wpG.one 19 (by kernel_rfl) ?_
          refine wpOp_run (some 44) (.pointer (some ⟨a, 0, none⟩)) (w3) rfl rfl (by rfl) (by go_simp) ⟨fun _ => hca3, ?_⟩
          simp only [Act.put, List.setIfInBounds_toArray, List.set_cons_zero, List.set_cons_succ]
          refine wpG.one 20 (by kernel_rfl) ?_
          refine wpOp_run (some 45) (.pointer (some ⟨a, 0, none⟩)) (w3) rfl rfl (by rfl) (by go_simp) ⟨fun _ => hca3, ?_⟩
          simp only [Act.put, List.setIfInBounds_toArray, List.set_cons_zero, List.set_cons_succ]
          refine wpG.one 21 (by kernel_rfl) ?_
          refine wpOp_wp rfl (by rfl) ?_
          go_simp
          refine wpG.done (by kernel_rfl) ?_ _
          refine NoPanic.normal ?_
          clear hca1 hca2 hca3 hfa3 h1 h2 h3
          go_wp2_with fail
          go_end0
          refine ⟨rfl, b3, ?_, (Only.of_below B3).then (Only.setA a a 0 _ _), hb3⟩
          rw [← HI.out] at R3
          have hfin := HR.out.names (B3.block a hlt.1) R3 (by omega)
          rw [HIL.out] at hfin
          exact hfin

end Go.Proofs.Ytmpignlciicaeaa
