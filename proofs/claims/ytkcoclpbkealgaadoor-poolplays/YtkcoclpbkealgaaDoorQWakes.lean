/-
  The laws' own small run: it tells true.
-/
import Derived.Test.YtkcoclpbkealgaaDoorQRun
namespace Go.Proofs.YtkcoclpbkealgaaDoor
open Go.RowKit
set_option maxRecDepth 20000

/-- A pool and its disk, all of it made since w0. -/
structure Up (w0 w : World) (m p g b q : Nat) (F : Nat → Prop) (S : PS) : Prop where
  pool : Pool w m p g b q F S
  above : Above w0.heap.size w0 w (own p g b F)
theorem Up.left {w0 w w' : World} {m m' p g b q : Nat} {F : Nat → Prop} {S S' : PS} (h : Up w0 w m p g b q F S) (k : PLeft p g b q F m' w S' w') : ∃ F', Up w0 w' m' p g b q F' S' := by
  obtain ⟨F', P', s'⟩ := k
  exact ⟨F', P', h.above.step s'⟩
theorem Up.new {w0 w w' : World} {m p g b q : Nat} {F : Nat → Prop} {S : PS} (h : Up w0 w m p g b q F S) (n : New w w') : Up w0 w' m p g b q F S := ⟨h.pool.after n, h.above.new n⟩
theorem Above.toNew {w0 w : World} {F : Nat → Prop} (h : Above w0.heap.size w0 w F) : New w0 w := h.below
theorem goodL_ne (n : Nat) (v : UInt8) : goodL n v ≠ [] := fun e => by have := goodL_length n v; rw [e] at this; cases this
theorem pagesL4 : pagesL [1, 2, 3, 250] = [goodL 0 1, goodL 1 2, goodL 2 3, fillL 250] := rfl
theorem lit4 (w : World) : Bytes (w.alloc (.cells #[.int .u8 1, .int .u8 2, .int .u8 3, .int .u8 250] 5)) (some ⟨w.heap.size, 0, none⟩) [1, 2, 3, 250] := fun _ => ⟨_, rfl, fun i hi => by
  have hr : Row (w.alloc (.cells #[.int .u8 1, .int .u8 2, .int .u8 3, .int .u8 250] 5)) w.heap.size #[.int .u8 1, .int .u8 2, .int .u8 3, .int .u8 250] 5 := Row.new w _ 5
  rw [Addr.add_mid, Nat.zero_add, hr.cell]
  match i, hi with
  | 0, _ => rfl
  | 1, _ => rfl
  | 2, _ => rfl
  | 3, _ => rfl⟩
/-- A new pool over a disk of the call's own. -/
theorem MadeP.up {w0 w w' : World} {q n : Nat} {Fd : Nat → Prop} {d : St} {e : Ending} (h : MadeP w q Fd d n e w') (hF : ∀ x, Fd x → w0.heap.size ≤ x) (hN : New w0 w) : ∃ p g b, e = .returned (.tuple #[.pointer (some ⟨p, 0, none⟩), .bool true]) ∧ ∀ m, d.ws.length ≤ m → Up w0 w' m p g b q Fd (startP d n) := by
  obtain ⟨p, g, b, he, hP, hp, hg, hb, n1⟩ := h
  have hs := hN.size
  refine ⟨p, g, b, he, fun m hm => ⟨hP m hm, hN.trans n1, fun x hx => ?_, Nat.le_trans hs n1.size⟩⟩
  rcases hx with rfl | rfl | rfl | hx
  · omega
  · omega
  · omega
  · exact hF x hx
theorem lit12 (w : World) : Pl (w.alloc (.cells #[.int .i64 1, .int .i64 2] 3)) (fun x => x = w.heap.size) 3 1 (.slice (some ⟨w.heap.size, 0, none⟩) 2 2) (intsL [1, 2]) :=
  Pl.make (es := intsL [1, 2]) (cur := #[.int .i64 1, .int .i64 2]) (fun e he => by unfold intsL at he; obtain ⟨n, _, rfl⟩ := List.mem_map.1 he; rfl) (Row.new w _ 3) (Nat.le_refl _) (by unfold maxLen; omega) rfl rfl rfl

set_option maxHeartbeats 8000000 in
theorem wakes8 (w : World) (hT : Tab w) : Calls Tryd.prog 8 #[] w fun e w' => e = .returned (.bool true) ∧ New w w' := by
  have hpg := lawpages_any (w.alloc (.cells #[.int .u8 1, .int .u8 2, .int .u8 3, .int .u8 250] 5)) (some ⟨w.heap.size, 0, none⟩) 4 [1, 2, 3, 250] (lit4 w) (by decide)
  rw [pagesL4] at hpg
  have hsz : ∀ x ∈ [goodL 0 1, goodL 1 2, goodL 2 3, fillL 250], x.length = 256 := fun x hx => by
    simp only [List.mem_cons, List.not_mem_nil, or_false] at hx
    rcases hx with rfl | rfl | rfl | rfl
    · exact goodL_length _ _
    · exact goodL_length _ _
    · exact goodL_length _ _
    · exact fillL_length _
  have HSZ : Hid (∀ x ∈ [goodL 0 1, goodL 1 2, goodL 2 3, fillL 250], x.length = 256) := hsz
  have hA0 := goodL_ne 0 1
  have hB0 := goodL_ne 1 2
  have hC0 := goodL_ne 2 3
  have hY0 := goodL_ne 1 9
  have hY := goodL_length 1 9
  have e1 := wk1 (B := goodL 1 2) (C := goodL 2 3) (X := fillL 250) (goodL_right 0 1)
  have e2 := wk2 (C := goodL 2 3) (X := fillL 250) hA0 (goodL_right 1 2)
  have e3 := wk3 (C := goodL 2 3) (X := fillL 250) hA0 hB0
  have e4 := wk4 (C := goodL 2 3) (X := fillL 250) hA0 hB0
  have e5 := wk5 (X := fillL 250) hA0 hB0 (goodL_right 2 3)
  have e6 := wk6 (A := goodL 0 1) (X := fillL 250) hB0 hC0 hY
  have e7 := wk7 (A := goodL 0 1) (B := goodL 1 2) (X := fillL 250) hC0 hY0
  have e8 := wk8 (A := goodL 0 1) (B := goodL 1 2) (X := fillL 250) hC0 hY hY0
  have e9 := wk9 (A := goodL 0 1) (B := goodL 1 2) (C := goodL 2 3) (X := fillL 250) (Y := goodL 1 9)
  have e10 := wk10 hC0 hY0
  have e11 := wk11 (A := goodL 0 1) (B := goodL 1 2) (X := fillL 250) hC0 hY0
  have e12 := wk12 (C := goodL 2 3) (Y := goodL 1 9)
  have HG1 : ∀ w, Calls Tryd.prog 19 #[.int .i64 1, .int .u8 9] w fun e w' => e = .returned (.string (bs (goodL 1 9))) ∧ New w w' := good_any 1 (by decide) 9
  have HG0 : ∀ w, Calls Tryd.prog 19 #[.int .i64 0, .int .u8 1] w fun e w' => e = .returned (.string (bs (goodL 0 1))) ∧ New w w' := good_any 0 (by decide) 1
  have hy2 : L (bs (goodL 1 9)) = goodL 1 9 := L_bs _
  generalize goodL 0 1 = A at *
  generalize goodL 1 2 = B at *
  generalize goodL 2 3 = C at *
  generalize goodL 1 9 = Y at *
  generalize fillL 250 = X at *
  have HE : Hid ((startP (dk A B C X []) 2).fetch 0 = ⟨0, A, ⟨dk A B C X [], [⟨0, A, 1, false, true⟩, noFm], 0⟩⟩ ∧ PS.fetch ⟨dk A B C X [], [⟨0, A, 1, false, true⟩, noFm], 0⟩ 1 = ⟨0, B, ⟨dk A B C X [], [⟨0, A, 1, false, true⟩, ⟨1, B, 1, false, true⟩], 0⟩⟩ ∧ PS.fetch ⟨dk A B C X [], [⟨0, A, 1, false, true⟩, ⟨1, B, 1, false, true⟩], 0⟩ 2 = ⟨5, [], ⟨dk A B C X [], [⟨0, A, 1, false, true⟩, ⟨1, B, 1, false, true⟩], 0⟩⟩) := ⟨e1, e2, e3⟩
  have HE4 : Hid (PS.unpin ⟨dk A B C X [], [⟨0, A, 1, false, true⟩, ⟨1, B, 1, false, true⟩], 0⟩ 0 = (0, ⟨dk A B C X [], [⟨0, A, 0, false, true⟩, ⟨1, B, 1, false, true⟩], 0⟩)) := e4
  have HE5 : Hid (PS.fetch ⟨dk A B C X [], [⟨0, A, 0, false, true⟩, ⟨1, B, 1, false, true⟩], 0⟩ 2 = ⟨0, C, ⟨dk A B C X [], [⟨2, C, 1, false, true⟩, ⟨1, B, 1, false, true⟩], 1⟩⟩) := e5
  have HE6 : Hid (PS.put ⟨dk A B C X [], [⟨2, C, 1, false, true⟩, ⟨1, B, 1, false, true⟩], 1⟩ 1 Y = (0, ⟨dk A B C X [], [⟨2, C, 1, false, true⟩, ⟨1, Y, 1, true, true⟩], 1⟩)) := e6
  have HE7 : Hid (PS.fetch ⟨dk A B C X [], [⟨2, C, 1, false, true⟩, ⟨1, Y, 1, true, true⟩], 1⟩ 3 = ⟨5, [], ⟨dk A B C X [], [⟨2, C, 1, false, true⟩, ⟨1, Y, 1, true, true⟩], 1⟩⟩) := e7
  have HE8 : Hid (PS.flush ⟨dk A B C X [], [⟨2, C, 1, false, true⟩, ⟨1, Y, 1, true, true⟩], 1⟩ = (0, ⟨dk A B C X [(1, Y)], [⟨2, C, 1, false, true⟩, ⟨1, Y, 1, false, true⟩], 1⟩)) := e8
  have HE9 : Hid ((dk A B C X [(1, Y)]).read 1 = (0, Y) ∧ sorted (held [⟨2, C, 1, false, true⟩, ⟨1, Y, 1, false, true⟩]) = [1, 2] ∧ PS.unpin ⟨dk A B C X [(1, Y)], [⟨2, C, 1, false, true⟩, ⟨1, Y, 1, false, true⟩], 1⟩ 0 = (1, ⟨dk A B C X [(1, Y)], [⟨2, C, 1, false, true⟩, ⟨1, Y, 1, false, true⟩], 1⟩) ∧ sorted (dirties [⟨2, C, 1, false, true⟩, ⟨1, Y, 1, false, true⟩]) = []) := ⟨e9, e10, e11, e12⟩
  have HY2 : Hid (L (bs Y) = Y) := hy2
  have HT : Hid (Tab w) := hT
  clear e1 e2 e3 e4 e5 e6 e7 e8 e9 e10 e11 e12 hA0 hB0 hC0 hY0 hY hy2 hsz hT
  go_enter Tryd.func8, Tryd.ntmps8
  go_wp2_with fail
  refine hpg.mono ?_
  rintro _ w1 ⟨v1, rfl, Q1, n1⟩
  clear hpg
  have N1 : New w w1 := ((New.refl w).alloc _).trans n1
  have hfr := from_pages Q1 HSZ.out 9 (by decide) (by decide) (by show 4 ≤ 9; decide)
  clear Q1 n1 HSZ
  go_wp2_with fail
  refine hfr.mono ?_
  rintro _ w2 ⟨n2, q, Fd, rfl, D2, hF2⟩
  clear hfr
  have N2 := N1.trans n2
  have hs1 := N1.size
  have hF2' : ∀ x, Fd x → w.heap.size ≤ x := fun x hx => Nat.le_trans hs1 (hF2 x hx)
  have h02 : ¬ Fd 0 := fun h => by have h1 := hF2' 0 h; have h2 := HT.out.1; omega
  have hnp := newpool_any D2 (HT.out.after N2) h02 2 (by decide) (by decide)
  clear D2 hs1 hF2 h02
  go_wp2_with fail
  refine hnp.mono ?_
  intro e w3 hm3
  obtain ⟨p, g, b, rfl, hU⟩ := hm3.up hF2' N2
  clear hm3 hnp
  have U3 := hU 0 (Nat.le_refl _)
  clear hU hF2' N1 N2 n2
  have hc := fetch_any U3.pool (by decide) 0 (by decide) (by decide)
  change Calls Tryd.prog 14 #[.pointer (some ⟨p, 0, none⟩), .int .i64 0] w3 fun e w' => e = .returned (.tuple #[.string (bs ((startP (dk A B C X []) 2).fetch 0).t), .int .i64 ((startP (dk A B C X []) 2).fetch 0).e]) ∧ PLeft p g b q Fd 2 w3 ((startP (dk A B C X []) 2).fetch 0).S w' at hc
  rw [HE.out.1] at hc
  dsimp only at hc
  go_wp2_with fail
  refine hc.mono ?_
  rintro _ w4 ⟨rfl, l4⟩
  obtain ⟨F4, U4⟩ := U3.left l4
  clear hc l4 U3
  have hc := fetch_any U4.pool (by decide) 1 (by decide) (by decide)
  rw [HE.out.2.1] at hc
  dsimp only at hc
  go_wp2_with fail
  refine hc.mono ?_
  rintro _ w5 ⟨rfl, l5⟩
  obtain ⟨F5, U5⟩ := U4.left l5
  clear hc l5 U4
  have hc := fetch_any U5.pool (by decide) 2 (by decide) (by decide)
  rw [HE.out.2.2] at hc
  dsimp only at hc
  go_wp2_with fail
  refine hc.mono ?_
  rintro _ w6 ⟨rfl, l6⟩
  obtain ⟨F6, U6⟩ := U5.left l6
  clear hc l6 U5
  have hc := unpin_any U6.pool (by decide) 0 (by decide) (by decide)
  rw [HE4.out] at hc
  dsimp only at hc
  go_wp2_with fail
  refine hc.mono ?_
  rintro _ w7 ⟨rfl, l7⟩
  obtain ⟨F7, U7⟩ := U6.left l7
  clear hc l7 U6
  have hc := fetch_any U7.pool (by decide) 2 (by decide) (by decide)
  rw [HE5.out] at hc
  dsimp only at hc
  go_wp2_with fail
  refine hc.mono ?_
  rintro _ w8 ⟨rfl, l8⟩
  obtain ⟨F8, U8⟩ := U7.left l8
  clear hc l8 U7
  go_wp2_with fail
  refine (HG1 _).mono ?_
  rintro _ w85 ⟨rfl, n85⟩
  have U85 := U8.new n85
  clear U8 n85
  have hc := put_any' U85.pool (by decide) 1 (by decide) (by decide) (bs Y)
  rw [HY2.out, HE6.out] at hc
  dsimp only at hc
  go_wp2_with fail
  refine hc.mono ?_
  rintro _ w9 ⟨rfl, l9⟩
  obtain ⟨F9, U9⟩ := U85.left l9
  clear hc l9 U85
  have hc := fetch_any U9.pool (by decide) 3 (by decide) (by decide)
  rw [HE7.out] at hc
  dsimp only at hc
  go_wp2_with fail
  refine hc.mono ?_
  rintro _ w10 ⟨rfl, l10⟩
  obtain ⟨F10, U10⟩ := U9.left l10
  clear hc l10 U9
  have hc := flush_any U10.pool (by decide)
  rw [HE8.out] at hc
  dsimp only at hc
  go_wp2_with fail
  refine hc.mono ?_
  rintro _ w11 ⟨rfl, l11⟩
  obtain ⟨F11, U11⟩ := U10.left l11
  clear hc l11 U10
  have hc := read_any U11.pool.bits.disk 1
  dsimp only at hc
  rw [HE9.out.1] at hc
  dsimp only at hc
  go_wp2_with fail
  refine hc.mono ?_
  rintro _ w12 ⟨rfl, n12⟩
  have U12 := U11.new n12
  clear hc n12 U11
  have hc := held_any U12.pool (by decide)
  dsimp only at hc
  rw [HE9.out.2.1] at hc
  go_wp2_with fail
  refine hc.mono ?_
  rintro _ w13 ⟨v13, rfl, Q13, n13⟩
  have U13 := U12.new n13
  have Q13' := Q13
  clear hc n13
  have hc := unpin_any U13.pool (by decide) 0 (by decide) (by decide)
  rw [HE9.out.2.2.1] at hc
  dsimp only at hc
  go_wp2_with fail
  refine hc.mono ?_
  rintro _ w14 ⟨rfl, l14⟩
  obtain ⟨F14, P14, s14⟩ := l14
  have U14 : Up w w14 _ p g b q F14 _ := ⟨P14, U13.above.step s14⟩
  have Q14 : Pl w14 (fun x => w12.heap.size ≤ x) 3 1 v13 (intsL [1, 2]) := Q13.of (fun x hx hlt => s14.block x hlt (fun h => by have h1 := U12.pool.bits.own_lt x h; have h2 : w12.heap.size ≤ x := hx; omega)) (fun _ h _ => h)
  clear hc U13 U12 P14 s14 Q13 Q13'
  go_wp2_with fail
  refine (HG0 _).mono ?_
  rintro _ w15 ⟨rfl, n15⟩
  have U15 := U14.new n15
  have Q15 := Q14.after n15
  clear U14 Q14 n15
  go_wp2_with fail
  refine (HG1 _).mono ?_
  rintro _ w16 ⟨rfl, n16⟩
  have U16 := U15.new n16
  have Q16 := Q15.after n16
  clear U15 Q15 n16
  have n17 : New w16 (w16.alloc (.cells #[.int .i64 1, .int .i64 2] 3)) := (New.refl w16).alloc _
  have hci := ints_any (Q16.after n17) (lit12 w16) (by decide)
  go_wp2_with fail
  refine hci.mono ?_
  rintro _ w18 ⟨rfl, n18⟩
  have U18 := (U16.new n17).new n18
  clear U16 n17 n18 hci Q16
  have hcd := dirty_any U18.pool
  dsimp only at hcd
  rw [HE9.out.2.2.2] at hcd
  go_wp2_with fail
  refine hcd.mono ?_
  rintro _ w19 ⟨v19, rfl, Q19, n19⟩
  obtain ⟨a19, c19, rfl, _⟩ := Q19.form
  have U19 := U18.new n19
  clear U18 n19 hcd Q19
  go_wp2_with fail
  go_ret
  exact ⟨rfl, U19.above.toNew⟩
end Go.Proofs.YtkcoclpbkealgaaDoor
