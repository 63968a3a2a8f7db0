/-
  A frame is emptied; one is found.
-/
import Derived.Test.YtkcoclpbkealgaaDoorQFind
namespace Go.Proofs.YtkcoclpbkealgaaDoor
open Go.RowKit
set_option maxRecDepth 20000

theorem built103 : Tryd.prog.built 103 [] = some (fmL noFm).toArray := by kernel_rfl
theorem wpList_del {w : World} {ops : Array Oper} {rest : List Oper} {o : Oper} {a : Act} {Q : Exit → Act → World → Prop} {m p g b q : Nat} {Fd : Nat → Prop} {d : St} {fs : List Fm} {hand : Nat} {ks : List (Option Nat)} (B : Bits w m p g b q Fd d fs hand ks) {i x : Nat} (hx : x ≤ 1000) (hk : ks[i]? = some (some x))
    (hgd : o.guard = none) (s t : Operand) (ho : o.op = .call { callee := .builtin .delete, args := #[s, t], argTypes := #[90, 3] }) (hs : a.eval s = .map (some b)) (ht : a.eval t = .int .i64 (x : Int))
    (h : ∀ w', Bits w' m p g b q Fd d fs hand (ks.set i none) → Step (own p g b Fd) (own p g b Fd) w w' → wpList Tryd.prog ops Q rest (a.put o.dst (.tuple #[])) w') : wpList Tryd.prog ops Q (o :: rest) a w := by
  refine wpList_plain hgd fun K' hK' => ?_
  obtain ⟨w', hrun, b1, s1⟩ := B.del hx hk o.type
  unfold Oper.wp
  simp [execOp, ho, resolve, invoke, builtin, hs, ht, hrun, Result.andThen]
  exact hK' _ _ (h w' b1 s1)
theorem Inv.at_le {S : PS} (h : Inv S) (k : Ok S.d) {i : Nat} (hi : i < S.fs.length) (hf : (S.fm i).data ≠ []) : (S.fm i).at_ ≤ 1000 := by
  have h1 := h.in_ _ (S.fm_mem hi) hf
  have h2 := k.len
  have h3 := k.lim
  omega
theorem vac_facts {w1 : World} {m p g b q i : Nat} {F1 : Nat → Prop} {S1 : PS} (P1 : Pool w1 m p g b q F1 S1) (hi1 : i < S1.fs.length) (hf : (S1.fm i).data ≠ []) :
    ∃ n x : Nat, w1.cell? ⟨p, 1, none⟩ = some (.slice (some ⟨g, 0, none⟩) n n) ∧ w1.cell? ⟨p, 2, none⟩ = some (.map (some b)) ∧ w1.cell? ⟨g, i * 5, none⟩ = some (.int .i64 (x : Int)) ∧ (i : Int) < (n : Int) ∧ n ≤ 64 ∧
      S1.fs.length = n ∧ (∀ W5, New w1 W5 → Bits W5 m p g b q F1 S1.d S1.fs S1.hand (keys S1.fs)) ∧ ((keys S1.fs)[i]? = some (some x) ∧ x ≤ 1000) := by
  refine ⟨S1.fs.length, (S1.fm i).at_, P1.bits.row.cell 1, P1.bits.row.cell 2, ?_, by omega, P1.inv.most, rfl, fun W5 n5 => P1.bits.after n5, ?_, P1.inv.at_le P1.bits.disk.ok hi1 hf⟩
  · have := P1.bits.cells hi1 0 _ rfl; rw [Nat.add_zero] at this; exact this
  · rw [keys_at hi1]; exact congrArg some (key_of hf)

set_option maxHeartbeats 4000000 in
theorem vacate_any {w : World} {m p g b q : Nat} {Fd : Nat → Prop} {S : PS} (P : Pool w m p g b q Fd S) (hm : m < 1000) {i : Nat} (hi : i < S.fs.length) (hf : (S.fm i).data ≠ []) :
    Calls Tryd.prog 69 #[.pointer (some ⟨p, 0, none⟩), .int .i64 (i : Int)] w fun e w' => e = .returned (.int .i64 (S.vacate i).1) ∧ PLeft p g b q Fd m w (S.vacate i).2 w' := by
  have k3 : w.cell? ⟨g, i * 5 + 3, none⟩ = some (.bool (S.fm i).dirty) := P.bits.cells hi 3 _ rfl
  cases hd : (S.fm i).dirty
  · rw [hd] at k3
    have HE : Hid (S.vacate i = (0, S.setF i noFm)) := by show S.vacate i = _; unfold PS.vacate; rw [hd]; rfl
    clear hd
    obtain ⟨w1, hw1⟩ : ∃ w1, w1 = w := ⟨_, rfl⟩
    obtain ⟨S1, hS1⟩ : ∃ S1, S1 = S := ⟨_, rfl⟩
    obtain ⟨F1, hF1⟩ : ∃ F1, F1 = Fd := ⟨_, rfl⟩
    have s1 : Step (own p g b Fd) (own p g b F1) w w1 := by rw [hw1, hF1]; exact Step.refl _ _
    have P1 : Pool w1 m p g b q F1 S1 := by rw [hw1, hF1, hS1]; exact P
    have hi1 : i < S1.fs.length := by rw [hS1]; exact hi
    have hfull1 : (S1.fm i).data ≠ [] := by rw [hS1]; exact hf
    rw [← hS1] at HE ⊢
    rw [← hw1] at k3
    clear hf hi P hS1 hF1
    rw [show Calls Tryd.prog 69 #[.pointer (some ⟨p, 0, none⟩), .int .i64 (i : Int)] w = Calls Tryd.prog 69 #[.pointer (some ⟨p, 0, none⟩), .int .i64 (i : Int)] w1 by rw [hw1]]
    clear hw1
    obtain ⟨n, x, c1, c2, k0, hi2, h64, HN', HD', HK'⟩ := vac_facts P1 hi1 hfull1
    have HN : Hid (S1.fs.length = n) := HN'
    have HDel : Hid (∀ W5, New w1 W5 → Bits W5 m p g b q F1 S1.d S1.fs S1.hand (keys S1.fs)) := HD'
    have HK : Hid ((keys S1.fs)[i]? = some (some x) ∧ x ≤ 1000) := HK'
    have HP1 : Hid (Pool w1 m p g b q F1 S1 ∧ i < S1.fs.length ∧ Step (own p g b Fd) (own p g b F1) w w1) := ⟨P1, hi1, s1⟩
    clear P1 hi1 hfull1 HN' HD' HK' s1
    have hne := NewW.ne w1
    have q0 : ∀ q' : NewW w1, q'.v.cell? ⟨p, 2, none⟩ = some (.map (some b)) := fun q' => NewW.cell c2 q'
    have q1 : ∀ q' : NewW w1, q'.v.cell? ⟨p, 1, none⟩ = some (.slice (some ⟨g, 0, none⟩) n n) := fun q' => NewW.cell c1 q'
    have q2 : ∀ q' : NewW w1, q'.v.cell? ⟨g, i * 5, none⟩ = some (.int .i64 (x : Int)) := fun q' => NewW.cell k0 q'
    go_enter Tryd.func69, Tryd.ntmps69
    go_wp2_with fail
    refine region_first 12 1 w1 (New.refl w1) (by kernel_rfl) (by kernel_rfl) ?_
    simp only [List.take_succ_cons, List.take_zero, List.drop_succ_cons, List.drop_zero, List.take_nil]
    iterate 12 (go_big_quiet_step (fail))
    refine wpQuiet_nil ?_
    rintro W5 ⟨⟨_, N5⟩, rfl⟩
    clear q0 q1 q2 hne c1 c2 k0
    refine wpList_del (HDel.out W5 N5) HK.out.2 HK.out.1 (by rfl) _ _ (by rfl) (by rfl) (by rfl) ?_
    intro w6 b6 s6
    have c1 : w6.cell? ⟨p, 1, none⟩ = some (.slice (some ⟨g, 0, none⟩) n n) := by have := b6.row.cell 1; rw [HN.out] at this; exact this
    have HB6 : Hid (Bits w6 m p g b q F1 S1.d S1.fs S1.hand ((keys S1.fs).set i none)) := b6
    have hpl := b6.pl
    rw [HN.out] at hpl
    have HPL : Hid (Pl w6 (fun x => x = g) 103 5 (.slice (some ⟨g, 0, none⟩) n n) (S1.fs.map fmL) ∧ i < (S1.fs.map fmL).length) := ⟨hpl, by rw [List.length_map]; exact HP1.out.2.1⟩
    clear b6 hpl
    go_wp2_with (first | (refine wpList_build0 (by rfl) _ (by rfl) _ built103 ?_) | (refine wpList_store_pl (by rfl) _ _ _ (by rfl) _ 103 5 g n n i _ (fmL noFm) HPL.out.1 HPL.out.2 (by rfl) (by rfl) rfl i103 (fmL_one noFm) ?_; rintro w7 P7 B7))
    go_ret
    obtain ⟨P1, hi1, s1⟩ := HP1.out
    have b7 := HB6.out.frames B7 (fs' := S1.fs.set i noFm) (List.length_set ..) (by rw [List.map_set, HN.out]; exact P7)
    refine ⟨ret_int (by rw [HE.out]), ?_⟩
    rw [HE.out]
    exact ⟨F1, P1.drop hi1 b7, ((s1.trans (Step.new N5)).trans s6).trans (B7.step (.inr (.inl rfl)))⟩
  · rw [hd] at k3
    have hW := write_any' P hm hi hd
    have HV : Hid (S.vacate i = if (S.write i).1 = 0 then (0, (S.write i).2.setF i noFm) else S.write i) := by show S.vacate i = _; unfold PS.vacate; rw [if_pos hd]
    have HFull : Hid (i < (S.write i).2.fs.length ∧ ((S.write i).2.fm i).data ≠ []) := by
      have h1 : i < (S.write i).2.fs.length := by rw [PS.write_len]; exact hi
      have h3 := PS.write_keys hi
      refine ⟨h1, fun h2 => ?_⟩
      have h4 := keys_at h1
      rw [h3, keys_at hi] at h4
      have h5 : (S.fm i).key = ((S.write i).2.fm i).key := by injection h4
      rw [key_of hf] at h5
      unfold Fm.key at h5
      rw [if_pos h2] at h5
      cases h5
    obtain ⟨n, hn⟩ : ∃ n, S.fs.length = n := ⟨_, rfl⟩
    have c1 : w.cell? ⟨p, 1, none⟩ = some (.slice (some ⟨g, 0, none⟩) n n) := by rw [← hn]; exact P.bits.row.cell 1
    have hin : (i : Int) < (n : Int) := by omega
    have hn64 : n ≤ 64 := by rw [← hn]; exact P.inv.most
    obtain ⟨r, hr⟩ : ∃ r, S.write i = r := ⟨_, rfl⟩
    rw [hr] at hW HV HFull
    clear P hi hf hd hn hr
    go_enter Tryd.func69, Tryd.ntmps69
    go_wp2_with fail
    refine hW.mono ?_
    rintro _ w1 ⟨rfl, F1, P1, s1⟩
    by_cases he : r.1 = 0
    · rw [he]
      have HE : Hid (S.vacate i = (0, r.2.setF i noFm)) := by show S.vacate i = _; rw [HV.out, if_pos he]
      obtain ⟨S1, hS1⟩ : ∃ S1, S1 = r.2 := ⟨_, rfl⟩
      rw [← hS1] at P1 HE HFull
      obtain ⟨hi1, hfull1⟩ := HFull.out
      clear c1 k3 hin hn64 HV HFull hW he hS1
      obtain ⟨n, x, c1, c2, k0, hi2, h64, HN', HD', HK'⟩ := vac_facts P1 hi1 hfull1
      have HN : Hid (S1.fs.length = n) := HN'
      have HDel : Hid (∀ W5, New w1 W5 → Bits W5 m p g b q F1 S1.d S1.fs S1.hand (keys S1.fs)) := HD'
      have HK : Hid ((keys S1.fs)[i]? = some (some x) ∧ x ≤ 1000) := HK'
      have HP1 : Hid (Pool w1 m p g b q F1 S1 ∧ i < S1.fs.length ∧ Step (own p g b Fd) (own p g b F1) w w1) := ⟨P1, hi1, s1⟩
      clear P1 hi1 hfull1 HN' HD' HK' s1
      have hne := NewW.ne w1
      have q0 : ∀ q' : NewW w1, q'.v.cell? ⟨p, 2, none⟩ = some (.map (some b)) := fun q' => NewW.cell c2 q'
      have q1 : ∀ q' : NewW w1, q'.v.cell? ⟨p, 1, none⟩ = some (.slice (some ⟨g, 0, none⟩) n n) := fun q' => NewW.cell c1 q'
      have q2 : ∀ q' : NewW w1, q'.v.cell? ⟨g, i * 5, none⟩ = some (.int .i64 (x : Int)) := fun q' => NewW.cell k0 q'
      go_wp2_with fail
      refine region_first 12 1 w1 (New.refl w1) (by kernel_rfl) (by kernel_rfl) ?_
      simp only [List.take_succ_cons, List.take_zero, List.drop_succ_cons, List.drop_zero, List.take_nil]
      iterate 12 (go_big_quiet_step (fail))
      refine wpQuiet_nil ?_
      rintro W5 ⟨⟨_, N5⟩, rfl⟩
      clear q0 q1 q2 hne c1 c2 k0
      refine wpList_del (HDel.out W5 N5) HK.out.2 HK.out.1 (by rfl) _ _ (by rfl) (by rfl) (by rfl) ?_
      intro w6 b6 s6
      have c1 : w6.cell? ⟨p, 1, none⟩ = some (.slice (some ⟨g, 0, none⟩) n n) := by have := b6.row.cell 1; rw [HN.out] at this; exact this
      have HB6 : Hid (Bits w6 m p g b q F1 S1.d S1.fs S1.hand ((keys S1.fs).set i none)) := b6
      have hpl := b6.pl
      rw [HN.out] at hpl
      have HPL : Hid (Pl w6 (fun x => x = g) 103 5 (.slice (some ⟨g, 0, none⟩) n n) (S1.fs.map fmL) ∧ i < (S1.fs.map fmL).length) := ⟨hpl, by rw [List.length_map]; exact HP1.out.2.1⟩
      clear b6 hpl
      go_wp2_with (first | (refine wpList_build0 (by rfl) _ (by rfl) _ built103 ?_) | (refine wpList_store_pl (by rfl) _ _ _ (by rfl) _ 103 5 g n n i _ (fmL noFm) HPL.out.1 HPL.out.2 (by rfl) (by rfl) rfl i103 (fmL_one noFm) ?_; rintro w7 P7 B7))
      go_ret
      obtain ⟨P1, hi1, s1⟩ := HP1.out
      have b7 := HB6.out.frames B7 (fs' := S1.fs.set i noFm) (List.length_set ..) (by rw [List.map_set, HN.out]; exact P7)
      refine ⟨ret_int (by rw [HE.out]), ?_⟩
      rw [HE.out]
      exact ⟨F1, P1.drop hi1 b7, ((s1.trans (Step.new N5)).trans s6).trans (B7.step (.inr (.inl rfl)))⟩
    · have HE : Hid (S.vacate i = r) := by show S.vacate i = _; rw [HV.out, if_neg he]
      have HG : Hid (PLeft p g b q Fd m w r.2 w1) := ⟨F1, P1, s1⟩
      obtain ⟨z, hz⟩ : ∃ z, r.1 = z := ⟨_, rfl⟩
      have HZ : Hid (r.1 = z) := hz
      rw [hz] at he ⊢
      clear P1 s1 hz hW HV HFull
      go_wp2_with fail
      go_ret
      rw [HE.out]
      exact ⟨ret_int HZ.out.symm, HG.out⟩
end Go.Proofs.YtkcoclpbkealgaaDoor
