/-
  GetTells's walk: whatever nodes and key, the call returns true, where the table of upper halves lies as its initialiser lays it.
-/
import Derived.Test.YtimmbnipagnbfaaDoorGar
namespace Go.Proofs.YtimmbnipagnbfaaDoor
open Go.RowKit
set_option maxRecDepth 20000
set_option linter.unusedVariables false

set_option maxHeartbeats 16000000 in
theorem getTells_any {w : World} {v : Value} {t : List Nd} {s : ByteArray} (P : Ls w 20 v (t.map ndC)) (k2 : ∀ x ∈ t, x.kids.length = 16) (h2 : t.length ≤ maxLen) (hT : Tab w) :
    Calls Tryd.prog 3 #[v, .string s] w fun e w' => e = .returned (.bool true) ∧ New w w' := by
  unfold maxLen at h2
  obtain ⟨key, rfl⟩ : ∃ key, s = bs key := ⟨L s, (bs_L s).symm⟩
  have c2 := longTrie_any P (by omega)
  have HT : Hid (Tab w) := hT
  have HP : Hid (Ls w 20 v (t.map ndC)) := P
  have HK2 : Hid (∀ x ∈ t, x.kids.length = 16) := k2
  have hwk := fun {W : World} (n : New w W) => wakes_any W (HT.out.kept n)
  obtain ⟨b2, hb2⟩ : ∃ b, longB lenN 4000 noNd t = b := ⟨_, rfl⟩
  rw [hb2] at c2
  have HB2 : Hid (longB lenN 4000 noNd t = b2) := hb2
  clear hb2 P k2 hT
  cases b2
  case true =>
    go_enter Tryd.func3, Tryd.ntmps3
    go_wp2_with fail
    refine Calls.mono c2 ?_
    rintro _ W1 ⟨rfl, N1⟩
    clear c2
    go_wp2_with fail
    refine Calls.mono (hwk N1) ?_
    rintro _ W2 ⟨rfl, N2⟩
    go_wp2_with fail
    go_ret
    exact ⟨rfl, N1.trans N2⟩
  by_cases h100 : key.length ≤ 100
  · have hd : decide ((100 : Int) < ((bs key).size : Int)) = false := by rw [bs_size]; exact decide_eq_false (by omega)
    have hd' : ¬ ((100 : Int) < ((bs key).size : Int)) := by rw [bs_size]; omega
    have HKT : Hid (TOk t) := tok_of HK2.out HB2.out
    go_enter Tryd.func3, Tryd.ntmps3
    go_wp2_with fail
    refine Calls.mono c2 ?_
    rintro _ W1 ⟨rfl, N1⟩
    clear c2
    obtain ⟨v5, W5, ha5, Q5, N5⟩ := run_copy_all (w := W1) 23 54 23 20 _ _ Tryd.underlying23 info49 rfl (by decide) (by decide) (HP.out.after N1) (fun e he => by obtain ⟨p, hp, rfl⟩ := List.mem_map.1 he; exact ndC_len (HK2.out p hp)) (fun e he => by obtain ⟨p, _, rfl⟩ := List.mem_map.1 he; exact ndC_one p) (by rw [List.length_map]; have := HKT.out.few; omega)
    have M5 := N1.trans N5
    have HQ5 : Hid (Ls W5 20 v5 (t.map ndC)) := Q5.ls
    have h1 := of_any12 Q5.ls HKT.out (HT.out.kept M5) key
    have h2' := fun {W : World} (n : New w W) => rof_any (HP.out.after n) HKT.out key
    have h3 := fun {W : World} (n : New W5 W) => walk_any (HQ5.out.after n) HKT.out (HT.out.kept (M5.trans n)) key
    have h4 := fun {W : World} (n : New w W) => rwalk_any (HP.out.after n) HKT.out key
    clear Q5 N5
    have he := fun w => eq_ans (ofK t key) (ofK t key) w
    rw [decide_eq_true rfl] at he
    obtain ⟨ov, hov⟩ : ∃ x, ofK t key = x := ⟨_, rfl⟩
    obtain ⟨er, her⟩ : ∃ x, errN t key = x := ⟨_, rfl⟩
    obtain ⟨wy, hwy⟩ : ∃ x, wayK t key = x := ⟨_, rfl⟩
    have hfew : wy.length ≤ 2000000 := by
      rw [← hwy]
      unfold wayK
      split
      · rename_i h
        have := way_few0 (ok_lk h.1) (ofL key)
        rw [ofL_length] at this
        have := keyOk_len h.2
        omega
      · simp
    rw [hov, her] at h1 h2'
    rw [hwy, her] at h3 h4
    rw [hov] at he
    clear hov her hwy
    go_wp2_with (first
      | refine wpList_run (by rfl) _ _ (exec_buildNone (by rfl) (run_buildNone _ 23 54 _ _ _ Tryd.underlying23 info49)) ?_
      | refine wpList_appends (by rfl) _ _ 23 23 _ _ _ _ (by rfl) (by rfl) (by rfl) (by rfl) ha5 ?_)
    clear ha5
    refine Calls.mono h1 ?_
    rintro _ W6 ⟨rfl, N6⟩
    have M6 := M5.trans N6
    clear h1
    go_wp2_with (first
      | (refine wpList_alloc_at (by rfl) 6 (by rfl) 27 (by rfl) _ _ _ info27 ?_; intro Wa Ra Na)
      | (refine wpList_store_new (by rfl) 27 _ _ (by rfl) W6.heap.size (ansA ov) (by rfl) (by rfl) 27 _ Ra i27 rfl (ans_one _) ?_; intro W7 R7 B7; have N7 : New W6 W7 := B7.new Na (Nat.le_refl _)))
    have N57 := N6.trans N7
    have M7 := M5.trans N57
    have hG1 := R7.lt
    generalize W6.heap.size = G1 at *
    clear Ra Na B7 N7 M6 N6
    refine Calls.mono (h2' M7) ?_
    rintro _ W8 ⟨rfl, N8⟩
    have R8 := R7.after N8
    have hG8 := R8.lt
    clear h2'
    go_wp2_with (first
      | (refine wpList_alloc_at (by rfl) 8 (by rfl) 27 (by rfl) _ _ _ info27 ?_; intro Wb Rb Nb)
      | (refine wpList_store_new (by rfl) 27 _ _ (by rfl) W8.heap.size (ansA ov) (by rfl) (by rfl) 27 _ Rb i27 rfl (ans_one _) ?_; intro W9 R9 B9; have N9 : New W8 W9 := B9.new Nb (Nat.le_refl _)))
    have R9' := R8.after N9
    have N59 := N57.trans (N8.trans N9)
    have M9 := M5.trans N59
    generalize W8.heap.size = G2 at *
    clear Rb Nb B9 N9 R8 R7 hG1 hG8 N57 M7 N8
    refine Calls.mono (h3 N59) ?_
    rintro _ W10 ⟨v3, rfl, Q3, N10⟩
    have L3 : Hid (Ls W10 1 v3 (wy.map natC)) := Q3.ls
    have R10 := R9'.after N10
    have R10' := R9.after N10
    have N510 := N59.trans N10
    clear h3 Q3 R9 R9' N59 M9
    go_wp2_with fail
    refine Calls.mono (h4 (M5.trans N510)) ?_
    rintro _ W11 ⟨v4, rfl, Q4, N11⟩
    have R11 := R10.after N11
    have R11' := R10'.after N11
    have N511 := N510.trans N11
    have M11 := M5.trans N511
    have ki := ints_any (L3.out.after N11) Q4 hfew hfew
    rw [decide_eq_true rfl] at ki
    have HQ11 : Hid (Ls W11 20 v5 (t.map ndC)) := HQ5.out.after N511
    have kt := fun {W : World} (n : New W11 W) => keepTrie_any (HQ11.out.after n) (HP.out.after (M11.trans n)) HK2.out HK2.out (by have := HKT.out.few; omega) (by have := HKT.out.few; omega)
    rw [decide_eq_true rfl] at kt
    clear h4 Q4 R10 R10' N510 L3 N10 N11
    go_wp2_with (first
      | refine wpList_load_want (by rfl) 27 _ (by rfl) G1 (by rfl) 27 (ansA ov) _ R11 Tryd.underlying27 rfl i27 ?_
      | refine wpList_load_row (by rfl) 27 _ (by rfl) G1 (by rfl) 27 (ansA ov) (0, 0) _ R11 Tryd.underlying27 rfl i27 ?_
      | refine wpList_load_row (by rfl) 27 _ (by rfl) G2 (by rfl) 27 (ansA ov) (0, 0) _ R11' Tryd.underlying27 rfl i27 ?_)
    refine Calls.mono ki ?_
    rintro _ W12 ⟨rfl, N12⟩
    clear ki R11 R11' he
    go_wp2_with fail
    refine Calls.mono (kt N12) ?_
    rintro _ W13 ⟨rfl, N13⟩
    clear kt
    have M13 := (M11.trans N12).trans N13
    go_wp2_with fail
    refine Calls.mono (hwk M13) ?_
    rintro _ W14 ⟨rfl, N14⟩
    go_wp2_with fail
    go_ret
    exact ⟨rfl, M13.trans N14⟩
  · have hd : decide ((100 : Int) < ((bs key).size : Int)) = true := by rw [bs_size]; exact decide_eq_true (by omega)
    have hd' : (100 : Int) < ((bs key).size : Int) := by rw [bs_size]; omega
    go_enter Tryd.func3, Tryd.ntmps3
    go_wp2_with fail
    refine Calls.mono c2 ?_
    rintro _ W1 ⟨rfl, N1⟩
    clear c2
    go_wp2_with fail
    refine Calls.mono (hwk N1) ?_
    rintro _ W2 ⟨rfl, N2⟩
    go_wp2_with fail
    go_ret
    exact ⟨rfl, N1.trans N2⟩
end Go.Proofs.YtimmbnipagnbfaaDoor
