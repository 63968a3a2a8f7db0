/-
  Pairs: the pairs whose nodes nodes are, their values cloned.
-/
import Derived.Test.YtelaiblhnhbgiaaDoorTrRead
namespace Go.Proofs.YtelaiblhnhbgiaaDoor
open Go.RowKit
set_option maxRecDepth 20000

theorem set_same {α : Type} {l : List α} {i : Nat} {x : α} (h : l[i]? = some x) : l.set i x = l := by
  obtain ⟨hi, rfl⟩ := List.getElem?_eq_some_iff.1 h
  exact List.set_getElem_self hi
theorem readF_ok {t : List Nd} {s : List Pr × List Bt} (h : readF t = some s) : mayB s.1 = true ∧ t = buildN s.1 ∧ s.2 = (trieL s.1).map (·.2) := readF_iff.1 (by rw [h])

theorem readF_gat {t : List Nd} {s : List Pr × List Bt} (h : readF t = some s) : gatN t t.length = some s := by
  unfold readF at h
  cases hg : gatN t t.length with
  | none => rw [hg] at h; cases h
  | some x =>
    rw [hg] at h
    simp only at h
    split at h
    · exact h
    · cases h
theorem readF_few {t : List Nd} (K : TOk t) {s : List Pr × List Bt} (h : readF t = some s) : s.1.length ≤ 10000 :=
  Nat.le_trans (gat_ok (fun m hm => (K.len m hm).2) (Nat.le_refl _) (readF_gat h)).few K.few

set_option maxHeartbeats 2000000 in
theorem pairs_any {w : World} {v : Value} {t : List Nd} (P : Ls w 20 v (t.map ndC)) (K : TOk t) (hT : Tab w) :
    Calls Tryd.prog 13 #[v] w fun e w' => New w w' ∧ ((readF t = none ∧ e = .returned (.tuple #[.slice none 0 0, .bool false])) ∨ (∃ s v1, readF t = some s ∧ e = .returned (.tuple #[v1, .bool true]) ∧ Pl w' (Fresh w) 52 2 v1 (s.1.map prC))) := by
  have hr := read_any P K hT
  have HFW : Hid (∀ s, readF t = some s → s.1.length ≤ 10000) := fun s h => readF_few K h
  clear P K
  go_enter Tryd.func13, Tryd.ntmps13
  go_wp2_with fail
  refine Calls.mono hr ?_
  rintro _ w1 ⟨N1, ⟨hn, rfl⟩ | ⟨s, v1, v2, hs, rfl, Q1, Q2⟩⟩
  · have HN : Hid (readF t = none) := hn
    clear hr hn
    go_wp2_with fail
    go_ret2
    exact ⟨N1, .inl ⟨HN.out, rfl⟩⟩
  · have HN : Hid (readF t = some s) := hs
    have hmay := (mayB_rise _ (readF_ok hs).1).2
    have HV : Hid (∀ p ∈ s.1, p.2.length ≤ 16) := fun p hp => (okP_key p (hmay p hp)).2.2
    have HQ : Hid (Pl w1 (Fresh w) 52 2 v1 (s.1.map prC)) := Q1
    have hs4 := HFW.out s hs
    obtain ⟨a1, c1, hvf, hc1⟩ := Q1.form
    rw [List.length_map] at hvf hc1
    subst hvf
    clear hr hs Q1 Q2 hmay
    go_wp2_with fail
    go_loopw [18] (fun i wr => ∃ k : Nat, k ≤ s.1.length ∧ i = .int .i64 (k : Int) ∧ Hid (Pl wr (Fresh w) 52 2 (.slice a1 s.1.length c1) (s.1.map prC)) ∧ New w wr) (fun i _ => s.1.length - (intOf i).toNat)
    case atStart => exact ⟨0, by omega, rfl, HQ.out, N1⟩
    case round =>
      clear HQ
      obtain ⟨k, hk, rfl, hq, N⟩ := hrel
      by_cases hlt : k < s.1.length
      · obtain ⟨g, c', e, hF, hg, _⟩ := hq.out.full (by rw [List.length_map]; omega)
        rw [List.length_map] at e
        cases e
        obtain ⟨p, hp⟩ : ∃ p, s.1[k]? = some p := ⟨_, List.getElem?_eq_getElem hlt⟩
        have hpm := HV.out p (List.mem_of_getElem? hp)
        have hpe : (s.1.map prC)[k]? = some (prC p) := by rw [List.getElem?_map, hp]; rfl
        have hcl := fun W => clone_any p.2 (by omega) W
        have hcell := fun W (n : New wr W) => ((hq.out.after n).cellAt hpe (j := 1) (u := .string (bs p.2)) rfl)
        have c0 := (hcell wr (New.refl wr)).1
        have HC : Hid (∀ W, New wr W → W.cell? ⟨g, k * 2 + 1, none⟩ = some (.string (bs p.2)) ∧ W.frozen? ⟨g, k * 2 + 1, none⟩ = false) := hcell
        have HPE : Hid ((s.1.map prC)[k]? = some (prC p)) := hpe
        clear hp hpm hpe hcell
        go_wp2_with (first
          | (go_at_call 28; refine (hcl _).mono ?_; rintro _ W9 ⟨rfl, k9⟩; obtain ⟨c9, f9⟩ := HC.out W9 k9))
        have Q9 := (hq.out.after k9).setCell HPE.out (j := 1) (by omega) (.string (bs p.2))
        rw [show (prC p).set 1 (.string (bs p.2)) = prC p from rfl, set_same HPE.out] at Q9
        exact ⟨⟨k + 1, by omega, by go_num, Q9, (N.trans k9).setCell (a := ⟨g, k * 2 + 1, none⟩) hF _⟩, by simp [intOf]; omega⟩
      · go_wp2_with fail
        go_ret2
        exact ⟨N, .inr ⟨s, _, HN.out, rfl, hq.out⟩⟩

end Go.Proofs.YtelaiblhnhbgiaaDoor
