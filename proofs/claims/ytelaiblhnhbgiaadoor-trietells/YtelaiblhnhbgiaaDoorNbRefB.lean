/-
  What the document's own Key returns, for every text: the same as Key, as a struct.
-/
import Derived.Test.YtelaiblhnhbgiaaDoorNbRefA
namespace Go.Proofs.YtelaiblhnhbgiaaDoor
open Go.RowKit
set_option maxRecDepth 20000

theorem joinL_append (x y : List UInt8) (h : x.length % 2 = 0) : joinL (x ++ y) = joinL x ++ joinL y := by
  induction x using pairs with
  | h0 => rfl
  | h1 a => simp at h
  | h2 a b l ih =>
    simp only [List.length_cons] at h
    show two a b :: joinL (l ++ y) = two a b :: (joinL l ++ joinL y)
    rw [ih (by omega)]
theorem joinL_step (l : List UInt8) (m : Nat) (a b : UInt8) (ha : l[2 * m]? = some a) (hb : l[2 * m + 1]? = some b) : joinL (l.take (2 * (m + 1))) = joinL (l.take (2 * m)) ++ [two a b] := by
  have h1 : 2 * m < l.length := (List.getElem?_eq_some_iff.1 ha).1
  rw [show 2 * (m + 1) = 2 * m + 1 + 1 by omega, List.take_add_one, List.take_add_one, ha, hb, List.append_assoc, joinL_append _ _ (by rw [List.length_take]; omega)]
  rfl
theorem bcell {W w1 : World} (hb : Below W.heap.size W w1) : (∀ b o, b < W.heap.size → w1.cell? ⟨b, o, none⟩ = W.cell? ⟨b, o, none⟩) ∧ (∀ b o, b < W.heap.size → w1.frozen? ⟨b, o, none⟩ = W.frozen? ⟨b, o, none⟩) :=
  ⟨fun b o h => hb.cell (p := ⟨b, o, none⟩) h, fun b o h => hb.frozen (p := ⟨b, o, none⟩) h⟩

theorem boxed {w wr : World} {a b : Value} {t : TypeId} (hb : Below (w.heap.size + 1) (w.alloc (.cells #[a, b] t)) wr) :
    wr.cell? ⟨w.heap.size, 0, none⟩ = some a ∧ wr.cell? ⟨w.heap.size, 1, none⟩ = some b ∧ wr.frozen? ⟨w.heap.size, 0, none⟩ = false ∧ wr.frozen? ⟨w.heap.size, 1, none⟩ = false ∧ Below w.heap.size w wr ∧ w.heap.size + 1 ≤ wr.heap.size := by
  refine ⟨?_, ?_, ?_, ?_, ?_, ?_⟩
  · rw [hb.cell (p := ⟨w.heap.size, 0, none⟩) (by simp)]; simp
  · rw [hb.cell (p := ⟨w.heap.size, 1, none⟩) (by simp)]; simp
  · rw [hb.frozen (p := ⟨w.heap.size, 0, none⟩) (by simp)]; simp
  · rw [hb.frozen (p := ⟨w.heap.size, 1, none⟩) (by simp)]; simp
  · exact ((Below.refl _ _).alloc (Nat.le_refl _) _).trans (hb.mono (by omega))
  · have := hb.size; simpa using this

set_option maxHeartbeats 1000000 in
theorem refKey_core (s : ByteArray) (hs : s.size ≤ 5000) (r : ByteArray) (ok : Bool) (HR : Hid ((keyB (L s) = true ∧ r = bs (joinL (L s)) ∧ ok = true) ∨ (keyB (L s) = false ∧ r = bs [] ∧ ok = false))) (w : World) :
    Calls Tryd.prog 29 #[.string s] w fun e w' => e = .returned (.agg #[.string r, .bool ok]) ∧ Below w.heap.size w w' := by
  obtain ⟨i0, hi0, hz0, hz1, hz2⟩ := info_parts info5
  go_enter Tryd.func29, Tryd.ntmps29
  go_wp2_with fail
  go_loopw [3, 4] (fun v i wr => ∃ k : Nat, k ≤ s.size ∧ i = .int .i64 k ∧ (k = 0 ∨ s.size % 2 = 0) ∧ (∀ (j : Nat) c, j < k → (L s)[j]? = some c → c.toNat < 16) ∧
      wr.ownsRow (w.heap.size + 1) 5 1 v (k / 2) (cellsL (joinL ((L s).take (2 * (k / 2))))) ∧ Below (w.heap.size + 1) (w.alloc (.cells #[.string ⟨#[]⟩, .bool false] 68)) wr) (fun _ i _ => s.size - (intOf i).toNat)
  case atStart => exact ⟨0, by omega, rfl, .inl rfl, (fun j c h => absurd h (by omega)), World.ownsRow_nil _ _ _ _, Below.refl _ _⟩
  case round =>
    obtain ⟨k, hk, rfl, hev, hall, hown, hb⟩ := hrel
    have HV : Hid (k = 0 ∨ s.size % 2 = 0) := hev
    have HA : Hid (∀ (j : Nat) c, j < k → (L s)[j]? = some c → c.toNat < 16) := hall
    obtain ⟨c0, c1, f0, f1, hbw, hB⟩ := boxed hb
    clear hev hall
    by_cases hlt : k < s.size
    · have hc : Hid ((L s)[k]? = some s[k]) := L_get s k hlt
      by_cases h16 : (s[k]).toNat < 16
      · have ht : decide ((15 : Int) < (s[k].toNat : Int)) = false := decide_eq_false (by omega)
        by_cases ho : s.size % 2 = 1
        · have ho1 : ((s.size : Int) % 2 != 0) = true := by rw [bne_iff_ne]; omega
          have HF : Hid (keyB (L s) = false) := by show _ = _; unfold keyB; rw [L_size, show oddB s.size = true from decide_eq_true ho]; rfl
          clear ho
          obtain ⟨rfl, rfl⟩ : r = bs [] ∧ ok = false := by
            rcases HR.out with h | h
            · rw [HF.out] at h; cases h.1
            · exact h.2
          go_wp2_with fail
          exact bodyPost_ret (v := .agg #[.string (bs []), .bool false]) (by simp [results, Tryd.results29, go_sem, c0, c1]; rfl) rfl ⟨rfl, (hbw.setCell (by simp) _).setCell (by simp) _⟩
        · have ho1 : ((s.size : Int) % 2 != 0) = false := by rw [bne_eq_false_iff_eq]; omega
          have he : s.size % 2 = 0 := by omega
          have HN : Hid (∀ (j : Nat) c, j < k + 1 → (L s)[j]? = some c → c.toNat < 16) := fun j c hj hjc => by
            by_cases e : j = k
            · subst e; rw [hc.out] at hjc; cases hjc; exact h16
            · exact HA.out j c (by omega) hjc
          by_cases hodd : k % 2 = 1
          · have ho2 : ((k : Int) % 2 == 1) = true := by rw [beq_iff_eq]; omega
            obtain ⟨m, hm⟩ : ∃ m, k - 1 = m := ⟨_, rfl⟩
            have hm1 : (k : Int) - 1 = (m : Int) := by omega
            have hms : m < s.size := by omega
            have hm0 : (0 : Int) ≤ (m : Int) := by omega
            have hms1 : (m : Int) < (s.size : Int) := by omega
            have hmw : IntKind.i64.wrap (m : Int) = (m : Int) := by rw [IntKind.wrap_i64]; omega
            have hcm : Hid ((L s)[m]? = some s[m]) := L_get s m hms
            have h16m : (s[m]).toNat < 16 := HA.out m _ (by omega) hcm.out
            obtain ⟨t, ht2⟩ : ∃ t, (two s[m] s[k]).toNat = t := ⟨_, rfl⟩
            have hmul : IntKind.u8.wrap ((s[m].toNat : Int) * 16) = (s[m].toNat : Int) * 16 := by rw [IntKind.wrap_u8]; omega
            have hadd : IntKind.u8.wrap ((s[m].toNat : Int) * 16 + (s[k].toNat : Int)) = (t : Int) := by rw [IntKind.wrap_u8, ← ht2, two_nat]; omega
            have HS : Hid (cellsL (joinL ((L s).take (2 * (k / 2)))) ++ [.int .u8 (t : Int)] = cellsL (joinL ((L s).take (2 * ((k + 1) / 2)))) ∧ k / 2 + 1 = (k + 1) / 2) := by
              refine ⟨?_, by omega⟩
              rw [show (k + 1) / 2 = k / 2 + 1 by omega, joinL_step (L s) (k / 2) s[m] s[k] (by rw [show 2 * (k / 2) = m by omega]; exact hcm.out) (by rw [show 2 * (k / 2) + 1 = k by omega]; exact hc.out), cellsL_append, ← ht2]
              rfl
            have HE : Hid (s.size % 2 = 0) := he
            clear ht2 he ho hm hodd
            go_wp2_with fail
            go_region_held3 (fun _ => True) (trivial)
              ((refine step_append_lies _ (by rfl) _ _ _ (by rfl) (w.heap.size + 1) 5 i0 _ 1 1 Tryd.underlying50 hi0 hz0 hz1 hz2 rfl (by omega) u3 (k / 2) (cellsL (joinL ((L s).take (2 * (k / 2))))) (by rfl) ((hown.alloc _).drew)
                  ⟨wr.heap.size, 0, none⟩ 1 1 [.int .u8 (t : Int)] (by rfl) (by rfl) (World.news_of_block (cs := #[.int .u8 (t : Int)]) (t := 5) (fr := (0, 0)) (heap_alloc_new wr _)) (by simp [Value.oneCell'])
                  (by omega) (by unfold maxLen; omega) (by omega) (by simp; omega) (wr.heap.size + 1) (by simp) ?_; intro gg cap w1 hown1 hgrow hat hlt1))
            go_wp2_with fail
            all_goals
              rw [HS.out.1, HS.out.2] at hown1
              refine ⟨⟨k + 1, by omega, by go_num, .inr HE.out, HN.out, ?_, ((hb.alloc hB _).drew).grown hgrow (by simp; omega) fun j hj => (hown.lt j hj).1⟩, by simp [intOf]; omega⟩
              rw [← HS.out.2] at hown1 ⊢
              exact hown1
          · have ho2 : ((k : Int) % 2 == 1) = false := by rw [beq_eq_false_iff_ne]; omega
            have HQ : Hid ((k + 1) / 2 = k / 2) := by show _ = _; omega
            clear hodd
            go_wp2_with fail
            exact ⟨⟨k + 1, by omega, by go_num, .inr he, HN.out, by rw [HQ.out]; exact hown, hb⟩, by simp [intOf]; omega⟩
      · have ht : decide ((15 : Int) < (s[k].toNat : Int)) = true := decide_eq_true (by omega)
        have HF : Hid (keyB (L s) = false) := by show _ = _; unfold keyB; rw [halvesB_bad hc.out h16, Bool.and_false]
        obtain ⟨rfl, rfl⟩ : r = bs [] ∧ ok = false := by
          rcases HR.out with h | h
          · rw [HF.out] at h; cases h.1
          · exact h.2
        go_wp2_with fail
        exact bodyPost_ret (v := .agg #[.string (bs []), .bool false]) (by simp [results, Tryd.results29, go_sem, c0, c1]; rfl) rfl ⟨rfl, (hbw.setCell (by simp) _).setCell (by simp) _⟩
    · obtain rfl : k = s.size := by omega
      have he : s.size % 2 = 0 := by have := HV.out; omega
      have hcv := conv_own (by rw [joinL_length, List.length_take, L_size]; omega) hown
      rw [show 2 * (s.size / 2) = s.size by omega, ← L_size, List.take_length] at hcv
      have HF : Hid (keyB (L s) = true) := by
        show _ = _
        unfold keyB
        rw [L_size, show oddB s.size = false from decide_eq_false (by omega), halvesB_good fun j c h => HA.out j c (by rw [← L_size s]; exact (List.getElem?_eq_some_iff.1 h).1) h]; rfl
      clear hown
      obtain ⟨rfl, rfl⟩ : r = bs (joinL (L s)) ∧ ok = true := by
        rcases HR.out with h | h
        · exact h.2
        · rw [HF.out] at h; cases h.1
      go_wp2_with fail
      exact bodyPost_ret (v := .agg #[.string (bs (joinL (L s))), .bool true]) (by simp [results, Tryd.results29, go_sem, c0, c1]) rfl ⟨rfl, (hbw.setCell (by simp) _).setCell (by simp) _⟩

theorem refKey_any (s : ByteArray) (hs : s.size ≤ 5000) (w : World) :
    Calls Tryd.prog 29 #[.string s] w fun e w' => e = .returned (.agg #[.string (if keyB (L s) then bs (joinL (L s)) else bs []), .bool (keyB (L s))]) ∧ Below w.heap.size w w' := by
  cases h : keyB (L s)
  · exact refKey_core s hs (bs []) false (.inr ⟨h, rfl, rfl⟩) w
  · exact refKey_core s hs (bs (joinL (L s))) true (.inl ⟨h, rfl, rfl⟩) w

end Go.Proofs.YtelaiblhnhbgiaaDoor
