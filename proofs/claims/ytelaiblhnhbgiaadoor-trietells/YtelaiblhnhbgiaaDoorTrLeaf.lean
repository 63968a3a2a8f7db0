/-
  The small functions of trie: a text cloned, a child's path; whether pairs may be.
-/
import Derived.Test.YtelaiblhnhbgiaaDoorTrVal
namespace Go.Proofs.YtelaiblhnhbgiaaDoor
open Go.RowKit
set_option maxRecDepth 20000

theorem clone_any (l : Bt) (hl : l.length ≤ 4000) (w : World) :
    Calls Tryd.prog 28 #[.string (bs l)] w fun e w' => e = .returned (.string (bs l)) ∧ New w w' := by
  have HC := fun w => Tryd.stringslite_Clone (bs l) w (by rw [bs_size]; omega)
  go_enter Tryd.func28, Tryd.ntmps28
  go_wp2_with fail
  refine (HC _).mono ?_
  rintro e w1 ⟨rfl, g1⟩
  go_wp2_with fail
  go_ret
  exact ⟨rfl, g1⟩

/-- What leads to a child, as the program has it. -/
def kidP (kind : Int) (e : Bt) (c : Nat) : Bt := if kind = 2 then e else e ++ [UInt8.ofNat c]
set_option maxHeartbeats 400000 in
theorem childPath_any (kind : Int) (e : Bt) (he : e.length ≤ 4000) (c : Nat) (hc : c < 16) (w : World) :
    Calls Tryd.prog 41 #[.int .i64 kind, .string (bs e), .int .i64 (c : Int)] w fun x w' => x = .returned (.string (bs (kidP kind e c))) ∧ New w w' := by
  by_cases hk : kind = 2
  · subst hk
    have HE : Hid (kidP 2 e c = e) := if_pos rfl
    have HC := fun w => clone_any e he w
    go_enter Tryd.func41, Tryd.ntmps41
    go_wp2_with fail
    refine (HC _).mono ?_
    rintro _ w1 ⟨rfl, g1⟩
    go_wp2_with fail
    go_ret
    exact ⟨ret_str (by rw [HE.out]), g1⟩
  · have HE : Hid (bs e ++ bs [UInt8.ofNat c] = bs (kidP kind e c)) := eq_of_L (by rw [L_append, L_bs, L_bs, L_bs]; unfold kidP; rw [if_neg hk])
    have hw8 : IntKind.u8.wrap (c : Int) = (c : Int) := by rw [IntKind.wrap_u8]; omega
    have hcv : ∀ (w : World) (b : Nat), w.cell? ⟨b, 0, none⟩ = some (.int .u8 (c : Int)) → (convert 50 9 (.slice (some ⟨b, 0, none⟩) 1 1)).run Tryd.prog w = .ok (.string (bs [UInt8.ofNat c])) w := by
      intro w b hc'
      refine run_convert_bytes_back w 50 9 5 ⟨b, 0, none⟩ 1 [UInt8.ofNat c] Tryd.underlying50 Tryd.underlying5 Tryd.underlying9 (fun j hj => ?_)
      simp at hj
      subst hj
      simp [Addr.add, hc']
      omega
    have hkd : (kind == 2) = false := by simpa using hk
    have hsz1 : (bs e).size ≤ 4000 := by rw [bs_size]; exact he
    have hsz2 : (bs [UInt8.ofNat c]).size ≤ 1 := Nat.le_refl _
    generalize bs (kidP kind e c) = R at HE ⊢
    generalize bs [UInt8.ofNat c] = B at hcv HE hsz2
    generalize bs e = A at HE hsz1 ⊢
    clear he
    go_enter Tryd.func41, Tryd.ntmps41
    go_wp2_with fail
    have h1 := hcv (w.alloc (.cells #[.int .u8 (c : Int)] 5)) w.heap.size (by simp)
    go_wp2_with fail
    go_ret
    exact ⟨ret_str HE.out, (New.refl w).alloc _⟩

theorem upB_run (a b : Bt) : Op.bytesLess (bs a).toList (bs b).toList = upB a b := by rw [toList_L, toList_L]; rfl
/-- A slice of pairs, of nodes, of texts, opened: where it lies. -/
theorem Ls.open {w : World} {k : Nat} {α : Type} {f : α → List Value} {v : Value} {l : List α} (h : Ls w k v (l.map f)) (d : α) : ∃ a c, v = .slice a l.length c ∧ l.length ≤ c ∧
    Hid (0 < l.length → ∃ g o, a = some ⟨g, o, none⟩ ∧ g < w.heap.size ∧ ∀ (W : World), New w W → ∀ i, i < l.length → W.rangeAt g (o + i * k) (f (l.getD i d))) := by
  obtain ⟨a, c, e, hc, h3⟩ := h
  rw [List.length_map] at e hc
  refine ⟨a, c, e, hc, fun hn => ?_⟩
  obtain ⟨g, o, ea, hg, hr⟩ := h3 (by intro e; have := congrArg List.length e; rw [List.length_map] at this; simp at this; rw [this] at hn; simp at hn)
  refine ⟨g, o, ea, hg, fun W N i hi j u hu => ?_⟩
  have := hr i (by rw [List.length_map]; exact hi) j u (by rw [List.getElem_map]; rw [List.getD_eq_getElem?_getD, List.getElem?_eq_getElem hi] at hu; exact hu)
  exact (N.cell hg).trans this
theorem LsA.open {w : World} {A : Nat → Prop} {k : Nat} {α : Type} {f : α → List Value} {v : Value} {l : List α} (h : LsA w A k v (l.map f)) (d : α) : ∃ a c, v = .slice a l.length c ∧ l.length ≤ c ∧
    Hid (0 < l.length → ∃ g o, a = some ⟨g, o, none⟩ ∧ g < w.heap.size ∧ A g ∧ ∀ (W : World), New w W → ∀ i, i < l.length → W.rangeAt g (o + i * k) (f (l.getD i d))) := by
  obtain ⟨a, c, e, hc, h3⟩ := h
  rw [List.length_map] at e hc
  refine ⟨a, c, e, hc, fun hn => ?_⟩
  obtain ⟨g, o, ea, hg, hA, hr⟩ := h3 (by intro e; have := congrArg List.length e; rw [List.length_map] at this; simp at this; rw [this] at hn; simp at hn)
  refine ⟨g, o, ea, hg, hA, fun W N i hi j u hu => ?_⟩
  have := hr i (by rw [List.length_map]; exact hi) j u (by rw [List.getElem_map]; rw [List.getD_eq_getElem?_getD, List.getElem?_eq_getElem hi] at hu; exact hu)
  exact (N.cell hg).trans this
theorem getD_mem {α : Type} {l : List α} {i : Nat} {d : α} (h : i < l.length) : l.getD i d ∈ l := by
  rw [List.getD_eq_getElem?_getD, List.getElem?_eq_getElem h]; exact List.getElem_mem h
theorem okP_key (p : Pr) (h : okP p = true) : 1 ≤ p.1.length ∧ p.1.length ≤ 8 ∧ p.2.length ≤ 16 := by
  simpa [okP] using h
theorem pr_all (p : Pr) : (prC p).toArray.all (·.oneCell') = true := all_oneCell_toArray (prC_one p)
theorem atB_zero {l : List Pr} {k : Nat} {p : Pr} (hk : k = 0) (hp : l.getD k ([], []) = p) (h : okP p = true) : atB l k = true := by
  unfold atB; rw [hp, h, decide_eq_true hk]; rfl
theorem atB_succ {l : List Pr} {k m : Nat} {p q : Pr} (hk : k = m + 1) (hp : l.getD k ([], []) = p) (hq : l.getD m ([], []) = q) : atB l k = (okP p && upB q.1 p.1) := by
  unfold atB; rw [hp, decide_eq_false (by omega), show k - 1 = m by omega, hq]; rfl
theorem mayB_no {l : List Pr} {k : Nat} (hb : mayB l = true ↔ ∀ i, i < l.length → atB l i = true) (hk : k < l.length) (h : atB l k = false) : mayB l = false := by
  rw [Bool.eq_false_iff]; intro e; rw [hb.1 e k hk] at h; cases h
theorem atB_bad {l : List Pr} {k : Nat} {p : Pr} (hp : l.getD k ([], []) = p) (h : okP p = false) : atB l k = false := by
  unfold atB; rw [hp, h]; rfl
theorem ok_form (p : Pr) : ((bs p.1).toList.isEmpty || decide ((8 : Int) < ((bs p.1).size : Int)) || decide ((16 : Int) < ((bs p.2).size : Int))) = !okP p := by
  have e : (bs p.1).toList.isEmpty = decide (p.1.length < 1) := by
    rw [toList_L, L_bs, Bool.eq_iff_iff, List.isEmpty_iff, decide_eq_true_eq]
    cases p.1 <;> simp
  rw [e, bs_size, bs_size]
  unfold okP
  rw [Bool.eq_iff_iff]
  simp only [Bool.or_eq_true, Bool.not_eq_true', Bool.and_eq_false_iff, decide_eq_true_eq, decide_eq_false_iff_not]
  omega

set_option maxHeartbeats 1000000 in
theorem mayBe_any {w : World} {v : Value} {l : List Pr} (P : Ls w 2 v (l.map prC)) (hl : l.length ≤ 10000) (hk : ∀ p ∈ l, p.1.length ≤ 4000 ∧ p.2.length ≤ 4000) :
    Calls Tryd.prog 22 #[v] w fun e w' => e = .returned (.bool (mayB l)) ∧ New w w' := by
  obtain ⟨a, c, rfl, hc, HS⟩ := P.open ([], [])
  have HM : Hid (∀ i, i < l.length → (l.getD i ([], [])).1.length ≤ 4000 ∧ (l.getD i ([], [])).2.length ≤ 4000) := fun i h => hk _ (getD_mem h)
  have HB : Hid (mayB l = true ↔ ∀ i, i < l.length → atB l i = true) := mayB_iff l
  clear hk P
  go_enter Tryd.func22, Tryd.ntmps22
  go_wp2_with fail
  go_loopw [7] (fun i wr => ∃ k : Nat, k ≤ l.length ∧ i = .int .i64 (k : Int) ∧ Hid (∀ j, j < k → atB l j = true) ∧ New w wr) (fun i _ => l.length - (intOf i).toNat)
  case atStart => exact ⟨0, by omega, rfl, fun j h => absurd h (by omega), New.refl w⟩
  case round =>
    obtain ⟨k, hk, rfl, hall, N⟩ := hrel
    by_cases hlt : k < l.length
    · obtain ⟨g, o, rfl, hg, hr⟩ := HS.out (by omega)
      have M0 := (HM.out k hlt)
      have R2 := hr wr N k hlt
      obtain ⟨p, hp⟩ : ∃ p, l.getD k ([], []) = p := ⟨_, rfl⟩
      have HP : Hid (l.getD k ([], []) = p) := hp
      rw [hp] at R2 M0
      clear hp
      have HQ : Hid (∀ W, New w W → ∀ i, i < l.length → W.rangeAt g (o + i * 2) (prC (l.getD i ([], [])))) := hr
      clear hr
      have hor : ((bs p.1).toList.isEmpty || decide ((8 : Int) < ((bs p.1).size : Int)) || decide ((16 : Int) < ((bs p.2).size : Int))) = !okP p := ok_form p
      by_cases hok : okP p = true
      · rw [hok] at hor
        simp only [Bool.or_eq_false_iff, Bool.not_true] at hor
        obtain ⟨⟨o1, o2⟩, o3⟩ := hor
        have HO : Hid (okP p = true) := hok
        clear hok
        by_cases hk0 : k = 0
        · have hd0 : decide ((0 : Int) < (k : Int)) = false := decide_eq_false (by omega)
          have hd1 : decide (0 < k) = false := decide_eq_false (by omega)
          have HK : Hid (k = 0) := hk0
          clear hk0
          go_wp2_with (first
            | refine wpList_load_mid (by rfl) 52 _ (by rfl) g (o + k * 2) (by rfl) (prC p) _ R2 Tryd.underlying52 rfl i52 ?_
            | (refine wpList_alloc_new (by rfl) 52 (by rfl) _ _ _ info52 ?_; intro W1 R1 M1)
            | (refine wpList_store_new (by rfl) 52 _ _ (by rfl) wr.heap.size (prC p).toArray (by rfl) (by rfl) 52 _ R1 i52 rfl (pr_all p) ?_; intro W2 R2 B2; have c0 : W2.cell? ⟨wr.heap.size, 0, none⟩ = some (.string (bs p.1)) := R2.cell 0; have c1 : W2.cell? ⟨wr.heap.size, 1, none⟩ = some (.string (bs p.2)) := R2.cell 1; have NW : New w W2 := B2.new (N.trans M1) N.size))
          have q0 := NewW.cell c0
          have hne := NewW.ne W2
          refine region_new W2 (New.refl W2) (by kernel_rfl) (by kernel_rfl) ?_
          repeat (go_big_quiet_step (fail))
          refine wpQuiet_nil ?_
          rintro W3 ⟨⟨_, k3⟩, rfl⟩
          go_wp2_with fail
          go_roundw
          case rel => 
            refine ⟨k + 1, by omega, by go_num, fun j hj => ?_, NW.trans k3⟩
            by_cases e : j = k
            · subst e
              exact atB_zero HK.out HP.out HO.out
            · exact hall.out j (by omega)
          case measure => simp [intOf]; omega
        · obtain ⟨m, hm⟩ : ∃ m, k = m + 1 := ⟨k - 1, by omega⟩
          have hd0 : decide ((0 : Int) < (k : Int)) = true := decide_eq_true (by omega)
          have hd1 : decide (0 < k) = true := decide_eq_true (by omega)
          have hkm : (k : Int) - 1 = (m : Int) := by omega
          have hml : m < l.length := by omega
          have HK : Hid (k = m + 1) := hm
          clear hk0 hm
          obtain ⟨q, hq⟩ : ∃ q, l.getD m ([], []) = q := ⟨_, rfl⟩
          have HQm : Hid (l.getD m ([], []) = q) := hq
          clear hq
          go_wp2_with (first
            | refine wpList_load_mid (by rfl) 52 _ (by rfl) g (o + k * 2) (by rfl) (prC p) _ R2 Tryd.underlying52 rfl i52 ?_
            | (refine wpList_alloc_new (by rfl) 52 (by rfl) _ _ _ info52 ?_; intro W1 R1 M1)
            | (refine wpList_store_new (by rfl) 52 _ _ (by rfl) wr.heap.size (prC p).toArray (by rfl) (by rfl) 52 _ R1 i52 rfl (pr_all p) ?_; intro W2 R2 B2; have c0 : W2.cell? ⟨wr.heap.size, 0, none⟩ = some (.string (bs p.1)) := R2.cell 0; have c1 : W2.cell? ⟨wr.heap.size, 1, none⟩ = some (.string (bs p.2)) := R2.cell 1; have NW : New w W2 := B2.new (N.trans M1) N.size))
          have RQ := HQ.out W2 NW m hml
          rw [HQm.out] at RQ
          have c2 : W2.cell? ⟨g, o + m * 2, none⟩ = some (.string (bs q.1)) := RQ 0 _ rfl
          have hup : Op.bytesLess (bs q.1).toList (bs p.1).toList = upB q.1 p.1 := upB_run _ _
          have HA : Hid (atB l k = (okP p && upB q.1 p.1)) := atB_succ HK.out HP.out HQm.out
          generalize upB q.1 p.1 = up at hup HA
          clear RQ c1 R2
          have q0 := NewW.cell c0
          have q2 := NewW.cell c2
          have hne := NewW.ne W2
          cases up
          all_goals
            refine region_new W2 (New.refl W2) (by kernel_rfl) (by kernel_rfl) ?_
            repeat (go_big_quiet_step (fail))
            refine wpQuiet_nil ?_
            rintro W3 ⟨⟨_, k3⟩, rfl⟩
            go_wp2_with fail
          · go_ret
            exact ⟨ret_bool (mayB_no HB.out hlt (by rw [HA.out, HO.out]; rfl)).symm, NW.trans k3⟩
          · go_roundw
            case rel =>
              refine ⟨k + 1, by omega, by go_num, fun j hj => ?_, NW.trans k3⟩
              by_cases e : j = k
              · subst e
                rw [HA.out, HO.out]; rfl
              · exact hall.out j (by omega)
            case measure => simp [intOf]; omega
      · have hok' : okP p = false := by simpa using hok
        rw [hok'] at hor
        have HN : Hid (mayB l = false) := mayB_no HB.out hlt (atB_bad HP.out hok')
        clear hok hok'
        go_wp2_with (first
          | refine wpList_load_mid (by rfl) 52 _ (by rfl) g (o + k * 2) (by rfl) (prC p) _ R2 Tryd.underlying52 rfl i52 ?_
          | (refine wpList_alloc_new (by rfl) 52 (by rfl) _ _ _ info52 ?_; intro W1 R1 M1)
          | (refine wpList_store_new (by rfl) 52 _ _ (by rfl) wr.heap.size (prC p).toArray (by rfl) (by rfl) 52 _ R1 i52 rfl (pr_all p) ?_; intro W2 R2 B2; have c0 : W2.cell? ⟨wr.heap.size, 0, none⟩ = some (.string (bs p.1)) := R2.cell 0; have c1 : W2.cell? ⟨wr.heap.size, 1, none⟩ = some (.string (bs p.2)) := R2.cell 1; have NW : New w W2 := B2.new (N.trans M1) N.size))
        all_goals go_ret
        all_goals exact ⟨ret_bool HN.out.symm, NW⟩
    · go_wp2_with fail
      go_ret
      refine ⟨ret_bool ?_, N⟩
      refine ((HB.out).2 fun i hi => hall.out i (by omega)).symm

end Go.Proofs.YtelaiblhnhbgiaaDoor
