/-
  GetPairs's walk: whatever pairs and key, the call returns true, where the table of upper halves lies as its initialiser lays it. The beginnings of a key that a byte's bits choose, as pairs. Plain mathematics. GetPrefix's walk: whatever key and byte, the call returns true, where the table of upper halves lies as its initialiser lays it.
-/
import Derived.Test.YtimmbnipagnbfaaDoorGar
import Derived.Laws.BitsLemmas
import Derived.Test.YtimmbnipagnbfaaDoorGam
namespace Go.Proofs.YtimmbnipagnbfaaDoor
open Go.RowKit
set_option maxRecDepth 20000
set_option linter.unusedVariables false

def inB (l : List Pr) (key : Bt) : Bool := l.any fun p => decide (p.1 = key)
theorem look_in (l : List Pr) (key : Bt) : (lookL l key).isSome = inB l key := by
  induction l with
  | nil => rfl
  | cons p l ih =>
    rw [look_cons]
    unfold inB at ih ⊢
    rw [List.any_cons]
    by_cases h : p.1 = key
    · rw [if_pos h, decide_eq_true h]; rfl
    · rw [if_neg h, decide_eq_false h, Bool.false_or]; exact ih
theorem in_more {l : List Pr} {k : Nat} (hk : k < l.length) (key : Bt) : inB (l.take (k + 1)) key = (inB (l.take k) key || decide ((l.getD k ([], [])).1 = key)) := by
  unfold inB
  rw [List.take_add_one, getD_some (d := ([], [])) hk, List.any_append]
  simp
theorem ok_build {l : List Pr} (h : mayB l = true) : okT (buildN l) = true := by
  unfold okT
  rw [readF_iff.2 ⟨h, rfl, rfl⟩]; rfl
theorem rL_build {l : List Pr} (h : mayB l = true) : rL (buildN l) = l := by
  unfold rL
  rw [readF_iff.2 ⟨h, rfl, rfl⟩]
theorem bX_build {l : List Pr} (h : mayB l = true) : bX l = buildN l := by unfold bX; rw [h, if_pos rfl]
theorem okP_keyOk {p : Pr} (h : okP p = true) : keyOk p.1 = true := by
  obtain ⟨h1, h2, _⟩ := okP_key p h
  unfold keyOk; rw [decide_eq_true h1, decide_eq_true h2]; rfl
theorem err_build {l : List Pr} (h : mayB l = true) (key : Bt) : errN (buildN l) key = if keyOk key = false then 9 else 0 := by
  unfold errN; rw [ok_build h, if_neg (by simp)]
theorem ofK_pair {l : List Pr} (h : mayB l = true) {p : Pr} (hp : p ∈ l) : ofK (buildN l) p.1 = some p.2 ∧ errN (buildN l) p.1 = 0 := by
  have hk := okP_keyOk ((mayB_rise l h).2 p hp)
  refine ⟨?_, by rw [err_build h, hk]; rfl⟩
  rw [ofK_look (ok_build h) hk, rL_build h]
  exact (look_some h).2 hp

set_option maxHeartbeats 16000000 in
theorem getPairs_any {w : World} {v : Value} {l : List Pr} {s : ByteArray} (P : Ls w 2 v (l.map prC)) (hl : l.length ≤ maxLen) (hT : Tab w) :
    Calls Tryd.prog 4 #[v, .string s] w fun e w' => e = .returned (.bool true) ∧ New w w' := by
  unfold maxLen at hl
  obtain ⟨key, rfl⟩ : ∃ key, s = bs key := ⟨L s, (bs_L s).symm⟩
  have hlp := longPairs_any P (by omega)
  have HT : Hid (Tab w) := hT
  have HP : Hid (Ls w 2 v (l.map prC)) := P
  have hwk := fun {W : World} (n : New w W) => wakes_any W (HT.out.kept n)
  obtain ⟨b1, hb1⟩ : ∃ b, longB lenP 3000 ([], []) l = b := ⟨_, rfl⟩
  rw [hb1] at hlp
  have HB1 : Hid (longB lenP 3000 ([], []) l = b1) := hb1
  clear hb1 P hT
  cases b1
  case true =>
    go_enter Tryd.func4, Tryd.ntmps4
    go_wp2_with fail
    refine Calls.mono hlp ?_
    rintro _ W1 ⟨rfl, N1⟩
    clear hlp
    go_wp2_with fail
    refine Calls.mono (hwk N1) ?_
    rintro _ W2 ⟨rfl, N2⟩
    go_wp2_with fail
    go_ret
    exact ⟨rfl, N1.trans N2⟩
  obtain ⟨hs1, hs2⟩ := prs_of HB1.out
  obtain ⟨mb, hmb⟩ : ∃ b, mayB l = b := ⟨_, rfl⟩
  have hmay := fun {w1 : World} (n : New w w1) => refMay_any (HP.out.after n) (by omega) hs2
  rw [hmb] at hmay
  cases mb
  case false =>
    clear hs2 hmb
    go_enter Tryd.func4, Tryd.ntmps4
    go_wp2_with fail
    refine Calls.mono hlp ?_
    rintro _ W1 ⟨rfl, N1⟩
    clear hlp
    go_wp2_with fail
    refine Calls.mono (hmay N1) ?_
    rintro _ W2 ⟨rfl, N2⟩
    clear hmay
    go_wp2_with fail
    refine Calls.mono (hwk (N1.trans N2)) ?_
    rintro _ W3 ⟨rfl, N3⟩
    go_wp2_with fail
    go_ret
    exact ⟨rfl, (N1.trans N2).trans N3⟩
  have HMB : Hid (mayB l = true) := hmb
  have hbu := fun {W : World} (n : New w W) => r_build (HP.out.after n) (by omega) hs2
  rw [hmb, bX_build hmb] at hbu
  have HS : Hid (∀ p ∈ l, p.1.length ≤ 4000 ∧ p.2.length ≤ 4000) := hs2
  have HK : Hid (TOk (buildN l)) := build_ok hmb (by omega)
  have HPR : Hid (∀ p ∈ l, ofK (buildN l) p.1 = some p.2 ∧ errN (buildN l) p.1 = 0) := fun p hp => ofK_pair hmb hp
  have HER : Hid (errN (buildN l) key = if keyOk key = false then 9 else 0) := err_build hmb key
  have HNO : Hid (keyOk key = false → ofK (buildN l) key = none) := fun h => by unfold ofK; rw [if_neg (by rw [h]; rintro ⟨_, h⟩; cases h)]
  have HYES : Hid (keyOk key = true → (ofK (buildN l) key).isSome = inB l key) := fun h => by rw [ofK_look (ok_build hmb) h, rL_build hmb, look_in]
  have hfd := field_T
  clear hs2 hmb
  generalize buildN l = t at *
  go_enter Tryd.func4, Tryd.ntmps4
  go_wp2_with fail
  refine Calls.mono hlp ?_
  rintro _ W1 ⟨rfl, N1⟩
  clear hlp
  go_wp2_with fail
  refine Calls.mono (hmay N1) ?_
  rintro _ W2 ⟨rfl, N2⟩
  clear hmay
  go_wp2_with fail
  refine Calls.mono (hbu (N1.trans N2)) ?_
  rintro _ W3 ⟨a, n, c, a2, n2, c2, rfl, PT, _, N3⟩
  clear hbu
  have M3 := (N1.trans N2).trans N3
  have hf := hfd a n c a2 n2 c2 true
  have HPT : Hid (Ls W3 20 (.slice a n c) (t.map ndC)) := PT
  have hof := fun (k : Bt) {W : World} (N : New W3 W) => of_any12 (HPT.out.after N) HK.out (HT.out.kept (M3.trans N)) k
  clear hfd PT N1 N2 N3
  go_wp2_with fail
  obtain ⟨ga0, c0, rfl, hc0, HSL⟩ := HP.out.open ([], [])
  go_loopw [6, 7] (fun s6 s7 wr => ∃ k : Nat, k ≤ l.length ∧ s6 = .bool (inB (l.take k) key) ∧ s7 = .int .i64 (k : Int) ∧ New W3 wr) (fun _ s7 _ => l.length - (intOf s7).toNat)
  case atStart => exact ⟨0, by omega, rfl, rfl, New.refl _⟩
  case round =>
    obtain ⟨k, hk, rfl, rfl, N⟩ := hrel
    by_cases hlt : k < l.length
    · obtain ⟨ga, oa, rfl, hga, hra⟩ := HSL.out (by omega)
      have hr := hra _ (M3.trans N) k hlt
      have ca := hr 0 _ rfl
      have hin := in_more hlt key
      have hpm := getD_mem (d := (([], []) : Pr)) hlt
      have hra' := fun W n => hra W n k hlt 1 _ rfl
      have hra0 := fun W n => hra W n k hlt 0 _ rfl
      obtain ⟨p, hpp⟩ : ∃ p, l.getD k ([], []) = p := ⟨_, rfl⟩
      rw [hpp] at ca hin hpm hra' hra0
      rw [Nat.add_zero] at ca hra0
      have ho := hof p.1 N
      rw [(HPR.out p hpm).1, (HPR.out p hpm).2] at ho
      have HIN : Hid (inB (l.take (k + 1)) key = (inB (l.take k) key || decide (p.1 = key))) := hin
      have hkl : (k : Int) < (l.length : Int) := by omega
      obtain ⟨bi, hbi⟩ : ∃ b, inB (l.take k) key = b := ⟨_, rfl⟩
      rw [hbi] at HIN ⊢
      clear hra hr hpp hin hpm hbi
      go_wp2_with fail
      refine Calls.mono ho ?_
      rintro _ W4 ⟨rfl, N4⟩
      clear ho ca
      go_wp2_with (first
        | (refine wpList_alloc_at (by rfl) 8 (by rfl) 27 (by rfl) _ _ _ info27 ?_; intro Wa Ra Na)
        | (refine wpList_store_new (by rfl) 27 _ _ (by rfl) W4.heap.size (ansA (some p.2)) (by rfl) (by rfl) 27 _ Ra i27 rfl (ans_one _) ?_; intro W5 R5 B5; have N5 : New W4 W5 := B5.new Na (Nat.le_refl _)))
      have N35 := (N.trans N4).trans N5
      have q0 := NewW.cell (W := W5) (g := W4.heap.size) (o := 0) (v := .bool true) (R5.has 0 rfl)
      have q1 := NewW.cell (W := W5) (g := W4.heap.size) (o := 1) (v := .string (bs p.2)) (R5.has 1 rfl)
      have q2 := NewW.cell (W := W5) (g := ga) (o := oa + k * 2 + 1) (v := .string (bs p.2)) (hra' _ (M3.trans N35))
      have c0 := hra0
      have hne := NewW.ne W5
      have hbb : ((bs p.2).toList == (bs p.2).toList) = true := beq_self_eq_true _
      clear Ra Na B5 N5 R5 N4 hra' hra0
      generalize W4.heap.size = G at *
      refine region_new W5 (New.refl W5) (by kernel_rfl) (by kernel_rfl) ?_
      repeat (go_big_quiet_step (fail))
      refine wpQuiet_nil ?_
      rintro W6 ⟨⟨_, k6⟩, rfl⟩
      clear q0 q1 q2 hne
      have N36 := N35.trans k6
      have cc := c0 _ (M3.trans N36)
      clear c0
      by_cases he : p.1 = key
      · have hb : ((bs p.1).toList == (bs key).toList) = true := by rw [beq_bs, L_bs, L_bs]; exact decide_eq_true he
        have HI2 : Hid (inB (l.take (k + 1)) key = (bi || true)) := by show _ = _; rw [HIN.out, decide_eq_true he]
        clear he
        cases bi
        · go_wp2_with fail
          exact ⟨⟨k + 1, by omega, by rw [HI2.out]; rfl, by go_num, N36⟩, by simp [intOf]; omega⟩
        · go_wp2_with fail
          exact ⟨⟨k + 1, by omega, by rw [HI2.out]; rfl, by go_num, N36⟩, by simp [intOf]; omega⟩
      · have hb : ((bs p.1).toList == (bs key).toList) = false := by rw [beq_bs, L_bs, L_bs]; exact decide_eq_false he
        have HI2 : Hid (inB (l.take (k + 1)) key = (bi || false)) := by show _ = _; rw [HIN.out, decide_eq_false he]
        clear he
        cases bi
        · go_wp2_with fail
          exact ⟨⟨k + 1, by omega, by rw [HI2.out]; rfl, by go_num, N36⟩, by simp [intOf]; omega⟩
        · go_wp2_with fail
          exact ⟨⟨k + 1, by omega, by rw [HI2.out]; rfl, by go_num, N36⟩, by simp [intOf]; omega⟩
    · have hkl : ¬ ((k : Int) < (l.length : Int)) := by omega
      have ho := hof key N
      have hky := fun W => key_any12 key W
      have HFULL : Hid (inB (l.take k) key = inB l key) := by show _ = _; rw [List.take_of_length_le (by omega)]
      rw [HFULL.out]
      have her := HER.out
      cases hkk : keyOk key
      · rw [hkk, if_pos rfl] at her
        rw [HNO.out hkk, her] at ho
        rw [hkk] at hky
        have he := fun w => eq_ans none none w
        rw [decide_eq_true rfl] at he
        clear hkk her
        go_wp2_with fail
        refine Calls.mono ho ?_
        rintro _ W4 ⟨rfl, N4⟩
        clear ho
        go_wp2_with (first
          | (refine wpList_alloc_at (by rfl) 10 (by rfl) 27 (by rfl) _ _ _ info27 ?_; intro Wa Ra Na)
          | (refine wpList_store_new (by rfl) 27 _ _ (by rfl) W4.heap.size (ansA none) (by rfl) (by rfl) 27 _ Ra i27 rfl (ans_one _) ?_; intro W5 R5 B5; have N5 : New W4 W5 := B5.new Na (Nat.le_refl _)))
        have M5 := M3.trans ((N.trans N4).trans N5)
        refine Calls.mono (hky _) ?_
        rintro _ W6 ⟨rfl, rfl⟩
        go_wp2_with (first
          | refine wpList_load_want (by rfl) 27 _ (by rfl) W4.heap.size (by rfl) 27 (ansA none) _ R5 Tryd.underlying27 rfl i27 ?_
          | refine wpList_run_want (by rfl) (.agg (ansA none)) _ (exec_build0 (by rfl) (run_build _ 27 _ _ built27)) ?_)
        refine Calls.mono (hwk M5) ?_
        rintro _ W7 ⟨rfl, N7⟩
        go_wp2_with fail
        go_ret
        exact ⟨rfl, M5.trans N7⟩
      · rw [hkk, if_neg (by simp)] at her
        rw [her] at ho
        rw [hkk] at hky
        have hyes := HYES.out hkk
        obtain ⟨ov, hov⟩ : ∃ o, ofK t key = o := ⟨_, rfl⟩
        rw [hov] at ho hyes
        rw [← hyes]
        clear hkk her hov hyes
        go_wp2_with fail
        refine Calls.mono ho ?_
        rintro _ W4 ⟨rfl, N4⟩
        clear ho
        go_wp2_with (first
          | (refine wpList_alloc_at (by rfl) 10 (by rfl) 27 (by rfl) _ _ _ info27 ?_; intro Wa Ra Na)
          | (refine wpList_store_new (by rfl) 27 _ _ (by rfl) W4.heap.size (ansA ov) (by rfl) (by rfl) 27 _ Ra i27 rfl (ans_one _) ?_; intro W5 R5 B5; have N5 : New W4 W5 := B5.new Na (Nat.le_refl _)))
        have M5 := M3.trans ((N.trans N4).trans N5)
        have y0 := R5.has 0 (v := .bool ov.isSome) rfl
        have hbe : (ov.isSome == ov.isSome) = true := beq_self_eq_true _
        refine Calls.mono (hky _) ?_
        rintro _ W6 ⟨rfl, rfl⟩
        go_wp2_with fail
        refine Calls.mono (hwk M5) ?_
        rintro _ W7 ⟨rfl, N7⟩
        go_wp2_with fail
        go_ret
        exact ⟨rfl, M5.trans N7⟩
end Go.Proofs.YtimmbnipagnbfaaDoor
namespace Go.Proofs.YtimmbnipagnbfaaDoor
open Go.RowKit
set_option maxRecDepth 20000

def bitOf (c i : Nat) : Bool := c / 2 ^ i % 2 == 1
theorem low_bit (n : Nat) (h : n < 256) : bits .and .u8 (n : Int) 1 = ((n % 2 : Nat) : Int) := by
  have h1 := bits_mask .u8 8 (by decide) wraps_u8 1 (by decide) (n : Int) (Int.natCast_nonneg _) (by omega)
  simp at h1
  omega
theorem bit_test (c k : Nat) (hc : c < 256) : bits .and .u8 (((c / 2 ^ k : Nat)) : Int) 1 = if bitOf c k then 1 else 0 := by
  rw [low_bit _ (Nat.lt_of_le_of_lt (Nat.div_le_self _ _) hc)]
  unfold bitOf
  have h2 := Nat.mod_lt (c / 2 ^ k) (by decide : 2 > 0)
  generalize c / 2 ^ k % 2 = m at h2
  have h3 : m = 0 ∨ m = 1 := by omega
  rcases h3 with rfl | rfl <;> rfl

theorem bit_letter (c k : Nat) (hc : c < 256) : (bits .and .u8 ((c : Int) / 2 ^ k) 1 == 1) = bitOf c k := by
  have h := bit_test c k hc
  rw [Int.natCast_ediv, Int.natCast_pow] at h
  rw [show ((2 : Nat) : Int) = 2 from rfl] at h
  rw [h]
  cases bitOf c k <;> rfl
def selP (key : Bt) (k : Nat) : Pr := (key.take (k + 1), [UInt8.ofNat (k + 1)])
def selL (key : Bt) (c : Nat) : Nat → List Pr
  | 0 => []
  | k + 1 => selL key c k ++ (if bitOf c k then [selP key k] else [])
theorem sel_yes {key : Bt} {c k : Nat} (h : bitOf c k = true) : selL key c (k + 1) = selL key c k ++ [selP key k] := by
  show selL key c k ++ _ = _; rw [if_pos h]
theorem sel_no {key : Bt} {c k : Nat} (h : bitOf c k = false) : selL key c (k + 1) = selL key c k := by
  show selL key c k ++ _ = _; rw [if_neg (by rw [h]; simp), List.append_nil]
theorem sel_mem {key : Bt} {c : Nat} {p : Pr} : ∀ {K : Nat}, p ∈ selL key c K ↔ ∃ k, k < K ∧ bitOf c k = true ∧ p = selP key k
  | 0 => by simp [selL]
  | K + 1 => by
    cases hb : bitOf c K
    · rw [sel_no hb, sel_mem (K := K)]
      constructor
      · rintro ⟨k, h1, h2⟩; exact ⟨k, by omega, h2⟩
      · rintro ⟨k, h1, h2, h3⟩
        have : k ≠ K := fun e => by rw [e, hb] at h2; cases h2
        exact ⟨k, by omega, h2, h3⟩
    · rw [sel_yes hb, List.mem_append, sel_mem (K := K), List.mem_singleton]
      constructor
      · rintro (⟨k, h1, h2⟩ | h)
        · exact ⟨k, by omega, h2⟩
        · exact ⟨K, by omega, hb, h⟩
      · rintro ⟨k, h1, h2, h3⟩
        by_cases e : k = K
        · subst e; exact .inr h3
        · exact .inl ⟨k, by omega, h2, h3⟩
theorem sel_len (key : Bt) (c : Nat) : ∀ K, (selL key c K).length ≤ K
  | 0 => by simp [selL]
  | K + 1 => by
    have := sel_len key c K
    cases hb : bitOf c K
    · rw [sel_no hb]; omega
    · rw [sel_yes hb, List.length_append, List.length_singleton]; omega
theorem sel_rise (key : Bt) (c : Nat) : ∀ K, K ≤ key.length → (selL key c K).Pairwise (fun p q => ltL p.1 q.1)
  | 0, _ => by simp [selL]
  | K + 1, h => by
    have ih := sel_rise key c K (by omega)
    cases hb : bitOf c K
    · rw [sel_no hb]; exact ih
    · rw [sel_yes hb, List.pairwise_append]
      refine ⟨ih, by simp, fun a ha b hb' => ?_⟩
      rw [List.mem_singleton] at hb'
      obtain ⟨j, hj, _, rfl⟩ := sel_mem.1 ha
      subst hb'
      show ltL (key.take (j + 1)) (key.take (K + 1))
      have e : key.take (K + 1) = key.take (j + 1) ++ (key.take (K + 1)).drop (j + 1) := by
        conv => lhs; rw [← List.take_append_drop (j + 1) (key.take (K + 1))]
        rw [List.take_take, Nat.min_eq_left (by omega)]
      rw [e]
      refine ltL_prefix _ fun hn => ?_
      have := congrArg List.length hn
      rw [List.length_drop, List.length_take, List.length_nil] at this
      omega
theorem may_of {l : List Pr} (hr : l.Pairwise (fun p q => ltL p.1 q.1)) (ho : ∀ p ∈ l, okP p = true) : mayB l = true := by
  refine (mayB_iff l).2 fun i hi => ?_
  unfold atB
  rw [ho _ (getD_mem hi), Bool.true_and, Bool.or_eq_true, decide_eq_true_eq]
  by_cases h0 : i = 0
  · exact .inl h0
  · right
    unfold upB
    rw [less_iff]
    rw [List.pairwise_iff_getElem] at hr
    have := hr (i - 1) i (by omega) hi (by omega)
    rw [List.getD_eq_getElem?_getD, List.getD_eq_getElem?_getD, List.getElem?_eq_getElem hi, List.getElem?_eq_getElem (by omega : i - 1 < l.length)]
    exact this
theorem sel_may {key : Bt} (h8 : key.length ≤ 8) (c K : Nat) (hK : K ≤ key.length) : mayB (selL key c K) = true := by
  refine may_of (sel_rise key c K hK) fun p hp => ?_
  obtain ⟨k, hk, _, rfl⟩ := sel_mem.1 hp
  unfold okP selP
  rw [List.length_take, Bool.and_eq_true, Bool.and_eq_true]
  refine ⟨decide_eq_true (by omega), decide_eq_true (by omega), by simp⟩
theorem sel_look {key : Bt} (h8 : key.length ≤ 8) (c : Nat) {k : Nat} (hk : k < key.length) : lookL (selL key c key.length) (key.take (k + 1)) = if bitOf c k then some [UInt8.ofNat (k + 1)] else none := by
  have hm := sel_may h8 c key.length (Nat.le_refl _)
  cases hb : bitOf c k
  · rw [if_neg (by simp)]
    cases e : lookL (selL key c key.length) (key.take (k + 1)) with
    | none => rfl
    | some v =>
      obtain ⟨j, hj, h2, h3⟩ := sel_mem.1 ((look_some hm).1 e)
      have := congrArg (fun p : Pr => p.1.length) h3
      simp only [selP, List.length_take] at this
      have : j = k := by omega
      rw [this, hb] at h2; cases h2
  · rw [if_pos rfl]
    exact (look_some hm).2 (sel_mem.2 ⟨k, hk, hb, rfl⟩)
theorem keyOk_take {key : Bt} (h : keyOk key = true) {k : Nat} (hk : k < key.length) : keyOk (key.take (k + 1)) = true := by
  have := keyOk_len h
  unfold keyOk
  rw [List.length_take, Bool.and_eq_true]
  exact ⟨decide_eq_true (by omega), decide_eq_true (by omega)⟩
end Go.Proofs.YtimmbnipagnbfaaDoor
namespace Go.Proofs.YtimmbnipagnbfaaDoor
open Go.RowKit
set_option maxRecDepth 20000
set_option linter.unusedVariables false

structure AnyW where
  v : World
def AnyS (w : World) : Prop := ∃ q : AnyW, w = q.v
theorem AnyS.of (w : World) : AnyS w := ⟨⟨w⟩, rfl⟩
theorem one_back {W : World} {g : Nat} {u : UInt8} (R : Row W g #[.int .u8 (u.toNat : Int)] 5) : (convert 56 9 (.slice (some ⟨g, 0, none⟩) 1 1)).run Tryd.prog W = .ok (.string (bs [u])) W :=
  run_convert_bytes_back (P := Tryd.prog) W 56 9 5 ⟨g, 0, none⟩ 1 [u] Tryd.underlying56 Tryd.underlying5 Tryd.underlying9 (fun j hj => by
    simp at hj
    subst hj
    have := R.cell 0
    simpa [Addr.add] using this)
theorem take_bs (r : Bt) (n : Nat) : (bs r).extract 0 n = bs (r.take n) := by
  apply eq_of_L
  rw [L_extract, L_bs, L_bs, List.drop_zero]

set_option maxHeartbeats 16000000 in
theorem getPrefix_any {w : World} {s : ByteArray} {y : UInt8} (hT : Tab w) :
    Calls Tryd.prog 6 #[.string s, .int .u8 (y.toNat : Int)] w fun e w' => e = .returned (.bool true) ∧ New w w' := by
  obtain ⟨key, rfl⟩ : ∃ key, s = bs key := ⟨L s, (bs_L s).symm⟩
  have HT : Hid (Tab w) := hT
  have hwk := fun {W : World} (n : New w W) => wakes_any W (HT.out.kept n)
  have hky := fun W => key_any12 key W
  clear hT
  cases hkk : keyOk key
  · rw [hkk] at hky
    clear hkk
    go_enter Tryd.func6, Tryd.ntmps6
    go_wp2_with fail
    refine Calls.mono (hky _) ?_
    rintro _ W1 ⟨rfl, rfl⟩
    go_wp2_with fail
    refine Calls.mono (hwk (New.refl _)) ?_
    rintro _ W2 ⟨rfl, N2⟩
    go_wp2_with fail
    go_ret
    exact ⟨rfl, N2⟩
  rw [hkk] at hky
  have hkl := keyOk_len hkk
  have HKK : Hid (keyOk key = true) := hkk
  have hks : ((bs key).size : Int) = (key.length : Int) := by rw [bs_size]
  have hks8 : (bs key).size ≤ 8 := by rw [bs_size]; omega
  have HK8 : Hid (key.length ≤ 8) := hkl.2
  have hy256 : y.toNat < 256 := y.toNat_lt
  obtain ⟨c, hc⟩ : ∃ c, y.toNat = c := ⟨_, rfl⟩
  rw [hc] at hy256
  have HC : Hid (y.toNat = c) := hc
  rw [hc]
  have hfd := field_T
  clear hc hkk
  go_enter Tryd.func6, Tryd.ntmps6
  go_wp2_with fail
  refine Calls.mono (hky _) ?_
  rintro _ W1 ⟨rfl, rfl⟩
  clear hky
  go_wp2_with fail
  go_loopw [5, 6] (fun s5 s6 wr => ∃ k : Nat, k ≤ key.length ∧ s6 = .int .i64 ((k : Int) + 1) ∧ Hid (Pl wr (Fresh W1) 48 2 s5 ((selL key c k).map prC)) ∧ New W1 wr) (fun _ s6 _ => key.length - (intOf s6 - 1).toNat)
  case atStart => exact ⟨0, by omega, rfl, Pl.nil _ _ _ _, New.refl _⟩
  case round =>
    obtain ⟨k, hk, rfl, hq, N⟩ := hrel
    by_cases hlt : k < key.length
    · have hlb : (k : Int) + 1 ≤ ((bs key).size : Int) := by rw [hks]; omega
      have hk1 : (k : Int) + 1 - 1 = (k : Int) := by omega
      have hk8 : k < 8 := by omega
      have hbl := bit_letter c k hy256
      cases hbit : bitOf c k with
      | false =>
        rw [hbit] at hbl
        have HS : Hid (selL key c (k + 1) = selL key c k) := sel_no hbit
        clear hbit
        go_wp2_with fail
        exact ⟨⟨k + 1, by omega, by go_num, by show Pl _ _ _ _ _ _; rw [HS.out]; exact hq.out, N⟩, by simp [intOf]; omega⟩
      | true =>
        rw [hbit] at hbl
        have HS : Hid (selL key c (k + 1) = selL key c k ++ [selP key k]) := sel_yes hbit
        clear hbit
        go_wp2_with fail
        have hcut : (bs key).extract 0 (k + 1) = bs (key.take (k + 1)) := take_bs _ _
        have hu : ((UInt8.ofNat (k + 1)).toNat : Int) = (k : Int) + 1 := by rw [byte_of (k + 1) (by omega)]; omega
        have hwrap : IntKind.u8.wrap ((k : Int) + 1) = (k : Int) + 1 := by rw [IntKind.wrap_u8]; omega
        have hne : Nonempty AnyW := ⟨⟨wr⟩⟩
        refine region_take [0, 1, 2, 3, 4] [5, 6, 7, 8, 9, 10] 11 AnyS (AnyS.of _) (by kernel_rfl) (by kernel_rfl) (fun d _ _ _ _ h => by cases d <;> exact h) ?_
        simp only [pick, List.getElem?_cons_succ, List.getElem?_cons_zero, Option.toList_some, List.cons_append, List.nil_append]
        unfold AnyS
        repeat (go_big_quiet_step (fail))
        refine wpQuiet_nil ?_
        have HU : Hid (((UInt8.ofNat (k + 1)).toNat : Int) = (k : Int) + 1) := hu
        have NW0 : New wr wr.drew := New.drew wr
        refine wpPre_run (some 34) (.int .u8 ((k : Int) + 1)) wr.drew (by rfl) (by rfl) (by rfl) (by go_simp) (AnyS.of _) ?_
        simp only [Act.put, List.setIfInBounds_toArray, List.set_cons_zero, List.set_cons_succ]
        have hb1 := run_buildCell (P := Tryd.prog) wr.drew 56 5 (.int .u8 ((k : Int) + 1)) _ _ Tryd.underlying56 info5 rfl
        have R2 := Row.new wr.drew #[.int .u8 ((k : Int) + 1)] 5
        have N2 : New wr.drew (wr.drew.alloc (.cells #[.int .u8 ((k : Int) + 1)] 5)) := (New.refl _).alloc _
        generalize wr.drew.alloc (.cells #[.int .u8 ((k : Int) + 1)] 5) = W2 at hb1 R2 N2
        refine wpPre_run (some 35) _ W2 (by rfl) (by rfl) (by rfl) (exec_buildSlice (by rfl) (by rfl) hb1) (AnyS.of _) ?_
        simp only [Act.put, List.setIfInBounds_toArray, List.set_cons_zero, List.set_cons_succ]
        have hcv := one_back (u := UInt8.ofNat (k + 1)) (by rw [HU.out]; exact R2)
        refine wpPre_run (some 36) (.string (bs [UInt8.ofNat (k + 1)])) W2 (by rfl) (by rfl) (by rfl) (exec_convert (by rfl) (by rfl) hcv) (AnyS.of _) ?_
        simp only [Act.put, List.setIfInBounds_toArray, List.set_cons_zero, List.set_cons_succ]
        refine wpPre_run (some 37) (.agg (prC (selP key k)).toArray) W2 (by rfl) (by rfl) (by rfl) (exec_build2 (by rfl) (by rfl) (by rfl) (run_build _ 48 _ _ (run_build52b _ _))) (AnyS.of _) ?_
        simp only [Act.put, List.setIfInBounds_toArray, List.set_cons_zero, List.set_cons_succ]
        have hb3 := run_buildOne W2 41 48 (prC (selP key k)).toArray _ _ _ Tryd.underlying41 info52 rfl (by decide) (by decide)
        have R4 := Row.new W2 (prC (selP key k)).toArray 48
        have N4 : New W2 (W2.alloc (.cells (prC (selP key k)).toArray 48)) := (New.refl W2).alloc _
        generalize W2.alloc (.cells (prC (selP key k)).toArray 48) = W4 at hb3 R4 N4
        refine wpPre_run (some 38) _ W4 (by rfl) (by rfl) (by rfl) (exec_buildSlice (by rfl) (by rfl) hb3) (AnyS.of _) ?_
        simp only [Act.put, List.setIfInBounds_toArray, List.set_cons_zero, List.set_cons_succ]
        have Q4 := ((hq.out.after NW0).after N2).after N4
        have hsl := sel_len key c k
        obtain ⟨g5, c5, W5, hap, Q5, G5⟩ := run_append_pl Q4 41 41 Tryd.underlying41 _ _ info52 rfl (by decide) W2.heap.size (prC (selP key k)) 48 R4 rfl (prC_one _) (by rw [List.length_map]; omega) (by decide)
        refine wpPre_run (some 39) _ W5 (by rfl) (by rfl) (by rfl) (exec_append (by rfl) (by rfl) (by rfl) hap) (AnyS.of _) ?_
        simp only [Act.put, List.setIfInBounds_toArray, List.set_cons_zero, List.set_cons_succ]
        refine wpPre_nil ?_
        have N5 : New W1 W5 := (((N.trans NW0).trans N2).trans N4).grown G5 fun b hb => hq.out.foot b hb
        have hW4 : W1.heap.size ≤ W4.heap.size := (((N.trans NW0).trans N2).trans N4).size
        clear hap hb1 hb3 hcv hu hcut hbl
        go_wp2_with fail
        refine ⟨⟨k + 1, by omega, by go_num, ?_, N5⟩, by simp [intOf]; omega⟩
        show Pl _ _ _ _ _ _
        rw [HS.out, List.map_append]
        refine Pl.mono (F := fun b => Fresh W1 b ∨ W4.heap.size ≤ b) ?_ fun b hb _ => ?_
        · rw [List.length_map] at Q5 ⊢
          exact Q5
        · rcases hb with hb | hb
          · exact hb
          · exact Nat.le_trans hW4 hb
    · obtain rfl : k = key.length := by omega
      have hlb : ¬ ((key.length : Int) + 1 ≤ ((bs key).size : Int)) := by rw [hks]; omega
      have hmay := sel_may HK8.out c key.length (Nat.le_refl _)
      have hsl := sel_len key c key.length
      have hsz : ∀ p ∈ selL key c key.length, p.1.length ≤ 4000 ∧ p.2.length ≤ 4000 := fun p hp => by
        have := okP_key p ((mayB_rise _ hmay).2 p hp); omega
      have hbu := r_build hq.out.ls (by omega) hsz
      rw [hmay, bX_build hmay] at hbu
      have HTK : Hid (TOk (buildN (selL key c key.length))) := build_ok hmay (by omega)
      have HOF : Hid (∀ j, j < key.length → ofK (buildN (selL key c key.length)) (key.take (j + 1)) = (if bitOf c j then some [UInt8.ofNat (j + 1)] else none) ∧ errN (buildN (selL key c key.length)) (key.take (j + 1)) = 0) := fun j hj => by
        have hko := keyOk_take HKK.out hj
        refine ⟨?_, by rw [err_build hmay, hko]; rfl⟩
        rw [ofK_look (ok_build hmay) hko, rL_build hmay]
        exact sel_look HK8.out c hj
      clear hmay hsl hsz hq
      generalize buildN (selL key c key.length) = t at *
      go_wp2_with fail
      refine Calls.mono hbu ?_
      rintro _ W3 ⟨a, n, d, a2, n2, d2, rfl, PT, _, N3⟩
      have M3 := N.trans N3
      have hf := hfd a n d a2 n2 d2 true
      have HPT : Hid (Ls W3 20 (.slice a n d) (t.map ndC)) := PT
      clear hbu hfd PT N N3 hlb
      go_wp2_with fail
      clear hf
      go_loopw [8] (fun s8 wr2 => ∃ j : Nat, j ≤ key.length ∧ s8 = .int .i64 ((j : Int) + 1) ∧ New W3 wr2) (fun s8 _ => key.length - (intOf s8 - 1).toNat)
      case atStart => exact ⟨0, by omega, rfl, New.refl _⟩
      case round =>
        obtain ⟨j, hj, rfl, N4⟩ := hrel
        by_cases hjlt : j < key.length
        · have hlb : (j : Int) + 1 ≤ ((bs key).size : Int) := by rw [hks]; omega
          have hj1 : (j : Int) + 1 - 1 = (j : Int) := by omega
          have hj8 : j < 8 := by omega
          have hbl := bit_letter c j hy256
          have hcut : (bs key).extract 0 (j + 1) = bs (key.take (j + 1)) := take_bs _ _
          have HU : Hid (((UInt8.ofNat (j + 1)).toNat : Int) = (j : Int) + 1) := by show _ = _; rw [byte_of (j + 1) (by omega)]; omega
          have hwrap : IntKind.u8.wrap ((j : Int) + 1) = (j : Int) + 1 := by rw [IntKind.wrap_u8]; omega
          have hof := of_any12 (HPT.out.after N4) HTK.out (HT.out.kept (M3.trans N4)) (key.take (j + 1))
          rw [(HOF.out j hjlt).1, (HOF.out j hjlt).2] at hof
          cases hbit : bitOf c j with
          | false =>
            rw [hbit] at hbl
            rw [hbit, if_neg (by simp)] at hof
            obtain ⟨E, hem, hye⟩ : ∃ E : ByteArray, E.toList.isEmpty = true ∧ ∀ W G, Row W G (ansA none) 27 → W.cell? ⟨G, 1, none⟩ = some (.string E) := ⟨bs [], by rw [beq_empty]; simp, fun W G R => R.has 1 rfl⟩
            clear hbit
            go_wp2_with fail
            refine Calls.mono hof ?_
            rintro _ W5 ⟨rfl, N5⟩
            clear hof
            go_upto_region 15 with (first
              | (refine wpList_alloc_at (by rfl) 9 (by rfl) 27 (by rfl) _ _ _ info27 ?_; intro Wa Ra Na)
              | (refine wpList_store_new (by rfl) 27 _ _ (by rfl) W5.heap.size (ansA none) (by rfl) (by rfl) 27 _ Ra i27 rfl (ans_one _) ?_; intro W6 R6 B6; have N6 : New W5 W6 := B6.new Na (Nat.le_refl _); have y0 := R6.has 0 (v := .bool false) rfl; have y1 := hye _ _ R6))
            have M6 := (N4.trans N5).trans N6
            clear R6 Ra B6 hye N5 N6
            go_wp2_with fail
            exact ⟨⟨j + 1, by omega, by go_num, M6⟩, by simp [intOf]; omega⟩
          | true =>
            rw [hbit] at hbl
            rw [hbit, if_pos rfl] at hof
            clear hbit
            generalize UInt8.ofNat (j + 1) = u at *
            have hee : ((bs [u]).toList == (bs [u]).toList) = true := beq_self_eq_true _
            go_wp2_with fail
            refine Calls.mono hof ?_
            rintro _ W5 ⟨rfl, N5⟩
            clear hof
            go_wp2_with (first
              | (refine wpList_alloc_at (by rfl) 9 (by rfl) 27 (by rfl) _ _ _ info27 ?_; intro Wa Ra Na)
              | (refine wpList_store_new (by rfl) 27 _ _ (by rfl) W5.heap.size (ansA (some [u])) (by rfl) (by rfl) 27 _ Ra i27 rfl (ans_one _) ?_; intro W6 R6 B6; have N6 : New W5 W6 := B6.new Na (Nat.le_refl _); have y0 := R6.has 0 (v := .bool true) rfl; have y1 := R6.has 1 (v := .string (bs [u])) rfl)
              | refine wpList_run_want (by rfl) (.string (bs [u])) _ (exec_convert (by rfl) (by rfl) (one_back (by rw [HU.out]; exact Row.new _ _ _))) ?_)
            exact ⟨⟨j + 1, by omega, by go_num, ((N4.trans N5).trans N6).trans ((New.refl _).alloc _)⟩, by simp [intOf]; omega⟩
        · have hlb : ¬ ((j : Int) + 1 ≤ ((bs key).size : Int)) := by rw [hks]; omega
          have M := M3.trans N4
          go_wp2_with fail
          refine Calls.mono (hwk M) ?_
          rintro _ W9 ⟨rfl, N9⟩
          go_wp2_with fail
          go_ret
          exact ⟨rfl, M.trans N9⟩
end Go.Proofs.YtimmbnipagnbfaaDoor
