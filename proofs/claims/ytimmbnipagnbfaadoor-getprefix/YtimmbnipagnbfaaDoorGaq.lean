/-
  follow: the nodes to which halves lead, and what of them is left at the last one. Of and Walk: what there is of a key, and the nodes on its way. The document's own Of, and Good; lists of numbers held against each other. The document's own Walk: the nodes on a key's way. Answers held against each other; small facts for the statements' common run.
-/
import Derived.Test.YtimmbnipagnbfaaDoorGal
import Derived.Test.YtimmbnipagnbfaaDoorGap
import Derived.Test.YtimmbnipagnbfaaDoorGaf
namespace Go.Proofs.YtimmbnipagnbfaaDoor
open Go.RowKit
set_option maxRecDepth 20000
set_option linter.unusedVariables false

def natV (k : Nat) : Value := .int .i64 (k : Int)
def natC (k : Nat) : List Value := [natV k]
def szOf : Value → Nat
  | .string b => b.size
  | _ => 0
theorem nat_flat (l : List Nat) : (l.map natC).flatten = l.map natV := by
  induction l with
  | nil => rfl
  | cons x l ih => rw [List.map_cons, List.flatten_cons, ih]; rfl
theorem owns_ls {w : World} {lim : Nat} {v : Value} {l : List Nat} (h : w.ownsRow lim 3 1 v l.length (l.map natV)) : Pl w (fun g => lim ≤ g) 3 1 v (l.map natC) := by
  refine ⟨fun e he => by obtain ⟨x, _, rfl⟩ := List.mem_map.1 he; rfl, ?_, fun g hg => ?_⟩
  · rw [nat_flat, List.length_map]
    refine ⟨h.1, h.2.imp id ?_⟩
    rintro ⟨g, cap, cur, h1, _, h3⟩
    exact ⟨g, cap, cur, h1, Nat.zero_le _, h3⟩
  · rcases h.2 with ⟨rfl, _⟩ | ⟨g', cap, cur, rfl, h2, _⟩
    · cases hg
    · cases hg; exact h2
theorem owns_last {w : World} {lim n : Nat} {v : Value} {l : List Nat} (h : w.ownsRow lim 3 1 v (n + 1) (l.map natV)) : ∃ g cap, v = .slice (some ⟨g, 0, none⟩) (n + 1) cap ∧ n + 1 ≤ cap ∧ ∀ (j k : Nat), l[j]? = some k → w.cell? ⟨g, j, none⟩ = some (.int .i64 (k : Int)) := by
  rcases h.2 with ⟨_, h0⟩ | ⟨g, cap, cur, rfl, h2, h3, h4, _, h5, h6⟩
  · omega
  · refine ⟨g, cap, rfl, h4, fun j k hj => ?_⟩
    have hc := cell_of_row w g j cur 3 (0, 0) h3
    rw [hc]
    have : (cur.toList.take ((n + 1) * 1))[j]? = some (natV k) := by rw [h6, List.getElem?_map, hj]; rfl
    rw [List.getElem?_take] at this
    split at this
    · rw [← Array.getElem?_toList]; exact this
    · cases this
theorem owns_one (w : World) (t : Nat) : (w.alloc (.cells #[.int .i64 (t : Int)] 3)).ownsRow w.heap.size 3 1 (.slice (some ⟨w.heap.size, 0, none⟩) 1 1) 1 ([t].map natV) :=
  ⟨rfl, .inr ⟨w.heap.size, 1, #[.int .i64 (t : Int)], rfl, Nat.le_refl _, heap_alloc_new w _, Nat.le_refl _, by unfold maxLen; omega, rfl, rfl⟩⟩
theorem tail_bs (r : Bt) (n : Nat) : (bs r).extract n (bs r).size = bs (r.drop n) := by
  apply eq_of_L
  rw [L_extract, L_bs, L_bs, bs_size, List.take_length]

theorem own_after {w w' : World} {lim n k : Nat} {t : TypeId} {v : Value} {xs : List Value} (h : w.ownsRow lim t k v n xs) (N : New w w') : w'.ownsRow lim t k v n xs := by
  refine ⟨h.1, h.2.imp id ?_⟩
  rintro ⟨g, cap, cur, h1, h2, h3, h4⟩
  exact ⟨g, cap, cur, h1, h2, (N.block g (Array.getElem?_eq_some_iff.1 h3).1).trans h3, h4⟩
/-- What is known of nodes ahead of a walk. -/
structure Wk (t : List Nd) : Prop where
  lk : Lk t
  few : t.length ≤ 10000

set_option maxHeartbeats 8000000 in
theorem follow_any {w : World} {v : Value} {t : List Nd} {r : Bt} (P : Ls w 20 v (t.map ndC)) (K : Wk t) (hr : ∀ c ∈ r, c.toNat < 16) (hrl : r.length ≤ 16) :
    Calls Tryd.prog 22 #[v, .string (bs r)] w fun e w' => ∃ va, e = .returned (.tuple #[va, .string (bs (wayT t r).2)]) ∧ Pl w' (Fresh w) 3 1 va ((wayT t r).1.map natC) ∧ New w w' := by
  obtain ⟨a, c, rfl, hc, HS⟩ := P.open noNd
  obtain ⟨i0, hi0, hz0, hz1, hz2⟩ := info_parts info3
  have HK : Hid (Lk t) := K.lk
  have HR : Hid (∀ c ∈ r, c.toNat < 16) := hr
  have hl := K.few
  clear P K hr
  by_cases h0 : t.length = 0
  · have e : wayT t r = ([], r) := by unfold wayT; rw [if_pos h0]
    rw [e]
    have hb : ((t.length : Int) == 0) = true := by rw [h0]; rfl
    clear e h0
    go_enter Tryd.func22, Tryd.ntmps22
    go_wp2_with fail
    go_ret2
    exact ⟨_, rfl, Pl.nil _ _ _ _, New.refl _⟩
  · have hb : ((t.length : Int) == 0) = false := by rw [beq_eq_false_iff_ne]; omega
    have HW : Hid (wayT t r = wayOf t 0 r) := by show _ = _; unfold wayT; rw [if_neg h0]
    have hpos : 0 < t.length := by omega
    clear h0
    go_enter Tryd.func22, Tryd.ntmps22
    go_wp2_with fail
    go_loopw [6, 1] (fun v s wr => ∃ (pre : List Nat) (i : Nat) (q : Bt), i < t.length ∧ s = .string (bs q) ∧ Hid (wr.ownsRow w.heap.size 3 1 v (pre.length + 1) ((pre ++ [i]).map natV)) ∧
      Hid ((wayOf t 0 r).1 = pre ++ (wayOf t i q).1 ∧ (wayOf t 0 r).2 = (wayOf t i q).2) ∧ Hid (∀ c ∈ q, c.toNat < 16) ∧ pre.length + q.length ≤ r.length ∧ Below w.heap.size w wr) (fun _ s _ => szOf s)
    case atStart => exact ⟨[], 0, r, hpos, rfl, owns_one w 0, ⟨rfl, rfl⟩, HR.out, by simp, (New.refl w).alloc _⟩
    case round =>
      obtain ⟨pre, i, q, hi, rfl, hown, hway, hq, hpl, hbw⟩ := hrel
      obtain ⟨g, cap, rfl, hcap, hcells⟩ := owns_last hown.out
      have ylast : wr.cell? ⟨g, pre.length, none⟩ = some (.int .i64 (i : Int)) := hcells pre.length i (by simp)
      obtain ⟨ga, o, rfl, hga, hrr⟩ := HS.out hpos
      have R2 := hrr wr hbw i hi
      have hm := getD_some (d := noNd) hi
      obtain ⟨m, hmm⟩ : ∃ m, t.getD i noNd = m := ⟨_, rfl⟩
      have HMM : Hid (t.getD i noNd = m) := hmm
      rw [hmm] at R2 hm
      have M1 := HK.out.k16 m (List.mem_of_getElem? hm)
      have hnx := fun {W : World} => next_any (w := W) (m := m) (r := q) M1 hq.out (by have := HK.out.len m (List.mem_of_getElem? hm); omega)
      have HM : Hid (t[i]? = some m) := hm
      have hit : (i : Int) < (t.length : Int) := by omega
      have hp1 : ((pre.length + 1 : Nat) : Int) - 1 = (pre.length : Int) := by omega
      have hp2 : (pre.length : Int) < ((pre.length + 1 : Nat) : Int) := by omega
      obtain ⟨kd, hkd⟩ : ∃ z, (nxt m q).1 = z := ⟨_, rfl⟩
      obtain ⟨sk, hsk⟩ : ∃ z, (nxt m q).2 = z := ⟨_, rfl⟩
      have HKD : Hid ((nxt m q).1 = kd) := hkd
      have HSK : Hid ((nxt m q).2 = sk) := hsk
      rw [hkd, hsk] at hnx
      clear hcells hrr hmm hm hkd hsk
      go_wp2_with (first
          | refine wpList_load_mid (by rfl) 54 _ (by rfl) ga (o + i * 20) (by rfl) (ndC m) _ R2 Tryd.underlying54 rfl (by rw [ndC_len M1]; exact i49) ?_
          | (refine wpList_alloc_at (by rfl) 7 (by rfl) 54 (by rfl) _ _ _ info49 ?_; intro W1 R1 N1)
          | (refine wpList_store_new (by rfl) 54 _ _ (by rfl) wr.heap.size (ndA m) (by rfl) (by rfl) 54 _ R1 (by rw [ndA_size M1]; exact i49) (by rw [ndA_size M1]; rfl) (ndA_all _) ?_; intro W2 R3 B3; have N3 : New wr W2 := B3.new N1 (Nat.le_refl _); have R4 := R3.range 0 20; rw [show ((ndA m).toList.drop 0).take 20 = ndC m by unfold ndA; rw [List.drop_zero, List.take_of_length_le (by rw [ndC_len M1]; exact Nat.le_refl _)]] at R4)
          | refine wpList_load_mid (by rfl) 54 _ (by rfl) wr.heap.size 0 (by rfl) (ndC m) _ R4 Tryd.underlying54 rfl (by rw [ndC_len M1]; exact i49) ?_)
      have hownW := fun {W : World} (n : New wr W) (hs : wr.heap.size ≤ W.heap.size) => hown.out
      by_cases hz : kd = 0
      · subst hz
        refine Calls.mono hnx ?_
        rintro _ W4 ⟨rfl, N4⟩
        have e := way_stop (r := q) hi (by rw [HMM.out]; exact HKD.out)
        have hN : New wr W4 := N3.trans N4
        have hfin : Pl W4 (Fresh w) 3 1 (.slice (some ⟨g, 0, none⟩) (pre.length + 1) cap) ((pre ++ [i]).map natC) := (owns_ls (l := pre ++ [i]) (by rw [List.length_append]; exact hown.out)).after hN
        have HFIN : Hid (Pl W4 (Fresh w) 3 1 (.slice (some ⟨g, 0, none⟩) (pre.length + 1) cap) ((wayT t r).1.map natC)) := by
          show Pl _ _ _ _ _ _
          rw [HW.out, hway.out.1, e]; exact hfin
        have HE : Hid ((wayT t r).2 = q) := by show _ = _; rw [HW.out, hway.out.2, e]
        have hbw4 : New w W4 := New.trans hbw hN
        clear hfin hnx hownW e R4 R3
        go_wp2_with fail
        go_ret2
        refine ⟨.slice (some ⟨g, 0, none⟩) (pre.length + 1) cap, ?_, HFIN.out, hbw4⟩
        rw [HE.out]; rfl
      · have hm' := HM.out
        obtain ⟨j, ej, hij, hjl, hs1, hs2, _⟩ := nxt_on HK.out HM.out (r := q) (by rw [HKD.out]; exact hz)
        rw [HKD.out] at ej
        subst ej
        have e := way_go HK.out (r := q) hi (by rw [HMM.out, HKD.out]; exact hz)
        rw [HMM.out, HKD.out, HSK.out, Int.toNat_natCast] at e
        rw [HSK.out] at hs1 hs2
        have hjb : ((j : Int) == 0) = false := by rw [beq_eq_false_iff_ne]; exact hz
        have HWAY : Hid ((wayOf t 0 r).1 = (pre ++ [i]) ++ (wayOf t j (q.drop sk)).1 ∧ (wayOf t 0 r).2 = (wayOf t j (q.drop sk)).2) := by
          refine ⟨?_, ?_⟩
          · rw [hway.out.1, e]; simp
          · rw [hway.out.2, e]
        have hskb : (sk : Int) ≤ ((bs q).size : Int) := by rw [bs_size]; omega
        have hskn : ¬ ((sk : Int) < 0) := by omega
        have hcut : (bs q).extract sk (bs q).size = bs (q.drop sk) := tail_bs q sk
        have HQ2 : Hid (∀ c ∈ q.drop sk, c.toNat < 16) := fun c hc => hq.out c (List.mem_of_mem_drop hc)
        have hlen2 : (q.drop sk).length = q.length - sk := List.length_drop
        have HL2 : Hid ((q.drop sk).length = q.length - sk) := hlen2
        clear hm' e hz hlen2
        refine Calls.mono hnx ?_
        rintro _ W4 ⟨rfl, N4⟩
        have hN : New wr W4 := N3.trans N4
        have HB4 : Hid (Below w.heap.size w W4) := New.trans hbw hN
        have hB4 := HB4.out.size
        have HO4 : Hid (W4.ownsRow w.heap.size 3 1 (.slice (some ⟨g, 0, none⟩) (pre.length + 1) cap) (pre.length + 1) ((pre ++ [i]).map natV)) := own_after hown.out hN
        clear hnx hownW R4 R3 hown
        go_wp2_with fail
        go_region_held3 (fun _ => True) (trivial)
          ((refine step_append_lies _ (by rfl) _ _ _ (by rfl) w.heap.size 3 i0 _ 1 8 Tryd.underlying33 hi0 hz0 hz1 hz2 rfl (by omega) (.slice (some ⟨g, 0, none⟩) (pre.length + 1) cap) (pre.length + 1) ((pre ++ [i]).map natV) (by rfl) ((HO4.out.alloc _).drew)
              ⟨W4.heap.size, 0, none⟩ 1 1 [natV j] (by rfl) (by rfl) (World.news_of_block (cs := #[natV j]) (t := 3) (fr := (0, 0)) (heap_alloc_new W4 _)) (by simp [Value.oneCell', natV])
              (by omega) (by unfold maxLen; omega) (by omega) (by simp; omega) (W4.heap.size + 1) (by simp) ?_; intro gg cap2 w1 hown1 hgrow hat hlt1))
        go_wp2_with fail
        refine ⟨⟨pre ++ [i], j, q.drop sk, hjl, rfl, ?_, HWAY.out, HQ2.out, ?_, ?_⟩, ?_⟩
        · show w1.ownsRow _ _ _ _ _ _
          rw [List.length_append, List.length_singleton, List.map_append (l₁ := pre ++ [i])]; exact hown1
        · rw [HL2.out, List.length_append, List.length_singleton]; omega
        · exact ((HB4.out.alloc hB4 _).drew).grown hgrow (by simp; omega) fun k hk => (HO4.out.lt k hk).1
        · show (bs (q.drop sk)).size < (bs q).size
          rw [bs_size, bs_size, HL2.out]; omega

/-- Are they the nodes of pairs? -/
def okT (t : List Nd) : Bool := (readF t).isSome
/-- Why there is no way. -/
def errN (t : List Nd) (key : Bt) : Int := if okT t = false then 1 else if keyOk key = false then 9 else 0
/-- The nodes on a key's way. -/
def wayK (t : List Nd) (key : Bt) : List Nat := if okT t = true ∧ keyOk key = true then (wayT t (ofL key)).1 else []
/-- What there is of a key. -/
def ofK (t : List Nd) (key : Bt) : Option Bt := if okT t = true ∧ keyOk key = true then ofT t (ofL key) else none
theorem ok_ex {t : List Nd} (h : okT t = true) : ∃ l, mayB l = true ∧ t = buildN l := by
  unfold okT at h
  cases e : readF t with
  | none => rw [e] at h; cases h
  | some s => obtain ⟨h1, h2, _⟩ := readF_ok e; exact ⟨s.1, h1, h2⟩
theorem ok_lk {t : List Nd} (h : okT t = true) : Lk t := by
  obtain ⟨l, hm, rfl⟩ := ok_ex h
  exact lk_of (sh_of hm).1
theorem ok_wk {t : List Nd} (h : okT t = true) (K : TOk t) : Wk t := ⟨ok_lk h, K.few⟩
theorem keyOk_len {k : Bt} (h : keyOk k = true) : 1 ≤ k.length ∧ k.length ≤ 8 := by
  unfold keyOk at h; simpa using h
theorem halves_of (k : Bt) : ∀ c ∈ ofL k, c.toNat < 16 := fun c hc => by
  obtain ⟨i, hi, e⟩ := List.getElem_of_mem hc
  exact halvesB_get (halvesB_of k) (k := i) (c := c) (by rw [List.getElem?_eq_getElem hi, e])
set_option maxHeartbeats 4000000 in
theorem refused_any {w : World} {v : Value} {t : List Nd} (P : Ls w 20 v (t.map ndC)) (K : TOk t) (hT : Tab w) (key : Bt) :
    Calls Tryd.prog 21 #[v, .string (bs key)] w fun e w' => e = .returned (.int .i64 (errN t key)) ∧ New w w' := by
  have hg := good_trie P K hT
  have hs : ((bs key).size : Int) = (key.length : Int) := by rw [bs_size]
  have he := beq_empty key
  clear P K hT
  cases hok : okT t
  · have e : errN t key = 1 := by unfold errN; rw [hok, if_pos rfl]
    unfold okT at hok
    rw [e]
    rw [hok] at hg
    clear e hok
    go_enter Tryd.func21, Tryd.ntmps21
    go_wp2_with fail
    refine Calls.mono hg ?_
    rintro _ W1 ⟨rfl, N1⟩
    go_wp2_with fail
    go_ret
    exact ⟨rfl, N1⟩
  · have e : errN t key = if keyOk key = false then 9 else 0 := by unfold errN; rw [hok, if_neg (by simp)]
    have hok' := hok
    unfold okT at hok
    rw [hok] at hg
    by_cases h0 : key = []
    · have e2 : errN t key = 9 := by rw [e, h0]; rfl
      rw [e2]
      rw [decide_eq_true h0] at he
      clear e e2 hok hok' h0
      go_enter Tryd.func21, Tryd.ntmps21
      go_wp2_with fail
      refine Calls.mono hg ?_
      rintro _ W1 ⟨rfl, N1⟩
      go_wp2_with fail
      go_ret
      exact ⟨rfl, N1⟩
    · rw [decide_eq_false h0] at he
      have hl : 1 ≤ key.length := by cases key with | nil => exact absurd rfl h0 | cons _ _ => simp
      by_cases h8 : key.length ≤ 8
      · have e2 : errN t key = 0 := by rw [e, if_neg]; unfold keyOk; rw [decide_eq_true hl, decide_eq_true h8]; simp
        have hd : decide ((8 : Int) < ((bs key).size : Int)) = false := by rw [hs]; exact decide_eq_false (by omega)
        have hd' : ¬ ((8 : Int) < ((bs key).size : Int)) := by rw [hs]; omega
        rw [e2]
        clear e e2 hok hok' h0 hs hl h8
        go_enter Tryd.func21, Tryd.ntmps21
        go_wp2_with fail
        refine Calls.mono hg ?_
        rintro _ W1 ⟨rfl, N1⟩
        go_wp2_with fail
        go_ret
        exact ⟨rfl, N1⟩
      · have e2 : errN t key = 9 := by rw [e, if_pos]; unfold keyOk; rw [decide_eq_false h8]; simp
        have hd : decide ((8 : Int) < ((bs key).size : Int)) = true := by rw [hs]; exact decide_eq_true (by omega)
        have hd' : ((8 : Int) < ((bs key).size : Int)) := by rw [hs]; omega
        rw [e2]
        clear e e2 hok hok' h0 hs hl h8
        go_enter Tryd.func21, Tryd.ntmps21
        go_wp2_with fail
        refine Calls.mono hg ?_
        rintro _ W1 ⟨rfl, N1⟩
        go_wp2_with fail
        go_ret
        exact ⟨rfl, N1⟩
end Go.Proofs.YtimmbnipagnbfaaDoor
namespace Go.Proofs.YtimmbnipagnbfaaDoor
open Go.RowKit
set_option maxRecDepth 20000
set_option linter.unusedVariables false

theorem last_get {w : List Nat} (h : 0 < w.length) : lastOf w = w.getD (w.length - 1) 0 := by
  unfold lastOf
  rw [List.getLast?_eq_getElem?, List.getD_eq_getElem?_getD]
theorem way_ne {t : List Nd} (h : Lk t) (hp : 0 < t.length) (r : Bt) : 0 < (wayT t r).1.length ∧ lastOf (wayT t r).1 < t.length := by
  unfold wayT
  rw [if_neg (by omega)]
  obtain ⟨w, hw⟩ := way_head h (r := r) hp
  refine ⟨by rw [hw]; simp, ?_⟩
  have hl : 0 < (wayOf t 0 r).1.length := by rw [hw]; simp
  rw [last_get hl]
  exact way_in h hp _ (getD_mem (by omega))
theorem way_few0 {t : List Nd} (h : Lk t) (r : Bt) : (wayT t r).1.length ≤ r.length + 1 := by
  unfold wayT
  split
  · simp
  · exact way_few h (by omega)
theorem get_results {w : World} {g : Nat} {tmps : Array Value} {C : Array Value} {z : Int} (hp : tmps.getD 4 undef = .pointer (some ⟨g, 0, none⟩)) (hq : tmps.getD 5 undef = .int .i64 z) (R : Row w g C 27) (hs : C.size = 2) :
    (results Tryd.f10 tmps).run Tryd.prog w = .ok (.tuple #[.agg C, .int .i64 z]) w :=
  results_cell_tmp (p := 4) (q := 5) (ty := 27) (by rfl) tmps w g 27 C (0, 0) _ _ hp hq R Tryd.underlying27 rfl (by rw [hs]; exact i27)
theorem err_ways (t : List Nd) (key : Bt) : (errN t key = 0 ∧ okT t = true ∧ keyOk key = true) ∨ (errN t key ≠ 0 ∧ wayK t key = [] ∧ ofK t key = none) := by
  unfold errN wayK ofK
  cases okT t <;> cases keyOk key <;> simp

set_option maxHeartbeats 8000000 in
theorem walk_any {w : World} {v : Value} {t : List Nd} (P : Ls w 20 v (t.map ndC)) (K : TOk t) (hT : Tab w) (key : Bt) :
    Calls Tryd.prog 12 #[v, .string (bs key)] w fun e w' => ∃ va, e = .returned (.tuple #[va, .int .i64 (errN t key)]) ∧ Pl w' (Fresh w) 3 1 va ((wayK t key).map natC) ∧ New w w' := by
  have hre := refused_any P K hT key
  rcases err_ways t key with ⟨he, hok, hk⟩ | ⟨he, hw, _⟩
  · rw [he] at hre ⊢
    have hkl := keyOk_len hk
    have hof := fun W => of_any (bs key) (by rw [bs_size]; omega) W
    rw [L_bs] at hof
    have hfo := fun {W : World} (n : New w W) => follow_any (r := ofL key) (P.after n) (ok_wk hok K) (halves_of key) (by rw [ofL_length]; omega)
    have HW : Hid (wayK t key = (wayT t (ofL key)).1) := by show _ = _; unfold wayK; rw [if_pos ⟨hok, hk⟩]
    clear he hok hk hkl P K hT
    go_enter Tryd.func12, Tryd.ntmps12
    go_wp2_with fail
    refine Calls.mono hre ?_
    rintro _ W1 ⟨rfl, N1⟩
    clear hre
    go_wp2_with fail
    refine Calls.mono (hof _) ?_
    rintro _ W2 ⟨rfl, N2⟩
    have N2 : New W1 W2 := N2
    clear hof
    go_wp2_with fail
    refine Calls.mono (hfo (N1.trans N2)) ?_
    rintro _ W3 ⟨va, rfl, Q, N3⟩
    clear hfo
    have HQ : Hid (Pl W3 (Fresh w) 3 1 va ((wayK t key).map natC)) := by
      show Pl _ _ _ _ _ _
      rw [HW.out]; exact Q.mono fun b hb _ => Nat.le_trans (N1.trans N2).size hb
    clear Q
    go_wp2_with fail
    go_ret2
    exact ⟨_, rfl, HQ.out, (N1.trans N2).trans N3⟩
  · have hb : (errN t key == 0) = false := by rw [beq_eq_false_iff_ne]; exact he
    rw [hw]
    generalize errN t key = z at *
    clear he hw P K hT
    go_enter Tryd.func12, Tryd.ntmps12
    go_wp2_with fail
    refine Calls.mono hre ?_
    rintro _ W1 ⟨rfl, N1⟩
    go_wp2_with fail
    go_ret2
    exact ⟨_, rfl, Pl.nil _ _ _ _, N1⟩

set_option maxHeartbeats 8000000 in
theorem of_any12 {w : World} {v : Value} {t : List Nd} (P : Ls w 20 v (t.map ndC)) (K : TOk t) (hT : Tab w) (key : Bt) :
    Calls Tryd.prog 10 #[v, .string (bs key)] w fun e w' => e = .returned (.tuple #[.agg (ansA (ofK t key)), .int .i64 (errN t key)]) ∧ New w w' := by
  have hre := fun {W : World} (n : New w W) => refused_any (P.after n) K (hT.kept n) key
  rcases err_ways t key with ⟨he, hok, hk⟩ | ⟨he, _, hw⟩
  · rw [he] at hre ⊢
    have hkl := keyOk_len hk
    have hof := fun W => of_any (bs key) (by rw [bs_size]; omega) W
    rw [L_bs] at hof
    have hfo := fun {W : World} (n : New w W) => follow_any (r := ofL key) (P.after n) (ok_wk hok K) (halves_of key) (by rw [ofL_length]; omega)
    have e0 : ofK t key = ofT t (ofL key) := by unfold ofK; rw [if_pos ⟨hok, hk⟩]
    have HL : Hid (Lk t) := ok_lk hok
    have HK : Hid (TOk t) := K
    obtain ⟨a, c, rfl, hc, HS⟩ := P.open noNd
    have hfew := K.few
    by_cases h0 : t.length = 0
    · have e1 : (wayT t (ofL key)).1 = [] := by unfold wayT; rw [if_pos h0]
      have e2 : ofK t key = none := by rw [e0]; unfold ofT; rw [if_pos h0]
      rw [e2]
      have HE1 : Hid ((wayT t (ofL key)).1 = []) := e1
      clear he hok hk hkl P K hT e0 e1 e2 h0
      go_enter Tryd.func10, Tryd.ntmps10
      go_wp2_with (first
        | (refine wpList_alloc_at (by rfl) 4 (by rfl) 27 (by rfl) _ _ _ info27 ?_; intro W0 R0 N0))
      refine Calls.mono (hre N0) ?_
      rintro _ W1 ⟨rfl, N1⟩
      clear hre
      go_wp2_with fail
      refine Calls.mono (hof _) ?_
      rintro _ W2 ⟨rfl, N2⟩
      have N2 : New W1 W2 := N2
      clear hof
      go_wp2_with fail
      refine Calls.mono (hfo ((N0.trans N1).trans N2)) ?_
      rintro _ W3 ⟨va, rfl, Q, N3⟩
      clear hfo
      have N03 := (N1.trans N2).trans N3
      have R3 := R0.after N03
      rw [HE1.out] at Q
      obtain ⟨b, d, rfl, _⟩ := Q.form
      clear Q
      go_wp2_with (first
        | refine wpList_build0 (by rfl) 27 (by rfl) _ built27 ?_
        | (refine wpList_store_new (by rfl) 27 _ _ (by rfl) w.heap.size (ansA none) (by rfl) (by rfl) 27 _ R3 i27 rfl (ans_one _) ?_; intro W4 R4 B4; have N4 : New w W4 := B4.new (N0.trans N03) (Nat.le_refl _)))
      exact bodyPost_ret (v := .tuple #[.agg (ansA none), .int .i64 0]) (get_results rfl rfl R4 rfl) rfl ⟨rfl, N4⟩
    · have hpos : 0 < t.length := by omega
      obtain ⟨hw1, hw2⟩ := way_ne HL.out hpos (ofL key)
      have hw3 := last_get hw1
      have hw4 := way_few0 HL.out (ofL key)
      rw [ofL_length] at hw4
      obtain ⟨m, hm⟩ : ∃ m, t.getD (lastOf (wayT t (ofL key)).1) noNd = m := ⟨_, rfl⟩
      have hmm := getD_mem (d := noNd) hw2
      have e2 : ofK t key = ansN (t.getD (lastOf (wayT t (ofL key)).1) noNd) (wayT t (ofL key)).2 := by rw [e0]; unfold ofT; rw [if_neg h0]
      rw [hm] at e2 hmm
      have M1 := HK.out.k16 m hmm
      have han := fun {W : World} => answer_any (w := W) (m := m) (r := (wayT t (ofL key)).2) M1 (HK.out.len m hmm).2
      rw [← e2] at han
      obtain ⟨n, hn⟩ : ∃ n, (wayT t (ofL key)).1.length = n + 1 := ⟨(wayT t (ofL key)).1.length - 1, by omega⟩
      rw [hn, Nat.add_sub_cancel] at hw3
      have HW3 : Hid (lastOf (wayT t (ofL key)).1 = (wayT t (ofL key)).1.getD n 0) := hw3
      have HM : Hid (t.getD (lastOf (wayT t (ofL key)).1) noNd = m) := hm
      have HN : Hid ((wayT t (ofL key)).1.length = n + 1) := hn
      have hnb : n ≤ 16 := by omega
      clear hw3 hm hn hw4 hw1 e2 e0 hmm P K hT he hok hk hkl h0
      generalize lastOf (wayT t (ofL key)).1 = li at *
      generalize (wayT t (ofL key)).2 = rs at *
      generalize (wayT t (ofL key)).1 = wy at *
      generalize ofK t key = ov at *
      have hli : (li : Int) < (t.length : Int) := by omega
      have hn0 : ((n : Int) + 1 == 0) = false := by rw [beq_eq_false_iff_ne]; omega
      go_enter Tryd.func10, Tryd.ntmps10
      go_wp2_with (first
        | (refine wpList_alloc_at (by rfl) 4 (by rfl) 27 (by rfl) _ _ _ info27 ?_; intro W0 R0 N0))
      refine Calls.mono (hre N0) ?_
      rintro _ W1 ⟨rfl, N1⟩
      clear hre
      go_wp2_with fail
      refine Calls.mono (hof _) ?_
      rintro _ W2 ⟨rfl, N2⟩
      have N2 : New W1 W2 := N2
      clear hof
      go_wp2_with fail
      refine Calls.mono (hfo ((N0.trans N1).trans N2)) ?_
      rintro _ W3 ⟨va, rfl, Q, N3⟩
      clear hfo
      have N03 := (N1.trans N2).trans N3
      have R3 := R0.after N03
      obtain ⟨b, d, rfl, hd, HS2⟩ := Q.ls.open 0
      have hlw := HN.out
      obtain ⟨gb, ob, rfl, hgb, hrb⟩ := HS2.out (by omega)
      obtain ⟨ga, oa, rfl, hga, hra⟩ := HS.out hpos
      have c1 : W3.cell? ⟨gb, ob + n, none⟩ = some (.int .i64 (li : Int)) := by
        have := hrb W3 (New.refl _) n (by omega) 0 (natV (wy.getD n 0)) rfl
        rw [Nat.mul_one, Nat.add_zero, ← HW3.out] at this
        exact this
      have R2 := hra W3 (N0.trans N03) _ hw2
      rw [HM.out] at R2
      rw [hlw]
      clear HS2 hrb hra Q hlw
      go_wp2_with (first
          | refine wpList_load_mid (by rfl) 54 _ (by rfl) ga (oa + li * 20) (by rfl) (ndC m) _ R2 Tryd.underlying54 rfl (by rw [ndC_len M1]; exact i49) ?_)
      refine Calls.mono han ?_
      rintro _ W4 ⟨rfl, N4⟩
      have R4 := R3.after N4
      clear han
      go_wp2_with (first
        | (refine wpList_store_new (by rfl) 27 _ _ (by rfl) w.heap.size (ansA ov) (by rfl) (by rfl) 27 _ R4 i27 rfl (ans_one _) ?_; intro W5 R5 B5; have N5 : New w W5 := B5.new ((N0.trans N03).trans N4) (Nat.le_refl _)))
      exact bodyPost_ret (v := .tuple #[.agg (ansA ov), .int .i64 0]) (get_results rfl rfl R5 rfl) rfl ⟨rfl, N5⟩
  · have hb : (errN t key == 0) = false := by rw [beq_eq_false_iff_ne]; exact he
    rw [hw]
    generalize errN t key = z at *
    clear he hw P K hT
    go_enter Tryd.func10, Tryd.ntmps10
    go_wp2_with (first
      | (refine wpList_alloc_at (by rfl) 4 (by rfl) 27 (by rfl) _ _ _ info27 ?_; intro W0 R0 N0))
    refine Calls.mono (hre N0) ?_
    rintro _ W1 ⟨rfl, N1⟩
    have R1 := R0.after N1
    go_wp2_with (first
        | refine wpList_build0 (by rfl) 27 (by rfl) _ built27 ?_
        | (refine wpList_store_new (by rfl) 27 _ _ (by rfl) w.heap.size (ansA none) (by rfl) (by rfl) 27 _ R1 i27 rfl (ans_one _) ?_; intro W4 R4 B4; have N4 : New w W4 := B4.new (N0.trans N1) (Nat.le_refl _)))
    exact bodyPost_ret (v := .tuple #[.agg (ansA none), .int .i64 z]) (get_results rfl rfl R4 rfl) rfl ⟨rfl, N4⟩
end Go.Proofs.YtimmbnipagnbfaaDoor
namespace Go.Proofs.YtimmbnipagnbfaaDoor
open Go.RowKit
set_option maxRecDepth 20000
set_option linter.unusedVariables false

theorem nat_at {w : World} {g o : Nat} {l : List Nat} (h : ∀ (W : World), New w W → ∀ i, i < l.length → W.rangeAt g (o + i * 1) (natC (l.getD i 0))) {W : World} (N : New w W) {k : Nat} (hk : k < l.length) : W.cell? ⟨g, o + k, none⟩ = some (.int .i64 ((l.getD k 0 : Nat) : Int)) := by
  have := h W N k hk 0 (natV (l.getD k 0)) rfl
  rw [Nat.mul_one, Nat.add_zero] at this
  exact this
theorem nat_take {l m : List Nat} {k : Nat} (h : l.take k = m.take k) (hl : k < l.length) (hm : k < m.length) (e : l.getD k 0 = m.getD k 0) : l.take (k + 1) = m.take (k + 1) := by
  rw [List.take_add_one, List.take_add_one, h, getD_some (d := 0) hl, getD_some (d := 0) hm, e]
set_option maxHeartbeats 4000000 in
/-- Ints: are two lists of numbers alike? -/
theorem ints_any {w : World} {v u : Value} {l m : List Nat} (P : Ls w 1 v (l.map natC)) (P' : Ls w 1 u (m.map natC)) (hl : l.length ≤ 2000000) (hm : m.length ≤ 2000000) :
    Calls Tryd.prog 14 #[v, u] w fun e w' => e = .returned (.bool (decide (l = m))) ∧ New w w' := by
  obtain ⟨a, c, rfl, hc, HS⟩ := P.open 0
  obtain ⟨b, d, rfl, hd, HS'⟩ := P'.open 0
  clear P P'
  by_cases hlen : l.length = m.length
  · have hb : ((l.length : Int) != (m.length : Int)) = false := by rw [hlen]; simp
    have HLEN : Hid (l.length = m.length) := hlen
    clear hlen
    obtain ⟨dd, hdd⟩ : ∃ b, decide (l = m) = b := ⟨_, rfl⟩
    have HD : Hid (decide (l = m) = dd) := hdd
    rw [hdd]
    clear hdd
    go_enter Tryd.func14, Tryd.ntmps14
    go_wp2_with fail
    go_loopw [5] (fun i wr => ∃ k : Nat, k ≤ l.length ∧ i = .int .i64 (k : Int) ∧ Hid (l.take k = m.take k) ∧ New w wr) (fun i _ => l.length - (intOf i).toNat)
    case atStart => exact ⟨0, by omega, rfl, rfl, New.refl _⟩
    case round =>
      obtain ⟨k, hk, rfl, hpre, N⟩ := hrel
      by_cases hlt : k < l.length
      · have hlm : k < m.length := by have := HLEN.out; omega
        obtain ⟨ga, oa, rfl, hga, hra⟩ := HS.out (by omega)
        obtain ⟨gb, ob, rfl, hgb, hrb⟩ := HS'.out (by omega)
        have ca := nat_at hra N hlt
        have cb := nat_at hrb N hlm
        obtain ⟨x, hx⟩ : ∃ x, l.getD k 0 = x := ⟨_, rfl⟩
        obtain ⟨y, hy⟩ : ∃ y, m.getD k 0 = y := ⟨_, rfl⟩
        have HX : Hid (l.getD k 0 = x) := hx
        have HY : Hid (m.getD k 0 = y) := hy
        rw [hx] at ca
        rw [hy] at cb
        clear hra hrb hx hy
        by_cases he : x = y
        · have HE : Hid (l.getD k 0 = m.getD k 0) := by show _ = _; rw [HX.out, HY.out, he]
          have hbb : ((x : Int) != (y : Int)) = false := by rw [he]; simp
          clear he
          go_wp2_with fail
          go_region
          go_wp2_with fail
          exact ⟨⟨k + 1, by omega, by go_num, nat_take hpre.out hlt hlm HE.out, N.trans (New.drew _)⟩, by simp [intOf]; omega⟩
        · have hbb : ((x : Int) != (y : Int)) = true := by rw [bne_iff_ne]; omega
          have HF : Hid (dd = false) := by
            show _ = _
            rw [← HD.out]; apply decide_eq_false; intro e; rw [e] at HX; exact he (HX.out.symm.trans HY.out)
          clear he
          go_wp2_with fail
          go_region
          go_wp2_with fail
          go_ret
          exact ⟨ret_bool HF.out.symm, N.trans (New.drew _)⟩
      · have HT : Hid (dd = true) := by
          show _ = _
          rw [← HD.out]; apply decide_eq_true
          have h1 := hpre.out
          have h2 := HLEN.out
          rw [List.take_of_length_le (by omega), List.take_of_length_le (by omega)] at h1
          exact h1
        go_wp2_with fail
        go_ret
        exact ⟨ret_bool HT.out.symm, N⟩
  · have hb : ((l.length : Int) != (m.length : Int)) = true := by rw [bne_iff_ne]; omega
    rw [decide_eq_false (fun e : l = m => hlen (by rw [e]))]
    clear hlen
    go_enter Tryd.func14, Tryd.ntmps14
    go_wp2_with fail
    go_ret
    exact ⟨rfl, New.refl _⟩

theorem refGood_any26 {w : World} {v : Value} {t : List Nd} (P : Ls w 20 v (t.map ndC)) (K : TOk t) :
    Calls Tryd.prog 26 #[v] w fun e w' => e = .returned (.bool (okT t)) ∧ New w w' := by
  have hp := r_pairs P K
  clear P K
  have hfd : ∀ (a : Option Addr) (n c : Nat) (x : Bool) (w : World), (Instr.field 63 (.agg #[.slice a n c, .bool x]) 1).run Tryd.prog w = .ok (.bool x) w := fun a n c x w => by
    simp [Instr.field, run_underlying Tryd.underlying63, asAgg, part, Tryd.isAgg4, Tryd.sizeOf4]
  go_enter Tryd.func26, Tryd.ntmps26
  go_wp2_with fail
  refine Calls.mono hp ?_
  rintro _ W1 ⟨a, n, c, rfl, _, N1⟩
  have hf := hfd a n c
  clear hfd
  go_wp2_with fail
  go_ret
  exact ⟨rfl, N1⟩
theorem look_cons (p : Pr) (l : List Pr) (key : Bt) : lookL (p :: l) key = if p.1 = key then some p.2 else lookL l key := by
  unfold lookL
  rw [List.find?_cons]
  by_cases h : p.1 = key
  · rw [if_pos h, decide_eq_true h]; rfl
  · rw [if_neg h, decide_eq_false h]
theorem look_drop {l : List Pr} {k : Nat} (hk : k < l.length) (key : Bt) : lookL (l.drop k) key = if (l.getD k ([], [])).1 = key then some (l.getD k ([], [])).2 else lookL (l.drop (k + 1)) key := by
  rw [List.drop_eq_getElem_cons hk, look_cons, List.getD_eq_getElem?_getD, List.getElem?_eq_getElem hk]
  rfl
/-- Of pairs' nodes: what the pairs say. -/
theorem ofK_look {t : List Nd} {key : Bt} (h : okT t = true) (hk : keyOk key = true) : ofK t key = lookL (rL t) key := by
  unfold ofK
  rw [if_pos ⟨h, hk⟩]
  unfold okT at h
  cases e : readF t with
  | none => rw [e] at h; cases h
  | some s =>
    obtain ⟨h1, h2, _⟩ := readF_ok e
    have : rL t = s.1 := by unfold rL; rw [e]
    rw [this]
    conv => lhs; rw [h2]
    exact of_look h1 key
theorem get_results11 {w : World} {g : Nat} {tmps : Array Value} {C : Array Value} {z : Int} (hp : tmps.getD 4 undef = .pointer (some ⟨g, 0, none⟩)) (hq : tmps.getD 5 undef = .int .i64 z) (R : Row w g C 27) (hs : C.size = 2) :
    (results Tryd.f11 tmps).run Tryd.prog w = .ok (.tuple #[.agg C, .int .i64 z]) w :=
  results_cell_tmp (p := 4) (q := 5) (ty := 27) (by rfl) tmps w g 27 C (0, 0) _ _ hp hq R Tryd.underlying27 rfl (by rw [hs]; exact i27)

set_option maxHeartbeats 8000000 in
theorem rof_any {w : World} {v : Value} {t : List Nd} (P : Ls w 20 v (t.map ndC)) (K : TOk t) (key : Bt) :
    Calls Tryd.prog 11 #[v, .string (bs key)] w fun e w' => e = .returned (.tuple #[.agg (ansA (ofK t key)), .int .i64 (errN t key)]) ∧ New w w' := by
  have hp := fun {W : World} (n : New w W) => r_pairs (P.after n) K
  have hky := fun W => key_any12 key W
  have hrl := rL_ok K
  clear P K
  cases hok : okT t
  · have e1 : errN t key = 1 := by unfold errN; rw [hok, if_pos rfl]
    have e2 : ofK t key = none := by unfold ofK; rw [hok, if_neg (by simp)]
    rw [e1, e2]
    unfold okT at hok
    rw [hok] at hp
    clear e1 e2 hok hrl
    go_enter Tryd.func11, Tryd.ntmps11
    go_wp2_with (first
      | (refine wpList_alloc_at (by rfl) 4 (by rfl) 27 (by rfl) _ _ _ info27 ?_; intro W0 R0 N0))
    refine Calls.mono (hp N0) ?_
    rintro _ W1 ⟨a, n, c, rfl, _, N1⟩
    have R1 := R0.after N1
    clear hp
    have M1 := N0.trans N1
    have hBlt := R1.lt
    go_wp2_with (first
      | (refine wpList_alloc_at (by rfl) 6 (by rfl) 63 (by rfl) _ _ _ info37 ?_; intro W2 R2 N2)
      | (refine wpList_store_new (by rfl) 63 _ _ (by rfl) W1.heap.size #[.slice a n c, .bool false] (by rfl) (by rfl) 63 _ R2 i37 rfl (got_one _ _ _ _) ?_; intro W3 R3 B3; have N3 : New W1 W3 := B3.new N2 (Nat.le_refl _); have y1 := R3.has 1 (v := .bool false) rfl; have R1' := R1.after N3)
      | refine wpList_build0 (by rfl) 27 (by rfl) _ built27 ?_
      | (refine wpList_store_new (by rfl) 27 _ _ (by rfl) w.heap.size (ansA none) (by rfl) (by rfl) 27 _ R1' i27 rfl (ans_one _) ?_; intro W4 R4 B4; have N4 : New w W4 := B4.new (M1.trans N3) (Nat.le_refl _)))
    exact bodyPost_ret (v := .tuple #[.agg (ansA none), .int .i64 1]) (get_results11 rfl rfl R4 rfl) rfl ⟨rfl, N4⟩
  cases hk : keyOk key
  · have e1 : errN t key = 9 := by unfold errN; rw [hok, if_neg (by simp), hk, if_pos rfl]
    have e2 : ofK t key = none := by unfold ofK; rw [hk, if_neg (by simp)]
    rw [e1, e2]
    unfold okT at hok
    rw [hok] at hp
    rw [hk] at hky
    clear e1 e2 hok hrl hk
    go_enter Tryd.func11, Tryd.ntmps11
    go_wp2_with (first
      | (refine wpList_alloc_at (by rfl) 4 (by rfl) 27 (by rfl) _ _ _ info27 ?_; intro W0 R0 N0))
    refine Calls.mono (hp N0) ?_
    rintro _ W1 ⟨a, n, c, rfl, _, N1⟩
    have R1 := R0.after N1
    clear hp
    have M1 := N0.trans N1
    have hBlt := R1.lt
    go_wp2_with (first
      | (refine wpList_alloc_at (by rfl) 6 (by rfl) 63 (by rfl) _ _ _ info37 ?_; intro W2 R2 N2)
      | (refine wpList_store_new (by rfl) 63 _ _ (by rfl) W1.heap.size #[.slice a n c, .bool true] (by rfl) (by rfl) 63 _ R2 i37 rfl (got_one _ _ _ _) ?_; intro W3 R3 B3; have N3 : New W1 W3 := B3.new N2 (Nat.le_refl _); have y1 := R3.has 1 (v := .bool true) rfl; have R1' := R1.after N3))
    refine Calls.mono (hky _) ?_
    rintro _ _ ⟨rfl, rfl⟩
    go_wp2_with (first
      | refine wpList_build0 (by rfl) 27 (by rfl) _ built27 ?_
      | (refine wpList_store_new (by rfl) 27 _ _ (by rfl) w.heap.size (ansA none) (by rfl) (by rfl) 27 _ R1' i27 rfl (ans_one _) ?_; intro W4 R4 B4; have N4 : New w W4 := B4.new (M1.trans N3) (Nat.le_refl _)))
    exact bodyPost_ret (v := .tuple #[.agg (ansA none), .int .i64 9]) (get_results11 rfl rfl R4 rfl) rfl ⟨rfl, N4⟩
  have e1 : errN t key = 0 := by unfold errN; rw [hok, if_neg (by simp), hk, if_neg (by simp)]
  have e2 : ofK t key = lookL (rL t) key := ofK_look hok hk
  rw [e1, e2]
  unfold okT at hok
  rw [hok] at hp
  rw [hk] at hky
  have hfew := hrl.1
  clear e1 e2 hok hrl hk
  generalize rL t = l at *
  obtain ⟨ov, hov⟩ : ∃ o, lookL l key = o := ⟨_, rfl⟩
  have HOV : Hid (lookL l key = ov) := hov
  rw [hov]
  clear hov
  go_enter Tryd.func11, Tryd.ntmps11
  go_wp2_with (first
    | (refine wpList_alloc_at (by rfl) 4 (by rfl) 27 (by rfl) _ _ _ info27 ?_; intro W0 R0 N0))
  refine Calls.mono (hp N0) ?_
  rintro _ W1 ⟨a, n, c, rfl, PL, N1⟩
  have R1 := R0.after N1
  clear hp
  have M1 := N0.trans N1
  have hBlt := R1.lt
  go_wp2_with (first
    | (refine wpList_alloc_at (by rfl) 6 (by rfl) 63 (by rfl) _ _ _ info37 ?_; intro W2 R2 N2)
    | (refine wpList_store_new (by rfl) 63 _ _ (by rfl) W1.heap.size #[.slice a n c, .bool true] (by rfl) (by rfl) 63 _ R2 i37 rfl (got_one _ _ _ _) ?_; intro W3 R3 B3; have N3 : New W1 W3 := B3.new N2 (Nat.le_refl _); have y1 := R3.has 1 (v := .bool true) rfl; have R1' := R1.after N3))
  refine Calls.mono (hky _) ?_
  rintro _ W3 ⟨rfl, rfl⟩
  have PL3 := PL.after N3
  obtain ⟨a', c', e, hc', HSL⟩ := PL3.open ([], [])
  cases e
  clear PL PL3 hky
  go_wp2_with fail
  go_loopw [7] (fun i wr => ∃ k : Nat, k ≤ l.length ∧ i = .int .i64 (k : Int) ∧ Hid (lookL (l.drop k) key = ov) ∧ wr = W3) (fun i _ => l.length - (intOf i).toNat)
  case atStart => exact ⟨0, by omega, rfl, HOV.out, rfl⟩
  case round =>
    obtain ⟨k, hk, rfl, hlk, rfl⟩ := hrel
    have y0 := R3.has 0 (v := .slice a l.length c) rfl
    by_cases hlt : k < l.length
    · obtain ⟨ga, oa, rfl, hga, hra⟩ := HSL.out (by omega)
      have hr := hra _ (New.refl _) k hlt
      have ca := hr 0 _ rfl
      have cb := hr 1 _ rfl
      have hd := look_drop hlt key
      rw [hlk.out] at hd
      obtain ⟨p, hpp⟩ : ∃ p, l.getD k ([], []) = p := ⟨_, rfl⟩
      rw [hpp] at ca cb hd
      rw [Nat.add_zero] at ca
      clear hra hr hpp
      by_cases he : p.1 = key
      · rw [if_pos he] at hd
        have HD : Hid (ov = some p.2) := hd
        have hb : ((bs p.1).toList == (bs key).toList) = true := by rw [beq_bs, L_bs, L_bs]; exact decide_eq_true he
        clear hd he
        go_wp2_with (first
          | refine wpList_build2 (by rfl) 27 _ _ (by rfl) (.bool true) (.string (bs p.2)) (by rfl) (by rfl) (ansA (some p.2)) (built27_2 _) ?_
          | (refine wpList_store_new (by rfl) 27 _ _ (by rfl) w.heap.size (ansA (some p.2)) (by rfl) (by rfl) 27 _ R1' i27 rfl (ans_one _) ?_; intro W4 R4 B4; have N4 : New w W4 := B4.new (M1.trans N3) (Nat.le_refl _)))
        exact bodyPost_ret (v := .tuple #[.agg (ansA (some p.2)), .int .i64 0]) (get_results11 rfl rfl R4 rfl) rfl ⟨by rw [HD.out], N4⟩
      · rw [if_neg he] at hd
        have HD : Hid (lookL (l.drop (k + 1)) key = ov) := hd.symm
        have hb : ((bs p.1).toList == (bs key).toList) = false := by rw [beq_bs, L_bs, L_bs]; exact decide_eq_false he
        clear hd he
        go_wp2_with fail
        exact ⟨⟨k + 1, by omega, by go_num, HD.out, trivial⟩, by simp [intOf]; omega⟩
    · have HD : Hid (ov = none) := by
        show _ = _
        rw [← hlk.out, List.drop_of_length_le (by omega)]; rfl
      go_wp2_with (first
        | refine wpList_build0 (by rfl) 27 (by rfl) _ built27 ?_
        | (refine wpList_store_new (by rfl) 27 _ _ (by rfl) w.heap.size (ansA none) (by rfl) (by rfl) 27 _ R1' i27 rfl (ans_one _) ?_; intro W4 R4 B4; have N4 : New w W4 := B4.new (M1.trans N3) (Nat.le_refl _)))
      exact bodyPost_ret (v := .tuple #[.agg (ansA none), .int .i64 0]) (get_results11 rfl rfl R4 rfl) rfl ⟨by rw [HD.out], N4⟩
end Go.Proofs.YtimmbnipagnbfaaDoor
namespace Go.Proofs.YtimmbnipagnbfaaDoor
open Go.RowKit
set_option maxRecDepth 20000
set_option linter.unusedVariables false

theorem com_beg (q p : Bt) : (((comN q p : Nat) : Int) == ((bs p).size : Int)) = begB p q := by
  obtain ⟨h1, h2, h3, h4⟩ := comN_facts q p
  unfold begB
  rw [bs_size, Bool.eq_iff_iff, beq_iff_eq, Bool.and_eq_true, decide_eq_true_eq, decide_eq_true_eq]
  constructor
  · intro h
    have e : comN q p = p.length := by omega
    rw [e] at h1 h3
    exact ⟨h1, by rw [h3, List.take_length]⟩
  · rintro ⟨h, k⟩
    have := comN_stop q p p.length (by rw [k, List.take_length]) h (Nat.le_refl _) (.inr (.inl rfl))
    omega
theorem app_one {w : World} {lim n : Nat} {v : Value} {l : List Nat} (h : w.ownsRow lim 3 1 v n (l.map natV)) (k : Nat) (hn : n ≤ 100) (hw : lim ≤ w.heap.size) :
    ∃ v' w', (Builtin.append_ #[33, 33] 33 #[v, .slice (some ⟨w.heap.size, 0, none⟩) 1 1]).run Tryd.prog (w.alloc (.cells #[natV k] 3)) = .ok v' w' ∧ w'.ownsRow lim 3 1 v' (n + 1) ((l ++ [k]).map natV) ∧ (∀ w0, w0.heap.size = lim → New w0 w → New w0 w') := by
  obtain ⟨i0, hi0, hz0, hz1, hz2⟩ := info_parts info3
  have hN : New w (w.alloc (.cells #[natV k] 3)) := (New.refl w).alloc _
  have ho := own_after h hN
  obtain ⟨g, cap, w', hr, h2, h3, h4, h5⟩ := run_append_lies (P := Tryd.prog) (w.alloc (.cells #[natV k] 3)) 33 33 lim 3 i0 _ 1 8 Tryd.underlying33 hi0 hz0 hz1 hz2 rfl (by omega) v n (l.map natV) ho
    ⟨w.heap.size, 0, none⟩ 1 1 [natV k] rfl (World.news_of_block (cs := #[natV k]) (t := 3) (fr := (0, 0)) (heap_alloc_new w _)) (by simp [Value.oneCell', natV]) (by omega) (by unfold maxLen; omega) (by omega) (by simp; omega) (w.heap.size + 1) (by simp)
  refine ⟨_, w', hr, ?_, fun w0 h0 hn0 => ?_⟩
  · rw [List.map_append]; exact h2
  · subst h0
    exact New.grown (hn0.trans hN) h3 fun j hj => (ho.lt j hj).1

set_option maxHeartbeats 16000000 in
theorem rwalk_any {w : World} {v : Value} {t : List Nd} (P : Ls w 20 v (t.map ndC)) (K : TOk t) (key : Bt) :
    Calls Tryd.prog 13 #[v, .string (bs key)] w fun e w' => ∃ va, e = .returned (.tuple #[va, .int .i64 (errN t key)]) ∧ Ls w' 1 va ((wayK t key).map natC) ∧ New w w' := by
  have hgd := refGood_any26 P K
  have hky := fun W => key_any12 key W
  cases hok : okT t
  · have e1 : errN t key = 1 := by unfold errN; rw [hok, if_pos rfl]
    have e2 : wayK t key = [] := by unfold wayK; rw [hok, if_neg (by simp)]
    rw [e1, e2]
    rw [hok] at hgd
    clear e1 e2 hok P K hky
    go_enter Tryd.func13, Tryd.ntmps13
    go_wp2_with fail
    refine Calls.mono hgd ?_
    rintro _ W1 ⟨rfl, N1⟩
    go_wp2_with fail
    go_ret2
    exact ⟨_, rfl, Ls.nil _ _, N1⟩
  rw [hok] at hgd
  cases hk : keyOk key
  · have e1 : errN t key = 9 := by unfold errN; rw [hok, if_neg (by simp), hk, if_pos rfl]
    have e2 : wayK t key = [] := by unfold wayK; rw [hk, if_neg (by simp)]
    rw [e1, e2]
    rw [hk] at hky
    clear e1 e2 hok hk P K
    go_enter Tryd.func13, Tryd.ntmps13
    go_wp2_with fail
    refine Calls.mono hgd ?_
    rintro _ W1 ⟨rfl, N1⟩
    go_wp2_with fail
    refine Calls.mono (hky _) ?_
    rintro _ W2 ⟨rfl, rfl⟩
    go_wp2_with fail
    go_ret2
    exact ⟨_, rfl, Ls.nil _ _, N1⟩
  rw [hk] at hky
  have e1 : errN t key = 0 := by unfold errN; rw [hok, if_neg (by simp), hk, if_neg (by simp)]
  have e2 : wayK t key = (wayT t (ofL key)).1 := by unfold wayK; rw [if_pos ⟨hok, hk⟩]
  have hkl := keyOk_len hk
  have hof := fun W => refOf_any (bs key) (by rw [bs_size]; omega) W
  rw [L_bs] at hof
  have HL : Hid (Lk t) := ok_lk hok
  have HK : Hid (TOk t) := K
  obtain ⟨a, c, rfl, hc, HS⟩ := P.open noNd
  have hfew := K.few
  have HR : Hid (∀ c ∈ ofL key, c.toNat < 16) := halves_of key
  have hrl : (ofL key).length ≤ 16 := by rw [ofL_length]; omega
  rw [e1, e2]
  obtain ⟨wy, hwy⟩ : ∃ x, (wayT t (ofL key)).1 = x := ⟨_, rfl⟩
  have HWY : Hid ((wayT t (ofL key)).1 = wy) := hwy
  rw [hwy]
  clear hwy e1 e2 hok hk hkl P K
  generalize ofL key = r at *
  go_enter Tryd.func13, Tryd.ntmps13
  go_wp2_with fail
  refine Calls.mono hgd ?_
  rintro _ W1 ⟨rfl, N1⟩
  go_wp2_with fail
  refine Calls.mono (hky _) ?_
  rintro _ W1' ⟨rfl, rfl⟩
  go_wp2_with fail
  refine Calls.mono (hof _) ?_
  rintro _ W2 ⟨rfl, N2⟩
  have N2 : New W1' W2 := N2
  have M2 := N1.trans N2
  clear hgd hky hof
  go_wp2_with fail
  go_loopw [6, 7, 8] (fun s6 s7 s8 wr => ∃ (pre : List Nat) (i : Nat) (q : Bt), s8 = .int .i64 (i : Int) ∧ s6 = .string (bs q) ∧ Hid (wr.ownsRow w.heap.size 3 1 s7 pre.length (pre.map natV)) ∧
      Hid ((0 < t.length ∧ i < t.length ∧ (wayOf t 0 r).1 = pre ++ (wayOf t i q).1) ∨ (t.length = 0 ∧ i = 0 ∧ pre = [])) ∧ Hid (∀ c ∈ q, c.toNat < 16) ∧ pre.length + q.length ≤ r.length ∧ New w wr) (fun _ _ s8 _ => t.length - (intOf s8).toNat)
  case atStart =>
    refine ⟨[], 0, r, rfl, rfl, World.ownsRow_nil _ _ _ _, ?_, HR.out, by simp, M2⟩
    by_cases h0 : t.length = 0
    · exact .inr ⟨h0, rfl, rfl⟩
    · exact .inl ⟨by omega, by omega, rfl⟩
  case round =>
    obtain ⟨pre, i, q, rfl, rfl, hown, hway, hq, hpl, N⟩ := hrel
    by_cases hlt : i < t.length
    · have hway' : (wayOf t 0 r).1 = pre ++ (wayOf t i q).1 := by
        rcases hway.out with ⟨_, _, h⟩ | ⟨h, _⟩
        · exact h
        · omega
      have HWAY : Hid ((wayOf t 0 r).1 = pre ++ (wayOf t i q).1) := hway'
      clear hway hway'
      obtain ⟨v7, Wa, happ, hown2, hnew⟩ := app_one hown.out i (by omega) N.size
      have Na := hnew w rfl N
      have HOWN : Hid (Wa.ownsRow w.heap.size 3 1 v7 (pre.length + 1) ((pre ++ [i]).map natV)) := hown2
      clear hown2 hnew hown
      obtain ⟨ga, o, rfl, hga, hrr⟩ := HS.out (by omega)
      have R2 := hrr Wa Na i hlt
      have hm := getD_some (d := noNd) hlt
      obtain ⟨m, hmm⟩ : ∃ m, t.getD i noNd = m := ⟨_, rfl⟩
      have HMM : Hid (t.getD i noNd = m) := hmm
      rw [hmm] at R2 hm
      have M1 := HL.out.k16 m (List.mem_of_getElem? hm)
      have hp16 := HL.out.len m (List.mem_of_getElem? hm)
      have HM : Hid (t[i]? = some m) := hm
      have hcm := fun W => refCommon_any (bs q) (bs m.path) (by rw [bs_size]; omega) (by rw [bs_size]; omega) W
      rw [L_bs, L_bs] at hcm
      have hcb := com_beg q m.path
      have hit : (i : Int) < (t.length : Int) := by omega
      have HT0 : Hid (wy = (wayOf t 0 r).1) := by
        show _ = _; rw [← HWY.out]; unfold wayT; rw [if_neg (by omega)]
      have hps : ((bs m.path).size : Int) = (m.path.length : Int) := by rw [bs_size]
      clear hrr hmm hm
      go_wp2_with (first
          | refine wpList_appends (by rfl) _ _ 33 33 _ _ _ _ (by rfl) (by rfl) (by rfl) (by rfl) happ ?_
          | refine wpList_load_mid (by rfl) 54 _ (by rfl) ga (o + i * 20) (by rfl) (ndC m) _ R2 Tryd.underlying54 rfl (by rw [ndC_len M1]; exact i49) ?_
          | (refine wpList_alloc_at (by rfl) 9 (by rfl) 54 (by rfl) _ _ _ info49 ?_; intro Wb Rb Nb)
          | (refine wpList_store_new (by rfl) 54 _ _ (by rfl) Wa.heap.size (ndA m) (by rfl) (by rfl) 54 _ Rb (by rw [ndA_size M1]; exact i49) (by rw [ndA_size M1]; rfl) (ndA_all _) ?_; intro Wc Rc Bc; have Nc : New Wa Wc := Bc.new Nb (Nat.le_refl _)))
      clear happ R2 Rb Nb Bc
      have HRc : Hid (Row Wc Wa.heap.size (ndA m) 54) := Rc
      have hNc : New w Wc := Na.trans Nc
      have HOC : Hid (Wc.ownsRow w.heap.size 3 1 v7 (pre.length + 1) ((pre ++ [i]).map natV)) := own_after HOWN.out Nc
      have q0 := NewW.cell (W := Wc) (g := Wa.heap.size) (o := 0) (v := .int .i64 m.kind) (Rc.has 0 rfl)
      have q1 := NewW.cell (W := Wc) (g := Wa.heap.size) (o := 1) (v := .string (bs m.path)) (Rc.has 1 rfl)
      have hcq : ∀ p : NewW Wc, Calls Tryd.prog 27 #[.string (bs q), .string (bs m.path)] p.v fun e w' => e = .returned (.int .i64 ((comN q m.path : Nat) : Int)) ∧ New p.v w' := fun p => hcm p.v
      have hne := NewW.ne Wc
      clear Rc HOWN Nc hcm
      generalize Wa.heap.size = B at *
      by_cases h2 : m.kind = 2
      · have hk2 : (m.kind == 2) = true := by rw [h2]; rfl
        cases hp : begB m.path q
        · have hk3 : (m.kind == 3) = false := by rw [h2]; rfl
          have HST : Hid (wayOf t i q = ([i], q)) := way_stop hlt (by rw [HMM.out, nxt_ext_no h2 hp])
          rw [hp] at hcb
          clear hp h2
          refine region_new Wc (New.refl Wc) (by kernel_rfl) (by kernel_rfl) ?_
          repeat (go_big_quiet_step (first | (go_at_call 27; exact Calls.neww (hcq _))))
          refine wpQuiet_nil ?_
          rintro Wd ⟨⟨_, kd⟩, rfl⟩
          clear q0 q1 hne hcq
          have Rd := HRc.out.after kd
          have y0 := Rd.has 0 (v := .int .i64 m.kind) rfl
          have y1 := Rd.has 1 (v := .string (bs m.path)) rfl
          go_wp2_with fail
          go_ret2
          refine ⟨_, rfl, ?_, hNc.trans kd⟩
          have hl : Pl Wc (fun g => w.heap.size ≤ g) 3 1 v7 ((pre ++ [i]).map natC) := owns_ls (l := pre ++ [i]) (by rw [List.length_append]; exact HOC.out)
          have he : wy = pre ++ [i] := by rw [HT0.out, HWAY.out, HST.out]
          rw [he]
          exact (hl.after kd).ls
        · have hnx := nxt_ext h2 hp
          rw [hp] at hcb
          have hk3 : (m.kind == 3) = false := by rw [h2]; rfl
          have hlen := begB_len hp
          have hcut : (bs q).extract m.path.length (bs q).size = bs (q.drop m.path.length) := tail_bs q _
          have hcut' : (bs q).extract (bs m.path).size (bs q).size = bs (q.drop m.path.length) := tail_bs q _
          have hsz : ((bs m.path).size : Int) ≤ ((bs q).size : Int) := by rw [bs_size, bs_size]; omega
          by_cases h0 : m.kids.getD 0 0 = 0
          · have HST : Hid (wayOf t i q = ([i], q)) := way_stop hlt (by rw [HMM.out, hnx]; exact h0)
            have H0 : Hid (m.kids.getD 0 0 = 0) := h0
            clear hp h2 hnx h0 hlen
            refine region_new Wc (New.refl Wc) (by kernel_rfl) (by kernel_rfl) ?_
            repeat (go_big_quiet_step (first | (go_at_call 27; exact Calls.neww (hcq _))))
            refine wpQuiet_nil ?_
            rintro Wd ⟨⟨_, kd⟩, rfl⟩
            clear q0 q1 hne hcq
            have Rd := HRc.out.after kd
            have y0 := Rd.has 0 (v := .int .i64 m.kind) rfl
            have y1 := Rd.has 1 (v := .string (bs m.path)) rfl
            have y4 : Wd.cell? ⟨B, 4, none⟩ = some (.int .i64 0) := by have := kid_cell Rd M1 (c := 0) (by decide); rw [H0.out] at this; exact this
            go_wp2_with fail
            go_ret2
            refine ⟨_, rfl, ?_, hNc.trans kd⟩
            have hl : Pl Wc (fun g => w.heap.size ≤ g) 3 1 v7 ((pre ++ [i]).map natC) := owns_ls (l := pre ++ [i]) (by rw [List.length_append]; exact HOC.out)
            have he : wy = pre ++ [i] := by rw [HT0.out, HWAY.out, HST.out]
            rw [he]
            exact (hl.after kd).ls
          · obtain ⟨j, ej, hij, hjl, hs1, hs2, _⟩ := nxt_on HL.out HM.out (r := q) (by rw [hnx]; exact h0)
            rw [hnx] at ej hs1 hs2
            change m.kids.getD 0 0 = (j : Int) at ej
            have HGO : Hid ((wayOf t i q).1 = i :: (wayOf t j (q.drop m.path.length)).1) := by
              have e := way_go HL.out (r := q) hlt (by rw [HMM.out, hnx]; exact h0)
              rw [HMM.out, hnx] at e
              have e2 : (m.kids.getD 0 0).toNat = j := by rw [ej]; rfl
              have e3 := congrArg (fun x : List Nat × Bt => x.1) e
              simp only [e2] at e3
              exact e3
            have HEJ : Hid (m.kids.getD 0 0 = (j : Int)) := ej
            have hjb : ((j : Int) == 0) = false := by rw [beq_eq_false_iff_ne]; omega
            simp only at hs1 hs2
            clear hp h2 hnx h0 hlen ej
            refine region_new Wc (New.refl Wc) (by kernel_rfl) (by kernel_rfl) ?_
            repeat (go_big_quiet_step (first | (go_at_call 27; exact Calls.neww (hcq _))))
            refine wpQuiet_nil ?_
            rintro Wd ⟨⟨_, kd⟩, rfl⟩
            clear q0 q1 hne hcq
            have Rd := HRc.out.after kd
            have y0 := Rd.has 0 (v := .int .i64 m.kind) rfl
            have y1 := Rd.has 1 (v := .string (bs m.path)) rfl
            have y4 : Wd.cell? ⟨B, 4, none⟩ = some (.int .i64 (j : Int)) := by have := kid_cell Rd M1 (c := 0) (by decide); rw [HEJ.out] at this; exact this
            go_wp2_with fail
            refine ⟨⟨pre ++ [i], j, q.drop m.path.length, rfl, rfl, ?_, .inl ⟨by omega, hjl, ?_⟩, fun c hc => hq.out c (List.mem_of_mem_drop hc), ?_, hNc.trans kd⟩, by simp [intOf]; omega⟩
            · show World.ownsRow _ _ _ _ _ _ _
              rw [List.length_append]; exact own_after HOC.out kd
            · rw [HWAY.out, HGO.out]; simp
            · rw [List.length_append, List.length_drop, List.length_singleton]; omega
      · have hk2 : (m.kind == 2) = false := by rw [beq_eq_false_iff_ne]; exact h2
        by_cases h3 : m.kind = 3
        · have hk3 : (m.kind == 3) = true := by rw [h3]; rfl
          cases q with
          | nil =>
            have HST : Hid (wayOf t i ([] : Bt) = ([i], [])) := way_stop hlt (by rw [HMM.out, nxt_end h2])
            have hz : ((bs ([] : Bt)).size : Int) = 0 := rfl
            clear h2 h3
            refine region_new Wc (New.refl Wc) (by kernel_rfl) (by kernel_rfl) ?_
            repeat (go_big_quiet_step (first | (go_at_call 27; exact Calls.neww (hcq _))))
            refine wpQuiet_nil ?_
            rintro Wd ⟨⟨_, kd⟩, rfl⟩
            clear q0 q1 hne hcq
            have Rd := HRc.out.after kd
            have y0 := Rd.has 0 (v := .int .i64 m.kind) rfl
            have y1 := Rd.has 1 (v := .string (bs m.path)) rfl
            go_wp2_with fail
            go_ret2
            refine ⟨_, rfl, ?_, hNc.trans kd⟩
            have hl : Pl Wc (fun g => w.heap.size ≤ g) 3 1 v7 ((pre ++ [i]).map natC) := owns_ls (l := pre ++ [i]) (by rw [List.length_append]; exact HOC.out)
            have he : wy = pre ++ [i] := by rw [HT0.out, HWAY.out, HST.out]
            rw [he]
            exact (hl.after kd).ls
          | cons b q =>
            have hnx : nxt m (b :: q) = (m.kids.getD b.toNat 0, 1) := nxt_br h3 (r := b :: q) (by simp)
            have hb16 : b.toNat < 16 := hq.out b (by simp)
            have hz : (0 : Int) < ((bs (b :: q)).size : Int) := by rw [bs_size]; simp
            have hz' : 0 < (bs (b :: q)).size := by rw [bs_size]; simp
            have hix : (bs (b :: q))[0]'hz' = b := rfl
            have hi16 : (b.toNat : Int) < 16 := by omega
            have hcut : (bs (b :: q)).extract 1 (bs (b :: q)).size = bs ((b :: q).drop 1) := tail_bs _ 1
            have hone : (1 : Int) ≤ ((bs (b :: q)).size : Int) := by rw [bs_size]; simp; omega
            by_cases h0 : m.kids.getD b.toNat 0 = 0
            · have HST : Hid (wayOf t i (b :: q) = ([i], b :: q)) := way_stop hlt (by rw [HMM.out, hnx]; exact h0)
              have H0 : Hid (m.kids.getD b.toNat 0 = 0) := h0
              clear h2 h3 hnx h0
              refine region_new Wc (New.refl Wc) (by kernel_rfl) (by kernel_rfl) ?_
              repeat (go_big_quiet_step (first | (go_at_call 27; exact Calls.neww (hcq _))))
              refine wpQuiet_nil ?_
              rintro Wd ⟨⟨_, kd⟩, rfl⟩
              clear q0 q1 hne hcq
              have Rd := HRc.out.after kd
              have y0 := Rd.has 0 (v := .int .i64 m.kind) rfl
              have y1 := Rd.has 1 (v := .string (bs m.path)) rfl
              have y4 : Wd.cell? ⟨B, 4 + b.toNat, none⟩ = some (.int .i64 0) := by have := kid_cell Rd M1 (c := b.toNat) hb16; rw [H0.out] at this; exact this
              go_wp2_with fail
              go_ret2
              refine ⟨_, rfl, ?_, hNc.trans kd⟩
              have hl : Pl Wc (fun g => w.heap.size ≤ g) 3 1 v7 ((pre ++ [i]).map natC) := owns_ls (l := pre ++ [i]) (by rw [List.length_append]; exact HOC.out)
              have he : wy = pre ++ [i] := by rw [HT0.out, HWAY.out, HST.out]
              rw [he]
              exact (hl.after kd).ls
            · obtain ⟨j, ej, hij, hjl, hs1, hs2, _⟩ := nxt_on HL.out HM.out (r := b :: q) (by rw [hnx]; exact h0)
              rw [hnx] at ej hs1 hs2
              change m.kids.getD b.toNat 0 = (j : Int) at ej
              have HGO : Hid ((wayOf t i (b :: q)).1 = i :: (wayOf t j ((b :: q).drop 1)).1) := by
                have e := way_go HL.out (r := b :: q) hlt (by rw [HMM.out, hnx]; exact h0)
                rw [HMM.out, hnx] at e
                have e2 : (m.kids.getD b.toNat 0).toNat = j := by rw [ej]; rfl
                have e3 := congrArg (fun x : List Nat × Bt => x.1) e
                simp only [e2] at e3
                exact e3
              have HEJ : Hid (m.kids.getD b.toNat 0 = (j : Int)) := ej
              have hjb : ((j : Int) == 0) = false := by rw [beq_eq_false_iff_ne]; omega
              simp only at hs1 hs2
              clear h2 h3 hnx h0 ej
              refine region_new Wc (New.refl Wc) (by kernel_rfl) (by kernel_rfl) ?_
              repeat (go_big_quiet_step (first | (go_at_call 27; exact Calls.neww (hcq _))))
              refine wpQuiet_nil ?_
              rintro Wd ⟨⟨_, kd⟩, rfl⟩
              clear q0 q1 hne hcq
              have Rd := HRc.out.after kd
              have y0 := Rd.has 0 (v := .int .i64 m.kind) rfl
              have y1 := Rd.has 1 (v := .string (bs m.path)) rfl
              have y4 : Wd.cell? ⟨B, 4 + b.toNat, none⟩ = some (.int .i64 (j : Int)) := by have := kid_cell Rd M1 (c := b.toNat) hb16; rw [HEJ.out] at this; exact this
              go_wp2_with fail
              refine ⟨⟨pre ++ [i], j, (b :: q).drop 1, rfl, rfl, ?_, .inl ⟨by omega, hjl, ?_⟩, fun c hc => hq.out c (List.mem_of_mem_drop hc), ?_, hNc.trans kd⟩, by simp [intOf]; omega⟩
              · show World.ownsRow _ _ _ _ _ _ _
                rw [List.length_append]; exact own_after HOC.out kd
              · rw [HWAY.out, HGO.out]; simp
              · rw [List.length_append, List.length_drop, List.length_singleton]; omega
        · have hk3 : (m.kind == 3) = false := by rw [beq_eq_false_iff_ne]; exact h3
          have HST : Hid (wayOf t i q = ([i], q)) := way_stop hlt (by rw [HMM.out, nxt_leaf h2 h3])
          clear h2 h3
          refine region_new Wc (New.refl Wc) (by kernel_rfl) (by kernel_rfl) ?_
          repeat (go_big_quiet_step (first | (go_at_call 27; exact Calls.neww (hcq _))))
          refine wpQuiet_nil ?_
          rintro Wd ⟨⟨_, kd⟩, rfl⟩
          clear q0 q1 hne hcq
          have Rd := HRc.out.after kd
          have y0 := Rd.has 0 (v := .int .i64 m.kind) rfl
          have y1 := Rd.has 1 (v := .string (bs m.path)) rfl
          go_wp2_with fail
          go_ret2
          refine ⟨_, rfl, ?_, hNc.trans kd⟩
          have hl : Pl Wc (fun g => w.heap.size ≤ g) 3 1 v7 ((pre ++ [i]).map natC) := owns_ls (l := pre ++ [i]) (by rw [List.length_append]; exact HOC.out)
          have he : wy = pre ++ [i] := by rw [HT0.out, HWAY.out, HST.out]
          rw [he]
          exact (hl.after kd).ls
    · have hnb : ¬ ((i : Int) < (t.length : Int)) := by omega
      have hst : t.length = 0 ∧ pre = [] := by
        rcases hway.out with ⟨_, h, _⟩ | ⟨h, _, k⟩
        · omega
        · exact ⟨h, k⟩
      have HE : Hid (wy = []) := by
        show _ = _; rw [← HWY.out]; unfold wayT; rw [if_pos hst.1]
      have HP : Hid (Ls wr 1 u7 (([] : List Nat).map natC)) := by
        have := owns_ls (l := pre) hown.out
        rw [hst.2] at this
        exact this.ls
      clear hst
      go_wp2_with fail
      go_ret2
      exact ⟨_, rfl, by rw [HE.out]; exact HP.out, N⟩
end Go.Proofs.YtimmbnipagnbfaaDoor
namespace Go.Proofs.YtimmbnipagnbfaaDoor
open Go.RowKit
set_option maxRecDepth 20000
set_option linter.unusedVariables false

theorem eq_ans (x y : Option Bt) (w : World) : (Op.equalIn 10000 27 (.agg (ansA x)) (.agg (ansA y))).run Tryd.prog w = .ok (decide (x = y)) w := by
  have e : Tryd.prog.fieldsOf 27 = #[⟨ "Has", 4, 0, false, "", "", 0⟩, ⟨ "Value", 9, 1, false, "", "", 8⟩] := by
    unfold Program.fieldsOf; rw [Tryd.underlying27]
  have p0 : ∀ (p : Option Bt) (w : World), (part 4 (ansA p) 0).run Tryd.prog w = .ok (.bool p.isSome) w := fun p w => by simp [part, isAgg, run_underlying Tryd.underlying4, ansA]
  have p1 : ∀ (p : Option Bt) (w : World), (part 9 (ansA p) 1).run Tryd.prog w = .ok (.string (bs (p.getD []))) w := fun p w => by simp [part, isAgg, run_underlying Tryd.underlying9, ansA]
  rw [show (10000 : Nat) = 9999 + 1 from rfl, run_equalIn_struct w 9999 27 _ _ (by rw [e]; exact Tryd.underlying27) (by kernel_rfl), e]
  have q9 : ∀ a b w, (Op.equalIn 9999 9 (.string a) (.string b)).run Tryd.prog w = .ok (a.toList == b.toList) w := fun a b w => run_equalIn_string (P := Tryd.prog) w 9998 9 a b Tryd.underlying9
  have q4 : ∀ a b w, (Op.equalIn 9999 4 (.bool a) (.bool b)).run Tryd.prog w = .ok (a == b) w := fun a b w => run_equalIn_bool (P := Tryd.prog) w 9998 4 a b Tryd.underlying4
  simp only [Op.eqFields, ne_eq, String.reduceEq, not_false_eq_true, if_true, Sem.run_bind, p0, p1, Result.andThen_ok, q9, q4, text_beq, Sem.run_ite, Sem.run_pure]
  cases x <;> cases y <;> simp
  rename_i a b
  by_cases h : a = b <;> simp [h]
theorem owns_bytes (x : Option Bt) : ∃ b s, ansA x = #[.bool b, .string s] := ⟨_, _, rfl⟩
end Go.Proofs.YtimmbnipagnbfaaDoor
