/-
  follow: the nodes to which halves lead, and what of them is left at the last one. Of and Walk: what there is of a key, and the nodes on its way. The document's own Of, and Good; lists of numbers held against each other. Answers held against each other; small facts for the statements' common run. The statements' common run: three pairs' nodes, asked for keys; a node that is none's. GetPairs's walk: whatever pairs and key, the call returns true, where the table of upper halves lies as its initialiser lays it. The beginnings of a key that a byte's bits choose, as pairs. Plain mathematics. Pairs with one more, said of lists: what may be, what is looked up, in whatever order. Plain mathematics.
-/
import Derived.Test.YtjpjcojabjkaaaaDoorGam
import Derived.Test.YtjpjcojabjkaaaaDoorGaq
import Derived.Test.YtjpjcojabjkaaaaDoorGaf
import Derived.Laws.BitsLemmas
namespace Go.Proofs.YtjpjcojabjkaaaaDoor
open Go.RowKit
set_option maxRecDepth 20000
set_option linter.unusedVariables false

def natV (k : Nat) : Value := .int .i64 (k : Int)
def natC (k : Nat) : List Value := [natV k]
def szOf : Value → Nat
  | .string b => b.size
  | _ => 0
theorem nat_flat (l : List Nat) : (l.map natC).flatten = l.map natV := by
  induction l with
  | nil => rfl
  | cons x l ih => rw [List.map_cons, List.flatten_cons, ih]; rfl
theorem owns_ls {w : World} {lim : Nat} {v : Value} {l : List Nat} (h : w.ownsRow lim 3 1 v l.length (l.map natV)) : Pl w (fun g => lim ≤ g) 3 1 v (l.map natC) := by
  refine ⟨fun e he => by obtain ⟨x, _, rfl⟩ := List.mem_map.1 he; rfl, ?_, fun g hg => ?_⟩
  · rw [nat_flat, List.length_map]
    refine ⟨h.1, h.2.imp id ?_⟩
    rintro ⟨g, cap, cur, h1, _, h3⟩
    exact ⟨g, cap, cur, h1, Nat.zero_le _, h3⟩
  · rcases h.2 with ⟨rfl, _⟩ | ⟨g', cap, cur, rfl, h2, _⟩
    · cases hg
    · cases hg; exact h2
theorem owns_last {w : World} {lim n : Nat} {v : Value} {l : List Nat} (h : w.ownsRow lim 3 1 v (n + 1) (l.map natV)) : ∃ g cap, v = .slice (some ⟨g, 0, none⟩) (n + 1) cap ∧ n + 1 ≤ cap ∧ ∀ (j k : Nat), l[j]? = some k → w.cell? ⟨g, j, none⟩ = some (.int .i64 (k : Int)) := by
  rcases h.2 with ⟨_, h0⟩ | ⟨g, cap, cur, rfl, h2, h3, h4, _, h5, h6⟩
  · omega
  · refine ⟨g, cap, rfl, h4, fun j k hj => ?_⟩
    have hc := cell_of_row w g j cur 3 (0, 0) h3
    rw [hc]
    have : (cur.toList.take ((n + 1) * 1))[j]? = some (natV k) := by rw [h6, List.getElem?_map, hj]; rfl
    rw [List.getElem?_take] at this
    split at this
    · rw [← Array.getElem?_toList]; exact this
    · cases this
theorem owns_one (w : World) (t : Nat) : (w.alloc (.cells #[.int .i64 (t : Int)] 3)).ownsRow w.heap.size 3 1 (.slice (some ⟨w.heap.size, 0, none⟩) 1 1) 1 ([t].map natV) :=
  ⟨rfl, .inr ⟨w.heap.size, 1, #[.int .i64 (t : Int)], rfl, Nat.le_refl _, heap_alloc_new w _, Nat.le_refl _, by unfold maxLen; omega, rfl, rfl⟩⟩
theorem tail_bs (r : Bt) (n : Nat) : (bs r).extract n (bs r).size = bs (r.drop n) := by
  apply eq_of_L
  rw [L_extract, L_bs, L_bs, bs_size, List.take_length]

theorem own_after {w w' : World} {lim n k : Nat} {t : TypeId} {v : Value} {xs : List Value} (h : w.ownsRow lim t k v n xs) (N : New w w') : w'.ownsRow lim t k v n xs := by
  refine ⟨h.1, h.2.imp id ?_⟩
  rintro ⟨g, cap, cur, h1, h2, h3, h4⟩
  exact ⟨g, cap, cur, h1, h2, (N.block g (Array.getElem?_eq_some_iff.1 h3).1).trans h3, h4⟩
/-- What is known of nodes ahead of a walk. -/
structure Wk (t : List Nd) : Prop where
  lk : Lk t
  few : t.length ≤ 10000

set_option maxHeartbeats 8000000 in
theorem follow_any {w : World} {v : Value} {t : List Nd} {r : Bt} (P : Ls w 20 v (t.map ndC)) (K : Wk t) (hr : ∀ c ∈ r, c.toNat < 16) (hrl : r.length ≤ 16) :
    Calls Tryd.prog 33 #[v, .string (bs r)] w fun e w' => ∃ va, e = .returned (.tuple #[va, .string (bs (wayT t r).2)]) ∧ Pl w' (Fresh w) 3 1 va ((wayT t r).1.map natC) ∧ New w w' := by
  obtain ⟨a, c, rfl, hc, HS⟩ := P.open noNd
  obtain ⟨i0, hi0, hz0, hz1, hz2⟩ := info_parts info3
  have HK : Hid (Lk t) := K.lk
  have HR : Hid (∀ c ∈ r, c.toNat < 16) := hr
  have hl := K.few
  clear P K hr
  by_cases h0 : t.length = 0
  · have e : wayT t r = ([], r) := by unfold wayT; rw [if_pos h0]
    rw [e]
    have hb : ((t.length : Int) == 0) = true := by rw [h0]; rfl
    clear e h0
    go_enter Tryd.func33, Tryd.ntmps33
    go_wp2_with fail
    go_ret2
    exact ⟨_, rfl, Pl.nil _ _ _ _, New.refl _⟩
  · have hb : ((t.length : Int) == 0) = false := by rw [beq_eq_false_iff_ne]; omega
    have HW : Hid (wayT t r = wayOf t 0 r) := by show _ = _; unfold wayT; rw [if_neg h0]
    have hpos : 0 < t.length := by omega
    clear h0
    go_enter Tryd.func33, Tryd.ntmps33
    go_wp2_with fail
    go_loopw [6, 1] (fun v s wr => ∃ (pre : List Nat) (i : Nat) (q : Bt), i < t.length ∧ s = .string (bs q) ∧ Hid (wr.ownsRow w.heap.size 3 1 v (pre.length + 1) ((pre ++ [i]).map natV)) ∧
      Hid ((wayOf t 0 r).1 = pre ++ (wayOf t i q).1 ∧ (wayOf t 0 r).2 = (wayOf t i q).2) ∧ Hid (∀ c ∈ q, c.toNat < 16) ∧ pre.length + q.length ≤ r.length ∧ Below w.heap.size w wr) (fun _ s _ => szOf s)
    case atStart => exact ⟨[], 0, r, hpos, rfl, owns_one w 0, ⟨rfl, rfl⟩, HR.out, by simp, (New.refl w).alloc _⟩
    case round =>
      obtain ⟨pre, i, q, hi, rfl, hown, hway, hq, hpl, hbw⟩ := hrel
      obtain ⟨g, cap, rfl, hcap, hcells⟩ := owns_last hown.out
      have ylast : wr.cell? ⟨g, pre.length, none⟩ = some (.int .i64 (i : Int)) := hcells pre.length i (by simp)
      obtain ⟨ga, o, rfl, hga, hrr⟩ := HS.out hpos
      have R2 := hrr wr hbw i hi
      have hm := getD_some (d := noNd) hi
      obtain ⟨m, hmm⟩ : ∃ m, t.getD i noNd = m := ⟨_, rfl⟩
      have HMM : Hid (t.getD i noNd = m) := hmm
      rw [hmm] at R2 hm
      have M1 := HK.out.k16 m (List.mem_of_getElem? hm)
      have hnx := fun {W : World} => next_any (w := W) (m := m) (r := q) M1 hq.out (by have := HK.out.len m (List.mem_of_getElem? hm); omega)
      have HM : Hid (t[i]? = some m) := hm
      have hit : (i : Int) < (t.length : Int) := by omega
      have hp1 : ((pre.length + 1 : Nat) : Int) - 1 = (pre.length : Int) := by omega
      have hp2 : (pre.length : Int) < ((pre.length + 1 : Nat) : Int) := by omega
      obtain ⟨kd, hkd⟩ : ∃ z, (nxt m q).1 = z := ⟨_, rfl⟩
      obtain ⟨sk, hsk⟩ : ∃ z, (nxt m q).2 = z := ⟨_, rfl⟩
      have HKD : Hid ((nxt m q).1 = kd) := hkd
      have HSK : Hid ((nxt m q).2 = sk) := hsk
      rw [hkd, hsk] at hnx
      clear hcells hrr hmm hm hkd hsk
      go_wp2_with (first
          | refine wpList_load_mid (by rfl) 55 _ (by rfl) ga (o + i * 20) (by rfl) (ndC m) _ R2 Tryd.underlying55 rfl (by rw [ndC_len M1]; exact i49) ?_
          | (refine wpList_alloc_at (by rfl) 7 (by rfl) 55 (by rfl) _ _ _ info49 ?_; intro W1 R1 N1)
          | (refine wpList_store_new (by rfl) 55 _ _ (by rfl) wr.heap.size (ndA m) (by rfl) (by rfl) 55 _ R1 (by rw [ndA_size M1]; exact i49) (by rw [ndA_size M1]; rfl) (ndA_all _) ?_; intro W2 R3 B3; have N3 : New wr W2 := B3.new N1 (Nat.le_refl _); have R4 := R3.range 0 20; rw [show ((ndA m).toList.drop 0).take 20 = ndC m by unfold ndA; rw [List.drop_zero, List.take_of_length_le (by rw [ndC_len M1]; exact Nat.le_refl _)]] at R4)
          | refine wpList_load_mid (by rfl) 55 _ (by rfl) wr.heap.size 0 (by rfl) (ndC m) _ R4 Tryd.underlying55 rfl (by rw [ndC_len M1]; exact i49) ?_)
      have hownW := fun {W : World} (n : New wr W) (hs : wr.heap.size ≤ W.heap.size) => hown.out
      by_cases hz : kd = 0
      · subst hz
        refine Calls.mono hnx ?_
        rintro _ W4 ⟨rfl, N4⟩
        have e := way_stop (r := q) hi (by rw [HMM.out]; exact HKD.out)
        have hN : New wr W4 := N3.trans N4
        have hfin : Pl W4 (Fresh w) 3 1 (.slice (some ⟨g, 0, none⟩) (pre.length + 1) cap) ((pre ++ [i]).map natC) := (owns_ls (l := pre ++ [i]) (by rw [List.length_append]; exact hown.out)).after hN
        have HFIN : Hid (Pl W4 (Fresh w) 3 1 (.slice (some ⟨g, 0, none⟩) (pre.length + 1) cap) ((wayT t r).1.map natC)) := by
          show Pl _ _ _ _ _ _
          rw [HW.out, hway.out.1, e]; exact hfin
        have HE : Hid ((wayT t r).2 = q) := by show _ = _; rw [HW.out, hway.out.2, e]
        have hbw4 : New w W4 := New.trans hbw hN
        clear hfin hnx hownW e R4 R3
        go_wp2_with fail
        go_ret2
        refine ⟨.slice (some ⟨g, 0, none⟩) (pre.length + 1) cap, ?_, HFIN.out, hbw4⟩
        rw [HE.out]; rfl
      · have hm' := HM.out
        obtain ⟨j, ej, hij, hjl, hs1, hs2, _⟩ := nxt_on HK.out HM.out (r := q) (by rw [HKD.out]; exact hz)
        rw [HKD.out] at ej
        subst ej
        have e := way_go HK.out (r := q) hi (by rw [HMM.out, HKD.out]; exact hz)
        rw [HMM.out, HKD.out, HSK.out, Int.toNat_natCast] at e
        rw [HSK.out] at hs1 hs2
        have hjb : ((j : Int) == 0) = false := by rw [beq_eq_false_iff_ne]; exact hz
        have HWAY : Hid ((wayOf t 0 r).1 = (pre ++ [i]) ++ (wayOf t j (q.drop sk)).1 ∧ (wayOf t 0 r).2 = (wayOf t j (q.drop sk)).2) := by
          refine ⟨?_, ?_⟩
          · rw [hway.out.1, e]; simp
          · rw [hway.out.2, e]
        have hskb : (sk : Int) ≤ ((bs q).size : Int) := by rw [bs_size]; omega
        have hskn : ¬ ((sk : Int) < 0) := by omega
        have hcut : (bs q).extract sk (bs q).size = bs (q.drop sk) := tail_bs q sk
        have HQ2 : Hid (∀ c ∈ q.drop sk, c.toNat < 16) := fun c hc => hq.out c (List.mem_of_mem_drop hc)
        have hlen2 : (q.drop sk).length = q.length - sk := List.length_drop
        have HL2 : Hid ((q.drop sk).length = q.length - sk) := hlen2
        clear hm' e hz hlen2
        refine Calls.mono hnx ?_
        rintro _ W4 ⟨rfl, N4⟩
        have hN : New wr W4 := N3.trans N4
        have HB4 : Hid (Below w.heap.size w W4) := New.trans hbw hN
        have hB4 := HB4.out.size
        have HO4 : Hid (W4.ownsRow w.heap.size 3 1 (.slice (some ⟨g, 0, none⟩) (pre.length + 1) cap) (pre.length + 1) ((pre ++ [i]).map natV)) := own_after hown.out hN
        clear hnx hownW R4 R3 hown
        go_wp2_with fail
        go_region_held3 (fun _ => True) (trivial)
          ((refine step_append_lies _ (by rfl) _ _ _ (by rfl) w.heap.size 3 i0 _ 1 8 Tryd.underlying71 hi0 hz0 hz1 hz2 rfl (by omega) (.slice (some ⟨g, 0, none⟩) (pre.length + 1) cap) (pre.length + 1) ((pre ++ [i]).map natV) (by rfl) ((HO4.out.alloc _).drew)
              ⟨W4.heap.size, 0, none⟩ 1 1 [natV j] (by rfl) (by rfl) (World.news_of_block (cs := #[natV j]) (t := 3) (fr := (0, 0)) (heap_alloc_new W4 _)) (by simp [Value.oneCell', natV])
              (by omega) (by unfold maxLen; omega) (by omega) (by simp; omega) (W4.heap.size + 1) (by simp) ?_; intro gg cap2 w1 hown1 hgrow hat hlt1))
        go_wp2_with fail
        refine ⟨⟨pre ++ [i], j, q.drop sk, hjl, rfl, ?_, HWAY.out, HQ2.out, ?_, ?_⟩, ?_⟩
        · show w1.ownsRow _ _ _ _ _ _
          rw [List.length_append, List.length_singleton, List.map_append (l₁ := pre ++ [i])]; exact hown1
        · rw [HL2.out, List.length_append, List.length_singleton]; omega
        · exact ((HB4.out.alloc hB4 _).drew).grown hgrow (by simp; omega) fun k hk => (HO4.out.lt k hk).1
        · show (bs (q.drop sk)).size < (bs q).size
          rw [bs_size, bs_size, HL2.out]; omega

/-- Are they the nodes of pairs? -/
def okT (t : List Nd) : Bool := (readF t).isSome
/-- Why there is no way. -/
def errN (t : List Nd) (key : Bt) : Int := if okT t = false then 1 else if keyOk key = false then 9 else 0
/-- The nodes on a key's way. -/
def wayK (t : List Nd) (key : Bt) : List Nat := if okT t = true ∧ keyOk key = true then (wayT t (ofL key)).1 else []
/-- What there is of a key. -/
def ofK (t : List Nd) (key : Bt) : Option Bt := if okT t = true ∧ keyOk key = true then ofT t (ofL key) else none
theorem ok_ex {t : List Nd} (h : okT t = true) : ∃ l, mayB l = true ∧ t = buildN l := by
  unfold okT at h
  cases e : readF t with
  | none => rw [e] at h; cases h
  | some s => obtain ⟨h1, h2, _⟩ := readF_ok e; exact ⟨s.1, h1, h2⟩
theorem ok_lk {t : List Nd} (h : okT t = true) : Lk t := by
  obtain ⟨l, hm, rfl⟩ := ok_ex h
  exact lk_of (sh_of hm).1
theorem ok_wk {t : List Nd} (h : okT t = true) (K : TOk t) : Wk t := ⟨ok_lk h, K.few⟩
theorem keyOk_len {k : Bt} (h : keyOk k = true) : 1 ≤ k.length ∧ k.length ≤ 8 := by
  unfold keyOk at h; simpa using h
theorem halves_of (k : Bt) : ∀ c ∈ ofL k, c.toNat < 16 := fun c hc => by
  obtain ⟨i, hi, e⟩ := List.getElem_of_mem hc
  exact halvesB_get (halvesB_of k) (k := i) (c := c) (by rw [List.getElem?_eq_getElem hi, e])
set_option maxHeartbeats 4000000 in
theorem refused_any {w : World} {v : Value} {t : List Nd} (P : Ls w 20 v (t.map ndC)) (K : TOk t) (hT : Tab w) (key : Bt) :
    Calls Tryd.prog 32 #[v, .string (bs key)] w fun e w' => e = .returned (.int .i64 (errN t key)) ∧ New w w' := by
  have hg := good_trie P K hT
  have hs : ((bs key).size : Int) = (key.length : Int) := by rw [bs_size]
  have he := beq_empty key
  clear P K hT
  cases hok : okT t
  · have e : errN t key = 1 := by unfold errN; rw [hok, if_pos rfl]
    unfold okT at hok
    rw [e]
    rw [hok] at hg
    clear e hok
    go_enter Tryd.func32, Tryd.ntmps32
    go_wp2_with fail
    refine Calls.mono hg ?_
    rintro _ W1 ⟨rfl, N1⟩
    go_wp2_with fail
    go_ret
    exact ⟨rfl, N1⟩
  · have e : errN t key = if keyOk key = false then 9 else 0 := by unfold errN; rw [hok, if_neg (by simp)]
    have hok' := hok
    unfold okT at hok
    rw [hok] at hg
    by_cases h0 : key = []
    · have e2 : errN t key = 9 := by rw [e, h0]; rfl
      rw [e2]
      rw [decide_eq_true h0] at he
      clear e e2 hok hok' h0
      go_enter Tryd.func32, Tryd.ntmps32
      go_wp2_with fail
      refine Calls.mono hg ?_
      rintro _ W1 ⟨rfl, N1⟩
      go_wp2_with fail
      go_ret
      exact ⟨rfl, N1⟩
    · rw [decide_eq_false h0] at he
      have hl : 1 ≤ key.length := by cases key with | nil => exact absurd rfl h0 | cons _ _ => simp
      by_cases h8 : key.length ≤ 8
      · have e2 : errN t key = 0 := by rw [e, if_neg]; unfold keyOk; rw [decide_eq_true hl, decide_eq_true h8]; simp
        have hd : decide ((8 : Int) < ((bs key).size : Int)) = false := by rw [hs]; exact decide_eq_false (by omega)
        have hd' : ¬ ((8 : Int) < ((bs key).size : Int)) := by rw [hs]; omega
        rw [e2]
        clear e e2 hok hok' h0 hs hl h8
        go_enter Tryd.func32, Tryd.ntmps32
        go_wp2_with fail
        refine Calls.mono hg ?_
        rintro _ W1 ⟨rfl, N1⟩
        go_wp2_with fail
        go_ret
        exact ⟨rfl, N1⟩
      · have e2 : errN t key = 9 := by rw [e, if_pos]; unfold keyOk; rw [decide_eq_false h8]; simp
        have hd : decide ((8 : Int) < ((bs key).size : Int)) = true := by rw [hs]; exact decide_eq_true (by omega)
        have hd' : ((8 : Int) < ((bs key).size : Int)) := by rw [hs]; omega
        rw [e2]
        clear e e2 hok hok' h0 hs hl h8
        go_enter Tryd.func32, Tryd.ntmps32
        go_wp2_with fail
        refine Calls.mono hg ?_
        rintro _ W1 ⟨rfl, N1⟩
        go_wp2_with fail
        go_ret
        exact ⟨rfl, N1⟩
end Go.Proofs.YtjpjcojabjkaaaaDoor
namespace Go.Proofs.YtjpjcojabjkaaaaDoor
open Go.RowKit
set_option maxRecDepth 20000
set_option linter.unusedVariables false

theorem last_get {w : List Nat} (h : 0 < w.length) : lastOf w = w.getD (w.length - 1) 0 := by
  unfold lastOf
  rw [List.getLast?_eq_getElem?, List.getD_eq_getElem?_getD]
theorem way_ne {t : List Nd} (h : Lk t) (hp : 0 < t.length) (r : Bt) : 0 < (wayT t r).1.length ∧ lastOf (wayT t r).1 < t.length := by
  unfold wayT
  rw [if_neg (by omega)]
  obtain ⟨w, hw⟩ := way_head h (r := r) hp
  refine ⟨by rw [hw]; simp, ?_⟩
  have hl : 0 < (wayOf t 0 r).1.length := by rw [hw]; simp
  rw [last_get hl]
  exact way_in h hp _ (getD_mem (by omega))
theorem way_few0 {t : List Nd} (h : Lk t) (r : Bt) : (wayT t r).1.length ≤ r.length + 1 := by
  unfold wayT
  split
  · simp
  · exact way_few h (by omega)
theorem get_results {w : World} {g : Nat} {tmps : Array Value} {C : Array Value} {z : Int} (hp : tmps.getD 4 undef = .pointer (some ⟨g, 0, none⟩)) (hq : tmps.getD 5 undef = .int .i64 z) (R : Row w g C 46) (hs : C.size = 2) :
    (results Tryd.f20 tmps).run Tryd.prog w = .ok (.tuple #[.agg C, .int .i64 z]) w :=
  results_cell_tmp (p := 4) (q := 5) (ty := 46) (by rfl) tmps w g 46 C (0, 0) _ _ hp hq R Tryd.underlying46 rfl (by rw [hs]; exact i27)
theorem err_ways (t : List Nd) (key : Bt) : (errN t key = 0 ∧ okT t = true ∧ keyOk key = true) ∨ (errN t key ≠ 0 ∧ wayK t key = [] ∧ ofK t key = none) := by
  unfold errN wayK ofK
  cases okT t <;> cases keyOk key <;> simp

set_option maxHeartbeats 8000000 in
theorem of_any12 {w : World} {v : Value} {t : List Nd} (P : Ls w 20 v (t.map ndC)) (K : TOk t) (hT : Tab w) (key : Bt) :
    Calls Tryd.prog 20 #[v, .string (bs key)] w fun e w' => e = .returned (.tuple #[.agg (ansA (ofK t key)), .int .i64 (errN t key)]) ∧ New w w' := by
  have hre := fun {W : World} (n : New w W) => refused_any (P.after n) K (hT.kept n) key
  rcases err_ways t key with ⟨he, hok, hk⟩ | ⟨he, _, hw⟩
  · rw [he] at hre ⊢
    have hkl := keyOk_len hk
    have hof := fun W => of_any (bs key) (by rw [bs_size]; omega) W
    rw [L_bs] at hof
    have hfo := fun {W : World} (n : New w W) => follow_any (r := ofL key) (P.after n) (ok_wk hok K) (halves_of key) (by rw [ofL_length]; omega)
    have e0 : ofK t key = ofT t (ofL key) := by unfold ofK; rw [if_pos ⟨hok, hk⟩]
    have HL : Hid (Lk t) := ok_lk hok
    have HK : Hid (TOk t) := K
    obtain ⟨a, c, rfl, hc, HS⟩ := P.open noNd
    have hfew := K.few
    by_cases h0 : t.length = 0
    · have e1 : (wayT t (ofL key)).1 = [] := by unfold wayT; rw [if_pos h0]
      have e2 : ofK t key = none := by rw [e0]; unfold ofT; rw [if_pos h0]
      rw [e2]
      have HE1 : Hid ((wayT t (ofL key)).1 = []) := e1
      clear he hok hk hkl P K hT e0 e1 e2 h0
      go_enter Tryd.func20, Tryd.ntmps20
      go_wp2_with (first
        | (refine wpList_alloc_at (by rfl) 4 (by rfl) 46 (by rfl) _ _ _ info27 ?_; intro W0 R0 N0))
      refine Calls.mono (hre N0) ?_
      rintro _ W1 ⟨rfl, N1⟩
      clear hre
      go_wp2_with fail
      refine Calls.mono (hof _) ?_
      rintro _ W2 ⟨rfl, N2⟩
      have N2 : New W1 W2 := N2
      clear hof
      go_wp2_with fail
      refine Calls.mono (hfo ((N0.trans N1).trans N2)) ?_
      rintro _ W3 ⟨va, rfl, Q, N3⟩
      clear hfo
      have N03 := (N1.trans N2).trans N3
      have R3 := R0.after N03
      rw [HE1.out] at Q
      obtain ⟨b, d, rfl, _⟩ := Q.form
      clear Q
      go_wp2_with (first
        | refine wpList_build0 (by rfl) 46 (by rfl) _ built27 ?_
        | (refine wpList_store_new (by rfl) 46 _ _ (by rfl) w.heap.size (ansA none) (by rfl) (by rfl) 46 _ R3 i27 rfl (ans_one _) ?_; intro W4 R4 B4; have N4 : New w W4 := B4.new (N0.trans N03) (Nat.le_refl _)))
      exact bodyPost_ret (v := .tuple #[.agg (ansA none), .int .i64 0]) (get_results rfl rfl R4 rfl) rfl ⟨rfl, N4⟩
    · have hpos : 0 < t.length := by omega
      obtain ⟨hw1, hw2⟩ := way_ne HL.out hpos (ofL key)
      have hw3 := last_get hw1
      have hw4 := way_few0 HL.out (ofL key)
      rw [ofL_length] at hw4
      obtain ⟨m, hm⟩ : ∃ m, t.getD (lastOf (wayT t (ofL key)).1) noNd = m := ⟨_, rfl⟩
      have hmm := getD_mem (d := noNd) hw2
      have e2 : ofK t key = ansN (t.getD (lastOf (wayT t (ofL key)).1) noNd) (wayT t (ofL key)).2 := by rw [e0]; unfold ofT; rw [if_neg h0]
      rw [hm] at e2 hmm
      have M1 := HK.out.k16 m hmm
      have han := fun {W : World} => answer_any (w := W) (m := m) (r := (wayT t (ofL key)).2) M1 (HK.out.len m hmm).2
      rw [← e2] at han
      obtain ⟨n, hn⟩ : ∃ n, (wayT t (ofL key)).1.length = n + 1 := ⟨(wayT t (ofL key)).1.length - 1, by omega⟩
      rw [hn, Nat.add_sub_cancel] at hw3
      have HW3 : Hid (lastOf (wayT t (ofL key)).1 = (wayT t (ofL key)).1.getD n 0) := hw3
      have HM : Hid (t.getD (lastOf (wayT t (ofL key)).1) noNd = m) := hm
      have HN : Hid ((wayT t (ofL key)).1.length = n + 1) := hn
      have hnb : n ≤ 16 := by omega
      clear hw3 hm hn hw4 hw1 e2 e0 hmm P K hT he hok hk hkl h0
      generalize lastOf (wayT t (ofL key)).1 = li at *
      generalize (wayT t (ofL key)).2 = rs at *
      generalize (wayT t (ofL key)).1 = wy at *
      generalize ofK t key = ov at *
      have hli : (li : Int) < (t.length : Int) := by omega
      have hn0 : ((n : Int) + 1 == 0) = false := by rw [beq_eq_false_iff_ne]; omega
      go_enter Tryd.func20, Tryd.ntmps20
      go_wp2_with (first
        | (refine wpList_alloc_at (by rfl) 4 (by rfl) 46 (by rfl) _ _ _ info27 ?_; intro W0 R0 N0))
      refine Calls.mono (hre N0) ?_
      rintro _ W1 ⟨rfl, N1⟩
      clear hre
      go_wp2_with fail
      refine Calls.mono (hof _) ?_
      rintro _ W2 ⟨rfl, N2⟩
      have N2 : New W1 W2 := N2
      clear hof
      go_wp2_with fail
      refine Calls.mono (hfo ((N0.trans N1).trans N2)) ?_
      rintro _ W3 ⟨va, rfl, Q, N3⟩
      clear hfo
      have N03 := (N1.trans N2).trans N3
      have R3 := R0.after N03
      obtain ⟨b, d, rfl, hd, HS2⟩ := Q.ls.open 0
      have hlw := HN.out
      obtain ⟨gb, ob, rfl, hgb, hrb⟩ := HS2.out (by omega)
      obtain ⟨ga, oa, rfl, hga, hra⟩ := HS.out hpos
      have c1 : W3.cell? ⟨gb, ob + n, none⟩ = some (.int .i64 (li : Int)) := by
        have := hrb W3 (New.refl _) n (by omega) 0 (natV (wy.getD n 0)) rfl
        rw [Nat.mul_one, Nat.add_zero, ← HW3.out] at this
        exact this
      have R2 := hra W3 (N0.trans N03) _ hw2
      rw [HM.out] at R2
      rw [hlw]
      clear HS2 hrb hra Q hlw
      go_wp2_with (first
          | refine wpList_load_mid (by rfl) 55 _ (by rfl) ga (oa + li * 20) (by rfl) (ndC m) _ R2 Tryd.underlying55 rfl (by rw [ndC_len M1]; exact i49) ?_)
      refine Calls.mono han ?_
      rintro _ W4 ⟨rfl, N4⟩
      have R4 := R3.after N4
      clear han
      go_wp2_with (first
        | (refine wpList_store_new (by rfl) 46 _ _ (by rfl) w.heap.size (ansA ov) (by rfl) (by rfl) 46 _ R4 i27 rfl (ans_one _) ?_; intro W5 R5 B5; have N5 : New w W5 := B5.new ((N0.trans N03).trans N4) (Nat.le_refl _)))
      exact bodyPost_ret (v := .tuple #[.agg (ansA ov), .int .i64 0]) (get_results rfl rfl R5 rfl) rfl ⟨rfl, N5⟩
  · have hb : (errN t key == 0) = false := by rw [beq_eq_false_iff_ne]; exact he
    rw [hw]
    generalize errN t key = z at *
    clear he hw P K hT
    go_enter Tryd.func20, Tryd.ntmps20
    go_wp2_with (first
      | (refine wpList_alloc_at (by rfl) 4 (by rfl) 46 (by rfl) _ _ _ info27 ?_; intro W0 R0 N0))
    refine Calls.mono (hre N0) ?_
    rintro _ W1 ⟨rfl, N1⟩
    have R1 := R0.after N1
    go_wp2_with (first
        | refine wpList_build0 (by rfl) 46 (by rfl) _ built27 ?_
        | (refine wpList_store_new (by rfl) 46 _ _ (by rfl) w.heap.size (ansA none) (by rfl) (by rfl) 46 _ R1 i27 rfl (ans_one _) ?_; intro W4 R4 B4; have N4 : New w W4 := B4.new (N0.trans N1) (Nat.le_refl _)))
    exact bodyPost_ret (v := .tuple #[.agg (ansA none), .int .i64 z]) (get_results rfl rfl R4 rfl) rfl ⟨rfl, N4⟩
end Go.Proofs.YtjpjcojabjkaaaaDoor
namespace Go.Proofs.YtjpjcojabjkaaaaDoor
open Go.RowKit
set_option maxRecDepth 20000
set_option linter.unusedVariables false

theorem nat_at {w : World} {g o : Nat} {l : List Nat} (h : ∀ (W : World), New w W → ∀ i, i < l.length → W.rangeAt g (o + i * 1) (natC (l.getD i 0))) {W : World} (N : New w W) {k : Nat} (hk : k < l.length) : W.cell? ⟨g, o + k, none⟩ = some (.int .i64 ((l.getD k 0 : Nat) : Int)) := by
  have := h W N k hk 0 (natV (l.getD k 0)) rfl
  rw [Nat.mul_one, Nat.add_zero] at this
  exact this
theorem nat_take {l m : List Nat} {k : Nat} (h : l.take k = m.take k) (hl : k < l.length) (hm : k < m.length) (e : l.getD k 0 = m.getD k 0) : l.take (k + 1) = m.take (k + 1) := by
  rw [List.take_add_one, List.take_add_one, h, getD_some (d := 0) hl, getD_some (d := 0) hm, e]
theorem refGood_any26 {w : World} {v : Value} {t : List Nd} (P : Ls w 20 v (t.map ndC)) (K : TOk t) :
    Calls Tryd.prog 29 #[v] w fun e w' => e = .returned (.bool (okT t)) ∧ New w w' := by
  have hp := r_pairs P K
  clear P K
  have hfd : ∀ (a : Option Addr) (n c : Nat) (x : Bool) (w : World), (Instr.field 57 (.agg #[.slice a n c, .bool x]) 1).run Tryd.prog w = .ok (.bool x) w := fun a n c x w => by
    simp [Instr.field, run_underlying Tryd.underlying57, asAgg, part, Tryd.isAgg4, Tryd.sizeOf4]
  go_enter Tryd.func29, Tryd.ntmps29
  go_wp2_with fail
  refine Calls.mono hp ?_
  rintro _ W1 ⟨a, n, c, rfl, _, N1⟩
  have hf := hfd a n c
  clear hfd
  go_wp2_with fail
  go_ret
  exact ⟨rfl, N1⟩
theorem look_cons (p : Pr) (l : List Pr) (key : Bt) : lookL (p :: l) key = if p.1 = key then some p.2 else lookL l key := by
  unfold lookL
  rw [List.find?_cons]
  by_cases h : p.1 = key
  · rw [if_pos h, decide_eq_true h]; rfl
  · rw [if_neg h, decide_eq_false h]
theorem look_drop {l : List Pr} {k : Nat} (hk : k < l.length) (key : Bt) : lookL (l.drop k) key = if (l.getD k ([], [])).1 = key then some (l.getD k ([], [])).2 else lookL (l.drop (k + 1)) key := by
  rw [List.drop_eq_getElem_cons hk, look_cons, List.getD_eq_getElem?_getD, List.getElem?_eq_getElem hk]
  rfl
/-- Of pairs' nodes: what the pairs say. -/
theorem ofK_look {t : List Nd} {key : Bt} (h : okT t = true) (hk : keyOk key = true) : ofK t key = lookL (rL t) key := by
  unfold ofK
  rw [if_pos ⟨h, hk⟩]
  unfold okT at h
  cases e : readF t with
  | none => rw [e] at h; cases h
  | some s =>
    obtain ⟨h1, h2, _⟩ := readF_ok e
    have : rL t = s.1 := by unfold rL; rw [e]
    rw [this]
    conv => lhs; rw [h2]
    exact of_look h1 key
end Go.Proofs.YtjpjcojabjkaaaaDoor
namespace Go.Proofs.YtjpjcojabjkaaaaDoor
open Go.RowKit
set_option maxRecDepth 20000
set_option linter.unusedVariables false

theorem eq_ans (x y : Option Bt) (w : World) : (Op.equalIn 10000 46 (.agg (ansA x)) (.agg (ansA y))).run Tryd.prog w = .ok (decide (x = y)) w := by
  have e : Tryd.prog.fieldsOf 46 = #[⟨ "Has", 4, 0, false, "", "", 0⟩, ⟨ "Value", 9, 1, false, "", "", 8⟩] := by
    unfold Program.fieldsOf; rw [Tryd.underlying46]
  have p0 : ∀ (p : Option Bt) (w : World), (part 4 (ansA p) 0).run Tryd.prog w = .ok (.bool p.isSome) w := fun p w => by simp [part, isAgg, run_underlying Tryd.underlying4, ansA]
  have p1 : ∀ (p : Option Bt) (w : World), (part 9 (ansA p) 1).run Tryd.prog w = .ok (.string (bs (p.getD []))) w := fun p w => by simp [part, isAgg, run_underlying Tryd.underlying9, ansA]
  rw [show (10000 : Nat) = 9999 + 1 from rfl, run_equalIn_struct w 9999 46 _ _ (by rw [e]; exact Tryd.underlying46) (by kernel_rfl), e]
  have q9 : ∀ a b w, (Op.equalIn 9999 9 (.string a) (.string b)).run Tryd.prog w = .ok (a.toList == b.toList) w := fun a b w => run_equalIn_string (P := Tryd.prog) w 9998 9 a b Tryd.underlying9
  have q4 : ∀ a b w, (Op.equalIn 9999 4 (.bool a) (.bool b)).run Tryd.prog w = .ok (a == b) w := fun a b w => run_equalIn_bool (P := Tryd.prog) w 9998 4 a b Tryd.underlying4
  simp only [Op.eqFields, ne_eq, String.reduceEq, not_false_eq_true, if_true, Sem.run_bind, p0, p1, Result.andThen_ok, q9, q4, text_beq, Sem.run_ite, Sem.run_pure]
  cases x <;> cases y <;> simp
  rename_i a b
  by_cases h : a = b <;> simp [h]
theorem owns_bytes (x : Option Bt) : ∃ b s, ansA x = #[.bool b, .string s] := ⟨_, _, rfl⟩
end Go.Proofs.YtjpjcojabjkaaaaDoor
namespace Go.Proofs.YtjpjcojabjkaaaaDoor
open Go.RowKit
set_option maxRecDepth 20000
set_option linter.unusedVariables false

section
variable {P : Program} {w : World} {ops : Array Oper} {rest : List Oper} {o : Oper} {a : Act} {Q : Exit → Act → World → Prop}
theorem wpList_run_want (hw : Region.wanted o (yielded ops a.tmps) = true) (v : Value) (w' : World) (hrun : (execOp a.eval o).run P w = .ok (.value v) w') (h : wpList P ops Q rest (a.put o.dst v) w') : wpList P ops Q (o :: rest) a w :=
  BigFrame.wpList_want hw fun K hK => by unfold Oper.wp; rw [hrun]; exact hK _ _ h
theorem exec_build0 {T : TypeId} {r : Value} (ho : o.op = .build T #[]) (hr : (Instr.build T #[]).run P w = .ok r w) : (execOp a.eval o).run P w = .ok (.value r) w := by
  unfold execOp
  simp only [ho, List.map_toArray, List.map_nil, Sem.run_bind, hr, Result.andThen_ok, Sem.run_pure]
end
def wl : List Pr := [([97], [49]), ([97, 98], [50]), ([98], [])]
def wt : List Nd := [extN [6] 1, brN false [] ((no16.set 1 2).set 2 4), brN true [49] (no16.set 6 3), leafN [2] [50], leafN [] []]
def w9t : List Nd := [⟨9, [], false, [], no16⟩]
theorem wl_may : mayB wl = true := by decide +kernel
theorem wl_build : buildN wl = wt := by decide +kernel
theorem wt_ok : okT wt = true := by
  unfold okT
  rw [readF_iff.2 ⟨wl_may, wl_build.symm, rfl⟩]; rfl
theorem wt_rL : rL wt = wl := by
  unfold rL
  rw [readF_iff.2 ⟨wl_may, wl_build.symm, rfl⟩]
theorem w9_ok : okT w9t = false := by decide +kernel
theorem wt_tok : TOk wt := ⟨by decide, by decide, by decide⟩
theorem w9_tok : TOk w9t := ⟨by decide, by decide, by decide⟩
theorem wl_bX : bX wl = wt := by unfold bX; rw [wl_may, if_pos rfl, wl_build]
theorem w_ab : ofK wt [97, 98] = some [50] ∧ errN wt [97, 98] = 0 ∧ wayK wt [97, 98] = [0, 1, 2, 3] := by
  refine ⟨?_, ?_, ?_⟩
  · rw [ofK_look wt_ok rfl, wt_rL]; decide +kernel
  · unfold errN; rw [wt_ok]; rfl
  · unfold wayK; rw [if_pos ⟨wt_ok, rfl⟩]; decide +kernel
theorem w_c : ofK wt [99] = none ∧ errN wt [99] = 0 ∧ wayK wt [99] = [0, 1] := by
  refine ⟨?_, ?_, ?_⟩
  · rw [ofK_look wt_ok rfl, wt_rL]; decide +kernel
  · unfold errN; rw [wt_ok]; rfl
  · unfold wayK; rw [if_pos ⟨wt_ok, rfl⟩]; decide +kernel
theorem w_none : ofK wt [] = none ∧ errN wt [] = 9 := by
  refine ⟨?_, ?_⟩
  · unfold ofK; rw [if_neg (by rintro ⟨_, h⟩; cases h)]
  · unfold errN; rw [wt_ok]; rfl
theorem w_9 : ofK w9t [97] = none ∧ errN w9t [97] = 1 := by
  refine ⟨?_, ?_⟩
  · unfold ofK; rw [w9_ok, if_neg (by rintro ⟨h, _⟩; cases h)]
  · unfold errN; rw [w9_ok]; rfl
theorem field_T (a : Option Addr) (n c : Nat) (b : Option Addr) (m d : Nat) (x : Bool) (w : World) : (Instr.field 43 (.agg #[.slice a n c, .slice b m d, .bool x]) 0).run Tryd.prog w = .ok (.slice a n c) w := by
  simp [Instr.field, run_underlying Tryd.underlying43, asAgg, part, Tryd.isAgg23, Tryd.sizeOf23]
theorem rows_ls {w : World} {g : Nat} {t : TypeId} {l : List Pr} {cs : Array Value} (R : Row w g cs t) (h : cs = (l.map prC).flatten.toArray) (hl : l.length ≤ 10000) : Ls w 2 (.slice (some ⟨g, 0, none⟩) l.length l.length) (l.map prC) := by
  subst h
  have he : ∀ e ∈ l.map prC, e.length = 2 := fun e he => by obtain ⟨p, _, rfl⟩ := List.mem_map.1 he; rfl
  have := Pl.make (F := fun _ => True) (c := l.length) he R (by rw [List.length_map]; exact Nat.le_refl _) (by unfold maxLen; omega) (by rw [List.size_toArray, flat_length he, List.length_map]) (by
    rw [List.take_of_length_le]
    rw [flat_length he]; exact Nat.le_refl _) trivial
  rw [List.length_map] at this
  exact this.ls
theorem nodes_ls {w : World} {g : Nat} {t : TypeId} {l : List Nd} {cs : Array Value} (R : Row w g cs t) (h : cs = (l.map ndC).flatten.toArray) (hl : l.length ≤ 10000) (hk : ∀ m ∈ l, m.kids.length = 16) : Ls w 20 (.slice (some ⟨g, 0, none⟩) l.length l.length) (l.map ndC) := by
  subst h
  have he : ∀ e ∈ l.map ndC, e.length = 20 := fun e he => by obtain ⟨p, hp, rfl⟩ := List.mem_map.1 he; exact ndC_len (hk p hp)
  have := Pl.make (F := fun _ => True) (c := l.length) he R (by rw [List.length_map]; exact Nat.le_refl _) (by unfold maxLen; omega) (by rw [List.size_toArray, flat_length he, List.length_map]) (by
    rw [List.take_of_length_le]
    rw [flat_length he]; exact Nat.le_refl _) trivial
  rw [List.length_map] at this
  exact this.ls
theorem nats_ls {w : World} {g : Nat} {t : TypeId} {l : List Nat} {cs : Array Value} (R : Row w g cs t) (h : cs = (l.map natC).flatten.toArray) (hl : l.length ≤ 10000) : Ls w 1 (.slice (some ⟨g, 0, none⟩) l.length l.length) (l.map natC) := by
  subst h
  have he : ∀ e ∈ l.map natC, e.length = 1 := fun e he => by obtain ⟨p, hp, rfl⟩ := List.mem_map.1 he; rfl
  have := Pl.make (F := fun _ => True) (c := l.length) he R (by rw [List.length_map]; exact Nat.le_refl _) (by unfold maxLen; omega) (by rw [List.size_toArray, flat_length he, List.length_map]) (by
    rw [List.take_of_length_le]
    rw [flat_length he]; exact Nat.le_refl _) trivial
  rw [List.length_map] at this
  exact this.ls
theorem built54_9 : Tryd.prog.built 55 [(0, .int .i64 9)] = some (ndA ⟨9, [], false, [], no16⟩) := by kernel_rfl
end Go.Proofs.YtjpjcojabjkaaaaDoor
namespace Go.Proofs.YtjpjcojabjkaaaaDoor
open Go.RowKit
set_option maxRecDepth 20000
set_option linter.unusedVariables false

def inB (l : List Pr) (key : Bt) : Bool := l.any fun p => decide (p.1 = key)
theorem look_in (l : List Pr) (key : Bt) : (lookL l key).isSome = inB l key := by
  induction l with
  | nil => rfl
  | cons p l ih =>
    rw [look_cons]
    unfold inB at ih ⊢
    rw [List.any_cons]
    by_cases h : p.1 = key
    · rw [if_pos h, decide_eq_true h]; rfl
    · rw [if_neg h, decide_eq_false h, Bool.false_or]; exact ih
theorem in_more {l : List Pr} {k : Nat} (hk : k < l.length) (key : Bt) : inB (l.take (k + 1)) key = (inB (l.take k) key || decide ((l.getD k ([], [])).1 = key)) := by
  unfold inB
  rw [List.take_add_one, getD_some (d := ([], [])) hk, List.any_append]
  simp
theorem ok_build {l : List Pr} (h : mayB l = true) : okT (buildN l) = true := by
  unfold okT
  rw [readF_iff.2 ⟨h, rfl, rfl⟩]; rfl
theorem rL_build {l : List Pr} (h : mayB l = true) : rL (buildN l) = l := by
  unfold rL
  rw [readF_iff.2 ⟨h, rfl, rfl⟩]
theorem bX_build {l : List Pr} (h : mayB l = true) : bX l = buildN l := by unfold bX; rw [h, if_pos rfl]
theorem okP_keyOk {p : Pr} (h : okP p = true) : keyOk p.1 = true := by
  obtain ⟨h1, h2, _⟩ := okP_key p h
  unfold keyOk; rw [decide_eq_true h1, decide_eq_true h2]; rfl
theorem err_build {l : List Pr} (h : mayB l = true) (key : Bt) : errN (buildN l) key = if keyOk key = false then 9 else 0 := by
  unfold errN; rw [ok_build h, if_neg (by simp)]
theorem ofK_pair {l : List Pr} (h : mayB l = true) {p : Pr} (hp : p ∈ l) : ofK (buildN l) p.1 = some p.2 ∧ errN (buildN l) p.1 = 0 := by
  have hk := okP_keyOk ((mayB_rise l h).2 p hp)
  refine ⟨?_, by rw [err_build h, hk]; rfl⟩
  rw [ofK_look (ok_build h) hk, rL_build h]
  exact (look_some h).2 hp

end Go.Proofs.YtjpjcojabjkaaaaDoor
namespace Go.Proofs.YtjpjcojabjkaaaaDoor
open Go.RowKit
set_option maxRecDepth 20000

def bitOf (c i : Nat) : Bool := c / 2 ^ i % 2 == 1
theorem low_bit (n : Nat) (h : n < 256) : bits .and .u8 (n : Int) 1 = ((n % 2 : Nat) : Int) := by
  have h1 := bits_mask .u8 8 (by decide) wraps_u8 1 (by decide) (n : Int) (Int.natCast_nonneg _) (by omega)
  simp at h1
  omega
theorem bit_test (c k : Nat) (hc : c < 256) : bits .and .u8 (((c / 2 ^ k : Nat)) : Int) 1 = if bitOf c k then 1 else 0 := by
  rw [low_bit _ (Nat.lt_of_le_of_lt (Nat.div_le_self _ _) hc)]
  unfold bitOf
  have h2 := Nat.mod_lt (c / 2 ^ k) (by decide : 2 > 0)
  generalize c / 2 ^ k % 2 = m at h2
  have h3 : m = 0 ∨ m = 1 := by omega
  rcases h3 with rfl | rfl <;> rfl

theorem bit_letter (c k : Nat) (hc : c < 256) : (bits .and .u8 ((c : Int) / 2 ^ k) 1 == 1) = bitOf c k := by
  have h := bit_test c k hc
  rw [Int.natCast_ediv, Int.natCast_pow] at h
  rw [show ((2 : Nat) : Int) = 2 from rfl] at h
  rw [h]
  cases bitOf c k <;> rfl
def selP (key : Bt) (k : Nat) : Pr := (key.take (k + 1), [UInt8.ofNat (k + 1)])
def selL (key : Bt) (c : Nat) : Nat → List Pr
  | 0 => []
  | k + 1 => selL key c k ++ (if bitOf c k then [selP key k] else [])
theorem sel_yes {key : Bt} {c k : Nat} (h : bitOf c k = true) : selL key c (k + 1) = selL key c k ++ [selP key k] := by
  show selL key c k ++ _ = _; rw [if_pos h]
theorem sel_no {key : Bt} {c k : Nat} (h : bitOf c k = false) : selL key c (k + 1) = selL key c k := by
  show selL key c k ++ _ = _; rw [if_neg (by rw [h]; simp), List.append_nil]
theorem sel_mem {key : Bt} {c : Nat} {p : Pr} : ∀ {K : Nat}, p ∈ selL key c K ↔ ∃ k, k < K ∧ bitOf c k = true ∧ p = selP key k
  | 0 => by simp [selL]
  | K + 1 => by
    cases hb : bitOf c K
    · rw [sel_no hb, sel_mem (K := K)]
      constructor
      · rintro ⟨k, h1, h2⟩; exact ⟨k, by omega, h2⟩
      · rintro ⟨k, h1, h2, h3⟩
        have : k ≠ K := fun e => by rw [e, hb] at h2; cases h2
        exact ⟨k, by omega, h2, h3⟩
    · rw [sel_yes hb, List.mem_append, sel_mem (K := K), List.mem_singleton]
      constructor
      · rintro (⟨k, h1, h2⟩ | h)
        · exact ⟨k, by omega, h2⟩
        · exact ⟨K, by omega, hb, h⟩
      · rintro ⟨k, h1, h2, h3⟩
        by_cases e : k = K
        · subst e; exact .inr h3
        · exact .inl ⟨k, by omega, h2, h3⟩
theorem sel_len (key : Bt) (c : Nat) : ∀ K, (selL key c K).length ≤ K
  | 0 => by simp [selL]
  | K + 1 => by
    have := sel_len key c K
    cases hb : bitOf c K
    · rw [sel_no hb]; omega
    · rw [sel_yes hb, List.length_append, List.length_singleton]; omega
theorem sel_rise (key : Bt) (c : Nat) : ∀ K, K ≤ key.length → (selL key c K).Pairwise (fun p q => ltL p.1 q.1)
  | 0, _ => by simp [selL]
  | K + 1, h => by
    have ih := sel_rise key c K (by omega)
    cases hb : bitOf c K
    · rw [sel_no hb]; exact ih
    · rw [sel_yes hb, List.pairwise_append]
      refine ⟨ih, by simp, fun a ha b hb' => ?_⟩
      rw [List.mem_singleton] at hb'
      obtain ⟨j, hj, _, rfl⟩ := sel_mem.1 ha
      subst hb'
      show ltL (key.take (j + 1)) (key.take (K + 1))
      have e : key.take (K + 1) = key.take (j + 1) ++ (key.take (K + 1)).drop (j + 1) := by
        conv => lhs; rw [← List.take_append_drop (j + 1) (key.take (K + 1))]
        rw [List.take_take, Nat.min_eq_left (by omega)]
      rw [e]
      refine ltL_prefix _ fun hn => ?_
      have := congrArg List.length hn
      rw [List.length_drop, List.length_take, List.length_nil] at this
      omega
theorem may_of {l : List Pr} (hr : l.Pairwise (fun p q => ltL p.1 q.1)) (ho : ∀ p ∈ l, okP p = true) : mayB l = true := by
  refine (mayB_iff l).2 fun i hi => ?_
  unfold atB
  rw [ho _ (getD_mem hi), Bool.true_and, Bool.or_eq_true, decide_eq_true_eq]
  by_cases h0 : i = 0
  · exact .inl h0
  · right
    unfold upB
    rw [less_iff]
    rw [List.pairwise_iff_getElem] at hr
    have := hr (i - 1) i (by omega) hi (by omega)
    rw [List.getD_eq_getElem?_getD, List.getD_eq_getElem?_getD, List.getElem?_eq_getElem hi, List.getElem?_eq_getElem (by omega : i - 1 < l.length)]
    exact this
theorem sel_may {key : Bt} (h8 : key.length ≤ 8) (c K : Nat) (hK : K ≤ key.length) : mayB (selL key c K) = true := by
  refine may_of (sel_rise key c K hK) fun p hp => ?_
  obtain ⟨k, hk, _, rfl⟩ := sel_mem.1 hp
  unfold okP selP
  rw [List.length_take, Bool.and_eq_true, Bool.and_eq_true]
  refine ⟨decide_eq_true (by omega), decide_eq_true (by omega), by simp⟩
theorem sel_look {key : Bt} (h8 : key.length ≤ 8) (c : Nat) {k : Nat} (hk : k < key.length) : lookL (selL key c key.length) (key.take (k + 1)) = if bitOf c k then some [UInt8.ofNat (k + 1)] else none := by
  have hm := sel_may h8 c key.length (Nat.le_refl _)
  cases hb : bitOf c k
  · rw [if_neg (by simp)]
    cases e : lookL (selL key c key.length) (key.take (k + 1)) with
    | none => rfl
    | some v =>
      obtain ⟨j, hj, h2, h3⟩ := sel_mem.1 ((look_some hm).1 e)
      have := congrArg (fun p : Pr => p.1.length) h3
      simp only [selP, List.length_take] at this
      have : j = k := by omega
      rw [this, hb] at h2; cases h2
  · rw [if_pos rfl]
    exact (look_some hm).2 (sel_mem.2 ⟨k, hk, hb, rfl⟩)
theorem keyOk_take {key : Bt} (h : keyOk key = true) {k : Nat} (hk : k < key.length) : keyOk (key.take (k + 1)) = true := by
  have := keyOk_len h
  unfold keyOk
  rw [List.length_take, Bool.and_eq_true]
  exact ⟨decide_eq_true (by omega), decide_eq_true (by omega)⟩
end Go.Proofs.YtjpjcojabjkaaaaDoor
namespace Go.Proofs.YtjpjcojabjkaaaaDoor
set_option maxRecDepth 20000

/-- Does that text not come ahead of this one? -/
def geB (a b : Bt) : Bool := !upB a b
/-- Pairs with one more, in its place. -/
def setL : List Pr → Bt → Bt → List Pr
  | [], k, v => [(k, v)]
  | p :: l, k, v => if upB p.1 k then p :: setL l k v else if p.1 = k then (k, v) :: l else (k, v) :: p :: l
theorem up_iff (a b : Bt) : upB a b = true ↔ ltL a b := less_iff a b
theorem ltL_total : ∀ a b : Bt, ltL a b ∨ a = b ∨ ltL b a
  | [], [] => .inr (.inl rfl)
  | [], _ :: _ => .inl trivial
  | _ :: _, [] => .inr (.inr trivial)
  | x :: a, y :: b => by
    rcases Nat.lt_trichotomy x.toNat y.toNat with h | h | h
    · exact .inl (.inl h)
    · have e : x = y := UInt8.toNat_inj.1 h
      subst e
      rcases ltL_total a b with h | h | h
      · exact .inl (.inr ⟨rfl, h⟩)
      · exact .inr (.inl (by rw [h]))
      · exact .inr (.inr (.inr ⟨rfl, h⟩))
    · exact .inr (.inr (.inl h))
theorem ltL_asymm {a b : Bt} (h : ltL a b) : ¬ ltL b a := fun k => ltL_irrefl a (ltL_trans h k)
def Rise (l : List Pr) : Prop := l.Pairwise (fun p q => ltL p.1 q.1)
/-- How one more lies among pairs that rise: between what is ahead of it and what is behind it. -/
theorem set_form {l : List Pr} (h : Rise l) (k v : Bt) : ∃ A B, (∀ p ∈ A, ltL p.1 k) ∧ (∀ p ∈ B, ltL k p.1) ∧ setL l k v = A ++ (k, v) :: B ∧ ((l = A ++ B ∧ ∀ p ∈ l, p.1 ≠ k) ∨ ∃ u, l = A ++ (k, u) :: B) := by
  induction l with
  | nil => exact ⟨[], [], by simp, by simp, rfl, .inl ⟨rfl, by simp⟩⟩
  | cons p l ih =>
    have hp := List.pairwise_cons.1 h
    by_cases h1 : upB p.1 k = true
    · obtain ⟨A, B, a1, a2, a3, a4⟩ := ih hp.2
      refine ⟨p :: A, B, fun q hq => ?_, a2, ?_, ?_⟩
      · rcases List.mem_cons.1 hq with rfl | hq
        · exact (up_iff _ _).1 h1
        · exact a1 q hq
      · show (if upB p.1 k = true then _ else _) = _
        rw [if_pos h1, a3]; rfl
      · rcases a4 with ⟨rfl, hn⟩ | ⟨u, rfl⟩
        · refine .inl ⟨rfl, fun q hq => ?_⟩
          rcases List.mem_cons.1 hq with rfl | hq
          · intro e; have := (up_iff _ _).1 h1; rw [e] at this; exact ltL_irrefl _ this
          · exact hn q hq
        · exact .inr ⟨u, rfl⟩
    · have h1' : ¬ ltL p.1 k := fun x => h1 ((up_iff _ _).2 x)
      by_cases h2 : p.1 = k
      · refine ⟨[], l, by simp, fun q hq => by rw [← h2]; exact hp.1 q hq, ?_, .inr ⟨p.2, ?_⟩⟩
        · show (if upB p.1 k = true then _ else _) = _
          rw [if_neg h1, if_pos h2]; rfl
        · rw [← h2]; rfl
      · have h3 : ltL k p.1 := by
          rcases ltL_total p.1 k with x | x | x
          · exact absurd x h1'
          · exact absurd x h2
          · exact x
        have hb : ∀ q ∈ p :: l, ltL k q.1 := fun q hq => by
          rcases List.mem_cons.1 hq with rfl | hq
          · exact h3
          · exact ltL_trans h3 (hp.1 q hq)
        refine ⟨[], p :: l, by simp, hb, ?_, .inl ⟨rfl, fun q hq e => ?_⟩⟩
        · show (if upB p.1 k = true then _ else _) = _
          rw [if_neg h1, if_neg h2]; rfl
        · have := hb q hq; rw [e] at this; exact ltL_irrefl _ this
theorem set_rise {l : List Pr} (h : Rise l) (k v : Bt) : Rise (setL l k v) := by
  obtain ⟨A, B, a1, a2, a3, a4⟩ := set_form h k v
  rw [a3]
  have hAB : A.Pairwise (fun p q => ltL p.1 q.1) ∧ B.Pairwise (fun p q => ltL p.1 q.1) ∧ ∀ p ∈ A, ∀ q ∈ B, ltL p.1 q.1 := by
    rcases a4 with ⟨rfl, _⟩ | ⟨u, rfl⟩
    · exact List.pairwise_append.1 h
    · have := List.pairwise_append.1 h
      exact ⟨this.1, (List.pairwise_cons.1 this.2.1).2, fun p hp q hq => this.2.2 p hp q (List.mem_cons_of_mem _ hq)⟩
  refine List.pairwise_append.2 ⟨hAB.1, List.pairwise_cons.2 ⟨a2, hAB.2.1⟩, fun p hp q hq => ?_⟩
  rcases List.mem_cons.1 hq with rfl | hq
  · exact a1 p hp
  · exact hAB.2.2 p hp q hq
theorem set_mem {l : List Pr} (h : Rise l) {k v : Bt} {q : Pr} : q ∈ setL l k v ↔ q = (k, v) ∨ (q ∈ l ∧ q.1 ≠ k) := by
  obtain ⟨A, B, a1, a2, a3, a4⟩ := set_form h k v
  have nA : ∀ p ∈ A, p.1 ≠ k := fun p hp e => by have := a1 p hp; rw [e] at this; exact ltL_irrefl _ this
  have nB : ∀ p ∈ B, p.1 ≠ k := fun p hp e => by have := a2 p hp; rw [e] at this; exact ltL_irrefl _ this
  rw [a3, List.mem_append, List.mem_cons]
  rcases a4 with ⟨rfl, hn⟩ | ⟨u, rfl⟩
  · rw [List.mem_append]
    constructor
    · rintro (x | x | x)
      · exact .inr ⟨.inl x, nA q x⟩
      · exact .inl x
      · exact .inr ⟨.inr x, nB q x⟩
    · rintro (x | ⟨x | x, _⟩)
      · exact .inr (.inl x)
      · exact .inl x
      · exact .inr (.inr x)
  · rw [List.mem_append, List.mem_cons]
    constructor
    · rintro (x | x | x)
      · exact .inr ⟨.inl x, nA q x⟩
      · exact .inl x
      · exact .inr ⟨.inr (.inr x), nB q x⟩
    · rintro (x | ⟨x | x | x, y⟩)
      · exact .inr (.inl x)
      · exact .inl x
      · rw [x] at y; exact absurd rfl y
      · exact .inr (.inr x)
theorem set_len {l : List Pr} (h : Rise l) (k v : Bt) : (setL l k v).length = l.length + (if (lookL l k).isSome then 0 else 1) := by
  obtain ⟨A, B, a1, a2, a3, a4⟩ := set_form h k v
  rw [a3]
  rcases a4 with ⟨rfl, hn⟩ | ⟨u, rfl⟩
  · have : (lookL (A ++ B) k).isSome = false := by
      rw [look_in]
      unfold inB
      rw [List.any_eq_false]
      intro p hp
      simpa using hn p hp
    rw [this]; simp; omega
  · have : (lookL (A ++ (k, u) :: B) k).isSome = true := by
      rw [look_in]
      unfold inB
      rw [List.any_eq_true]
      exact ⟨(k, u), by simp, by simp⟩
    rw [this]; simp
/-- Pairs that rise, with the same ones in them, are one list. -/
theorem rise_same : ∀ {l m : List Pr}, Rise l → Rise m → (∀ p, p ∈ l ↔ p ∈ m) → l = m
  | [], [], _, _, _ => rfl
  | [], q :: m, _, _, h => by have := (h q).2 (by simp); simp at this
  | p :: l, [], _, _, h => by have := (h p).1 (by simp); simp at this
  | p :: l, q :: m, hl, hm, h => by
    have h1 := List.pairwise_cons.1 hl
    have h2 := List.pairwise_cons.1 hm
    have e : p = q := by
      rcases List.mem_cons.1 ((h p).1 (by simp)) with e | hp
      · exact e
      · rcases List.mem_cons.1 ((h q).2 (by simp)) with e | hq
        · exact e.symm
        · exact absurd (h1.1 q hq) (ltL_asymm (h2.1 p hp))
    subst e
    rw [rise_same h1.2 h2.2 fun r => ?_]
    constructor
    · intro hr
      rcases List.mem_cons.1 ((h r).1 (List.mem_cons_of_mem _ hr)) with e | hr'
      · subst e; exact absurd (h1.1 _ hr) (ltL_irrefl _)
      · exact hr'
    · intro hr
      rcases List.mem_cons.1 ((h r).2 (List.mem_cons_of_mem _ hr)) with e | hr'
      · subst e; exact absurd (h2.1 _ hr) (ltL_irrefl _)
      · exact hr'
theorem set_may {l : List Pr} (h : mayB l = true) {k v : Bt} (hk : keyOk k = true) (hv : v.length ≤ 16) : mayB (setL l k v) = true := by
  obtain ⟨h1, h2⟩ := mayB_rise l h
  refine may_of (set_rise h1 k v) fun p hp => ?_
  rcases (set_mem h1).1 hp with rfl | ⟨hp, _⟩
  · have := keyOk_len hk
    unfold okP
    rw [Bool.and_eq_true, Bool.and_eq_true]
    exact ⟨decide_eq_true this.1, decide_eq_true this.2, decide_eq_true hv⟩
  · exact h2 p hp
theorem rise_may {l : List Pr} (h : mayB l = true) : Rise l := (mayB_rise l h).1
theorem set_look {l : List Pr} (h : mayB l = true) {k v : Bt} (hk : keyOk k = true) (hv : v.length ≤ 16) (key : Bt) : lookL (setL l k v) key = if key = k then some v else lookL l key := by
  have hm := set_may h hk hv
  by_cases e : key = k
  · rw [if_pos e, e]
    exact (look_some hm).2 ((set_mem (rise_may h)).2 (.inl rfl))
  · rw [if_neg e]
    cases hx : lookL l key with
    | some u => exact (look_some hm).2 ((set_mem (rise_may h)).2 (.inr ⟨(look_some h).1 hx, e⟩))
    | none =>
      cases hy : lookL (setL l k v) key with
      | none => rfl
      | some u =>
        rcases (set_mem (rise_may h)).1 ((look_some hm).1 hy) with x | ⟨x, _⟩
        · exact absurd (congrArg (fun p : Pr => p.1) x) e
        · rw [(look_some h).2 x] at hx; cases hx
theorem set_again {l : List Pr} (h : mayB l = true) {k v : Bt} (hk : keyOk k = true) (hv : v.length ≤ 16) : setL (setL l k v) k v = setL l k v := by
  have hm := set_may h hk hv
  refine rise_same (set_rise (rise_may hm) k v) (rise_may hm) fun p => ?_
  rw [set_mem (rise_may hm), set_mem (rise_may h)]
  constructor
  · rintro (x | ⟨x, _⟩)
    · exact .inl x
    · exact x
  · intro x
    by_cases e : p.1 = k
    · rcases x with x | ⟨_, x⟩
      · exact .inl x
      · exact absurd e x
    · exact .inr ⟨x, e⟩
/-- One by one. -/
def putL : List Pr → List Pr → List Pr
  | l, [] => l
  | l, p :: m => putL (setL l p.1 p.2) m
def okV (p : Pr) : Bool := keyOk p.1 && decide (p.2.length ≤ 16)
theorem putL_may : ∀ {m l : List Pr}, mayB l = true → (∀ p ∈ m, okV p = true) → mayB (putL l m) = true
  | [], _, h, _ => h
  | p :: m, l, h, hm => by
    have hp := hm p (by simp)
    unfold okV at hp
    rw [Bool.and_eq_true] at hp
    show mayB (putL (setL l p.1 p.2) m) = true
    exact putL_may (set_may h hp.1 (of_decide_eq_true hp.2)) fun q hq => hm q (List.mem_cons_of_mem _ hq)
/-- Of pairs no two of which have one key: what is there at the end. -/
theorem putL_mem : ∀ {m l : List Pr}, mayB l = true → (∀ p ∈ m, okV p = true) → m.Pairwise (fun p q => p.1 ≠ q.1) → ∀ q, q ∈ putL l m ↔ q ∈ m ∨ (q ∈ l ∧ ∀ p ∈ m, q.1 ≠ p.1)
  | [], l, h, _, _, q => by simp [putL]
  | p :: m, l, h, hm, hd, q => by
    have hp := hm p (by simp)
    unfold okV at hp
    rw [Bool.and_eq_true] at hp
    have h2 := List.pairwise_cons.1 hd
    show q ∈ putL (setL l p.1 p.2) m ↔ _
    rw [putL_mem (set_may h hp.1 (of_decide_eq_true hp.2)) (fun r hr => hm r (List.mem_cons_of_mem _ hr)) h2.2, set_mem (rise_may h)]
    constructor
    · rintro (x | ⟨x | ⟨x, y⟩, z⟩)
      · exact .inl (List.mem_cons_of_mem _ x)
      · exact .inl (by rw [x]; simp)
      · refine .inr ⟨x, fun r hr => ?_⟩
        rcases List.mem_cons.1 hr with rfl | hr
        · exact y
        · exact z r hr
    · rintro (x | ⟨x, y⟩)
      · rcases List.mem_cons.1 x with rfl | x
        · exact .inr ⟨.inl rfl, fun r hr => h2.1 r hr⟩
        · exact .inl x
      · exact .inr ⟨.inr ⟨x, y p (by simp)⟩, fun r hr => y r (List.mem_cons_of_mem _ hr)⟩
/-- Pairs put in whatever order are the pairs. -/
theorem putL_perm {l m : List Pr} (h : mayB l = true) (hp : m.Perm l) : putL [] m = l := by
  have hok : ∀ p ∈ m, okV p = true := fun p hx => by
    have h1 := (mayB_rise l h).2 p (hp.mem_iff.1 hx)
    unfold okV
    rw [okP_keyOk h1, Bool.true_and]
    exact decide_eq_true (okP_key p h1).2.2
  have hd : m.Pairwise (fun p q => p.1 ≠ q.1) := by
    have h1 : l.Pairwise (fun p q => p.1 ≠ q.1) := (rise_may h).imp fun {a b} x e => by rw [e] at x; exact ltL_irrefl _ x
    exact (hp.pairwise_iff (fun {x y} hxy => Ne.symm hxy)).2 h1
  refine rise_same (rise_may (putL_may (l := []) rfl hok)) (rise_may h) fun p => ?_
  rw [putL_mem (l := []) rfl hok hd, ← hp.mem_iff]
  simp
end Go.Proofs.YtjpjcojabjkaaaaDoor
