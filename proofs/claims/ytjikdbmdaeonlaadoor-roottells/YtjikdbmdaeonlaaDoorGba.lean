/-
  root's Item of any number; the statements' common run: one pair, no nodes, a node that is none's.
-/
import Derived.Test.YtjikdbmdaeonlaaDoorGaz
namespace Go.Proofs.YtjikdbmdaeonlaaDoor
open Go.RowKit
set_option maxRecDepth 20000

theorem item_any {w : World} {v : Value} {t : List Nd} (P : Ls w 20 v (t.map ndC)) (K : TOk t) (hT : No.TT w) (i : Int) :
    Calls Tryd.prog 12 #[v, .int .i64 i] w fun e w' => ∃ a c, e = .returned (.tuple #[.agg (No.itC (itemL t i) a c), .bool (inT t i)]) ∧ No.Tx w' a (itemL t i).hs ∧ New w w' := by
  cases h : inT t i
  · refine (item_no P K hT i h).mono ?_
    rintro e w' ⟨rfl, n⟩
    have e1 : itemL t i = itZero := by unfold itemL; rw [h]; rfl
    rw [e1]
    exact ⟨none, 0, rfl, No.Tx.nil _ _, n⟩
  · have h' := h
    unfold inT at h'
    simp only [Bool.and_eq_true, decide_eq_true_eq] at h'
    obtain ⟨h0, h1, h2⟩ := h'
    obtain ⟨k, rfl⟩ := Int.eq_ofNat_of_zero_le h0
    have hk : k < t.length := by omega
    have hm := List.getElem?_eq_getElem hk
    have e1 : itemL t (k : Int) = itW t[k] (HL t) := by unfold itemL; rw [h, if_pos rfl, Int.toNat_natCast, getD_some hm]
    refine (item_yes P K hT hm h2).mono ?_
    rintro e w' ⟨a, c, rfl, hx, _, n⟩
    exact ⟨a, c, by rw [e1], by rw [e1]; exact hx, n⟩
def fewB (t : List Nd) : Bool := decide (t.length ≤ 40) && !longB lenN 4000 noNd t
set_option maxHeartbeats 4000000 in
theorem few_any {w : World} {v : Value} {t : List Nd} (P : Ls w 20 v (t.map ndC)) (h63 : t.length ≤ 9223372036854775807) :
    Calls Tryd.prog 8 #[v] w fun e w' => e = .returned (.bool (fewB t)) ∧ New w w' := by
  have hl := longTrie_any P h63
  obtain ⟨a, c, rfl, hc, _⟩ := P.open noNd
  by_cases h : t.length ≤ 40
  · have hd : decide ((t.length : Int) ≤ 40) = true := decide_eq_true (by omega)
    have HF : Hid (fewB t = !longB lenN 4000 noNd t) := by show _ = _; unfold fewB; rw [decide_eq_true h]; rfl
    clear h
    generalize longB lenN 4000 noNd t = b at *
    go_enter Tryd.func8, Tryd.ntmps8
    go_wp2_with fail
    refine Calls.mono hl ?_
    rintro _ W1 ⟨rfl, N1⟩
    clear hl
    go_wp2_with fail
    go_ret
    exact ⟨by rw [HF.out]; rfl, N1⟩
  · have hd : decide ((t.length : Int) ≤ 40) = false := decide_eq_false (by omega)
    have HF : Hid (fewB t = false) := by show _ = _; unfold fewB; rw [decide_eq_false h]; rfl
    clear h hl
    go_enter Tryd.func8, Tryd.ntmps8
    go_wp2_with fail
    go_ret
    exact ⟨by rw [HF.out]; rfl, New.refl _⟩
theorem few_small {t : List Nd} (h16 : ∀ x ∈ t, x.kids.length = 16) (h : fewB t = true) : TOk t ∧ t.length ≤ 40 := by
  unfold fewB at h
  simp only [Bool.and_eq_true, decide_eq_true_eq, Bool.not_eq_true'] at h
  exact ⟨tok_of h16 h.2, h.1⟩

theorem built55_9 : Tryd.prog.built 55 [(0, .int .i64 9)] = some (ndA ⟨9, [], false, [], no16⟩) := by kernel_rfl
theorem field_T (a : Option Addr) (n c : Nat) (b : Option Addr) (m d : Nat) (x : Bool) (w : World) : (Instr.field 48 (.agg #[.slice a n c, .slice b m d, .bool x]) 0).run Tryd.prog w = .ok (.slice a n c) w := by
  simp [Instr.field, run_underlying Tryd.underlying48, asAgg, part, Tryd.isAgg23, Tryd.sizeOf23]
theorem rows_ls {w : World} {g : Nat} {t : TypeId} {l : List Pr} {cs : Array Value} (R : Row w g cs t) (h : cs = (l.map prC).flatten.toArray) (hl : l.length ≤ 10000) : Ls w 2 (.slice (some ⟨g, 0, none⟩) l.length l.length) (l.map prC) := by
  subst h
  have he : ∀ e ∈ l.map prC, e.length = 2 := fun e he => by obtain ⟨p, _, rfl⟩ := List.mem_map.1 he; rfl
  have := Pl.make (F := fun _ => True) (c := l.length) he R (by rw [List.length_map]; exact Nat.le_refl _) (by unfold maxLen; omega) (by rw [List.size_toArray, flat_length he, List.length_map]) (by
    rw [List.take_of_length_le]
    rw [flat_length he]; exact Nat.le_refl _) trivial
  rw [List.length_map] at this
  exact this.ls
theorem nodes_ls {w : World} {g : Nat} {t : TypeId} {l : List Nd} {cs : Array Value} (R : Row w g cs t) (h : cs = (l.map ndC).flatten.toArray) (hl : l.length ≤ 10000) (hk : ∀ m ∈ l, m.kids.length = 16) : Ls w 20 (.slice (some ⟨g, 0, none⟩) l.length l.length) (l.map ndC) := by
  subst h
  have he : ∀ e ∈ l.map ndC, e.length = 20 := fun e he => by obtain ⟨p, hp, rfl⟩ := List.mem_map.1 he; exact ndC_len (hk p hp)
  have := Pl.make (F := fun _ => True) (c := l.length) he R (by rw [List.length_map]; exact Nat.le_refl _) (by unfold maxLen; omega) (by rw [List.size_toArray, flat_length he, List.length_map]) (by
    rw [List.take_of_length_le]
    rw [flat_length he]; exact Nat.le_refl _) trivial
  rw [List.length_map] at this
  exact this.ls
def w1l : List Pr := [([97], [118])]
def w1t : List Nd := [leafN [6, 1] [118]]
def w9t : List Nd := [⟨9, [], false, [], no16⟩]
theorem w1_may : mayB w1l = true := by decide +kernel
theorem w1_build : buildN w1l = w1t := by decide +kernel
theorem w1_bX : bX w1l = w1t := by unfold bX; rw [w1_may, if_pos rfl, w1_build]
theorem w1_tok : TOk w1t := ⟨by decide, by decide, by decide⟩
theorem w9_tok : TOk w9t := ⟨by decide, by decide, by decide⟩
theorem ok_build {l : List Pr} (h : mayB l = true) : okT (buildN l) = true := by
  unfold okT
  rw [readF_iff.2 ⟨h, rfl, rfl⟩]; rfl
theorem w1_ok : okT w1t = true := by rw [← w1_build]; exact ok_build w1_may
theorem nil_ok : okT [] = true := by
  have := ok_build (l := []) rfl
  unfold buildN at this
  rw [trie_nil] at this
  exact this
theorem w9_ok : okT w9t = false := by decide +kernel
theorem w1_item (hs : List Bt) : itW (leafN [6, 1] [118]) hs = ⟨1, [6, 1], true, [118], 0, []⟩ := by
  unfold itW kidH leafN
  rw [mask_no16, nz_no16]; rfl
def leafH : Bt := Dg.ofL [1, 2, 97, 1, 118]
theorem w1_root : rootL w1t = leafH := by
  unfold rootL
  rw [w1_ok, if_pos rfl, if_neg (by decide)]
  have R := ok_rt w1_ok
  have hm : w1t[0]? = some (leafN [6, 1] [118]) := rfl
  rw [R.hash hm, w1_item]
  unfold leafH
  congr 1
theorem nil_root : rootL [] = emptyH := by unfold rootL; rw [nil_ok]; rfl
theorem w9_root : rootL w9t = [] := by unfold rootL; rw [w9_ok]; rfl
theorem w1_item0 : itemL w1t 0 = ⟨1, [6, 1], true, [118], 0, []⟩ ∧ inT w1t 0 = true := by
  have h : inT w1t 0 = true := by unfold inT; rw [w1_ok]; rfl
  refine ⟨?_, h⟩
  unfold itemL
  rw [h, if_pos rfl]
  exact w1_item _
theorem w1_item1 : itemL w1t 1 = itZero ∧ inT w1t 1 = false := by
  have h : inT w1t 1 = false := by unfold inT; rw [w1_ok]; rfl
  exact ⟨by unfold itemL; rw [h]; rfl, h⟩

set_option maxHeartbeats 8000000 in
theorem wakes_any (w : World) (hT : No.TT w) :
    Calls Tryd.prog 9 #[] w fun e w' => e = .returned (.bool true) ∧ New w w' := by
  have HT : Hid (No.TT w) := hT
  have hd1 := fun W (N : New w W) => No.dg_of [1, 2, 97, 1, 118] (by decide) W (hT.after N).2
  have hd2 := fun W (N : New w W) => No.dg_of [0] (by decide) W (hT.after N).2
  have hd3 := fun W (N : New w W) => empty_any W (hT.after N)
  rw [show bs [0] = (⟨#[0]⟩ : ByteArray) from rfl, show Dg.ofL [0] = emptyH from rfl] at hd2
  rw [show bs [1, 2, 97, 1, 118] = (⟨#[1, 2, 97, 1, 118]⟩ : ByteArray) from rfl, show Dg.ofL [1, 2, 97, 1, 118] = leafH from rfl] at hd1
  clear hT
  go_enter Tryd.func9, Tryd.ntmps9
  go_wp2_with fail
  have P1 := rows_ls (l := w1l) (Row.new w ((w1l.map prC).flatten.toArray) 58) rfl (by decide)
  have N1 : New w (w.alloc (.cells ((w1l.map prC).flatten.toArray) 58)) := (New.refl w).alloc _
  have hb := r_build P1 (by decide) (by decide)
  rw [w1_may, w1_bX] at hb
  clear P1
  refine Calls.mono hb ?_
  rintro _ W1 ⟨a, n, c, b, m, d, rfl, Q1, _, N2⟩
  have N12 : New w W1 := N1.trans N2
  obtain ⟨a', c', e, hc, _⟩ := Q1.open noNd
  cases e
  have hl1 : w1t.length = 1 := rfl
  rw [hl1] at Q1 hc ⊢
  have hf := field_T a 1 c b m d true
  clear hb N1 N2
  have hr1 := fun W (N : New w W) (M : New W1 W) => root_any (Q1.after M) w1_tok (HT.out.after N)
  rw [w1_root, w1_ok] at hr1
  have hr2 := fun W (N : New w W) => root_any (t := []) (Ls.nil W 20) ⟨by decide, by decide, by decide⟩ (HT.out.after N)
  rw [nil_root, nil_ok] at hr2
  have hi0 := fun W (N : New w W) (M : New W1 W) => item_any (Q1.after M) w1_tok (HT.out.after N) 0
  have hi1 := fun W (N : New w W) (M : New W1 W) => item_any (Q1.after M) w1_tok (HT.out.after N) 1
  rw [w1_item0.1, w1_item0.2] at hi0
  rw [w1_item1.1, w1_item1.2] at hi1
  clear Q1
  generalize bs leafH = H1 at *
  generalize bs emptyH = H0 at *
  go_wp2_with fail
  refine Calls.mono (hr1 _ N12 (New.refl _)) ?_
  rintro _ W2 ⟨rfl, N3⟩
  have N3 : New W1 W2 := N3
  have M2 := N12.trans N3
  clear hr1
  go_wp2_with fail
  refine Calls.mono (hr2 _ M2) ?_
  rintro _ W3 ⟨rfl, N4⟩
  have N4 : New W2 W3 := N4
  have M3 := M2.trans N4
  have K3 := N3.trans N4
  clear hr2 M2 N4 N3
  go_wp2_with (first
    | refine wpList_build1 (by rfl) 55 _ (by rfl) _ (by rfl) _ built55_9 ?_
    | (refine wpList_build_one (by rfl) 23 _ (by rfl) Tryd.underlying23 _ _ info49 (ndA ⟨9, [], false, [], no16⟩) (by rfl) rfl (by decide) (by decide) ?_; intro W4 R4 N5))
  have P4 := nodes_ls (l := w9t) R4 rfl (by decide) (by decide)
  have M4 := M3.trans N5
  have K4 := K3.trans N5
  have hr3 := root_any P4 w9_tok (HT.out.after M4)
  rw [w9_root, w9_ok] at hr3
  clear P4 R4 M3 K3 N5
  refine Calls.mono hr3 ?_
  rintro _ W5 ⟨rfl, N6⟩
  have N6 : New W4 W5 := N6
  have M5 := M4.trans N6
  have K5 := K4.trans N6
  clear hr3 M4 K4 N6
  go_wp2_with fail
  refine Calls.mono (hi0 _ M5 K5) ?_
  rintro _ W6 ⟨a6, c6, rfl, _, N7⟩
  have N7 : New W5 W6 := N7
  have M6 := M5.trans N7
  have K6 := K5.trans N7
  clear hi0 M5 K5 N7
  have hn1 : No.itC ⟨1, [6, 1], true, [118], 0, []⟩ a6 c6 = #[.int .i64 1, .string ⟨#[6, 1]⟩, .bool true, .string ⟨#[118]⟩, .int .i64 0, .slice a6 0 c6] := rfl
  rw [hn1]
  clear hn1
  go_wp2_with (first
    | (refine wpList_alloc_at (by rfl) 8 (by rfl) 32 (by rfl) _ _ _ No.info24 ?_; intro W7 R7 N8)
    | (refine wpList_store_new (by rfl) 32 _ _ (by rfl) W6.heap.size #[.int .i64 1, .string ⟨#[6, 1]⟩, .bool true, .string ⟨#[118]⟩, .int .i64 0, .slice a6 0 c6] (by rfl) (by rfl) 32 _ R7 No.i24 rfl (by simp [Value.oneCell']) ?_; intro W8 R8 B8))
  have N9 : New W6 W8 := B8.new N8 (Nat.le_refl _)
  have M8 := M6.trans N9
  have K8 := K6.trans N9
  have hlt : W6.heap.size < W8.heap.size := R8.lt
  generalize W6.heap.size = G at *
  clear R7 N8 B8 M6 K6 N9
  refine Calls.mono (hi1 _ M8 K8) ?_
  rintro _ W9 ⟨a9, c9, rfl, _, N10⟩
  have N10 : New W8 W9 := N10
  have R9 := R8.after N10
  have M9 := M8.trans N10
  clear hi1 M8 K8 N10 R8 hlt
  have hz : No.itC itZero a9 c9 = #[.int .i64 0, .string ⟨#[]⟩, .bool false, .string ⟨#[]⟩, .int .i64 0, .slice a9 0 c9] := rfl
  rw [hz]
  clear hz
  go_wp2_with (first
    | (refine wpList_alloc_at (by rfl) 10 (by rfl) 32 (by rfl) _ _ _ No.info24 ?_; intro Wa Ra Na)
    | (refine wpList_store_new (by rfl) 32 _ _ (by rfl) W9.heap.size #[.int .i64 0, .string ⟨#[]⟩, .bool false, .string ⟨#[]⟩, .int .i64 0, .slice a9 0 c9] (by rfl) (by rfl) 32 _ Ra No.i24 rfl (by simp [Value.oneCell']) ?_; intro Wb Rb Bb))
  have Nb : New W9 Wb := Bb.new Na (Nat.le_refl _)
  have Rg := R9.after Nb
  have Mb := M9.trans Nb
  clear Ra Na Bb Rb R9 M9 Nb
  refine Calls.mono (hd1 _ Mb) ?_
  rintro _ Wc ⟨rfl, Nc⟩
  have Nc : New Wb Wc := Nc
  have Rc := Rg.after Nc
  have Mc := Mb.trans Nc
  clear hd1 Rg Mb Nc
  have hb1 : (H1.toList == H1.toList) = true := beq_self_eq_true _
  have hb0 : (H0.toList == H0.toList) = true := beq_self_eq_true _
  go_wp2_with fail
  refine Calls.mono (hd3 _ Mc) ?_
  rintro _ Wd ⟨rfl, Nd'⟩
  have Nd' : New Wc Wd := Nd'
  have Rd := Rc.after Nd'
  have Md := Mc.trans Nd'
  clear hd3 Rc Mc Nd'
  go_wp2_with fail
  refine Calls.mono (hd2 _ Md) ?_
  rintro _ We ⟨rfl, Ne⟩
  have Ne : New Wd We := Ne
  have Re := Rd.after Ne
  have Me := Md.trans Ne
  have x1 := Re.has 1 (v := .string ⟨#[6, 1]⟩) rfl
  have x3 := Re.has 3 (v := .string ⟨#[118]⟩) rfl
  clear hd2 Rd Md Ne
  go_wp2_with fail
  go_ret
  exact ⟨rfl, Me⟩

end Go.Proofs.YtjikdbmdaeonlaaDoor
