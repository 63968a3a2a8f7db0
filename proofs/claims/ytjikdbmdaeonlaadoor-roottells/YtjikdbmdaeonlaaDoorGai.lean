/-
  What Hex and the document's own Hex tell: two digits a byte. What the document's primes tells: the first n primes, in a row of memory of the call's own.
-/
import Derived.Test.YtjikdbmdaeonlaaDoorGae
import Derived.Test.YtjikdbmdaeonlaaDoorGaa
import Derived.OwnWalk
import Derived.Laws.BytesString
import Derived.Deep.RegionHeld3
import Derived.Deep.AppendLies
namespace Go.Proofs.YtjikdbmdaeonlaaDoor.Dg
open Go.RowKit
set_option maxRecDepth 20000

theorem info5 : (Tryd.prog.info? 5).map (fun i => (i.zero, i.size, i.bytes)) = some (some (.int .u8 0), 1, 1) := by kernel_rfl

/-- The bytes as cells. -/
def cellsL (l : List UInt8) : List Value := l.map fun c => Value.int .u8 (c.toNat : Int)
theorem cellsL_append (l m : List UInt8) : cellsL (l ++ m) = cellsL l ++ cellsL m := by unfold cellsL; rw [List.map_append]
theorem cellsL_get {l : List UInt8} {j : Nat} {c : UInt8} (h : l[j]? = some c) : (cellsL l)[j]? = some (.int .u8 (c.toNat : Int)) := by
  unfold cellsL; rw [List.getElem?_map, h]; rfl
theorem cellsL_length (l : List UInt8) : (cellsL l).length = l.length := by unfold cellsL; simp
theorem conv_own {w : World} {B : Nat} {v : Value} {l : List UInt8} {n : Nat} (hn : l.length = n) (h : w.ownsRow B 5 1 v n (cellsL l)) :
    (convert 60 9 v).run Tryd.prog w = .ok (.string (bs l)) w := by
  subst hn
  rcases id h.2 with ⟨rfl, h0⟩ | ⟨g, cap, cur, rfl, _⟩
  · obtain rfl : l = [] := List.length_eq_zero_iff.1 h0
    rw [run_convert_bytes_string w 60 9 5 none 0 0 Tryd.underlying60 Tryd.underlying5 Tryd.underlying9]
    rfl
  · exact run_convert_bytes_back w 60 9 5 ⟨g, 0, none⟩ cap l Tryd.underlying60 Tryd.underlying5 Tryd.underlying9 (fun j hj => by
      refine h.cells (g := g) rfl j _ ?_
      exact cellsL_get (List.getElem?_eq_getElem hj))
theorem grow_kept {w wr w1 : World} {v : Value} {k : Nat} {xs : List Value} {d : Obj} (hown : wr.ownsRow w.heap.size 5 1 v k xs) (hb : Below w.heap.size w wr) (hg : (wr.alloc d).drew.grownBy w1 v.ownBlock) : Below w.heap.size w w1 := by
  have hB := hb.size
  exact ((hb.alloc hB d).drew).grown hg (by simp; omega) fun j hj => (hown.lt j hj).1
theorem grow_plain {w wr w1 : World} {v : Value} {k : Nat} {xs : List Value} {d : Obj} (hown : wr.ownsRow w.heap.size 5 1 v k xs) (hb : Below w.heap.size w wr) (hg : (wr.alloc d).grownBy w1 v.ownBlock) : Below w.heap.size w w1 := by
  have hB := hb.size
  exact (hb.alloc hB d).grown hg (by simp; omega) fun j hj => (hown.lt j hj).1

theorem digit_all : ∀ p : Fin 16, #[48, 49, 50, 51, 52, 53, 54, 55, 56, 57, 97, 98, 99, 100, 101, 102][p.val]? = some (dig p.val) := by decide +kernel
theorem digit_at (p : Nat) (h : p < (⟨#[48, 49, 50, 51, 52, 53, 54, 55, 56, 57, 97, 98, 99, 100, 101, 102]⟩ : ByteArray).size) : (⟨#[48, 49, 50, 51, 52, 53, 54, 55, 56, 57, 97, 98, 99, 100, 101, 102]⟩ : ByteArray)[p]'h = dig p := by
  have h16 : p < 16 := h
  have h1 := digit_all ⟨p, h16⟩
  rw [Array.getElem?_eq_some_iff] at h1
  obtain ⟨_, h2⟩ := h1
  exact h2
theorem hi_form (c : UInt8) : (c.toNat : Int) / 16 = ((c.toNat / 16 : Nat) : Int) := by omega
theorem wraps_u8 (n : Int) (h₀ : 0 ≤ n) (h₁ : n < 2 ^ 8) : IntKind.u8.wrap n = n := by rw [IntKind.wrap_u8]; omega
theorem lo_form (c : UInt8) : bits .and .u8 (c.toNat : Int) 15 = ((c.toNat % 16 : Nat) : Int) := by
  have hc := c.toNat_lt
  have h := bits_mask .u8 8 (by decide) wraps_u8 4 (by decide) (c.toNat : Int) (Int.natCast_nonneg _) (by omega)
  simp at h
  omega
theorem hex_step (l : List UInt8) (k : Nat) (c : UInt8) (h : l[k]? = some c) :
    cellsL (hexL (l.take k)) ++ [.int .u8 ((dig (c.toNat / 16)).toNat : Int), .int .u8 ((dig (c.toNat % 16)).toNat : Int)] = cellsL (hexL (l.take (k + 1))) := by
  rw [hexL_step l k c h, cellsL_append]; rfl

end Go.Proofs.YtjikdbmdaeonlaaDoor.Dg
namespace Go.Proofs.YtjikdbmdaeonlaaDoor.Dg
open Go.RowKit
set_option maxRecDepth 20000

theorem info34 : (Tryd.prog.info? 96).map (fun i => (i.zero, i.size, i.bytes)) = some (some (.int .u64 0), 1, 8) := by kernel_rfl
def c64 (l : List Nat) : List Value := l.map fun (x : Nat) => Value.int .u64 (x : Int)
theorem c64_append (l m : List Nat) : c64 (l ++ m) = c64 l ++ c64 m := by unfold c64; rw [List.map_append]
theorem c64_get {l : List Nat} {j x : Nat} (h : l[j]? = some x) : (c64 l)[j]? = some (.int .u64 (x : Int)) := by
  unfold c64; rw [List.getElem?_map, h]; rfl
theorem isB_step (l : List Nat) (v j x : Nat) (h : l[j]? = some x) : isB (l.take (j + 1)) v = (isB (l.take j) v && (v % x != 0)) := by
  unfold isB
  rw [List.take_add_one, h, List.all_append]
  simp
theorem isB_take (l : List Nat) (v j : Nat) (h : isB (l.take j) v = false) : isB l v = false := by
  unfold isB at *
  rw [← List.take_append_drop j l, List.all_append, h]
  rfl

theorem addr_zero (g j : Nat) : (Addr.add ⟨g, 0, none⟩ j) = ⟨g, j, none⟩ := by simp [Addr.add]; intro h; exact h.symm
theorem mod_bne (v x : Nat) : ((v : Int) % (x : Int) != 0) = (v % x != 0) := by
  rw [← Int.natCast_emod, Bool.eq_iff_iff, bne_iff_ne, bne_iff_ne]
  omega

set_option maxHeartbeats 2000000 in
theorem primes_any (n K : Nat) (hK : (prN K).length = n) (hlow : ∀ k, k < K → (prN k).length < n) (hn : n ≤ 64) (hK2 : K ≤ 1000) (w : World) :
    Calls Tryd.prog 54 #[.int .i64 (n : Int)] w fun e w' => ∃ v, e = .returned v ∧ w'.ownsRow w.heap.size 96 1 v n (c64 (prN K)) ∧ Below w.heap.size w w' := by
  obtain ⟨i0, hi0, hz0, hz1, hz2⟩ := info_parts info34
  go_enter Tryd.func54, Tryd.ntmps54
  go_wp2_with fail
  go_loopw [3, 4] (fun u v wr => ∃ k m : Nat, k ≤ K ∧ (prN k).length = m ∧ v = .int .u64 ((k + 2 : Nat) : Int) ∧ wr.ownsRow w.heap.size 96 1 u m (c64 (prN k)) ∧ Below w.heap.size w wr) (fun _ v _ => (K + 2) - (intOf v).toNat)
  case atStart => exact ⟨0, 0, by omega, rfl, rfl, World.ownsRow_nil _ _ _ _, Below.refl _ _⟩
  case round =>
    obtain ⟨k, m, hk, hm, rfl, hown, hb⟩ := hrel
    have hB := hb.size
    obtain ⟨v, hv⟩ : ∃ v, k + 2 = v := ⟨_, rfl⟩
    rw [hv]
    by_cases hlt : k < K
    · have hmn := hlow k hlt
      rw [hm] at hmn
      have HS : Hid (prN (k + 1) = if isB (prN k) v then prN k ++ [v] else prN k) := by show prN (k + 1) = _; rw [prN, hv]
      have HP : Hid (∀ p ∈ prN k, 2 ≤ p) := fun p hp => (prN_pos k p hp).1
      obtain ⟨l, hl⟩ : ∃ l, prN k = l := ⟨_, rfl⟩
      rw [hl] at hm HS HP hown
      have hvv : v ≤ 1002 := by omega
      rcases id hown.2 with ⟨rfl, h0⟩ | ⟨g, cap, cur, rfl, _⟩
      · obtain rfl : m = 0 := h0
        have hl0 : l = [] := List.length_eq_zero_iff.1 hm
        have HT : Hid (isB l v = true) := by rw [hl0]; rfl
        clear hlow hl hl0 HP
        go_wp2_with fail
        refine wp_loop_rounds 1 ?_
        rw [rounds_succ]
        go_wp2_with (at_builtin; refine wpList_append_lies _ rfl _ _ 93 rfl w.heap.size 96 i0 (.int .u64 0) 1 8 Tryd.underlying93 hi0 hz0 hz1 hz2 rfl (by decide) _ _ _ rfl (hown.alloc _) ⟨wr.heap.size, 0, none⟩ 1 1 [.int .u64 (v : Int)] rfl rfl (World.news_of_block (cs := #[.int .u64 (v : Int)]) (t := 96) (fr := (0, 0)) (heap_alloc_new wr _)) (by simp [Value.oneCell']) (by decide) (by unfold maxLen; omega) (by omega) (by simp; omega) (wr.heap.size + 1) (by simp) ?_)
        intro gg cap2 w2 hown1 hgrow _ _
        go_wp2_with fail
        go_roundw
        case rel =>
          refine ⟨k + 1, 0 + 1, by omega, ?_, by go_num, ?_, (hb.alloc hB _).grown hgrow (by simp; omega) fun j hj => (hown.lt j hj).1⟩
          · rw [HS.out, if_pos HT.out, List.length_append, hm]; rfl
          · rw [HS.out, if_pos HT.out, c64_append]; exact hown1
        case measure => simp [intOf]; omega
      · go_wp2_with fail
        go_loop [5, 6] (fun b i => ∃ j : Nat, j ≤ m ∧ i = .int .i64 (j : Int) ∧ b = .bool (isB (l.take j) v)) (fun _ i => m - (intOf i).toNat)
        case atStart => exact ⟨0, by omega, rfl, rfl⟩
        case round =>
          obtain ⟨j, hj, rfl, rfl⟩ := hrel
          by_cases hjm : j < m
          · obtain ⟨x, hx⟩ : ∃ x, l[j]? = some x := ⟨_, List.getElem?_eq_getElem (by omega)⟩
            have hstep := isB_step l v j x hx
            have hx2 : 2 ≤ x := HP.out x (List.mem_of_getElem? hx)
            have hcell : wr.cell? ⟨g, j, none⟩ = some (.int .u64 (x : Int)) := by
              have hc := hown.cells (g := g) rfl j _ (c64_get hx)
              rw [addr_zero] at hc
              exact hc
            cases hbb : isB (l.take j) v with
            | true =>
              rw [hbb, Bool.true_and] at hstep
              have HST : Hid (isB (l.take (j + 1)) v = (v % x != 0)) := hstep
              clear hstep hx hlow hl hbb
              go_wp2_with fail
              refine ⟨⟨j + 1, by omega, by simp, ?_⟩, by simp [intOf]; omega⟩
              rw [HST.out, mod_bne]
            | false =>
              have HT : Hid (isB l v = false) := isB_take l v j hbb
              clear hstep hx hlow hl hbb hcell
              go_wp2_with fail
              go_roundw
              case rel =>
                refine ⟨k + 1, m, by omega, ?_, by go_num, ?_, hb⟩
                · rw [HS.out, if_neg (by rw [HT.out]; decide)]; exact hm
                · rw [HS.out, if_neg (by rw [HT.out]; decide)]; exact hown
              case measure => simp [intOf]; omega
          · obtain rfl : j = m := by omega
            rw [show l.take j = l by rw [← hm, List.take_length]]
            cases hbb : isB l v with
            | true =>
              have HT : Hid (isB l v = true) := hbb
              clear hlow hl hbb
              go_wp2_with (at_builtin; refine wpList_append_lies _ rfl _ _ 93 rfl w.heap.size 96 i0 (.int .u64 0) 1 8 Tryd.underlying93 hi0 hz0 hz1 hz2 rfl (by decide) _ _ _ rfl (hown.alloc _) ⟨wr.heap.size, 0, none⟩ 1 1 [.int .u64 (v : Int)] rfl rfl (World.news_of_block (cs := #[.int .u64 (v : Int)]) (t := 96) (fr := (0, 0)) (heap_alloc_new wr _)) (by simp [Value.oneCell']) (by decide) (by unfold maxLen; omega) (by omega) (by simp; omega) (wr.heap.size + 1) (by simp) ?_)
              intro gg cap2 w2 hown1 hgrow _ _
              go_wp2_with fail
              go_roundw
              case rel =>
                refine ⟨k + 1, j + 1, by omega, ?_, by go_num, ?_, (hb.alloc hB _).grown hgrow (by simp; omega) fun j hj => (hown.lt j hj).1⟩
                · rw [HS.out, if_pos HT.out, List.length_append, hm]; rfl
                · rw [HS.out, if_pos HT.out, c64_append]; exact hown1
              case measure => simp [intOf]; omega
            | false =>
              have HT : Hid (isB l v = false) := hbb
              clear hlow hl hbb
              go_wp2_with fail
              go_roundw
              case rel =>
                refine ⟨k + 1, j, by omega, ?_, by go_num, ?_, hb⟩
                · rw [HS.out, if_neg (by rw [HT.out]; decide)]; exact hm
                · rw [HS.out, if_neg (by rw [HT.out]; decide)]; exact hown
              case measure => simp [intOf]; omega
    · obtain rfl : k = K := by omega
      obtain rfl : m = n := hm.symm.trans hK
      rcases id hown.2 with ⟨rfl, h0⟩ | ⟨g, cap, cur, rfl, _⟩
      all_goals
        clear hlow
        go_wp2_with fail
        go_ret
        exact ⟨_, rfl, hown, hb⟩

end Go.Proofs.YtjikdbmdaeonlaaDoor.Dg
