/-
  What the methods of a pile do: Len, Less, Swap, first, Push, Pop.
-/
import Derived.Test.YtmpignlciicaeaaBase
namespace Go.Proofs.Ytmpignlciicaeaa
open Go.RowKit

theorem len_any {w : World} {a b : Nat} {zs : List Int} (hp : Pile w a b zs) :
    Calls Try.prog 22 #[.pointer (some ⟨a, 0, none⟩)] w fun e w' => e = .returned (.int .i64 (zs.length : Int)) ∧ w' = w := by
  obtain ⟨cap, hc, _, _⟩ := hp.open
  go_enter Try.func22, Try.ntmps22
  go_wp2_with fail
  go_ret
  exact ⟨rfl, rfl⟩

theorem first_any {w : World} {a b : Nat} {zs : List Int} (hp : Pile w a b zs) (h0 : 0 < zs.length) :
    Calls Try.prog 66 #[.pointer (some ⟨a, 0, none⟩)] w fun e w' => e = .returned (.int .i64 (g zs 0)) ∧ w' = w := by
  obtain ⟨cap, hc, _, hr⟩ := hp.open
  have h1 := hr.cell h0
  go_enter Try.func66, Try.ntmps66
  go_wp2_with fail
  go_ret
  exact ⟨rfl, rfl⟩

theorem less_any {w : World} {a b : Nat} {zs : List Int} (hp : Pile w a b zs) (i j : Nat) (hi : i < zs.length) (hj : j < zs.length) :
    Calls Try.prog 62 #[.pointer (some ⟨a, 0, none⟩), .int .i64 (i : Int), .int .i64 (j : Int)] w fun e w' =>
      e = .returned (.bool (decide (g zs i < g zs j))) ∧ Pile w' a b zs ∧ Only a b w w' := by
  obtain ⟨cap, hc, _, hr⟩ := hp.open
  have h1 := hr.cell hi
  have h2 := hr.cell hj
  go_enter Try.func62, Try.ntmps62
  go_wp2_with fail
  go_quiet (fail)
  go_wp2_with fail
  go_ret
  exact ⟨rfl, hp.drewN _, Only.drewN _ _ _ _⟩

set_option maxHeartbeats 2000000 in
theorem swap_any {w : World} {a b : Nat} {zs : List Int} (hp : Pile w a b zs) (i j : Nat) (hi : i < zs.length) (hj : j < zs.length) :
    Calls Try.prog 65 #[.pointer (some ⟨a, 0, none⟩), .int .i64 (i : Int), .int .i64 (j : Int)] w fun e w' =>
      e = .returned (.tuple #[]) ∧ Pile w' a b (sw zs i j) ∧ Only a b w w' := by
  obtain ⟨cap, hc, _, hr⟩ := hp.open
  have h1 := hr.cell hi
  have h2 := hr.cell hj
  have f1 := hr.frozen i
  have f2 := hr.frozen j
  have h3 := (hr.set i (g zs j)).cell (i := j) (by rw [List.length_set]; exact hj)
  have f3 := (hr.set i (g zs j)).frozen j
  go_enter Try.func65, Try.ntmps65
  go_wp2_with fail
  go_region
  all_goals
    go_wp2_with fail
    go_end0
    exact ⟨rfl, ((hp.set i _).set j _).drew, ((Only.setB a b i _ w).then (Only.setB a b j _ _)).then (Only.drew a b _)⟩

theorem info3 : (Try.prog.info? 3).map (fun i => (i.zero, i.size, i.bytes)) = some (some (.int .i64 0), 1, 8) := by kernel_rfl
theorem assert_int (v : Int) (w : World) : Sem.run Try.prog (Instr.typeAssert (Value.iface 3 (Value.int IntKind.i64 v)) 20 3 true) w = .ok (.tuple #[.int .i64 v, .bool true]) w := by kernel_rfl

theorem push_any {w : World} {a b : Nat} {zs : List Int} (hp : Pile w a b zs) (hl : zs.length ≤ 1000000) (v : Int) :
    Calls Try.prog 64 #[.pointer (some ⟨a, 0, none⟩), .iface 3 (.int .i64 v)] w fun e w' =>
      e = .returned (.tuple #[]) ∧ ∃ b', Pile w' a b' (zs ++ [v]) ∧ Only a b w w' ∧ (b' = b ∨ w.heap.size ≤ b') := by
  obtain ⟨cap, hc, hf, hr⟩ := hp.open
  have ha := assert_int v
  obtain ⟨i0, hi0, hz0, hz1, hz2⟩ := info_parts info3
  have hlt := hp.lt
  go_enter Try.func64, Try.ntmps64
  go_wp2_with (at_builtin; refine wpList_append_lies _ rfl _ _ 41 rfl 0 3 i0 (.int .i64 0) 1 8 Try.underlying41 hi0 hz0 hz1 hz2 rfl (by decide) _ _ _ rfl (hr.owns.alloc _) ⟨w.heap.size, 0, none⟩ 1 1 [.int .i64 v] rfl rfl (World.news_of_block (cs := #[.int .i64 v]) (t := 3) (fr := (0, 0)) (heap_alloc_new w _)) (by simp [Value.oneCell']) (by decide) (by unfold maxLen; omega) (by omega) (by simp) (w.heap.size + 1) (by simp) ?_)
  intro gg cap2 w2 hown hgrow hat hgl
  have hsz := hgrow.size
  rw [World.size_alloc] at hsz
  have hwa : w2.heap[a]? = w.heap[a]? := (hgrow.block a (by simp; omega) (by simp [Value.ownBlock]; omega)).trans (heap_alloc_old w _ (by omega))
  have hca : w2.cell? ⟨a, 0, none⟩ = some (.slice (some ⟨b, 0, none⟩) zs.length cap) := (World.cell?_of_block (a := ⟨a, 0, none⟩) hwa).trans hc
  have hfa : w2.frozen? ⟨a, 0, none⟩ = false := (World.frozen?_of_block (a := ⟨a, 0, none⟩) hwa).trans hf
  have hb2 : Only a b w w2 := ⟨hgrow.os, hgrow.tape, hgrow.output, by omega, fun k hk h1 h2 => (hgrow.block k (by simp; omega) (by simp [Value.ownBlock]; omega)).trans (heap_alloc_old w _ (by omega))⟩
  rw [show [Value.int .i64 v] = ints [v] from rfl, ← ints_append] at hown
  obtain ⟨hrow, hnn⟩ := Row.of_owns hown
  have hg : gg = b ∨ w.heap.size ≤ gg := by
    rcases hat with h | h
    · left; simpa [Value.ownBlock] using h.symm
    · right; omega
  have HN : Hid (zs.length + 1 = (zs ++ [v]).length) := hnn
  have HA : Hid (w2.heap[a]? = w.heap[a]?) := hwa
  clear hnn hwa hat hown hsz
  go_wp2_with fail
  go_end0
  refine ⟨rfl, gg, ?_, hb2.then (Only.setA a b 0 _ _), hg⟩
  rw [HN.out]
  exact hp.names HA.out hrow (by omega)
theorem pop_any {w : World} {a b : Nat} {zs : List Int} (hp : Pile w a b zs) (n : Nat) (hn : zs.length = n + 1) (hl : n ≤ 1000000) :
    Calls Try.prog 63 #[.pointer (some ⟨a, 0, none⟩)] w fun e w' =>
      (∃ v, e = .returned v) ∧ Pile w' a b (zs.take n) ∧ Only a b w w' := by
  obtain ⟨cap, hc, hf, hr⟩ := hp.open
  have h1 := hr.cell (i := n) (by omega)
  have hle := hr.le
  rw [hn] at hc hle
  go_enter Try.func63, Try.ntmps63
  go_wp2_with fail
  go_ret
  refine ⟨⟨_, rfl⟩, ?_, Only.setA a b 0 _ _⟩
  have := hp.names rfl (hr.take n) hp.lt.2.2
  rw [List.length_take, Nat.min_eq_left (by omega)] at this
  exact this
end Go.Proofs.Ytmpignlciicaeaa
