/-
  A pool is made; a good page; pages for a disk; are two lists of numbers alike?
-/
import Derived.Test.YtkcoclpbkealgaaDoorQFlush
import Derived.Test.YtkcoclpbkealgaaDoorPgRefB
import Derived.Test.YtkcoclpbkealgaaDoorFrom
namespace Go.Proofs.YtkcoclpbkealgaaDoor
open Go.RowKit Go.Maps
set_option maxRecDepth 20000

def startP (d : St) (n : Nat) : PS := ⟨d, List.replicate n noFm, 0⟩
theorem keys_start (n : Nat) : keys (List.replicate n noFm) = List.replicate n none := by unfold keys; rw [List.map_replicate]; rfl
theorem idx_start (a : Int) (n : Nat) : idx a (List.replicate n none) = none := by
  unfold idx
  exact List.findIdx?_eq_none_iff.2 fun x hx => by rw [(List.mem_replicate.1 hx).2]; rfl
theorem apart_start (n : Nat) : Apart (List.replicate n none) := fun i _ _ hi _ => by
  have := List.mem_of_getElem? hi
  exact absurd (List.mem_replicate.1 this).2 (by simp)
theorem inv_start {d : St} {n : Nat} (h1 : 1 ≤ n) (h2 : n ≤ 64) : Inv (startP d n) := by
  have hm : ∀ f ∈ (startP d n).fs, f = noFm := fun f hf => (List.mem_replicate.1 hf).2
  have hl : (startP d n).fs.length = n := List.length_replicate
  refine ⟨by omega, by omega, by show 0 < _; omega, fun f hf _ => hm f hf, fun f hf h => absurd (by rw [hm f hf]; rfl) h, fun f hf h => absurd (by rw [hm f hf]; rfl) h, ?_⟩
  show Apart (keys (List.replicate n noFm))
  rw [keys_start]; exact apart_start n
theorem nd_start (n : Nat) : nd (List.replicate n noFm) = 0 := by
  unfold nd
  rw [List.filter_eq_nil_iff.2 fun f hf => by rw [(List.mem_replicate.1 hf).2]; decide]; rfl
theorem map_start (n : Nat) : MapOf (.map []) (List.replicate n none) := fun a => by rw [idx_start]; exact ⟨rfl, rfl⟩
theorem built92 (q : Addr) (g : Addr) (n c b : Nat) : Tryd.prog.built 92 [(0, .pointer (some q)), (1, .slice (some g) n c), (2, .map (some b))] = some #[.pointer (some q), .slice (some g) n c, .map (some b), .int .i64 0] := by kernel_rfl

/-- A new pool. -/
def MadeP (w : World) (q : Nat) (Fd : Nat → Prop) (d : St) (n : Nat) (e : Ending) (w' : World) : Prop :=
  ∃ p g b, e = .returned (.tuple #[.pointer (some ⟨p, 0, none⟩), .bool true]) ∧ (∀ m, d.ws.length ≤ m → Pool w' m p g b q Fd (startP d n)) ∧ w.heap.size ≤ p ∧ w.heap.size ≤ g ∧ w.heap.size ≤ b ∧ New w w'
set_option maxHeartbeats 4000000 in
theorem newpool_any {w : World} {q : Nat} {Fd : Nat → Prop} {d : St} (D : Disk w Fd q d) (hT : Tab w) (h0 : ¬ Fd 0) (n : Nat) (h1 : 1 ≤ n) (h64 : n ≤ 64) :
    Calls Tryd.prog 12 #[.pointer (some ⟨q, 0, none⟩), .int .i64 (n : Int)] w fun e w' => MadeP w q Fd d n e w' := by
  obtain ⟨W, hmk, QW, NW⟩ := run_make_pl w 89 103 (.agg (fmL noFm).toArray) n 5 40 Tryd.underlying89 info103 rfl (by decide) (by omega) (by decide)
  have hmm := @run_makeMap Tryd.prog
  have t1 : ¬ (n : Int) < 1 := by omega
  have t2 : ¬ (64 : Int) < (n : Int) := by omega
  have HD : Hid (Disk w Fd q d ∧ Tab w ∧ ¬ Fd 0) := ⟨D, hT, h0⟩
  have HQ : Hid (Pl W (fun g => g = w.heap.size) 103 5 (.slice (some ⟨w.heap.size, 0, none⟩) n n) (List.replicate n (fmL noFm)) ∧ New w W) := ⟨QW, NW⟩
  have HN : Hid (1 ≤ n ∧ n ≤ 64) := ⟨h1, h64⟩
  clear D hT h0 QW NW
  go_enter Tryd.func12, Tryd.ntmps12
  go_wp2_with (first | (refine wpList_build3 (by rfl) _ _ _ _ (by rfl) _ _ _ (by rfl) (by rfl) (by rfl) _ (built92 _ _ _ _ _) ?_) | (refine wpList_box_at (by rfl) 21 (by rfl) 92 _ (by rfl) _ (by rfl) ?_; intro W3 R3 M3))
  go_ret2
  obtain ⟨D, hT, h0⟩ := HD.out
  obtain ⟨QW, NW⟩ := HQ.out
  obtain ⟨h1, h64⟩ := HN.out
  have M2 : New W (W.alloc (.map #[] 0)) := (New.refl W).alloc _
  have NN : New w W3 := (NW.trans M2).trans M3
  have hWs : w.heap.size < W.heap.size := QW.lt (g := w.heap.size) rfl
  have hws := NW.size
  have hs1 : (W.alloc (.map #[] 0)).heap.size = W.heap.size + 1 := World.size_alloc _ _
  rw [hs1] at R3
  have hg0 : 0 < w.heap.size := hT.1
  refine ⟨_, w.heap.size, W.heap.size, rfl, fun m hm => ?_, by omega, Nat.le_refl _, hws, NN⟩
  have lt : ∀ x, Fd x → x < w.heap.size := D.inside
  refine ⟨inv_start h1 h64, ?_, fun f hf => ?_, ?_⟩
  · show Bits W3 m (W.heap.size + 1) w.heap.size W.heap.size q Fd d (List.replicate n noFm) 0 (keys (List.replicate n noFm))
    rw [keys_start]
    exact {
      tab := hT.after NN
      row := by rw [List.length_replicate]; exact R3
      pl := by rw [List.length_replicate, List.map_replicate]; exact QW.after (M2.trans M3)
      map := ⟨.map [], (owns_of (World.ownsMap_made W Tryd.prog 3 (plainElem Tryd.prog 3)) (M3.block _ (by rw [hs1]; omega))).mono (Nat.zero_le _), map_start n⟩
      disk := D.after NN
      keys := apart_start n
      pg := by omega
      pb := by omega
      gb := by omega
      np := fun h => by have := lt _ h; omega
      ng := fun h => by have := lt _ h; omega
      nb := fun h => by have := lt _ h; omega
      n0 := h0
      p0 := by omega
      g0 := by omega
      b0 := by omega }
  · rw [(List.mem_replicate.1 hf).2]; exact Nat.zero_le _
  · show d.ws.length + nd (List.replicate n noFm) ≤ m
    rw [nd_start]; omega
theorem newpool_no {w : World} (q : Nat) (n : Int) (h : n < 1 ∨ 64 < n) :
    Calls Tryd.prog 12 #[.pointer (some ⟨q, 0, none⟩), .int .i64 n] w fun e w' => e = .returned (.tuple #[.pointer none, .bool false]) ∧ w' = w := by
  by_cases h1 : n < 1
  · go_enter Tryd.func12, Tryd.ntmps12
    go_wp2_with fail
    go_ret2
    exact ⟨rfl, rfl⟩
  · have h2 : 64 < n := by omega
    clear h
    go_enter Tryd.func12, Tryd.ntmps12
    go_wp2_with fail
    go_ret2
    exact ⟨rfl, rfl⟩
theorem newpool_nil {w : World} (n : Int) : Calls Tryd.prog 12 #[.pointer none, .int .i64 n] w fun e w' => e = .returned (.tuple #[.pointer none, .bool false]) ∧ w' = w := by
  go_enter Tryd.func12, Tryd.ntmps12
  go_wp2_with fail
  go_ret2
  exact ⟨rfl, rfl⟩

/-- A page with a right sum. -/
def goodL (n : Nat) (v : UInt8) : List UInt8 := pageB (frOf 1 n 0 [v])
theorem goodL_length (n : Nat) (v : UInt8) : (goodL n v).length = 256 := pageB_length (by show ([v] ++ List.replicate (243 - 1) 0).length = 243; rw [List.length_append, List.length_replicate]; rfl)
theorem goodL_right (n : Nat) (v : UInt8) : rightB (goodL n v) = true := (rightB_iff _).2 (right_page (by show ([v] ++ List.replicate (243 - 1) 0).length = 243; rw [List.length_append, List.length_replicate]; rfl))
theorem built111 (k : Int) (s : ByteArray) : Tryd.prog.built 111 [(0, .int .i64 k), (2, .string s)] = some #[.int .i64 k, .int .i64 0, .string s] := by kernel_rfl
theorem wpList_build02 {P : Program} {w : World} {ops : Array Oper} {rest : List Oper} {o : Oper} {a : Act} {Q : Exit → Act → World → Prop} (hgd : o.guard = none) (t : TypeId) (x0 x1 : Operand) (ho : o.op = .build t #[(0, x0), (2, x1)]) (v0 v1 : Value) (h0 : a.eval x0 = v0) (h1 : a.eval x1 = v1) (cs : Array Value) (hb : P.built t [(0, v0), (2, v1)] = some cs)
    (h : wpList P ops Q rest (a.put o.dst (.agg cs)) w) : wpList P ops Q (o :: rest) a w := by
  have hv : ((#[(0, x0), (2, x1)] : Array (Nat × Operand)).map fun (i, x) => (i, a.eval x)).toList = [(0, v0), (2, v1)] := by simp [h0, h1]
  refine wpList_build hgd t _ ho (by rw [hv, hb]; rfl) ?_
  rw [hv, hb]
  exact h
theorem one_byte (v : UInt8) (w : World) : (convert 22 9 (.slice (some ⟨w.heap.size, 0, none⟩) 1 1)).run Tryd.prog (w.alloc (.cells #[.int .u8 (v.toNat : Int)] 5)) = .ok (.string (bs [v])) (w.alloc (.cells #[.int .u8 (v.toNat : Int)] 5)) :=
  conv_own (B := 0) (l := [v]) rfl ⟨rfl, .inr ⟨w.heap.size, 1, #[.int .u8 (v.toNat : Int)], rfl, Nat.zero_le _, Row.new w _ 5, Nat.le_refl _, by unfold maxLen; omega, rfl, rfl⟩⟩
set_option maxHeartbeats 2000000 in
theorem good_any (n : Nat) (hn : n < 65536) (v : UInt8) (w : World) : Calls Tryd.prog 19 #[.int .i64 (n : Int), .int .u8 (v.toNat : Int)] w fun e w' => e = .returned (.string (bs (goodL n v))) ∧ New w w' := by
  have hc := one_byte v w
  have hp := refPut_yes 1 n 0 (by decide) (by decide) hn (by decide) (bs [v]) (by rw [bs_size]; show 1 ≤ 243; decide)
  rw [L_bs] at hp
  change ∀ w, Calls Tryd.prog 49 #[.agg #[.int .i64 1, .int .i64 0, .string (bs [v])], .int .i64 (n : Int)] w fun e w' => e = .returned (.string (bs (goodL n v))) ∧ New w w' at hp
  go_enter Tryd.func19, Tryd.ntmps19
  go_wp2_with (first | (refine wpList_build02 (by rfl) _ _ _ (by rfl) _ _ (by rfl) (by rfl) _ (built111 _ _) ?_))
  refine (hp _).mono ?_
  rintro _ w1 ⟨rfl, n1⟩
  go_wp2_with fail
  go_ret
  exact ⟨rfl, ((New.refl w).alloc _).trans n1⟩
end Go.Proofs.YtkcoclpbkealgaaDoor
