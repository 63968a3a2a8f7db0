/-
  What SumBits returns: true, for every three texts, where the table of steps lies as its initialiser lays it.
-/
import Derived.Test.YtoiabnehdncgjaaDoorTurnB
import Derived.Test.YtoiabnehdncgjaaDoorQuiet
import Derived.OwnWalk
import Derived.Laws.BytesString
import Derived.Deep.RegionHeld3
import Derived.Deep.AppendLies
namespace Go.Proofs.YtoiabnehdncgjaaDoor
open Go.RowKit

theorem info5 : (Tryd.prog.info? 5).map (fun i => (i.zero, i.size, i.bytes)) = some (some (.int .u8 0), 1, 1) := by kernel_rfl

/-- The bytes as cells. -/
def cellsL (l : List UInt8) : List Value := l.map fun c => Value.int .u8 (c.toNat : Int)
theorem cellsL_append (l m : List UInt8) : cellsL (l ++ m) = cellsL l ++ cellsL m := by unfold cellsL; rw [List.map_append]
theorem cellsL_get {l : List UInt8} {j : Nat} {c : UInt8} (h : l[j]? = some c) : (cellsL l)[j]? = some (.int .u8 (c.toNat : Int)) := by
  unfold cellsL; rw [List.getElem?_map, h]; rfl
theorem grow_kept {w wr w1 : World} {v : Value} {k : Nat} {xs : List Value} {d : Obj} (hown : wr.ownsRow w.heap.size 5 1 v k xs) (hb : Below w.heap.size w wr) (hg : (wr.alloc d).drew.grownBy w1 v.ownBlock) : Below w.heap.size w w1 := by
  have hB := hb.size
  exact ((hb.alloc hB d).drew).grown hg (by simp; omega) fun j hj => (hown.lt j hj).1
theorem cells_step (l m n : List UInt8) (k : Nat) (a b c : UInt8) (ha : l[k]? = some a) (hb : m[k]? = some b) (hc : n[k]? = some c) :
    cellsL (x3 (l.take k) (m.take k) (n.take k)) ++ [.int .u8 ((a ^^^ b ^^^ c).toNat : Int)] = cellsL (x3 (l.take (k + 1)) (m.take (k + 1)) (n.take (k + 1))) := by
  rw [x3_step l m n k a b c ha hb hc, cellsL_append]; rfl
theorem xor_two (a b : UInt8) : bits .xor .u8 (a.toNat : Int) (b.toNat : Int) = ((a ^^^ b).toNat : Int) := by
  rw [xor_u8 _ _ a.toNat_lt b.toNat_lt, UInt8.toNat_xor]

theorem conv_kept {W w : World} {B : Nat} {v : Value} {l : List UInt8} {n : Nat} (hn : l.length = n) (h : W.ownsRow B 5 1 v n (cellsL l)) (k : Kept W w) :
    (convert 32 9 v).run Tryd.prog w = .ok (.string (bs l)) w := by
  subst hn
  rcases id h.2 with ⟨rfl, h0⟩ | ⟨g, cap, cur, rfl, hr⟩
  · obtain rfl : l = [] := List.length_eq_zero_iff.1 h0
    rw [run_convert_bytes_string w 32 9 5 none 0 0 Tryd.underlying32 Tryd.underlying5 Tryd.underlying9]
    rfl
  · exact run_convert_bytes_back w 32 9 5 ⟨g, 0, none⟩ cap l Tryd.underlying32 Tryd.underlying5 Tryd.underlying9 (fun j hj => by
      have hc := h.cells (g := g) rfl j _ (cellsL_get (List.getElem?_eq_getElem hj))
      have ha : (Addr.add ⟨g, 0, none⟩ j) = ⟨g, j, none⟩ := by simp [Addr.add]; intro h; exact h.symm
      rw [ha] at hc ⊢
      rw [k.cell (World.block_lt_of_cell? W _ hc)]
      exact hc)

/-- Of, at a text whose sum is known. -/
def Sums (s : ByteArray) (v : Nat) : Prop := ∀ w : World, Tab w → Calls Tryd.prog 10 #[.string s] w fun e w' => e = .returned (.int .u32 (v : Int)) ∧ w' = w
theorem sums_of (s : ByteArray) (hs : s.size ≤ 140737488351232) (v : Nat) (h : sumL 0 (L s) = v) : Sums s v := fun w hT => h ▸ of_any s hs w hT

set_option maxHeartbeats 2000000 in
theorem bits_rest (a b c : ByteArray) (n : Nat) (hn : min (min a.size b.size) c.size = n) (h5 : n ≤ 500) (w : World) (hT : Tab w) :
    Calls Tryd.prog 6 #[.string a, .string b, .string c] w fun e w' => e = .returned (.bool true) ∧ w.keptBut w' (fun _ => False) := by
  obtain ⟨i0, hi0, hz0, hz1, hz2⟩ := info_parts info5
  have hnI : (if (c.size : Int) < (if b.size < a.size then (b.size : Int) else (a.size : Int)) then (c.size : Int) else (if b.size < a.size then (b.size : Int) else (a.size : Int))) = (n : Int) := by
    split <;> split at * <;> omega
  have hd : decide ((n : Int) > 500) = false := decide_eq_false (by omega)
  have hna : n ≤ a.size := by omega
  have hnb : n ≤ b.size := by omega
  have hnc : n ≤ c.size := by omega
  clear hn
  go_enter Tryd.func6, Tryd.ntmps6
  go_wp2_with fail
  clear hnI
  go_loopw [8, 9] (fun v i wr => ∃ k : Nat, k ≤ n ∧ i = .int .i64 k ∧ wr.ownsRow w.heap.size 5 1 v k (cellsL (x3 ((L a).take k) ((L b).take k) ((L c).take k))) ∧ Below w.heap.size w wr) (fun _ i _ => n - (intOf i).toNat)
  case atStart => exact ⟨0, by omega, rfl, World.ownsRow_nil _ _ _ _, Below.refl _ _⟩
  case round =>
    obtain ⟨k, hk, rfl, hown, hb⟩ := hrel
    have hB := hb.size
    by_cases hlt : k < n
    · have hka : k < a.size := by omega
      have hkb : k < b.size := by omega
      have hkc : k < c.size := by omega
      have HS : Hid (_ = _) := cells_step (L a) (L b) (L c) k _ _ _ (L_get a k hka) (L_get b k hkb) (L_get c k hkc)
      have hx1 := xor_two a[k] b[k]
      have hx2 := xor_two (a[k] ^^^ b[k]) c[k]
      generalize a[k] ^^^ b[k] ^^^ c[k] = y at hx2 HS
      generalize a[k] ^^^ b[k] = z at hx1 hx2
      go_wp2_with fail
      go_region_held3 (fun _ => True) (trivial)
        ((refine step_append_lies _ (by rfl) _ _ _ (by rfl) w.heap.size 5 i0 _ 1 1 Tryd.underlying32 hi0 hz0 hz1 hz2 rfl (by omega) u8 k (cellsL (x3 ((L a).take k) ((L b).take k) ((L c).take k))) (by rfl) ((hown.alloc _).drew)
            ⟨wr.heap.size, 0, none⟩ 1 1 [.int .u8 (y.toNat : Int)] (by rfl) (by rfl) (World.news_of_block (cs := #[.int .u8 (y.toNat : Int)]) (t := 5) (fr := (0, 0)) (heap_alloc_new wr _)) (by simp [Value.oneCell'])
            (by omega) (by unfold maxLen; omega) (by omega) (by simp; omega) (wr.heap.size + 1) (by simp) ?_; intro gg cap w1 hown1 hgrow hat hlt1))
      go_wp2_with fail
      all_goals exact ⟨⟨k + 1, by omega, by go_num, HS.out ▸ hown1, grow_kept hown hb hgrow⟩, by simp [intOf]; omega⟩
    · obtain rfl : k = n := by omega
      have hla : ((L a).take k).length = k := by rw [List.length_take, L_size]; omega
      have hlb : ((L b).take k).length = k := by rw [List.length_take, L_size]; omega
      have hlc : ((L c).take k).length = k := by rw [List.length_take, L_size]; omega
      have hld : (x3 ((L a).take k) ((L b).take k) ((L c).take k)).length = k := by rw [x3_length _ _ _ (by rw [hla, hlb]) (by rw [hla, hlc]), hla]
      have h3 := sum_three 0 ((L a).take k) ((L b).take k) ((L c).take k) (by rw [hla, hlb]) (by rw [hla, hlc])
      have hk' : Kept w wr := Kept.below hb
      have hne : Nonempty (KeptW wr) := ⟨⟨wr, Kept.refl wr⟩⟩
      have hcv : ∀ p : KeptW wr, (convert 32 9 u8).run Tryd.prog p.v = .ok (.string (bs (x3 ((L a).take k) ((L b).take k) ((L c).take k)))) p.v := fun p => conv_kept hld hown p.h
      have hsa : Hid (Sums (a.extract 0 k) (sumL 0 ((L a).take k))) := sums_of _ (by rw [← L_size, L_extract, List.drop_zero, hla]; omega) _ (by rw [L_extract, List.drop_zero])
      have hsb : Hid (Sums (b.extract 0 k) (sumL 0 ((L b).take k))) := sums_of _ (by rw [← L_size, L_extract, List.drop_zero, hlb]; omega) _ (by rw [L_extract, List.drop_zero])
      have hsc : Hid (Sums (c.extract 0 k) (sumL 0 ((L c).take k))) := sums_of _ (by rw [← L_size, L_extract, List.drop_zero, hlc]; omega) _ (by rw [L_extract, List.drop_zero])
      have hsd : Hid (Sums (bs (x3 ((L a).take k) ((L b).take k) ((L c).take k))) (sumL 0 (x3 ((L a).take k) ((L b).take k) ((L c).take k)))) := sums_of _ (by rw [bs_size, hld]; omega) _ rfl
      rw [h3] at hsd
      have pl : sumL 0 ((L a).take k) < 4294967296 := sumL_lt (by decide) _
      have ql : sumL 0 ((L b).take k) < 4294967296 := sumL_lt (by decide) _
      have rl : sumL 0 ((L c).take k) < 4294967296 := sumL_lt (by decide) _
      clear h3 hla hlb hlc hld hown
      generalize bs (x3 ((L a).take k) ((L b).take k) ((L c).take k)) = d at hcv hsd
      generalize sumL 0 ((L a).take k) = p at hsa hsd pl
      generalize sumL 0 ((L b).take k) = q at hsb hsd ql
      generalize sumL 0 ((L c).take k) = r at hsc hsd rl
      have hx1 := xor_u32 p q pl ql
      have hxl := xor_lt pl ql
      have hx2 := xor_u32 (p ^^^ q) r hxl rl
      generalize p ^^^ q ^^^ r = y at hx2 hsd
      generalize p ^^^ q = x at hx1 hx2
      have ha1 : decide ((a.size : Int) < (k : Int)) = false := decide_eq_false (by omega)
      have hb1 : decide ((b.size : Int) < (k : Int)) = false := decide_eq_false (by omega)
      have hc1 : decide ((c.size : Int) < (k : Int)) = false := decide_eq_false (by omega)
      have ha2 : decide (a.size < k) = false := decide_eq_false (by omega)
      have hb2 : decide (b.size < k) = false := decide_eq_false (by omega)
      have hc2 : decide (c.size < k) = false := decide_eq_false (by omega)
      have hk0 : decide ((k : Int) < 0) = false := decide_eq_false (by omega)
      have hTr := hT.kept hk'
      go_wp2_with fail
      refine region_kept wr (Kept.refl wr) (by kernel_rfl) (by kernel_rfl) ?_
      repeat (go_big_quiet_step (first
        | (go_at_call 10; first | exact Calls.keptw_same (hsd.out _ (hTr.kept (KeptW.h _))) | exact Calls.keptw_same (hsa.out _ (hTr.kept (KeptW.h _))) | exact Calls.keptw_same (hsb.out _ (hTr.kept (KeptW.h _))) | exact Calls.keptw_same (hsc.out _ (hTr.kept (KeptW.h _))))
        | (go_at_call 7; exact Calls.keptw (wakes_any _ (hTr.kept (KeptW.h _))))))
      refine wpQuiet_nil ?_
      rintro _ ⟨⟨w5, hk5⟩, rfl⟩
      go_wp2_with fail
      go_ret
      exact ⟨rfl, hk'.trans hk5⟩

theorem bits_walk (a b c : ByteArray) (w : World) (hT : Tab w) :
    Calls Tryd.prog 6 #[.string a, .string b, .string c] w fun e w' => e = .returned (.bool true) ∧ w.keptBut w' (fun _ => False) := by
  obtain ⟨n, hn⟩ : ∃ n, min (min a.size b.size) c.size = n := ⟨_, rfl⟩
  by_cases h5 : n ≤ 500
  · exact bits_rest a b c n hn h5 w hT
  · have hnI : (if (c.size : Int) < (if b.size < a.size then (b.size : Int) else (a.size : Int)) then (c.size : Int) else (if b.size < a.size then (b.size : Int) else (a.size : Int))) = (n : Int) := by
      split <;> split at * <;> omega
    have hd : decide ((n : Int) > 500) = true := decide_eq_true (by omega)
    clear hn
    go_enter Tryd.func6, Tryd.ntmps6
    go_wp2_with fail
    refine (wakes_any _ hT).mono ?_
    rintro e w1 ⟨rfl, g⟩
    go_wp2_with fail
    go_ret
    exact ⟨rfl, g⟩

end Go.Proofs.YtoiabnehdncgjaaDoor
