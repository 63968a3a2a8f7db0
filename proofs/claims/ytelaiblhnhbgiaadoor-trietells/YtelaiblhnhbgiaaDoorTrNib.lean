/-
  Slices that are made; byNibbles: pairs with their keys' halves as keys.
-/
import Derived.Test.YtelaiblhnhbgiaaDoorTrMay
import Derived.Test.YtelaiblhnhbgiaaDoorTake
import Derived.Laws.MakeOwn
namespace Go.Proofs.YtelaiblhnhbgiaaDoor
open Go.RowKit
set_option maxRecDepth 20000

theorem made_flat (z : Array Value) (n : Nat) (hz : 0 < z.size) : (madeCells z (n * z.size)).toList = (List.replicate n z.toList).flatten := by
  have he : ∀ e ∈ List.replicate n z.toList, e.length = z.size := fun e h => by rw [(List.mem_replicate.1 h).2, Array.length_toList]
  apply List.ext_getElem?
  intro j
  by_cases hj : j < n * z.size
  · have hd : j / z.size < n := (Nat.div_lt_iff_lt_mul hz).2 hj
    have h1 := flat_cell he (i := j / z.size) (by rw [List.length_replicate]; exact hd) (j := j % z.size) (Nat.mod_lt _ hz)
    have h2 : j / z.size * z.size + j % z.size = j := by rw [Nat.mul_comm]; exact Nat.div_add_mod j z.size
    rw [h2, List.getElem_replicate] at h1
    have hm := Nat.mod_lt j hz
    rw [h1]
    unfold madeCells
    simp [hj, hm]
  · rw [List.getElem?_eq_none (by rw [Array.length_toList, size_madeCells]; omega), List.getElem?_eq_none (by rw [flat_length he, List.length_replicate]; omega)]
theorem run_make_pl (w : World) (T t : TypeId) (z : Value) (n k b : Nat) (hT : Tryd.prog.underlying T = some (.slice t)) (hi : (Tryd.prog.info? t).map (fun i => (i.zero, i.size, i.bytes)) = some (some z, k, b)) (hz : z.cells.size = k) (hk : 0 < k) (hn : n ≤ 1000000) (hb : b ≤ 1000) :
    ∃ W, (Instr.makeSlice T (.int .i64 (n : Int)) (.int .i64 (n : Int))).run Tryd.prog w = .ok (.slice (some ⟨w.heap.size, 0, none⟩) n n) W ∧ Pl W (fun g => g = w.heap.size) t k (.slice (some ⟨w.heap.size, 0, none⟩) n n) (List.replicate n z.cells.toList) ∧ New w W := by
  obtain ⟨i0, hi0, hz0, hz1, hz2⟩ := info_parts hi
  have hbb : b * n ≤ 1000 * 1000000 := Nat.mul_le_mul hb hn
  have h := run_make (P := Tryd.prog) w T t i0 z hT hi0 hz0 .i64 .i64 (n : Int) (n : Int) (by omega) (by omega) (by rw [hz2, ← Int.natCast_mul]; omega) (by omega)
  rw [Int.toNat_natCast, hz1] at h
  refine ⟨_, h, ?_, (New.refl w).alloc _⟩
  subst hz
  have := Pl.make (w := w.alloc (.cells (madeCells z.cells (n * z.cells.size)) t)) (F := fun g => g = w.heap.size) (t := t) (k := z.cells.size) (g := w.heap.size) (c := n) (es := List.replicate n z.cells.toList) (cur := madeCells z.cells (n * z.cells.size))
    (fun e h => by rw [(List.mem_replicate.1 h).2, Array.length_toList]) (Row.new w _ t) (by rw [List.length_replicate]; exact Nat.le_refl _) (by unfold maxLen; omega) (size_madeCells _ _) (by
      rw [List.length_replicate, made_flat _ _ hk, List.take_of_length_le]
      rw [flat_length (k := z.cells.size) (fun e h => by rw [(List.mem_replicate.1 h).2, Array.length_toList]), List.length_replicate]; exact Nat.le_refl _) rfl
  rw [List.length_replicate] at this
  exact this
theorem run_make_cap (w : World) (T t : TypeId) (z : Value) (n k b : Nat) (hT : Tryd.prog.underlying T = some (.slice t)) (hi : (Tryd.prog.info? t).map (fun i => (i.zero, i.size, i.bytes)) = some (some z, k, b)) (hz : z.cells.size = k) (hk : 0 < k) (hn : n ≤ 1000000) (hb : b ≤ 1000) :
    ∃ W v, (Instr.makeSlice T (.int .i64 0) (.int .i64 (n : Int))).run Tryd.prog w = .ok v W ∧ Pl W (Fresh w) t k v [] ∧ New w W := by
  obtain ⟨i0, hi0, hz0, hz1, hz2⟩ := info_parts hi
  have hbb : b * n ≤ 1000 * 1000000 := Nat.mul_le_mul hb hn
  have h := run_make (P := Tryd.prog) w T t i0 z hT hi0 hz0 .i64 .i64 0 (n : Int) (by omega) (by omega) (by rw [hz2, ← Int.natCast_mul]; omega) (by omega)
  rw [Int.toNat_natCast, hz1] at h
  refine ⟨_, _, h, ?_, (New.refl w).alloc _⟩
  subst hz
  exact Pl.make (w := w.alloc (.cells (madeCells z.cells (n * z.cells.size)) t)) (F := Fresh w) (t := t) (k := z.cells.size) (g := w.heap.size) (c := n) (es := []) (cur := madeCells z.cells (n * z.cells.size))
    (fun e h => by simp at h) (Row.new w _ t) (Nat.zero_le _) (by unfold maxLen; omega) (size_madeCells _ _) (by simp) (Nat.le_refl _)

theorem take_more {α : Type} {l : List α} {k : Nat} {d p : α} (h : k < l.length) (hp : l.getD k d = p) : l.take (k + 1) = l.take k ++ [p] := by
  rw [List.take_add_one, List.getElem?_eq_getElem h]
  rw [List.getD_eq_getElem?_getD, List.getElem?_eq_getElem h] at hp
  rw [← hp]; rfl
/-- Slices of the call's own that grow. -/
theorem Pl.fresh {w w2 : World} {F : Nat → Prop} {t : TypeId} {k : Nat} {v : Value} {es : List (List Value)} (h : Pl w2 F t k v es) (hF : ∀ b, F b → w.heap.size ≤ b) : Pl w2 (Fresh w) t k v es := h.mono fun b hb _ => hF b hb
theorem fields52 : (match Tryd.prog.underlying 52 with | some (.struct fields) => fields.toList.mapM (fun f => (Tryd.prog.info? f.type).map fun i => (f.offset, i.size)) | _ => none) = some [(0, 1), (1, 1)] := by kernel_rfl
theorem built52 (a b : ByteArray) : Tryd.prog.built 52 [(0, .string a), (1, .string b)] = some #[.string a, .string b] := by kernel_rfl

theorem run_build52 (a b : ByteArray) (w : World) : (Instr.build 52 #[(0, .string a), (1, .string b)]).run Tryd.prog w = .ok (.agg #[.string a, .string b]) w := by kernel_rfl
/-- The worlds in which the two cells of a block have these values. -/
structure TwoW (b : Nat) (x y : Value) where
  v : World
  h0 : v.cell? ⟨b, 0, none⟩ = some x
  h1 : v.cell? ⟨b, 1, none⟩ = some y
def HasTwo (b : Nat) (x y : Value) (w : World) : Prop := ∃ q : TwoW b x y, w = q.v
theorem HasTwo.of {b : Nat} {x y : Value} {w : World} (h : w.cell? ⟨b, 0, none⟩ = some x) (k : w.cell? ⟨b, 1, none⟩ = some y) : HasTwo b x y w := ⟨⟨w, h, k⟩, rfl⟩
theorem HasTwo.new {b : Nat} {x y : Value} {w w' : World} (h : HasTwo b x y w) (hb : b < w.heap.size) (n : New w w') : HasTwo b x y w' := by
  obtain ⟨⟨_, h0, h1⟩, rfl⟩ := h
  exact HasTwo.of ((n.cell hb).trans h0) ((n.cell hb).trans h1)

set_option maxHeartbeats 1000000 in
theorem byNibbles_any {w : World} {v : Value} {l : List Pr} (P : Ls w 2 v (l.map prC)) (hl : l.length ≤ 10000) (hk : ∀ p ∈ l, p.1.length ≤ 4000 ∧ p.2.length ≤ 4000) :
    Calls Tryd.prog 24 #[v] w fun e w' => ∃ v', e = .returned v' ∧ Pl w' (Fresh w) 52 2 v' ((l.map halfP).map prC) ∧ New w w' := by
  obtain ⟨a, c, rfl, hc, HS⟩ := P.open ([], [])
  have HM : Hid (∀ i, i < l.length → (l.getD i ([], [])).1.length ≤ 4000 ∧ (l.getD i ([], [])).2.length ≤ 4000) := fun i h => hk _ (getD_mem h)
  obtain ⟨W0, v0, hmk, Q0, N0⟩ := run_make_cap w 22 52 _ l.length 2 32 Tryd.underlying22 info52 rfl (by decide) (by omega) (by decide)
  have HQ0 : Hid (Pl W0 (Fresh w) 52 2 v0 [] ∧ New w W0) := ⟨Q0, N0⟩
  clear hk P Q0 N0
  go_enter Tryd.func24, Tryd.ntmps24
  go_wp2_with fail
  clear hmk
  go_loopw [3, 11] (fun s i wr => ∃ k : Nat, k ≤ l.length ∧ i = .int .i64 (k : Int) ∧ Pl wr (Fresh w) 52 2 s (((l.take k).map halfP).map prC) ∧ New w wr) (fun _ i _ => l.length - (intOf i).toNat)
  case atStart => exact ⟨0, by omega, rfl, HQ0.out.1, HQ0.out.2⟩
  case round =>
    obtain ⟨k, hk, rfl, Q, N⟩ := hrel
    by_cases hlt : k < l.length
    · obtain ⟨g, o, rfl, hg, hr⟩ := HS.out (by omega)
      have R2 := hr wr N k hlt
      have M0 := HM.out k hlt
      obtain ⟨p, hp⟩ : ∃ p, l.getD k ([], []) = p := ⟨_, rfl⟩
      have HP : Hid (l.getD k ([], []) = p) := hp
      rw [hp] at R2 M0
      clear hp hr
      have hql : (((l.take k).map halfP).map prC).length = k := by rw [List.length_map, List.length_map, List.length_take]; omega
      go_wp2_with (first
          | refine wpList_load_mid (by rfl) 52 _ (by rfl) g (o + k * 2) (by rfl) (prC p) _ R2 Tryd.underlying52 rfl i52 ?_
          | (refine wpList_alloc_new (by rfl) 52 (by rfl) _ _ _ info52 ?_; intro W1 R1 M1)
          | (refine wpList_store_new (by rfl) 52 _ _ (by rfl) wr.heap.size (prC p).toArray (by rfl) (by rfl) 52 _ R1 i52 rfl (pr_all p) ?_; intro W2 R2 B2; have c0 : W2.cell? ⟨wr.heap.size, 0, none⟩ = some (.string (bs p.1)) := R2.cell 0; have c1 : W2.cell? ⟨wr.heap.size, 1, none⟩ = some (.string (bs p.2)) := R2.cell 1; have NW : New wr W2 := B2.new M1 (Nat.le_refl _)))
      have HQ : Hid (Pl wr (Fresh w) 52 2 u3 (((l.take k).map halfP).map prC)) := Q
      have hof : ∀ W, Calls Tryd.prog 34 #[.string (bs p.1)] W fun e w' => e = .returned (.string (bs (ofL p.1))) ∧ New W w' := fun W => of_any (bs p.1) (by rw [bs_size]; have := M0.1; omega) W
      have hS : HasTwo wr.heap.size (.string (bs p.1)) (.string (bs p.2)) W2.drew := HasTwo.of c0 c1
      have hb2 : wr.heap.size < W2.heap.size := R2.lt
      clear Q c0 c1
      go_simp
      refine region_take [0, 1, 2, 4, 5] [3, 6, 7, 8] 9 (HasTwo wr.heap.size (.string (bs p.1)) (.string (bs p.2))) hS (by kernel_rfl) (by kernel_rfl) (fun d _ _ _ _ h => by cases d <;> exact h) ?_
      simp only [pick, List.getElem?_cons_succ, List.getElem?_cons_zero, Option.toList_some, List.cons_append, List.nil_append]
      have hne : Nonempty (TwoW wr.heap.size (.string (bs p.1)) (.string (bs p.2))) := ⟨hS.choose⟩
      have q0 : ∀ q : TwoW wr.heap.size (.string (bs p.1)) (.string (bs p.2)), q.v.cell? ⟨wr.heap.size, 0, none⟩ = some (.string (bs p.1)) := fun q => q.h0
      have q1 : ∀ q : TwoW wr.heap.size (.string (bs p.1)) (.string (bs p.2)), q.v.cell? ⟨wr.heap.size, 1, none⟩ = some (.string (bs p.2)) := fun q => q.h1
      unfold HasTwo
      repeat (go_big_quiet_step (fail))
      refine wpQuiet_nil ?_
      clear q0 q1 hne
      have NW0 : New W2 W2.drew := New.drew W2
      refine wpPre_call (some 18) 34 #[.string (bs p.1)] (by rfl) (by rfl) (by rfl) (by go_simp) ?_
      refine (hof _).mono ?_
      rintro _ W3 ⟨rfl, N3'⟩
      have hS3 := hS.new (by simpa using hb2) N3'
      have N3 : New W2 W3 := NW0.trans N3'
      refine ⟨_, rfl, hS3, ?_⟩
      simp only [Act.put, List.setIfInBounds_toArray, List.set_cons_zero, List.set_cons_succ]
      refine wpPre_run (some 21) (.agg (prC (halfP p)).toArray) W3 (by rfl) (by rfl) (by rfl) (exec_build2 (by rfl) (by rfl) (by rfl) (run_build52 _ _ _)) hS3 ?_
      simp only [Act.put, List.setIfInBounds_toArray, List.set_cons_zero, List.set_cons_succ]
      have hb1 := run_buildOne W3 22 52 (prC (halfP p)).toArray _ _ _ Tryd.underlying22 info52 rfl (by decide) (by decide)
      have R4 := Row.new W3 (prC (halfP p)).toArray 52
      have N4 : New W3 (W3.alloc (.cells (prC (halfP p)).toArray 52)) := (New.refl W3).alloc _
      generalize W3.alloc (.cells (prC (halfP p)).toArray 52) = W4 at hb1 R4 N4
      have hb3 : wr.heap.size < W3.heap.size := Nat.lt_of_lt_of_le hb2 N3.size
      have hS4 := hS3.new hb3 N4
      refine wpPre_run (some 22) _ W4 (by rfl) (by rfl) (by rfl) (exec_buildSlice (by rfl) (by rfl) hb1) hS4 ?_
      simp only [Act.put, List.setIfInBounds_toArray, List.set_cons_zero, List.set_cons_succ]
      have Q4 := ((HQ.out.after NW).after N3).after N4
      obtain ⟨g5, c5, W5, hap, Q5, G5⟩ := run_append_pl Q4 22 22 Tryd.underlying22 _ _ info52 rfl (by decide) W3.heap.size (prC (halfP p)) 52 R4 rfl (prC_one _) (by rw [hql]; omega) (by decide)
      rw [hql] at hap Q5
      have hS5 : HasTwo wr.heap.size (.string (bs p.1)) (.string (bs p.2)) W5 := by
        obtain ⟨⟨_, h0, h1⟩, rfl⟩ := hS4
        have hne : some wr.heap.size ≠ (u3 : Value).ownBlock := fun e => Nat.lt_irrefl _ (HQ.out.lt e.symm)
        exact HasTwo.of (G5.cell h0 hne) (G5.cell h1 hne)
      refine wpPre_run (some 23) _ W5 (by rfl) (by rfl) (by rfl) (exec_append (by rfl) (by rfl) (by rfl) hap) hS5 ?_
      simp only [Act.put, List.setIfInBounds_toArray, List.set_cons_zero, List.set_cons_succ]
      refine wpPre_nil ?_
      have N5 : New w W5 := ((N.trans NW).trans (N3.trans N4)).grown G5 fun b hb => HQ.out.foot b hb
      have hw := N.size
      have h1 := NW.size
      have h2 := N3.size
      have h3 := N4.size
      clear hap hb1
      go_wp2_with fail
      refine ⟨⟨k + 1, by omega, by go_num, ?_, N5⟩, by simp [intOf]; omega⟩
      have e : ((l.take (k + 1)).map halfP).map prC = ((l.take k).map halfP).map prC ++ [prC (halfP p)] := by
        rw [take_more hlt HP.out, List.map_append, List.map_append]; rfl
      rw [e]
      refine Q5.mono fun b hb _ => ?_
      rcases hb with hb | hb
      · exact hb
      · show w.heap.size ≤ b
        omega
    · go_wp2_with fail
      go_ret
      refine ⟨_, rfl, ?_, N⟩
      rw [show k = l.length by omega, List.take_length] at Q
      exact Q

end Go.Proofs.YtelaiblhnhbgiaaDoor
