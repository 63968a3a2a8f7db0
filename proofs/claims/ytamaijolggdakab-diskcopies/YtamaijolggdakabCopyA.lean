/-
  DiskCopies walked: a disk made from what another one shows shows the same, all of it stable.
-/
import Derived.Test.YtamaijolggdakabKeep
namespace Go.Proofs.Ytamaijolggdakab
open Go.RowKit

theorem ee5 : St.grow ⟨5, [], [], -1, false⟩ 4 = (0, ⟨5, [zeros, zeros, zeros, zeros], [], -1, false⟩) := by kernel_rfl
theorem crash_still (lim : Nat) (ps : List (List UInt8)) (cs : List UInt8) : St.crash ⟨lim, ps, [], -1, false⟩ cs = ⟨lim, ps, [], -1, false⟩ := by
  unfold St.crash crashed
  rw [List.length_nil, Nat.min_zero]
  rfl
theorem pair_cells {w wr : World} (hB : Below w.heap.size w wr) {x : Addr} {i : Nat} {u v : Value} (h0 : w.cell? (x.add (i * 2)) = some u) (h1 : w.cell? (x.add (i * 2 + 1)) = some v) :
    (∀ q : NewW wr, q.v.cell? (x.add (i * 2)) = some u) ∧ (∀ q : NewW wr, q.v.cell? ⟨(x.add (i * 2)).block, (x.add (i * 2)).off + 1, none⟩ = some v) ∧ (∀ q : NewW wr, q.v.cell? ⟨x.block, (x.add (i * 2)).off + 1, none⟩ = some v) := by
  have hq : ∀ q : NewW wr, Below w.heap.size w q.v := fun q => hB.trans (q.h.mono hB.size)
  have e : ∀ q : NewW wr, q.v.cell? ⟨(x.add (i * 2)).block, (x.add (i * 2)).off + 1, none⟩ = some v := fun q => by
    have h2 := cell_below (hq q) h1 (Nat.le_refl _)
    rw [← Go.Deep.add_add] at h2
    exact h2
  exact ⟨fun q => cell_below (hq q) h0 (Nat.le_refl _), e, fun q => by rw [← add_block x (i * 2)]; exact e q⟩
/-- What a disk shows, as texts. -/
def shown (S : St) : List ByteArray := S.seen.map bs
theorem shown_length (S : St) : (shown S).length = S.ps.length := by unfold shown; rw [List.length_map, seen_length]
theorem shown_cells (S : St) : (latest S.ps S.ws).map textL = (shown S).map fun t => [Value.string t] := by unfold shown St.seen; rw [List.map_map]; rfl
theorem shown_L (S : St) : (shown S).map L = S.seen := by
  unfold shown
  rw [List.map_map]
  have : (L ∘ bs) = id := funext fun l => L_bs l
  rw [this, List.map_id]
theorem shown_from {S : St} {lim n m : Nat} (C : Calm S lim n m) (hO : Ok S) (hn : n ≤ 9) : fromB (shown S) 9 = true := by
  unfold fromB
  rw [Bool.and_eq_true, decide_eq_true_eq, List.all_eq_true]
  refine ⟨⟨by decide, by decide, by rw [shown_length, C.len]; omega⟩, fun t ht => ?_⟩
  unfold shown at ht
  obtain ⟨l, hl, rfl⟩ := List.mem_map.1 ht
  have := hO.latest S.ws.length (Nat.le_refl _) l hl
  rw [bs_size, this]; rfl

set_option maxRecDepth 40000 in
set_option maxHeartbeats 8000000 in
theorem copies_walk (a : Option Addr) (c : Nat) (l : List (UInt8 × UInt8)) (b : Option Addr) (d : Nat) (cs : List UInt8) (w : World) (hP : Pairs w a l) (hl : l.length ≤ 9223372036854775807) (hB : Bytes w b cs) (hcs : cs.length ≤ 9223372036854775807) :
    Calls Try.prog 3 #[.slice a l.length c, .slice b cs.length d] w fun e w' => e = .returned (.bool true) ∧ New w w' := by
  have HP : Hid (Pairs w a l) := hP
  have HB : Hid (Bytes w b cs) := hB
  clear hP hB
  by_cases h1 : 30 < l.length
  · go_enter Try.func3, Try.ntmps3
    go_wp2_with fail
    refine (wakes_any w).mono ?_
    rintro _ w1 ⟨rfl, b1⟩
    go_wp2_with fail
    go_ret
    exact ⟨rfl, b1⟩
  by_cases h3 : 60 < cs.length
  · go_enter Try.func3, Try.ntmps3
    go_wp2_with fail
    refine (wakes_any w).mono ?_
    rintro _ w1 ⟨rfl, b1⟩
    go_wp2_with fail
    go_ret
    exact ⟨rfl, b1⟩
  have hnew := new_any w 5
  go_enter Try.func3, Try.ntmps3
  go_wp2_with fail
  refine hnew.mono ?_
  rintro _ w1 ⟨N1, p, F1, rfl, D1, hF1⟩
  have A1 : Above w.heap.size w w1 F1 := ⟨N1, hF1, N1.size⟩
  have c1 := grow_any D1 4
  change Calls _ _ _ _ (fun e w' => e = .returned (.int .i64 (St.grow ⟨5, [], [], -1, false⟩ 4).1) ∧ Left F1 p w1 (St.grow ⟨5, [], [], -1, false⟩ 4).2 w') at c1
  rw [ee5] at c1
  clear hnew N1 hF1 D1
  go_wp2_with fail
  refine c1.mono ?_
  rintro _ w2 ⟨rfl, F2, D2, T2⟩
  have A2 := A1.step T2
  clear c1 A1 T2
  have C3 : Calm ⟨5, [zeros, zeros, zeros, zeros], [], -1, false⟩ 5 4 0 := ⟨rfl, rfl, Nat.le_refl _, rfl, rfl⟩
  generalize (⟨5, [zeros, zeros, zeros, zeros], [], -1, false⟩ : St) = S3 at D2 C3
  go_wp2_with fail
  go_loopw [7] (fun u wr => ∃ (i : Nat) (S : St) (F : Nat → Prop), u = .int .i64 (i : Int) ∧ i ≤ l.length ∧ Calm S 5 4 i ∧ Disk wr F p S ∧ Above w.heap.size w wr F) (fun u _ => l.length - (intOf u).toNat)
  case atStart => exact ⟨0, S3, _, rfl, by omega, C3, D2, A2⟩
  case round =>
    clear C3 D2 A2
    obtain ⟨i, S, F, rfl, hi, C, D, A⟩ := hrel
    by_cases hil : i < l.length
    · obtain ⟨x, rfl, hx⟩ := HP.out (by omega)
      obtain ⟨hx0, hx1⟩ := hx i hil
      clear hx
      generalize l.getD i (0, 0) = uv at hx0 hx1
      obtain ⟨u, v⟩ := uv
      simp only at hx0 hx1
      obtain ⟨n, hn, hn256⟩ : ∃ n : Nat, u.toNat = n ∧ n < 256 := ⟨_, rfl, UInt8.toNat_lt _⟩
      rw [hn] at hx0
      clear hn
      obtain ⟨k, hk, hk4⟩ : ∃ k : Nat, (n : Int) % 4 = (k : Int) ∧ k < 4 := ⟨n % 4, by omega, by omega⟩
      obtain ⟨y0, y1, y2⟩ := pair_cells A.below hx0 hx1
      clear hx0 hx1
      have hne := NewW.ne wr
      have hil' : (i : Int) < (l.length : Int) := by omega
      go_wp2_with fail
      refine region_first 14 2 wr (New.refl wr) (by kernel_rfl) (by kernel_rfl) ?_
      simp only [List.take_succ_cons, List.take_zero, List.drop_succ_cons, List.drop_zero, List.take_nil]
      iterate 14 (go_big_quiet_step (first | (go_at_call 8; exact Calls.neww (fill_any v _))))
      refine wpQuiet_nil ?_
      rintro w4 ⟨⟨_, N4⟩, rfl⟩
      have A4 := A.new N4
      have D4 := D.after N4
      obtain ⟨S5, e5, C5, _⟩ := C.write hk4 (fillL_length v)
      have c5 := write_any D4 (k : Int) (bs (fillL v)) (by have := C.few; omega)
      rw [L_bs, e5] at c5
      clear y0 y1 y2 hne N4 A D
      go_wp2_with fail
      refine c5.mono ?_
      rintro _ w5 ⟨rfl, F5, D5, T5⟩
      have A5 := A4.step T5
      clear c5 A4 T5 D4 C e5
      go_wp2_with fail
      exact ⟨⟨i + 1, S5, F5, by go_num, by omega, C5, D5, A5⟩, by simp [intOf]; omega⟩
    · obtain rfl : i = l.length := by omega
      have c5 := pages_any D
      go_wp2_with fail
      refine c5.mono ?_
      rintro _ w6 ⟨v6, rfl, P6, N6⟩
      rw [shown_cells] at P6
      obtain ⟨a6, c6, hv6, _⟩ := P6.form
      rw [List.length_map] at hv6
      subst hv6
      have D6 := D.after N6
      have A6 := A.new N6
      have c7 := from_any w6 a6 c6 (shown S) (Pl.texts P6).1 9 (by rw [shown_length, C.len]; decide)
      rw [shown_from C D.ok (by decide), shown_L] at c7
      have hsl : (shown S).length = 4 := by rw [shown_length, C.len]
      clear c5 P6 N6 D A
      rw [hsl] at c7 ⊢
      go_wp2_with fail
      refine c7.mono ?_
      rintro e w7 ⟨N7, q, G, rfl, E7, hG⟩
      change Disk w7 G q ⟨9, S.seen, [], -1, false⟩ at E7
      have D7 := D6.after N7
      have A7 := A6.new N7
      have hs6 : w.heap.size ≤ w6.heap.size := A6.size
      clear c7 D6 A6
      have e8 := pages_any E7
      go_wp2_with fail
      refine e8.mono ?_
      rintro _ w8 ⟨v8, rfl, P8, N8⟩
      have hsh : (latest S.seen []).map textL = (shown S).map fun t => [Value.string t] := shown_cells S
      change Pl w8 _ 9 1 v8 ((latest S.seen []).map textL) at P8
      rw [hsh] at P8
      obtain ⟨a8, c8, hv8, _⟩ := P8.form
      rw [List.length_map, hsl] at hv8
      subst hv8
      have d8 := pages_any (D7.after N8)
      clear e8
      go_wp2_with fail
      refine d8.mono ?_
      rintro _ w9 ⟨v9, rfl, P9, N9⟩
      rw [shown_cells] at P9
      obtain ⟨a9, c9, hv9, _⟩ := P9.form
      rw [List.length_map, hsl] at hv9
      subst hv9
      have t9 := texts_any w9 a8 a9 c8 c9 (shown S) (shown S) ((Pl.texts P8).1.after N9) (Pl.texts P9).1 (by omega)
      rw [hsl, decide_eq_true rfl] at t9
      clear d8 P8 P9
      go_wp2_with fail
      refine t9.mono ?_
      rintro _ w10 ⟨rfl, N10⟩
      have E10 := ((E7.after N8).after N9).after N10
      have M10 : New w7 w10 := (N8.trans N9).trans N10
      clear t9 N8 N9 N10
      have g10 := waiting_any E10
      go_wp2_with fail
      refine g10.mono ?_
      rintro _ w11 ⟨v11, rfl, P11, N11⟩
      obtain ⟨a11, c11, hv11, _⟩ := P11.form
      subst hv11
      have E11 := E10.after N11
      have l11 := limit_any E11
      have n11 := length_any E11
      simp only [seen_length, C.len] at n11
      clear g10 P11
      go_wp2_with fail
      refine l11.mono ?_
      rintro _ w12 ⟨rfl, rfl⟩
      clear l11
      go_wp2_with fail
      refine n11.mono ?_
      rintro _ w13 ⟨rfl, rfl⟩
      clear n11
      have p11 := pages_any E11
      go_wp2_with fail
      refine p11.mono ?_
      rintro _ w14 ⟨v14, rfl, P14, N14⟩
      change Pl w14 _ 9 1 v14 ((latest S.seen []).map textL) at P14
      rw [hsh] at P14
      obtain ⟨a14, c14, hv14, _⟩ := P14.form
      rw [List.length_map, hsl] at hv14
      subst hv14
      have M14 : New w7 w14 := (M10.trans N11).trans N14
      have A14 := A7.new M14
      have hFb : 0 < cs.length → ∀ x, b = some x → ¬ G x.block := fun h0 x hx hGx => by
        have h4 := HB.out.block h0 x hx
        have h5 := hG _ hGx
        omega
      have k14 := crash_more (E11.after N14) b d cs (HB.out.below A14.below (Nat.le_refl _)) hFb (by omega)
      rw [crash_still] at k14
      have HT : Hid (Texts w14 a14 (shown S)) := (Pl.texts P14).1
      have hFt : ∀ x, a14 = some x → ¬ G x.block := fun x hx hGx => by
        subst hx
        have h4 := P14.foot x.block rfl
        unfold Fresh at h4
        have h5 := E11.inside _ hGx
        omega
      have AA : Above w.heap.size w w14 G := ⟨A14.below, fun b hb => Nat.le_trans hs6 (hG b hb), A14.size⟩
      clear p11 P14 hFb
      go_wp2_with fail
      refine k14.mono ?_
      rintro _ w15 ⟨rfl, G15, E15, T15⟩
      have A15 := AA.step T15
      have HT15 : Hid (Texts w15 a14 (shown S)) := HT.out.step T15 hFt
      have p15 := pages_any E15
      clear k14 T15 hFt HT
      go_wp2_with fail
      refine p15.mono ?_
      rintro _ w16 ⟨v16, rfl, P16, N16⟩
      change Pl w16 _ 9 1 v16 ((latest S.seen []).map textL) at P16
      rw [hsh] at P16
      obtain ⟨a16, c16, hv16, _⟩ := P16.form
      rw [List.length_map, hsl] at hv16
      subst hv16
      have t16 := texts_any w16 a16 a14 c16 c14 (shown S) (shown S) (Pl.texts P16).1 (HT15.out.after N16) (by omega)
      rw [hsl, decide_eq_true rfl] at t16
      have A16 := A15.new N16
      clear p15 P16
      go_wp2_with fail
      refine t16.mono ?_
      rintro _ w17 ⟨rfl, N17⟩
      have A17 := A16.new N17
      clear t16
      go_wp2_with fail
      refine (wakes_any _).mono ?_
      rintro _ w18 ⟨rfl, N18⟩
      go_wp2_with fail
      go_ret
      exact ⟨rfl, (A17.new N18).below⟩

end Go.Proofs.Ytamaijolggdakab
