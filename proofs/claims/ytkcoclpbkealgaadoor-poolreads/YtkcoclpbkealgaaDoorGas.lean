/-
  PoolReads, walked.
-/
import Derived.Test.YtkcoclpbkealgaaDoorGan
import Derived.Test.YtkcoclpbkealgaaDoorGar
import Derived.Test.YtkcoclpbkealgaaDoorGap
import Derived.Test.YtkcoclpbkealgaaDoorGaq
namespace Go.Proofs.YtkcoclpbkealgaaDoor
open Go.RowKit
set_option maxRecDepth 40000

def gOf (cs : List UInt8) (a : Nat) : List UInt8 := goodL a (cs.getD a 0)
/-- Between two rounds. -/
structure RS (S : PS) (cs : List UInt8) (n : Nat) : Prop where
  cur : Cur S (gOf cs)
  zero : ∀ j, (S.fm j).pins = 0
  six : S.d.ps.length = 6
  len : S.fs.length = n
theorem reads_round {S : PS} {cs : List UInt8} {n a : Nat} (hI : Inv S) (h : RS S cs n) (hn : 1 ≤ n) (ha : a < 6) :
    ∃ S3, (S.fetch (a : Int)).e = 0 ∧ (S.fetch (a : Int)).t = goodL a (cs.getD a 0) ∧ (S.fetch (a : Int)).S.unpin (a : Int) = (0, S3) ∧ RS S3 cs n := by
  obtain ⟨i, fg⟩ := fetch_good hI h.cur (by rw [h.six]; exact ha) (goodL_right a (cs.getD a 0)) (fun _ => ⟨0, by rw [h.len]; omega, h.zero 0⟩)
  have hp : ((S.fetch (a : Int)).S.fm i).pins = 1 := by rw [fg.pins, h.zero]
  have hil : i < (S.fetch (a : Int)).S.fs.length := by rw [fg.len]; exact fg.lt
  refine ⟨_, fg.e, fg.t, PS.unpin_some fg.idx (by omega), ?_⟩
  refine ⟨fg.cur.same hil rfl rfl rfl, fun j => ?_, by show (S.fetch (a : Int)).S.d.ps.length = 6; rw [fg.ps]; exact h.six, (setF_len _ _ _).trans (fg.len.trans h.len)⟩
  by_cases ej : i = j
  · subst ej; rw [setF_fm_same hil]; show ((S.fetch (a : Int)).S.fm i).pins - 1 = 0; rw [hp]
  · rw [setF_fm_other ej, fg.pins' j (fun h => ej h.symm)]; exact h.zero j
theorem reads_put {S : PS} {cs : List UInt8} {n a : Nat} {v : UInt8} (hI : Inv S) (h : RS S cs n) (hl : cs.length = 6) (hn : 1 ≤ n) (ha : a < 6) : ∃ S1, S.put (a : Int) (goodL a v) = (0, S1) ∧ RS S1 (cs.set a v) n := by
  have pg := put_good hI h.cur (a := a) (by rw [h.six]; exact ha) (goodL_length a v) (fun _ => ⟨0, by rw [h.len]; omega, h.zero 0⟩)
  refine ⟨(S.put (a : Int) (goodL a v)).2, Prod.ext pg.e rfl, ?_, fun j => by rw [pg.pins]; exact h.zero j, by rw [pg.ps]; exact h.six, pg.len.trans h.len⟩
  have : upd (gOf cs) a (goodL a v) = gOf (cs.set a v) := by
    funext b
    unfold upd gOf
    split
    · rename_i hb; subst hb
      rw [List.getD_eq_getElem?_getD, List.getElem?_set_self (by omega)]; rfl
    · rename_i hb
      rw [List.getD_eq_getElem?_getD (l := cs.set a v), List.getElem?_set_ne (fun h => hb h.symm), List.getD_eq_getElem?_getD]
  rw [← this]; exact pg.cur
theorem held_le {S : PS} (_ : Inv S) : (held S.fs).length ≤ S.fs.length := by
  unfold held
  exact Nat.le_trans (List.length_filterMap_le _ _) (by rw [keys_length]; exact Nat.le_refl _)
theorem reads_end {S : PS} {cs : List UInt8} {n : Nat} (hI : Inv S) (h : RS S cs n) (hl : cs.length = 6) (hc : ∀ c ∈ cs, c.toNat < 200) : S.flush.1 = 0 ∧ dirties S.flush.2.fs = [] ∧ latest S.flush.2.d.ps S.flush.2.d.ws = pagesL cs := by
  have fg := flush_good hI h.cur
  refine ⟨fg.e, dirties_none fun j hj => fg.none j (by rw [← fg.len]; exact hj), ?_⟩
  apply List.ext_getElem?
  intro a
  have hps : S.flush.2.d.ps.length = 6 := by rw [show S.flush.2.d.ps = S.d.ps from fg.ps]; exact h.six
  by_cases ha : a < 6
  · have h1 := fg.cur.all (fun j hj => fg.none j (by rw [← fg.len]; exact hj)) (a := a) (by show a < S.flush.2.d.ps.length; omega)
    have h2 : (latest S.flush.2.d.ps S.flush.2.d.ws).getD a [] = pgL a (cs.getD a 0) := by
      refine h1.trans ?_
      unfold gOf pgL
      rw [if_pos]
      rw [List.getD_eq_getElem?_getD, List.getElem?_eq_getElem (by omega)]
      exact hc _ (List.getElem_mem _)
    rw [← pagesL_get (by omega), List.getD_eq_getElem?_getD, List.getD_eq_getElem?_getD, List.getElem?_eq_getElem (by rw [latest_length]; omega), List.getElem?_eq_getElem (by rw [pagesL_length]; omega)] at h2
    rw [List.getElem?_eq_getElem (by rw [latest_length]; omega), List.getElem?_eq_getElem (by rw [pagesL_length]; omega)]
    exact congrArg some h2
  · rw [List.getElem?_eq_none (by rw [latest_length]; omega), List.getElem?_eq_none (by rw [pagesL_length]; omega)]
theorem reads_start {d : St} {n : Nat} (hd : d = ⟨6, pagesL [0, 0, 0, 0, 0, 0], [], -1, false⟩) : RS (startP d n) [0, 0, 0, 0, 0, 0] n := by
  subst hd
  have hno : ∀ j, (startP ⟨6, pagesL [0, 0, 0, 0, 0, 0], [], -1, false⟩ n).fm j = noFm := fun j => by
    show (List.replicate n noFm).getD j noFm = noFm
    rw [List.getD_eq_getElem?_getD, List.getElem?_replicate]
    split <;> rfl
  refine ⟨⟨rfl, rfl, fun j _ hd => absurd (by rw [hno j]; rfl) hd, fun j _ hd => absurd (by rw [hno j]; rfl) hd, fun a ha _ => ?_⟩, fun j => by rw [hno j]; rfl, by show (pagesL [0, 0, 0, 0, 0, 0]).length = 6; rw [pagesL_length]; rfl, List.length_replicate⟩
  have ha6 : a < 6 := by have : a < (pagesL [0, 0, 0, 0, 0, 0]).length := ha; rw [pagesL_length] at this; exact this
  show (latest (pagesL [0, 0, 0, 0, 0, 0]) []).getD a [] = _
  have : latest (pagesL [0, 0, 0, 0, 0, 0]) [] = pagesL [0, 0, 0, 0, 0, 0] := rfl
  rw [this, pagesL_get (by exact ha6)]
  unfold pgL gOf
  rw [if_pos]
  match a, ha6 with
  | 0, _ => decide
  | 1, _ => decide
  | 2, _ => decide
  | 3, _ => decide
  | 4, _ => decide
  | 5, _ => decide

/-! Memory beside a pool. -/
theorem Row.byte {w : World} {g : Nat} {l : List UInt8} {t : TypeId} (R : Row w g (cellsL l).toArray t) {i : Nat} (hi : i < l.length) : w.cell? ⟨g, i, none⟩ = some (.int .u8 ((l.getD i 0).toNat : Int)) := by
  rw [R.cell, List.getElem?_toArray, cellsL, List.getElem?_map, List.getElem?_eq_getElem hi, List.getD_eq_getElem?_getD, List.getElem?_eq_getElem hi]; rfl
theorem Row.byte' {w w' : World} {g : Nat} {l : List UInt8} {t : TypeId} {i : Nat} {v : Value} (R' : Row w' g (cellsL l).toArray t) (h : w.cell? ⟨g, i, none⟩ = some v) (R : Row w g (cellsL l).toArray t) : w'.cell? ⟨g, i, none⟩ = some v := by
  rw [R'.cell, ← R.cell]; exact h
theorem Row.setByte {w : World} {g : Nat} {l : List UInt8} {t : TypeId} (R : Row w g (cellsL l).toArray t) (i : Nat) (v : UInt8) : Row (w.setCell ⟨g, i, none⟩ (.int .u8 (v.toNat : Int))) g (cellsL (l.set i v)).toArray t := by
  have h := R.set i (.int .u8 (v.toNat : Int))
  have e : ((cellsL l).toArray.setIfInBounds i (.int .u8 (v.toNat : Int))) = (cellsL (l.set i v)).toArray := by
    unfold cellsL
    rw [List.setIfInBounds_toArray, List.map_set]
  rw [e] at h; exact h
theorem row_beside {w w' : World} {gN p g b : Nat} {F F' : Nat → Prop} {cs : Array Value} {t : TypeId} (R : Row w gN cs t) (s : Step (own p g b F) (own p g b F') w w') (hn : ¬ own p g b F gN) : Row w' gN cs t ∧ ¬ own p g b F' gN :=
  ⟨R.of (s.block gN R.lt hn), fun h => (s.foot gN h).elim hn (by have := R.lt; omega)⟩
theorem Up.setOther {w0 w : World} {m p g b q gN : Nat} {F : Nat → Prop} {S : PS} (U : Up w0 w m p g b q F S) (hn : ¬ own p g b F gN) (hg : w0.heap.size ≤ gN) (h0 : gN ≠ 0) (i : Nat) (v : Value) : Up w0 (w.setCell ⟨gN, i, none⟩ v) m p g b q F S := by
  have e : ∀ x, x ≠ gN → (w.setCell ⟨gN, i, none⟩ v).heap[x]? = w.heap[x]? := fun x hx => Below.heap_setCell _ _ _ _ hx
  have hs : w.heap.size ≤ (w.setCell ⟨gN, i, none⟩ v).heap.size := by simp [World.setCell]
  have B := U.pool.bits
  refine ⟨⟨U.pool.inv, { B with
    tab := B.tab.of (e 0 h0.symm) hs
    row := B.row.of (e p (fun h => hn (.inl h.symm)))
    pl := B.pl.of (fun x hx _ => e x (fun h => hn (.inr (.inl (h.symm.trans hx))))) (fun _ h _ => h)
    map := by obtain ⟨D, h1, h2⟩ := B.map; exact ⟨D, owns_of h1 (e b (fun h => hn (.inr (.inr (.inl h.symm))))), h2⟩
    disk := B.disk.of (fun x hx => e x (fun h => hn (.inr (.inr (.inr (h ▸ hx)))))) hs }, U.pool.pins, U.pool.room⟩, ⟨Below.setCell U.above.below hg _, U.above.foot, by simpa [World.setCell] using U.above.size⟩⟩
theorem pair_cell {w w' : World} (hB : Below w.heap.size w w') {x : Addr} {i : Nat} {v : Value} (h : w.cell? (x.add (i * 2 + 1)) = some v) : w'.cell? ⟨(x.add (i * 2)).block, (x.add (i * 2)).off + 1, none⟩ = some v ∧ w'.cell? ⟨x.block, (x.add (i * 2)).off + 1, none⟩ = some v := by
  have h1 := cell_below hB h (Nat.le_refl _)
  rw [← Go.Deep.add_add] at h1
  refine ⟨h1, ?_⟩
  rw [← add_block x (i * 2)]
  exact h1
theorem info68 : (Tryd.prog.info? 68).map (fun i => (i.zero, i.size, i.bytes)) = some (some (.agg (cellsL [0, 0, 0, 0, 0, 0]).toArray), 6, 6) := by kernel_rfl
theorem bytes_row {w : World} {g : Nat} {l : List UInt8} {t : TypeId} (R : Row w g (cellsL l).toArray t) : Bytes w (some ⟨g, 0, none⟩) l := fun _ => ⟨_, rfl, fun i hi => by rw [Addr.add_mid, Nat.zero_add]; exact R.byte hi⟩
theorem reads_pages {w : World} {g : Nat} {l : List UInt8} {t : TypeId} (R : Row w g (cellsL l).toArray t) (hl : l.length = 6) : Calls Tryd.prog 10 #[.slice (some ⟨g, 0, none⟩) 6 6] w fun e w' => ∃ v, e = .returned v ∧ Pl w' (Fresh w) 9 1 v ((pagesL l).map textL) ∧ New w w' := by
  have := lawpages_any w (some ⟨g, 0, none⟩) 6 l (bytes_row R) (by omega)
  rw [hl] at this; exact this
theorem pagesL_size (cs : List UInt8) : ∀ x ∈ pagesL cs, x.length = 256 := fun x hx => by
  obtain ⟨i, hi⟩ := List.mem_iff_getElem?.1 hx
  unfold pagesL at hi
  rw [List.getElem?_mapIdx] at hi
  cases h : cs[i]? with
  | none => rw [h] at hi; cases hi
  | some v => rw [h] at hi; simp only [Option.map_some, Option.some.injEq] at hi; rw [← hi]; exact pgL_length i v

set_option maxHeartbeats 8000000 in
theorem reads_walk (f : Int) (a : Option Addr) (c : Nat) (l : List (UInt8 × UInt8)) (w : World) (hf : (Lit.int .u8 f).wf = true) (hP : Pairs w a l) (hl : l.length ≤ maxLen) (hT : Tab w) :
    Calls Tryd.prog 4 #[.int .u8 f, .slice a l.length c] w fun e w' => e = .returned (.bool true) ∧ New w w' := by
  have HT : Hid (Tab w) := hT
  have HP : Hid (Pairs w a l) := hP
  have hl9 : l.length ≤ 9223372036854775807 := by unfold maxLen at hl; omega
  clear hP hl hT
  by_cases h1 : 100 < l.length
  · go_enter Tryd.func4, Tryd.ntmps4
    go_wp2_with fail
    refine (wakes8 w HT.out).mono ?_
    rintro _ w1 ⟨rfl, b1⟩
    go_wp2_with fail
    go_ret
    exact ⟨rfl, b1⟩
  obtain ⟨fb, rfl⟩ := byte_u8 hf
  have hfb := fb.toNat_lt
  generalize fb.toNat = fz at hfb
  clear hf
  obtain ⟨z, hz, hz7⟩ : ∃ z : Nat, (fz : Int) % 7 = (z : Int) ∧ z < 7 := ⟨fz % 7, by omega, by omega⟩
  obtain ⟨n, hn⟩ : ∃ n : Nat, n = 1 + z := ⟨_, rfl⟩
  have hn1 : 1 ≤ n := by omega
  have hn7 : n ≤ 7 := by omega
  have hnz : (1 : Int) + (z : Int) = (n : Int) := by omega
  clear hn
  go_enter Tryd.func4, Tryd.ntmps4
  go_wp2_with (refine wpList_alloc_new (by rfl) 68 (by rfl) _ _ _ info68 ?_; intro W1 R1 N1)
  have hpg := reads_pages R1 rfl
  refine hpg.mono ?_
  rintro _ w1 ⟨v1, rfl, Q1, n1⟩
  have hfr := from_pages Q1 (pagesL_size _) 6 (by decide) (by decide) (by rw [pagesL_length]; decide)
  have R2 := R1.after n1
  have N2 := N1.trans n1
  obtain ⟨gN, hgN⟩ : ∃ gN, w.heap.size = gN := ⟨_, rfl⟩
  clear hpg Q1 R1 N1 n1
  go_wp2_with fail
  refine hfr.mono ?_
  rintro _ w2 ⟨n2, q, Fd, rfl, D2, hF2⟩
  have N3 := N2.trans n2
  have R3 := R2.after n2
  have hs2 := N2.size
  have hlt1 : w.heap.size < w1.heap.size := R2.lt
  have hF2' : ∀ x, Fd x → w.heap.size ≤ x := fun x hx => Nat.le_trans hs2 (hF2 x hx)
  have h02 : ¬ Fd 0 := fun h => by have h1 := hF2' 0 h; have h2 := HT.out.1; omega
  have hnF : ¬ Fd w.heap.size := fun h => by have := hF2 _ h; omega
  have hnp := newpool_any D2 (HT.out.after N3) h02 n hn1 (by omega)
  have hlt2 : w.heap.size < w2.heap.size := R3.lt
  clear hfr N2 n2 R2 D2 hF2 hs2 h02 hlt1
  go_wp2_with fail
  refine hnp.mono ?_
  intro e w3 hm3
  have hnOwn : ∀ p g b, w2.heap.size ≤ p → w2.heap.size ≤ g → w2.heap.size ≤ b → ¬ own p g b Fd w.heap.size := fun p g b h1 h2 h3 h => by
    rcases h with h | h | h | h
    · omega
    · omega
    · omega
    · exact hnF h
  obtain ⟨p, g, b, rfl, hPl, hpp, hgg, hbb, n3⟩ := hm3
  have U3 : Up w w3 0 p g b q Fd (startP ⟨6, pagesL [0, 0, 0, 0, 0, 0], [], -1, false⟩ n) := ⟨hPl 0 (Nat.le_refl _), N3.trans n3, fun x hx => by
    rcases hx with rfl | rfl | rfl | hx
    · have := N3.size; omega
    · have := N3.size; omega
    · have := N3.size; omega
    · exact hF2' x hx, Nat.le_trans N3.size n3.size⟩
  have R4 := R3.after n3
  have no4 := hnOwn p g b hpp hgg hbb
  have RS4 := reads_start (n := n) rfl
  have hg0 : gN ≠ 0 := by have := HT.out.1; omega
  rw [hgN] at R4 no4
  have hgw : w.heap.size ≤ gN := Nat.le_of_eq hgN
  clear hPl hpp hgg hbb n3 hnOwn hnp hF2' hnF hlt2 R3 N3
  generalize (⟨6, pagesL [0, 0, 0, 0, 0, 0], [], -1, false⟩ : St) = d0 at U3 RS4
  clear hgN
  go_wp2_with fail
  go_loopw [10] (fun u wr => ∃ (i : Nat) (S : PS) (cs : List UInt8) (F : Nat → Prop), u = .int .i64 (i : Int) ∧ i ≤ l.length ∧ Up w wr (3 * i) p g b q F S ∧ Row wr gN (cellsL cs).toArray 68 ∧ ¬ own p g b F gN ∧ RS S cs n ∧ cs.length = 6 ∧ ∀ c ∈ cs, c.toNat < 200) (fun u _ => l.length - (intOf u).toNat)
  case atStart => exact ⟨0, _, [0, 0, 0, 0, 0, 0], Fd, rfl, by omega, U3, R4, no4, RS4, rfl, by decide⟩
  case round =>
    clear U3 R4 no4 RS4
    obtain ⟨i, S, cs, F, rfl, hi, U, R, no, RSS, hcl, hcb⟩ := hrel
    by_cases hil : i < l.length
    · obtain ⟨x, rfl, hx⟩ := HP.out (by omega)
      have hx0 := cell_below U.above.below (hx i hil).1 (Nat.le_refl _)
      have hx1 := (hx i hil).2
      clear hx
      generalize l.getD i (0, 0) = uv at hx0 hx1
      obtain ⟨u, v⟩ := uv
      simp only at hx0 hx1
      obtain ⟨hxa, hxb⟩ := pair_cell U.above.below hx1
      clear hx1
      obtain ⟨nn, hnn, hn256⟩ : ∃ nn : Nat, u.toNat = nn ∧ nn < 256 := ⟨_, rfl, UInt8.toNat_lt _⟩
      rw [hnn] at hx0
      clear hnn
      obtain ⟨ka, hka, ha6⟩ : ∃ ka : Nat, (nn : Int) % 6 = (ka : Int) ∧ ka < 6 := ⟨nn % 6, by omega, by omega⟩
      have hil' : (i : Int) < (l.length : Int) := by omega
      by_cases hv : v.toNat < 100
      · have hv' : (v.toNat : Int) < 100 := by omega
        obtain ⟨S1, e1, RS1⟩ := reads_put (v := v) U.pool.inv RSS hcl hn1 ha6
        have hg1 := good_any ka (by omega) v
        have HU : Hid (Up w wr (3 * i) p g b q F S ∧ Row wr gN (cellsL cs).toArray 68 ∧ ¬ own p g b F gN) := ⟨U, R, no⟩
        have hcl1 : (cs.set ka v).length = 6 := by rw [List.length_set]; exact hcl
        have hcb1 : ∀ c ∈ cs.set ka v, c.toNat < 200 := fun c hc => by
          rcases List.mem_or_eq_of_mem_set hc with h | rfl
          · exact hcb c h
          · omega
        have HE1 : Hid (S.put (ka : Int) (goodL ka v) = (0, S1)) := e1
        have HLB : Hid (L (bs (goodL ka v)) = goodL ka v) := L_bs _
        generalize goodL ka v = t1 at hg1 HE1 HLB
        clear U R no RSS e1
        go_wp2_with fail
        refine (hg1 _).mono ?_
        rintro _ w2 ⟨rfl, n2⟩
        have U2 := HU.out.1.new n2
        have hc := put_any' U2.pool (by have := hi; omega) (ka : Int) (by omega) (by omega) (bs t1)
        rw [HLB.out, HE1.out] at hc
        dsimp only at hc
        clear hg1
        go_wp2_with fail
        refine hc.mono ?_
        rintro _ w3 ⟨rfl, F3, P3, s3⟩
        obtain ⟨R3, no3⟩ := row_beside (HU.out.2.1.after n2) s3 HU.out.2.2
        have U3 : Up w w3 (3 * i + 1) p g b q F3 S1 := ⟨P3, U2.above.step s3⟩
        have hr1 := R3.byte (i := ka) (by omega)
        have hr2 := R3.frozen ka
        have U4 := U3.setOther no3 hgw hg0 ka (.int .u8 (v.toNat : Int))
        have R4 := R3.setByte ka v
        clear hc P3 s3 U2 HU n2 U3 R3 hx0 hxa hxb
        go_wp2_with fail
        clear hr1 hr2
        generalize w3.setCell ⟨gN, ka, none⟩ (.int .u8 (v.toNat : Int)) = w4 at U4 R4 ⊢
        generalize cs.set ka v = cs1 at R4 RS1 hcl1 hcb1
        obtain ⟨S3, ef, et, eu, RS3⟩ := reads_round U4.pool.inv RS1 hn1 ha6
        have hc := fetch_any U4.pool (by have := hi; omega) (ka : Int) (by omega) (by omega)
        rw [ef, et] at hc
        have hg2 := good_any ka (by omega) (cs1.getD ka 0)
        have hby := R4.byte (i := ka) (by rw [hcl1]; exact ha6)
        have HB : Hid (Row w4 gN (cellsL cs1).toArray 68 ∧ ¬ own p g b F3 gN) := ⟨R4, no3⟩
        have HEU : Hid ((S1.fetch (ka : Int)).S.unpin (ka : Int) = (0, S3)) := eu
        generalize goodL ka (cs1.getD ka 0) = t at hc hg2
        generalize cs1.getD ka 0 = cv at hg2 hby
        clear ef et eu RS1 R4 no3
        go_wp2_with fail
        refine hc.mono ?_
        rintro _ w5 ⟨rfl, F5, P5, s5⟩
        obtain ⟨R5, no5⟩ := row_beside HB.out.1 s5 HB.out.2
        have hby5 := R5.byte' hby HB.out.1
        have U5 : Up w w5 _ p g b q F5 _ := ⟨P5, U4.above.step s5⟩
        have HR5 : Hid (Row w5 gN (cellsL cs1).toArray 68 ∧ ¬ own p g b F5 gN) := ⟨R5, no5⟩
        clear hc P5 s5 R5 no5 hby HB U4
        go_wp2_with fail
        refine (hg2 _).mono ?_
        rintro _ w6 ⟨rfl, n6⟩
        have U6 := U5.new n6
        have hc := unpin_any U6.pool (by have := hi; omega) (ka : Int) (by omega) (by omega)
        rw [HEU.out] at hc
        dsimp only at hc
        have HR6 : Hid (Row w6 gN (cellsL cs1).toArray 68 ∧ ¬ own p g b F5 gN) := ⟨HR5.out.1.after n6, HR5.out.2⟩
        clear n6 hby5 HR5 U5 hg2
        go_wp2_with fail
        refine hc.mono ?_
        rintro _ w7 ⟨rfl, F7, P7, s7⟩
        obtain ⟨R7, no7⟩ := row_beside HR6.out.1 s7 HR6.out.2
        have U7 : Up w w7 _ p g b q F7 S3 := ⟨P7, U6.above.step s7⟩
        have hh := held_any U7.pool (by have := hi; omega)
        have hlen := held_le U7.pool.inv
        rw [RS3.len] at hlen
        have HR7 : Hid (Row w7 gN (cellsL cs1).toArray 68 ∧ ¬ own p g b F7 gN) := ⟨R7, no7⟩
        clear hc P7 s7 R7 no7 HR6 U6
        go_wp2_with fail
        refine hh.mono ?_
        rintro _ w8 ⟨v8, rfl, Q8, n8⟩
        obtain ⟨a8, c8, rfl, _⟩ := Q8.form
        rw [intsL_length, sorted_length]
        have U8 := U7.new n8
        have HU8 : Hid (Up w w8 (3 * i + 3) p g b q F7 S3 ∧ Row w8 gN (cellsL cs1).toArray 68 ∧ ¬ own p g b F7 gN ∧ RS S3 cs1 n) := ⟨⟨U8.pool.mono (by omega), U8.above⟩, HR7.out.1.after n8, HR7.out.2, RS3⟩
        generalize (held S3.fs).length = hl8 at hlen
        have hlen' : ¬ (n : Int) < (hl8 : Int) := by omega
        clear hh U7 U8 Q8 n8 HR7 RS3
        go_wp2_with fail
        obtain ⟨U9, R9, no9, RS9⟩ := HU8.out
        exact ⟨⟨i + 1, S3, cs1, F7, by simp, by omega, U9, R9, no9, RS9, hcl1, hcb1⟩, by simp [intOf]; omega⟩
      · have hv' : ¬ (v.toNat : Int) < 100 := by omega
        have U4 : Up w wr (3 * i + 1) p g b q F S := ⟨U.pool.mono (by omega), U.above⟩
        clear U
        obtain ⟨S3, ef, et, eu, RS3⟩ := reads_round U4.pool.inv RSS hn1 ha6
        have hc := fetch_any U4.pool (by have := hi; omega) (ka : Int) (by omega) (by omega)
        rw [ef, et] at hc
        have hg2 := good_any ka (by omega) (cs.getD ka 0)
        have hby := R.byte (i := ka) (by rw [hcl]; exact ha6)
        have HB : Hid (Row wr gN (cellsL cs).toArray 68 ∧ ¬ own p g b F gN) := ⟨R, no⟩
        have HEU : Hid ((S.fetch (ka : Int)).S.unpin (ka : Int) = (0, S3)) := eu
        generalize goodL ka (cs.getD ka 0) = t at hc hg2
        generalize cs.getD ka 0 = cv at hg2 hby
        clear ef et eu RSS R no
        go_wp2_with fail
        clear hx0 hxa hxb
        refine hc.mono ?_
        rintro _ w5 ⟨rfl, F5, P5, s5⟩
        obtain ⟨R5, no5⟩ := row_beside HB.out.1 s5 HB.out.2
        have hby5 := R5.byte' hby HB.out.1
        have U5 : Up w w5 _ p g b q F5 _ := ⟨P5, U4.above.step s5⟩
        have HR5 : Hid (Row w5 gN (cellsL cs).toArray 68 ∧ ¬ own p g b F5 gN) := ⟨R5, no5⟩
        clear hc P5 s5 R5 no5 hby HB U4
        go_wp2_with fail
        refine (hg2 _).mono ?_
        rintro _ w6 ⟨rfl, n6⟩
        have U6 := U5.new n6
        have hc := unpin_any U6.pool (by have := hi; omega) (ka : Int) (by omega) (by omega)
        rw [HEU.out] at hc
        dsimp only at hc
        have HR6 : Hid (Row w6 gN (cellsL cs).toArray 68 ∧ ¬ own p g b F5 gN) := ⟨HR5.out.1.after n6, HR5.out.2⟩
        clear n6 hby5 HR5 U5 hg2
        go_wp2_with fail
        refine hc.mono ?_
        rintro _ w7 ⟨rfl, F7, P7, s7⟩
        obtain ⟨R7, no7⟩ := row_beside HR6.out.1 s7 HR6.out.2
        have U7 : Up w w7 _ p g b q F7 S3 := ⟨P7, U6.above.step s7⟩
        have hh := held_any U7.pool (by have := hi; omega)
        have hlen := held_le U7.pool.inv
        rw [RS3.len] at hlen
        have HR7 : Hid (Row w7 gN (cellsL cs).toArray 68 ∧ ¬ own p g b F7 gN) := ⟨R7, no7⟩
        clear hc P7 s7 R7 no7 HR6 U6
        go_wp2_with fail
        refine hh.mono ?_
        rintro _ w8 ⟨v8, rfl, Q8, n8⟩
        obtain ⟨a8, c8, rfl, _⟩ := Q8.form
        rw [intsL_length, sorted_length]
        have U8 := U7.new n8
        have HU8 : Hid (Up w w8 (3 * i + 3) p g b q F7 S3 ∧ Row w8 gN (cellsL cs).toArray 68 ∧ ¬ own p g b F7 gN ∧ RS S3 cs n) := ⟨⟨U8.pool.mono (by omega), U8.above⟩, HR7.out.1.after n8, HR7.out.2, RS3⟩
        generalize (held S3.fs).length = hl8 at hlen
        have hlen' : ¬ (n : Int) < (hl8 : Int) := by omega
        clear hh U7 U8 Q8 n8 HR7 RS3
        go_wp2_with fail
        obtain ⟨U9, R9, no9, RS9⟩ := HU8.out
        exact ⟨⟨i + 1, S3, cs, F7, by simp, by omega, U9, R9, no9, RS9, hcl, hcb⟩, by simp [intOf]; omega⟩
    · obtain rfl : i = l.length := by omega
      obtain ⟨ef, ed, el⟩ := reads_end U.pool.inv RSS hcl hcb
      have hc := flush_any U.pool (by omega)
      rw [ef] at hc
      have HR : Hid (Row wr gN (cellsL cs).toArray 68 ∧ ¬ own p g b F gN ∧ dirties S.flush.2.fs = [] ∧ latest S.flush.2.d.ps S.flush.2.d.ws = pagesL cs ∧ cs.length = 6) := ⟨R, no, ed, el, hcl⟩
      clear ef ed el RSS hcl hcb R no
      go_wp2_with fail
      refine hc.mono ?_
      rintro _ w2 ⟨rfl, F2, P2, s2⟩
      obtain ⟨R2, no2⟩ := row_beside HR.out.1 s2 HR.out.2.1
      have U2 : Up w w2 (3 * l.length) p g b q F2 _ := ⟨P2, U.above.step s2⟩
      have hd := dirty_any U2.pool
      rw [HR.out.2.2.1, show sorted ([] : List Nat) = [] by unfold sorted; simp] at hd
      clear hc P2 s2 U
      go_wp2_with fail
      refine hd.mono ?_
      rintro _ w3 ⟨v3, rfl, Q3, n3⟩
      obtain ⟨a3, c3, rfl, _⟩ := Q3.form
      have U3 := U2.new n3
      have HU3 : Hid (Up w w3 (3 * l.length) p g b q F2 S.flush.2 ∧ Row w3 gN (cellsL cs).toArray 68) := ⟨U3, R2.after n3⟩
      rw [show (intsL ([] : List Nat)).length = 0 from rfl]
      clear hd Q3 U2 R2 n3 no2 U3
      go_wp2_with fail
      have hne := NewW.ne w3
      refine region_segs [([0, 2], 1), ([], 3), ([], 4), ([5], 6), ([7], 8)] (fun w' => ∃ n : NewW w3, w' = n.v) ⟨⟨w3.drew, New.drew w3⟩, rfl⟩ (by kernel_rfl) (by kernel_rfl) (fun d _ _ _ _ h => by cases d <;> exact h) ?_
      unfold wpSegs
      simp only [pick, List.getElem?_cons_succ, List.getElem?_cons_zero, Option.toList_some, List.cons_append, List.nil_append]
      iterate 2 (go_big_quiet_step (fail))
      refine wpQuiet_nil ?_
      have cp := pages_any (HU3.out.1.pool.bits.disk.after (New.drew w3))
      rw [HR.out.2.2.2.1] at cp
      refine wpOp_call (some 117) 34 #[.pointer (some ⟨q, 0, none⟩)] (by rfl) (by rfl) (by rfl) (by go_simp) ?_
      refine cp.mono ?_
      rintro _ W2 ⟨v2, rfl, Q2, N2⟩
      have M2 : New w3 W2 := (New.drew w3).trans N2
      clear cp N2
      refine ⟨_, rfl, ⟨⟨W2, M2⟩, rfl⟩, ?_⟩
      simp only [Act.put, List.setIfInBounds_toArray, List.set_cons_zero, List.set_cons_succ]
      unfold wpSegs
      simp only [pick]
      refine wpQuiet_nil ?_
      have cp := reads_pages (HU3.out.2.after M2) HR.out.2.2.2.2
      refine wpOp_call (some 119) 10 #[.slice (some ⟨gN, 0, none⟩) 6 6] (by rfl) (by rfl) (by rfl) (by go_simp) ?_
      refine cp.mono ?_
      rintro _ W3 ⟨v5, rfl, Q5, N5⟩
      have M3 := M2.trans N5
      have Q2' := Q2.after N5
      obtain ⟨a2, c2, rfl, _⟩ := Q2'.form
      obtain ⟨a5, c5, rfl, _⟩ := Q5.form
      clear cp Q2 N5
      refine ⟨_, rfl, ⟨⟨W3, M3⟩, rfl⟩, ?_⟩
      simp only [Act.put, List.setIfInBounds_toArray, List.set_cons_zero, List.set_cons_succ]
      unfold wpSegs
      simp only [pick]
      refine wpQuiet_nil ?_
      have ct := texts_any W3 a2 a5 c2 c5 ((pagesL cs).map bs) ((pagesL cs).map bs) (texts_of Q2').1 (texts_of Q5).1 (by rw [List.length_map, pagesL_length, HR.out.2.2.2.2]; decide)
      rw [decide_eq_true rfl] at ct
      refine wpOp_call (some 120) 33 #[.slice a2 ((pagesL cs).map textL).length c2, .slice a5 ((pagesL cs).map textL).length c5] (by rfl) (by rfl) (by rfl) (by go_simp) ?_
      rw [List.length_map] at ct ⊢
      refine ct.mono ?_
      rintro _ W4 ⟨rfl, N4⟩
      have M4 := M3.trans N4
      clear ct Q2' Q5 N4
      refine ⟨_, rfl, ⟨⟨W4, M4⟩, rfl⟩, ?_⟩
      simp only [Act.put, List.setIfInBounds_toArray, List.set_cons_zero, List.set_cons_succ]
      unfold wpSegs
      simp only [pick, List.getElem?_cons_succ, List.getElem?_cons_zero, Option.toList_some, List.cons_append, List.nil_append]
      iterate 1 (go_big_quiet_step (fail))
      refine wpQuiet_nil ?_
      refine wpOp_call (some 122) 8 #[] (by rfl) (by rfl) (by rfl) (by go_simp) ?_
      refine (wakes8 W4 (HU3.out.1.pool.bits.tab.after M4)).mono ?_
      rintro _ W5 ⟨rfl, N5⟩
      have M5 := M4.trans N5
      refine ⟨_, rfl, ⟨⟨W5, M5⟩, rfl⟩, ?_⟩
      simp only [Act.put, List.setIfInBounds_toArray, List.set_cons_zero, List.set_cons_succ]
      unfold wpSegs
      simp only [pick, List.getElem?_cons_succ, List.getElem?_cons_zero, Option.toList_some, List.cons_append, List.nil_append]
      iterate 1 (go_big_quiet_step (fail))
      refine wpQuiet_nil ?_
      refine wpOp_run (some 4) (.bool true) W5 (by rfl) (by rfl) (by rfl) (by go_simp) ⟨⟨⟨W5, M5⟩, rfl⟩, ?_⟩
      simp only [Act.put, List.setIfInBounds_toArray, List.set_cons_zero, List.set_cons_succ]
      unfold wpSegs
      have HF : Hid (New w W5) := (HU3.out.1.above.new M5).toNew
      clear hne M2 M3 M4 M5 N5
      go_wp2_with fail
      go_ret
      exact ⟨rfl, HF.out⟩
end Go.Proofs.YtkcoclpbkealgaaDoor
