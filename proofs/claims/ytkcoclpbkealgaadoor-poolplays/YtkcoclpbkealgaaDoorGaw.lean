/-
  PoolReads, walked. PoolPins, walked.
-/
import Derived.Test.YtkcoclpbkealgaaDoorGan
import Derived.Test.YtkcoclpbkealgaaDoorGat
import Derived.Test.YtkcoclpbkealgaaDoorGap
import Derived.Test.YtkcoclpbkealgaaDoorGaq
namespace Go.Proofs.YtkcoclpbkealgaaDoor
open Go.RowKit
set_option maxRecDepth 40000

def gOf (cs : List UInt8) (a : Nat) : List UInt8 := goodL a (cs.getD a 0)
/-- Between two rounds. -/
structure RS (S : PS) (cs : List UInt8) (n : Nat) : Prop where
  cur : Cur S (gOf cs)
  zero : ∀ j, (S.fm j).pins = 0
  six : S.d.ps.length = 6
  len : S.fs.length = n
theorem reads_round {S : PS} {cs : List UInt8} {n a : Nat} (hI : Inv S) (h : RS S cs n) (hn : 1 ≤ n) (ha : a < 6) :
    ∃ S3, (S.fetch (a : Int)).e = 0 ∧ (S.fetch (a : Int)).t = goodL a (cs.getD a 0) ∧ (S.fetch (a : Int)).S.unpin (a : Int) = (0, S3) ∧ RS S3 cs n := by
  obtain ⟨i, fg⟩ := fetch_good hI h.cur (by rw [h.six]; exact ha) (goodL_right a (cs.getD a 0)) (fun _ => ⟨0, by rw [h.len]; omega, h.zero 0⟩)
  have hp : ((S.fetch (a : Int)).S.fm i).pins = 1 := by rw [fg.pins, h.zero]
  have hil : i < (S.fetch (a : Int)).S.fs.length := by rw [fg.len]; exact fg.lt
  refine ⟨_, fg.e, fg.t, PS.unpin_some fg.idx (by omega), ?_⟩
  refine ⟨fg.cur.same hil rfl rfl rfl, fun j => ?_, by show (S.fetch (a : Int)).S.d.ps.length = 6; rw [fg.ps]; exact h.six, (setF_len _ _ _).trans (fg.len.trans h.len)⟩
  by_cases ej : i = j
  · subst ej; rw [setF_fm_same hil]; show ((S.fetch (a : Int)).S.fm i).pins - 1 = 0; rw [hp]
  · rw [setF_fm_other ej, fg.pins' j (fun h => ej h.symm)]; exact h.zero j
theorem reads_put {S : PS} {cs : List UInt8} {n a : Nat} {v : UInt8} (hI : Inv S) (h : RS S cs n) (hl : cs.length = 6) (hn : 1 ≤ n) (ha : a < 6) : ∃ S1, S.put (a : Int) (goodL a v) = (0, S1) ∧ RS S1 (cs.set a v) n := by
  have pg := put_good hI h.cur (a := a) (by rw [h.six]; exact ha) (goodL_length a v) (fun _ => ⟨0, by rw [h.len]; omega, h.zero 0⟩)
  refine ⟨(S.put (a : Int) (goodL a v)).2, Prod.ext pg.e rfl, ?_, fun j => by rw [pg.pins]; exact h.zero j, by rw [pg.ps]; exact h.six, pg.len.trans h.len⟩
  have : upd (gOf cs) a (goodL a v) = gOf (cs.set a v) := by
    funext b
    unfold upd gOf
    split
    · rename_i hb; subst hb
      rw [List.getD_eq_getElem?_getD, List.getElem?_set_self (by omega)]; rfl
    · rename_i hb
      rw [List.getD_eq_getElem?_getD (l := cs.set a v), List.getElem?_set_ne (fun h => hb h.symm), List.getD_eq_getElem?_getD]
  rw [← this]; exact pg.cur
theorem held_le {S : PS} (_ : Inv S) : (held S.fs).length ≤ S.fs.length := by
  unfold held
  exact Nat.le_trans (List.length_filterMap_le _ _) (by rw [keys_length]; exact Nat.le_refl _)
theorem reads_end {S : PS} {cs : List UInt8} {n : Nat} (hI : Inv S) (h : RS S cs n) (hl : cs.length = 6) (hc : ∀ c ∈ cs, c.toNat < 200) : S.flush.1 = 0 ∧ dirties S.flush.2.fs = [] ∧ latest S.flush.2.d.ps S.flush.2.d.ws = pagesL cs := by
  have fg := flush_good hI h.cur
  refine ⟨fg.e, dirties_none fun j hj => fg.none j (by rw [← fg.len]; exact hj), ?_⟩
  apply List.ext_getElem?
  intro a
  have hps : S.flush.2.d.ps.length = 6 := by rw [show S.flush.2.d.ps = S.d.ps from fg.ps]; exact h.six
  by_cases ha : a < 6
  · have h1 := fg.cur.all (fun j hj => fg.none j (by rw [← fg.len]; exact hj)) (a := a) (by show a < S.flush.2.d.ps.length; omega)
    have h2 : (latest S.flush.2.d.ps S.flush.2.d.ws).getD a [] = pgL a (cs.getD a 0) := by
      refine h1.trans ?_
      unfold gOf pgL
      rw [if_pos]
      rw [List.getD_eq_getElem?_getD, List.getElem?_eq_getElem (by omega)]
      exact hc _ (List.getElem_mem _)
    rw [← pagesL_get (by omega), List.getD_eq_getElem?_getD, List.getD_eq_getElem?_getD, List.getElem?_eq_getElem (by rw [latest_length]; omega), List.getElem?_eq_getElem (by rw [pagesL_length]; omega)] at h2
    rw [List.getElem?_eq_getElem (by rw [latest_length]; omega), List.getElem?_eq_getElem (by rw [pagesL_length]; omega)]
    exact congrArg some h2
  · rw [List.getElem?_eq_none (by rw [latest_length]; omega), List.getElem?_eq_none (by rw [pagesL_length]; omega)]
theorem reads_start {d : St} {n : Nat} (hd : d = ⟨6, pagesL [0, 0, 0, 0, 0, 0], [], -1, false⟩) : RS (startP d n) [0, 0, 0, 0, 0, 0] n := by
  subst hd
  have hno : ∀ j, (startP ⟨6, pagesL [0, 0, 0, 0, 0, 0], [], -1, false⟩ n).fm j = noFm := fun j => by
    show (List.replicate n noFm).getD j noFm = noFm
    rw [List.getD_eq_getElem?_getD, List.getElem?_replicate]
    split <;> rfl
  refine ⟨⟨rfl, rfl, fun j _ hd => absurd (by rw [hno j]; rfl) hd, fun j _ hd => absurd (by rw [hno j]; rfl) hd, fun a ha _ => ?_⟩, fun j => by rw [hno j]; rfl, by show (pagesL [0, 0, 0, 0, 0, 0]).length = 6; rw [pagesL_length]; rfl, List.length_replicate⟩
  have ha6 : a < 6 := by have : a < (pagesL [0, 0, 0, 0, 0, 0]).length := ha; rw [pagesL_length] at this; exact this
  show (latest (pagesL [0, 0, 0, 0, 0, 0]) []).getD a [] = _
  have : latest (pagesL [0, 0, 0, 0, 0, 0]) [] = pagesL [0, 0, 0, 0, 0, 0] := rfl
  rw [this, pagesL_get (by exact ha6)]
  unfold pgL gOf
  rw [if_pos]
  match a, ha6 with
  | 0, _ => decide
  | 1, _ => decide
  | 2, _ => decide
  | 3, _ => decide
  | 4, _ => decide
  | 5, _ => decide

/-! Memory beside a pool. -/
theorem Row.byte {w : World} {g : Nat} {l : List UInt8} {t : TypeId} (R : Row w g (cellsL l).toArray t) {i : Nat} (hi : i < l.length) : w.cell? ⟨g, i, none⟩ = some (.int .u8 ((l.getD i 0).toNat : Int)) := by
  rw [R.cell, List.getElem?_toArray, cellsL, List.getElem?_map, List.getElem?_eq_getElem hi, List.getD_eq_getElem?_getD, List.getElem?_eq_getElem hi]; rfl
theorem Row.byte' {w w' : World} {g : Nat} {l : List UInt8} {t : TypeId} {i : Nat} {v : Value} (R' : Row w' g (cellsL l).toArray t) (h : w.cell? ⟨g, i, none⟩ = some v) (R : Row w g (cellsL l).toArray t) : w'.cell? ⟨g, i, none⟩ = some v := by
  rw [R'.cell, ← R.cell]; exact h
theorem Row.setByte {w : World} {g : Nat} {l : List UInt8} {t : TypeId} (R : Row w g (cellsL l).toArray t) (i : Nat) (v : UInt8) : Row (w.setCell ⟨g, i, none⟩ (.int .u8 (v.toNat : Int))) g (cellsL (l.set i v)).toArray t := by
  have h := R.set i (.int .u8 (v.toNat : Int))
  have e : ((cellsL l).toArray.setIfInBounds i (.int .u8 (v.toNat : Int))) = (cellsL (l.set i v)).toArray := by
    unfold cellsL
    rw [List.setIfInBounds_toArray, List.map_set]
  rw [e] at h; exact h
theorem row_beside {w w' : World} {gN p g b : Nat} {F F' : Nat → Prop} {cs : Array Value} {t : TypeId} (R : Row w gN cs t) (s : Step (own p g b F) (own p g b F') w w') (hn : ¬ own p g b F gN) : Row w' gN cs t ∧ ¬ own p g b F' gN :=
  ⟨R.of (s.block gN R.lt hn), fun h => (s.foot gN h).elim hn (by have := R.lt; omega)⟩
theorem Up.setOther {w0 w : World} {m p g b q gN : Nat} {F : Nat → Prop} {S : PS} (U : Up w0 w m p g b q F S) (hn : ¬ own p g b F gN) (hg : w0.heap.size ≤ gN) (h0 : gN ≠ 0) (i : Nat) (v : Value) : Up w0 (w.setCell ⟨gN, i, none⟩ v) m p g b q F S := by
  have e : ∀ x, x ≠ gN → (w.setCell ⟨gN, i, none⟩ v).heap[x]? = w.heap[x]? := fun x hx => Below.heap_setCell _ _ _ _ hx
  have hs : w.heap.size ≤ (w.setCell ⟨gN, i, none⟩ v).heap.size := by simp [World.setCell]
  have B := U.pool.bits
  refine ⟨⟨U.pool.inv, { B with
    tab := B.tab.of (e 0 h0.symm) hs
    row := B.row.of (e p (fun h => hn (.inl h.symm)))
    pl := B.pl.of (fun x hx _ => e x (fun h => hn (.inr (.inl (h.symm.trans hx))))) (fun _ h _ => h)
    map := by obtain ⟨D, h1, h2⟩ := B.map; exact ⟨D, owns_of h1 (e b (fun h => hn (.inr (.inr (.inl h.symm))))), h2⟩
    disk := B.disk.of (fun x hx => e x (fun h => hn (.inr (.inr (.inr (h ▸ hx)))))) hs }, U.pool.pins, U.pool.room⟩, ⟨Below.setCell U.above.below hg _, U.above.foot, by simpa [World.setCell] using U.above.size⟩⟩
theorem pair_cell {w w' : World} (hB : Below w.heap.size w w') {x : Addr} {i : Nat} {v : Value} (h : w.cell? (x.add (i * 2 + 1)) = some v) : w'.cell? ⟨(x.add (i * 2)).block, (x.add (i * 2)).off + 1, none⟩ = some v ∧ w'.cell? ⟨x.block, (x.add (i * 2)).off + 1, none⟩ = some v := by
  have h1 := cell_below hB h (Nat.le_refl _)
  rw [← Go.Deep.add_add] at h1
  refine ⟨h1, ?_⟩
  rw [← add_block x (i * 2)]
  exact h1
theorem info68 : (Tryd.prog.info? 68).map (fun i => (i.zero, i.size, i.bytes)) = some (some (.agg (cellsL [0, 0, 0, 0, 0, 0]).toArray), 6, 6) := by kernel_rfl
theorem bytes_row {w : World} {g : Nat} {l : List UInt8} {t : TypeId} (R : Row w g (cellsL l).toArray t) : Bytes w (some ⟨g, 0, none⟩) l := fun _ => ⟨_, rfl, fun i hi => by rw [Addr.add_mid, Nat.zero_add]; exact R.byte hi⟩
theorem reads_pages {w : World} {g : Nat} {l : List UInt8} {t : TypeId} (R : Row w g (cellsL l).toArray t) (hl : l.length = 6) : Calls Tryd.prog 10 #[.slice (some ⟨g, 0, none⟩) 6 6] w fun e w' => ∃ v, e = .returned v ∧ Pl w' (Fresh w) 9 1 v ((pagesL l).map textL) ∧ New w w' := by
  have := lawpages_any w (some ⟨g, 0, none⟩) 6 l (bytes_row R) (by omega)
  rw [hl] at this; exact this
theorem pagesL_size (cs : List UInt8) : ∀ x ∈ pagesL cs, x.length = 256 := fun x hx => by
  obtain ⟨i, hi⟩ := List.mem_iff_getElem?.1 hx
  unfold pagesL at hi
  rw [List.getElem?_mapIdx] at hi
  cases h : cs[i]? with
  | none => rw [h] at hi; cases hi
  | some v => rw [h] at hi; simp only [Option.map_some, Option.some.injEq] at hi; rw [← hi]; exact pgL_length i v

set_option maxHeartbeats 8000000 in
theorem reads_walk (f : Int) (a : Option Addr) (c : Nat) (l : List (UInt8 × UInt8)) (w : World) (hf : (Lit.int .u8 f).wf = true) (hP : Pairs w a l) (hl : l.length ≤ maxLen) (hT : Tab w) :
    Calls Tryd.prog 4 #[.int .u8 f, .slice a l.length c] w fun e w' => e = .returned (.bool true) ∧ New w w' := by
  have HT : Hid (Tab w) := hT
  have HP : Hid (Pairs w a l) := hP
  have hl9 : l.length ≤ 9223372036854775807 := by unfold maxLen at hl; omega
  clear hP hl hT
  by_cases h1 : 100 < l.length
  · go_enter Tryd.func4, Tryd.ntmps4
    go_wp2_with fail
    refine (wakes8 w HT.out).mono ?_
    rintro _ w1 ⟨rfl, b1⟩
    go_wp2_with fail
    go_ret
    exact ⟨rfl, b1⟩
  obtain ⟨fb, rfl⟩ := byte_u8 hf
  have hfb := fb.toNat_lt
  generalize fb.toNat = fz at hfb
  clear hf
  obtain ⟨z, hz, hz7⟩ : ∃ z : Nat, (fz : Int) % 7 = (z : Int) ∧ z < 7 := ⟨fz % 7, by omega, by omega⟩
  obtain ⟨n, hn⟩ : ∃ n : Nat, n = 1 + z := ⟨_, rfl⟩
  have hn1 : 1 ≤ n := by omega
  have hn7 : n ≤ 7 := by omega
  have hnz : (1 : Int) + (z : Int) = (n : Int) := by omega
  clear hn
  go_enter Tryd.func4, Tryd.ntmps4
  go_wp2_with (refine wpList_alloc_new (by rfl) 68 (by rfl) _ _ _ info68 ?_; intro W1 R1 N1)
  have hpg := reads_pages R1 rfl
  refine hpg.mono ?_
  rintro _ w1 ⟨v1, rfl, Q1, n1⟩
  have hfr := from_pages Q1 (pagesL_size _) 6 (by decide) (by decide) (by rw [pagesL_length]; decide)
  have R2 := R1.after n1
  have N2 := N1.trans n1
  obtain ⟨gN, hgN⟩ : ∃ gN, w.heap.size = gN := ⟨_, rfl⟩
  clear hpg Q1 R1 N1 n1
  go_wp2_with fail
  refine hfr.mono ?_
  rintro _ w2 ⟨n2, q, Fd, rfl, D2, hF2⟩
  have N3 := N2.trans n2
  have R3 := R2.after n2
  have hs2 := N2.size
  have hlt1 : w.heap.size < w1.heap.size := R2.lt
  have hF2' : ∀ x, Fd x → w.heap.size ≤ x := fun x hx => Nat.le_trans hs2 (hF2 x hx)
  have h02 : ¬ Fd 0 := fun h => by have h1 := hF2' 0 h; have h2 := HT.out.1; omega
  have hnF : ¬ Fd w.heap.size := fun h => by have := hF2 _ h; omega
  have hnp := newpool_any D2 (HT.out.after N3) h02 n hn1 (by omega)
  have hlt2 : w.heap.size < w2.heap.size := R3.lt
  clear hfr N2 n2 R2 D2 hF2 hs2 h02 hlt1
  go_wp2_with fail
  refine hnp.mono ?_
  intro e w3 hm3
  have hnOwn : ∀ p g b, w2.heap.size ≤ p → w2.heap.size ≤ g → w2.heap.size ≤ b → ¬ own p g b Fd w.heap.size := fun p g b h1 h2 h3 h => by
    rcases h with h | h | h | h
    · omega
    · omega
    · omega
    · exact hnF h
  obtain ⟨p, g, b, rfl, hPl, hpp, hgg, hbb, n3⟩ := hm3
  have U3 : Up w w3 0 p g b q Fd (startP ⟨6, pagesL [0, 0, 0, 0, 0, 0], [], -1, false⟩ n) := ⟨hPl 0 (Nat.le_refl _), N3.trans n3, fun x hx => by
    rcases hx with rfl | rfl | rfl | hx
    · have := N3.size; omega
    · have := N3.size; omega
    · have := N3.size; omega
    · exact hF2' x hx, Nat.le_trans N3.size n3.size⟩
  have R4 := R3.after n3
  have no4 := hnOwn p g b hpp hgg hbb
  have RS4 := reads_start (n := n) rfl
  have hg0 : gN ≠ 0 := by have := HT.out.1; omega
  rw [hgN] at R4 no4
  have hgw : w.heap.size ≤ gN := Nat.le_of_eq hgN
  clear hPl hpp hgg hbb n3 hnOwn hnp hF2' hnF hlt2 R3 N3
  generalize (⟨6, pagesL [0, 0, 0, 0, 0, 0], [], -1, false⟩ : St) = d0 at U3 RS4
  clear hgN
  go_wp2_with fail
  go_loopw [10] (fun u wr => ∃ (i : Nat) (S : PS) (cs : List UInt8) (F : Nat → Prop), u = .int .i64 (i : Int) ∧ i ≤ l.length ∧ Up w wr (3 * i) p g b q F S ∧ Row wr gN (cellsL cs).toArray 68 ∧ ¬ own p g b F gN ∧ RS S cs n ∧ cs.length = 6 ∧ ∀ c ∈ cs, c.toNat < 200) (fun u _ => l.length - (intOf u).toNat)
  case atStart => exact ⟨0, _, [0, 0, 0, 0, 0, 0], Fd, rfl, by omega, U3, R4, no4, RS4, rfl, by decide⟩
  case round =>
    clear U3 R4 no4 RS4
    obtain ⟨i, S, cs, F, rfl, hi, U, R, no, RSS, hcl, hcb⟩ := hrel
    by_cases hil : i < l.length
    · obtain ⟨x, rfl, hx⟩ := HP.out (by omega)
      have hx0 := cell_below U.above.below (hx i hil).1 (Nat.le_refl _)
      have hx1 := (hx i hil).2
      clear hx
      generalize l.getD i (0, 0) = uv at hx0 hx1
      obtain ⟨u, v⟩ := uv
      simp only at hx0 hx1
      obtain ⟨hxa, hxb⟩ := pair_cell U.above.below hx1
      clear hx1
      obtain ⟨nn, hnn, hn256⟩ : ∃ nn : Nat, u.toNat = nn ∧ nn < 256 := ⟨_, rfl, UInt8.toNat_lt _⟩
      rw [hnn] at hx0
      clear hnn
      obtain ⟨ka, hka, ha6⟩ : ∃ ka : Nat, (nn : Int) % 6 = (ka : Int) ∧ ka < 6 := ⟨nn % 6, by omega, by omega⟩
      have hil' : (i : Int) < (l.length : Int) := by omega
      by_cases hv : v.toNat < 100
      · have hv' : (v.toNat : Int) < 100 := by omega
        obtain ⟨S1, e1, RS1⟩ := reads_put (v := v) U.pool.inv RSS hcl hn1 ha6
        have hg1 := good_any ka (by omega) v
        have HU : Hid (Up w wr (3 * i) p g b q F S ∧ Row wr gN (cellsL cs).toArray 68 ∧ ¬ own p g b F gN) := ⟨U, R, no⟩
        have hcl1 : (cs.set ka v).length = 6 := by rw [List.length_set]; exact hcl
        have hcb1 : ∀ c ∈ cs.set ka v, c.toNat < 200 := fun c hc => by
          rcases List.mem_or_eq_of_mem_set hc with h | rfl
          · exact hcb c h
          · omega
        have HE1 : Hid (S.put (ka : Int) (goodL ka v) = (0, S1)) := e1
        have HLB : Hid (L (bs (goodL ka v)) = goodL ka v) := L_bs _
        generalize goodL ka v = t1 at hg1 HE1 HLB
        clear U R no RSS e1
        go_wp2_with fail
        refine (hg1 _).mono ?_
        rintro _ w2 ⟨rfl, n2⟩
        have U2 := HU.out.1.new n2
        have hc := put_any' U2.pool (by have := hi; omega) (ka : Int) (by omega) (by omega) (bs t1)
        rw [HLB.out, HE1.out] at hc
        dsimp only at hc
        clear hg1
        go_wp2_with fail
        refine hc.mono ?_
        rintro _ w3 ⟨rfl, F3, P3, s3⟩
        obtain ⟨R3, no3⟩ := row_beside (HU.out.2.1.after n2) s3 HU.out.2.2
        have U3 : Up w w3 (3 * i + 1) p g b q F3 S1 := ⟨P3, U2.above.step s3⟩
        have hr1 := R3.byte (i := ka) (by omega)
        have hr2 := R3.frozen ka
        have U4 := U3.setOther no3 hgw hg0 ka (.int .u8 (v.toNat : Int))
        have R4 := R3.setByte ka v
        clear hc P3 s3 U2 HU n2 U3 R3 hx0 hxa hxb
        go_wp2_with fail
        clear hr1 hr2
        generalize w3.setCell ⟨gN, ka, none⟩ (.int .u8 (v.toNat : Int)) = w4 at U4 R4 ⊢
        generalize cs.set ka v = cs1 at R4 RS1 hcl1 hcb1
        obtain ⟨S3, ef, et, eu, RS3⟩ := reads_round U4.pool.inv RS1 hn1 ha6
        have hc := fetch_any U4.pool (by have := hi; omega) (ka : Int) (by omega) (by omega)
        rw [ef, et] at hc
        have hg2 := good_any ka (by omega) (cs1.getD ka 0)
        have hby := R4.byte (i := ka) (by rw [hcl1]; exact ha6)
        have HB : Hid (Row w4 gN (cellsL cs1).toArray 68 ∧ ¬ own p g b F3 gN) := ⟨R4, no3⟩
        have HEU : Hid ((S1.fetch (ka : Int)).S.unpin (ka : Int) = (0, S3)) := eu
        generalize goodL ka (cs1.getD ka 0) = t at hc hg2
        generalize cs1.getD ka 0 = cv at hg2 hby
        clear ef et eu RS1 R4 no3
        go_wp2_with fail
        refine hc.mono ?_
        rintro _ w5 ⟨rfl, F5, P5, s5⟩
        obtain ⟨R5, no5⟩ := row_beside HB.out.1 s5 HB.out.2
        have hby5 := R5.byte' hby HB.out.1
        have U5 : Up w w5 _ p g b q F5 _ := ⟨P5, U4.above.step s5⟩
        have HR5 : Hid (Row w5 gN (cellsL cs1).toArray 68 ∧ ¬ own p g b F5 gN) := ⟨R5, no5⟩
        clear hc P5 s5 R5 no5 hby HB U4
        go_wp2_with fail
        refine (hg2 _).mono ?_
        rintro _ w6 ⟨rfl, n6⟩
        have U6 := U5.new n6
        have hc := unpin_any U6.pool (by have := hi; omega) (ka : Int) (by omega) (by omega)
        rw [HEU.out] at hc
        dsimp only at hc
        have HR6 : Hid (Row w6 gN (cellsL cs1).toArray 68 ∧ ¬ own p g b F5 gN) := ⟨HR5.out.1.after n6, HR5.out.2⟩
        clear n6 hby5 HR5 U5 hg2
        go_wp2_with fail
        refine hc.mono ?_
        rintro _ w7 ⟨rfl, F7, P7, s7⟩
        obtain ⟨R7, no7⟩ := row_beside HR6.out.1 s7 HR6.out.2
        have U7 : Up w w7 _ p g b q F7 S3 := ⟨P7, U6.above.step s7⟩
        have hh := held_any U7.pool (by have := hi; omega)
        have hlen := held_le U7.pool.inv
        rw [RS3.len] at hlen
        have HR7 : Hid (Row w7 gN (cellsL cs1).toArray 68 ∧ ¬ own p g b F7 gN) := ⟨R7, no7⟩
        clear hc P7 s7 R7 no7 HR6 U6
        go_wp2_with fail
        refine hh.mono ?_
        rintro _ w8 ⟨v8, rfl, Q8, n8⟩
        obtain ⟨a8, c8, rfl, _⟩ := Q8.form
        rw [intsL_length, sorted_length]
        have U8 := U7.new n8
        have HU8 : Hid (Up w w8 (3 * i + 3) p g b q F7 S3 ∧ Row w8 gN (cellsL cs1).toArray 68 ∧ ¬ own p g b F7 gN ∧ RS S3 cs1 n) := ⟨⟨U8.pool.mono (by omega), U8.above⟩, HR7.out.1.after n8, HR7.out.2, RS3⟩
        generalize (held S3.fs).length = hl8 at hlen
        have hlen' : ¬ (n : Int) < (hl8 : Int) := by omega
        clear hh U7 U8 Q8 n8 HR7 RS3
        go_wp2_with fail
        obtain ⟨U9, R9, no9, RS9⟩ := HU8.out
        exact ⟨⟨i + 1, S3, cs1, F7, by simp, by omega, U9, R9, no9, RS9, hcl1, hcb1⟩, by simp [intOf]; omega⟩
      · have hv' : ¬ (v.toNat : Int) < 100 := by omega
        have U4 : Up w wr (3 * i + 1) p g b q F S := ⟨U.pool.mono (by omega), U.above⟩
        clear U
        obtain ⟨S3, ef, et, eu, RS3⟩ := reads_round U4.pool.inv RSS hn1 ha6
        have hc := fetch_any U4.pool (by have := hi; omega) (ka : Int) (by omega) (by omega)
        rw [ef, et] at hc
        have hg2 := good_any ka (by omega) (cs.getD ka 0)
        have hby := R.byte (i := ka) (by rw [hcl]; exact ha6)
        have HB : Hid (Row wr gN (cellsL cs).toArray 68 ∧ ¬ own p g b F gN) := ⟨R, no⟩
        have HEU : Hid ((S.fetch (ka : Int)).S.unpin (ka : Int) = (0, S3)) := eu
        generalize goodL ka (cs.getD ka 0) = t at hc hg2
        generalize cs.getD ka 0 = cv at hg2 hby
        clear ef et eu RSS R no
        go_wp2_with fail
        clear hx0 hxa hxb
        refine hc.mono ?_
        rintro _ w5 ⟨rfl, F5, P5, s5⟩
        obtain ⟨R5, no5⟩ := row_beside HB.out.1 s5 HB.out.2
        have hby5 := R5.byte' hby HB.out.1
        have U5 : Up w w5 _ p g b q F5 _ := ⟨P5, U4.above.step s5⟩
        have HR5 : Hid (Row w5 gN (cellsL cs).toArray 68 ∧ ¬ own p g b F5 gN) := ⟨R5, no5⟩
        clear hc P5 s5 R5 no5 hby HB U4
        go_wp2_with fail
        refine (hg2 _).mono ?_
        rintro _ w6 ⟨rfl, n6⟩
        have U6 := U5.new n6
        have hc := unpin_any U6.pool (by have := hi; omega) (ka : Int) (by omega) (by omega)
        rw [HEU.out] at hc
        dsimp only at hc
        have HR6 : Hid (Row w6 gN (cellsL cs).toArray 68 ∧ ¬ own p g b F5 gN) := ⟨HR5.out.1.after n6, HR5.out.2⟩
        clear n6 hby5 HR5 U5 hg2
        go_wp2_with fail
        refine hc.mono ?_
        rintro _ w7 ⟨rfl, F7, P7, s7⟩
        obtain ⟨R7, no7⟩ := row_beside HR6.out.1 s7 HR6.out.2
        have U7 : Up w w7 _ p g b q F7 S3 := ⟨P7, U6.above.step s7⟩
        have hh := held_any U7.pool (by have := hi; omega)
        have hlen := held_le U7.pool.inv
        rw [RS3.len] at hlen
        have HR7 : Hid (Row w7 gN (cellsL cs).toArray 68 ∧ ¬ own p g b F7 gN) := ⟨R7, no7⟩
        clear hc P7 s7 R7 no7 HR6 U6
        go_wp2_with fail
        refine hh.mono ?_
        rintro _ w8 ⟨v8, rfl, Q8, n8⟩
        obtain ⟨a8, c8, rfl, _⟩ := Q8.form
        rw [intsL_length, sorted_length]
        have U8 := U7.new n8
        have HU8 : Hid (Up w w8 (3 * i + 3) p g b q F7 S3 ∧ Row w8 gN (cellsL cs).toArray 68 ∧ ¬ own p g b F7 gN ∧ RS S3 cs n) := ⟨⟨U8.pool.mono (by omega), U8.above⟩, HR7.out.1.after n8, HR7.out.2, RS3⟩
        generalize (held S3.fs).length = hl8 at hlen
        have hlen' : ¬ (n : Int) < (hl8 : Int) := by omega
        clear hh U7 U8 Q8 n8 HR7 RS3
        go_wp2_with fail
        obtain ⟨U9, R9, no9, RS9⟩ := HU8.out
        exact ⟨⟨i + 1, S3, cs, F7, by simp, by omega, U9, R9, no9, RS9, hcl, hcb⟩, by simp [intOf]; omega⟩
    · obtain rfl : i = l.length := by omega
      obtain ⟨ef, ed, el⟩ := reads_end U.pool.inv RSS hcl hcb
      have hc := flush_any U.pool (by omega)
      rw [ef] at hc
      have HR : Hid (Row wr gN (cellsL cs).toArray 68 ∧ ¬ own p g b F gN ∧ dirties S.flush.2.fs = [] ∧ latest S.flush.2.d.ps S.flush.2.d.ws = pagesL cs ∧ cs.length = 6) := ⟨R, no, ed, el, hcl⟩
      clear ef ed el RSS hcl hcb R no
      go_wp2_with fail
      refine hc.mono ?_
      rintro _ w2 ⟨rfl, F2, P2, s2⟩
      obtain ⟨R2, no2⟩ := row_beside HR.out.1 s2 HR.out.2.1
      have U2 : Up w w2 (3 * l.length) p g b q F2 _ := ⟨P2, U.above.step s2⟩
      have hd := dirty_any U2.pool
      rw [HR.out.2.2.1, show sorted ([] : List Nat) = [] by unfold sorted; simp] at hd
      clear hc P2 s2 U
      go_wp2_with fail
      refine hd.mono ?_
      rintro _ w3 ⟨v3, rfl, Q3, n3⟩
      obtain ⟨a3, c3, rfl, _⟩ := Q3.form
      have U3 := U2.new n3
      have HU3 : Hid (Up w w3 (3 * l.length) p g b q F2 S.flush.2 ∧ Row w3 gN (cellsL cs).toArray 68) := ⟨U3, R2.after n3⟩
      rw [show (intsL ([] : List Nat)).length = 0 from rfl]
      clear hd Q3 U2 R2 n3 no2 U3
      go_wp2_with fail
      have hne := NewW.ne w3
      refine region_segs [([0, 2], 1), ([], 3), ([], 4), ([5], 6), ([7], 8)] (fun w' => ∃ n : NewW w3, w' = n.v) ⟨⟨w3.drew, New.drew w3⟩, rfl⟩ (by kernel_rfl) (by kernel_rfl) (fun d _ _ _ _ h => by cases d <;> exact h) ?_
      unfold wpSegs
      simp only [pick, List.getElem?_cons_succ, List.getElem?_cons_zero, Option.toList_some, List.cons_append, List.nil_append]
      iterate 2 (go_big_quiet_step (fail))
      refine wpQuiet_nil ?_
      have cp := pages_any (HU3.out.1.pool.bits.disk.after (New.drew w3))
      rw [HR.out.2.2.2.1] at cp
      refine wpOp_call (some 117) 34 #[.pointer (some ⟨q, 0, none⟩)] (by rfl) (by rfl) (by rfl) (by go_simp) ?_
      refine cp.mono ?_
      rintro _ W2 ⟨v2, rfl, Q2, N2⟩
      have M2 : New w3 W2 := (New.drew w3).trans N2
      clear cp N2
      refine ⟨_, rfl, ⟨⟨W2, M2⟩, rfl⟩, ?_⟩
      simp only [Act.put, List.setIfInBounds_toArray, List.set_cons_zero, List.set_cons_succ]
      unfold wpSegs
      simp only [pick]
      refine wpQuiet_nil ?_
      have cp := reads_pages (HU3.out.2.after M2) HR.out.2.2.2.2
      refine wpOp_call (some 119) 10 #[.slice (some ⟨gN, 0, none⟩) 6 6] (by rfl) (by rfl) (by rfl) (by go_simp) ?_
      refine cp.mono ?_
      rintro _ W3 ⟨v5, rfl, Q5, N5⟩
      have M3 := M2.trans N5
      have Q2' := Q2.after N5
      obtain ⟨a2, c2, rfl, _⟩ := Q2'.form
      obtain ⟨a5, c5, rfl, _⟩ := Q5.form
      clear cp Q2 N5
      refine ⟨_, rfl, ⟨⟨W3, M3⟩, rfl⟩, ?_⟩
      simp only [Act.put, List.setIfInBounds_toArray, List.set_cons_zero, List.set_cons_succ]
      unfold wpSegs
      simp only [pick]
      refine wpQuiet_nil ?_
      have ct := texts_any W3 a2 a5 c2 c5 ((pagesL cs).map bs) ((pagesL cs).map bs) (texts_of Q2').1 (texts_of Q5).1 (by rw [List.length_map, pagesL_length, HR.out.2.2.2.2]; decide)
      rw [decide_eq_true rfl] at ct
      refine wpOp_call (some 120) 33 #[.slice a2 ((pagesL cs).map textL).length c2, .slice a5 ((pagesL cs).map textL).length c5] (by rfl) (by rfl) (by rfl) (by go_simp) ?_
      rw [List.length_map] at ct ⊢
      refine ct.mono ?_
      rintro _ W4 ⟨rfl, N4⟩
      have M4 := M3.trans N4
      clear ct Q2' Q5 N4
      refine ⟨_, rfl, ⟨⟨W4, M4⟩, rfl⟩, ?_⟩
      simp only [Act.put, List.setIfInBounds_toArray, List.set_cons_zero, List.set_cons_succ]
      unfold wpSegs
      simp only [pick, List.getElem?_cons_succ, List.getElem?_cons_zero, Option.toList_some, List.cons_append, List.nil_append]
      iterate 1 (go_big_quiet_step (fail))
      refine wpQuiet_nil ?_
      refine wpOp_call (some 122) 8 #[] (by rfl) (by rfl) (by rfl) (by go_simp) ?_
      refine (wakes8 W4 (HU3.out.1.pool.bits.tab.after M4)).mono ?_
      rintro _ W5 ⟨rfl, N5⟩
      have M5 := M4.trans N5
      refine ⟨_, rfl, ⟨⟨W5, M5⟩, rfl⟩, ?_⟩
      simp only [Act.put, List.setIfInBounds_toArray, List.set_cons_zero, List.set_cons_succ]
      unfold wpSegs
      simp only [pick, List.getElem?_cons_succ, List.getElem?_cons_zero, Option.toList_some, List.cons_append, List.nil_append]
      iterate 1 (go_big_quiet_step (fail))
      refine wpQuiet_nil ?_
      refine wpOp_run (some 4) (.bool true) W5 (by rfl) (by rfl) (by rfl) (by go_simp) ⟨⟨⟨W5, M5⟩, rfl⟩, ?_⟩
      simp only [Act.put, List.setIfInBounds_toArray, List.set_cons_zero, List.set_cons_succ]
      unfold wpSegs
      have HF : Hid (New w W5) := (HU3.out.1.above.new M5).toNew
      clear hne M2 M3 M4 M5 N5
      go_wp2_with fail
      go_ret
      exact ⟨rfl, HF.out⟩
end Go.Proofs.YtkcoclpbkealgaaDoor
namespace Go.Proofs.YtkcoclpbkealgaaDoor
open Go.RowKit
set_option maxRecDepth 40000

def g0 (a : Nat) : List UInt8 := goodL a 0
/-- A page that was not there comes into the frame that is found. -/
theorem fetch_frame {S : PS} {a : Nat} (hI : Inv S) (hI' : Inv (S.fetch (a : Int)).S) (hn : idx (a : Int) (keys S.fs) = none) (he : (S.fetch (a : Int)).e = 0) : idx (a : Int) (keys (S.fetch (a : Int)).S.fs) = some S.find.i := by
  by_cases h0 : (S.readIn (a : Int)).e = 0
  · have e := PS.fetch_yes hn h0
    by_cases h1 : S.find.e = 0
    · have fo := find_ok hI h1
      have hil : S.find.i < S.find.S.fs.length := by rw [fo.len]; exact fo.lt
      by_cases h2 : (S.find.S.d.read (a : Int)).1 = 0
      · cases h3 : rightB (S.find.S.d.read (a : Int)).2
        · rw [PS.readIn_page h1 h2 h3] at h0; cases h0
        · have e1 := PS.readIn_yes h1 h2 h3
          rw [e1, Int.toNat_natCast] at e
          have hne : (S.find.S.d.read (a : Int)).2 ≠ [] := fun h => by rw [h] at h3; exact absurd h3 (by decide)
          refine idx_eq hI'.apart (x := a) ?_ rfl
          rw [e]
          show (keys (((S.find.S.fs.set S.find.i _)).set S.find.i _))[S.find.i]? = _
          rw [List.set_set, keys_set, List.getElem?_set_self (by rw [keys_length]; exact hil)]
          have : (S.find.S.setF S.find.i ⟨a, (S.find.S.d.read (a : Int)).2, 0, false, false⟩).fm S.find.i = ⟨a, (S.find.S.d.read (a : Int)).2, 0, false, false⟩ := setF_fm_same hil _
          rw [this, key_of hne]
      · rw [PS.readIn_disk h1 h2] at h0; exact absurd h0 h2
    · rw [PS.readIn_no h1] at h0; exact absurd h0 h1
  · rw [PS.fetch_no hn h0] at he; exact absurd he h0
/-- The first frames have a pin each. -/
structure PA (S : PS) (n i : Nat) : Prop where
  cur : Cur S g0
  nine : S.d.ps.length = 9
  len : S.fs.length = n
  pins : ∀ k, k < i → (S.fm k).pins = 1
  at_ : ∀ k, k < i → (S.fm k).at_ = k
  full : ∀ k, k < i → (S.fm k).data ≠ []
  rest : ∀ j, i ≤ j → (S.fm j).data = []
theorem PA.keys_lt {S : PS} {n i : Nat} (h : PA S n i) (hi : i ≤ n) {k : Nat} (hk : k < i) : (keys S.fs)[k]? = some (some k) := by
  rw [keys_at (by rw [h.len]; omega)]; exact congrArg some ((key_of (h.full k hk)).trans (congrArg some (h.at_ k hk)))
theorem PA.start {d : St} {n : Nat} (hd : d = ⟨9, pagesL (List.replicate 9 0), [], -1, false⟩) : PA (startP d n) n 0 := by
  subst hd
  have hno : ∀ j, (startP ⟨9, pagesL (List.replicate 9 0), [], -1, false⟩ n).fm j = noFm := fun j => by
    show (List.replicate n noFm).getD j noFm = noFm
    rw [List.getD_eq_getElem?_getD, List.getElem?_replicate]
    split <;> rfl
  refine ⟨⟨rfl, rfl, fun j _ hd => absurd (by rw [hno j]; rfl) hd, fun j _ hd => absurd (by rw [hno j]; rfl) hd, fun a ha _ => ?_⟩, by show (pagesL (List.replicate 9 0)).length = 9; rw [pagesL_length]; rfl, List.length_replicate, fun k hk => by omega, fun k hk => by omega, fun k hk => by omega, fun j _ => by rw [hno j]; rfl⟩
  have ha9 : a < 9 := by have : a < (pagesL (List.replicate 9 0)).length := ha; rw [pagesL_length] at this; exact this
  show (latest (pagesL (List.replicate 9 0)) []).getD a [] = _
  have : latest (pagesL (List.replicate 9 0)) [] = pagesL (List.replicate 9 0) := rfl
  rw [this, pagesL_get (by exact ha9)]
  have h0 : (List.replicate 9 (0 : UInt8)).getD a 0 = 0 := by rw [List.getD_eq_getElem?_getD, List.getElem?_replicate]; split <;> rfl
  rw [h0]
  unfold pgL g0
  rw [if_pos (by decide)]
theorem PA.next {S : PS} {n i : Nat} (h : PA S n i) (hI : Inv S) (hin : i < n) (hn9 : n ≤ 9) : (S.fetch (i : Int)).e = 0 ∧ (Inv (S.fetch (i : Int)).S → PA (S.fetch (i : Int)).S n (i + 1)) := by
  have hno : ∀ j, i ≤ j → j < n → (keys S.fs)[j]? = some none := fun j hj hjn => by
    have hd : (S.fs.getD j noFm).data = [] := h.rest j hj
    rw [keys_at (by rw [h.len]; exact hjn)]; unfold Fm.key; rw [if_pos hd]
  have hix : idx (i : Int) (keys S.fs) = none := by
    cases h1 : idx (i : Int) (keys S.fs) with
    | none => rfl
    | some j =>
      obtain ⟨hj, hf, hat⟩ := idx_full h1
      by_cases hji : j < i
      · have := h.at_ j hji; omega
      · exact absurd (h.rest j (by omega)) hf
  have hfree : freeAt (keys S.fs) = some i := freeAt_found (hno i (Nat.le_refl _) hin) (fun j hj => by rw [h.keys_lt (by omega) hj]; simp)
  have hpz : (S.fm i).pins = 0 := by rw [hI.none _ (S.fm_mem (by rw [h.len]; exact hin)) (h.rest i (Nat.le_refl _))]; rfl
  obtain ⟨i0, fg⟩ := fetch_good hI h.cur (a := i) (by rw [h.nine]; omega) (goodL_right i 0) (fun _ => ⟨i, by rw [h.len]; exact hin, hpz⟩)
  refine ⟨fg.e, fun hI' => ?_⟩
  have hfi : i0 = i := by
    have h1 := fetch_frame hI hI' hix fg.e
    rw [fg.idx, PS.find_free hfree] at h1
    simpa using h1
  subst hfi
  obtain ⟨h1, h2, h3⟩ := idx_full fg.idx
  refine ⟨fg.cur, by rw [fg.ps]; exact h.nine, fg.len.trans h.len, fun k hk => ?_, fun k hk => ?_, fun k hk => ?_, fun j hj => ?_⟩
  · by_cases e : k = i0
    · subst e; rw [fg.pins, hpz]
    · rw [fg.pins' k e]; exact h.pins k (by omega)
  · by_cases e : k = i0
    · subst e; omega
    · rw [fg.at_' k e]; exact h.at_ k (by omega)
  · by_cases e : k = i0
    · subst e; exact h2
    · rw [fg.data' k e]; exact h.full k (by omega)
  · rw [fg.data' j (by omega)]; exact h.rest j (by omega)
/-- All frames but the last have a pin each; the last one has none. -/
structure PB (S : PS) (m : Nat) : Prop where
  cur : Cur S g0
  nine : S.d.ps.length = 9
  len : S.fs.length = m + 1
  pins : ∀ k, k < m → (S.fm k).pins = 1
  at_ : ∀ k, k < m → (S.fm k).at_ = k
  full : ∀ k, k < m → (S.fm k).data ≠ []
  zero : (S.fm m).pins = 0
  last : (S.fm m).data ≠ [] → m ≤ (S.fm m).at_
theorem PA.pb {S : PS} {m : Nat} (h : PA S (m + 1) m) (hI : Inv S) : PB S m :=
  ⟨h.cur, h.nine, h.len, h.pins, h.at_, h.full, by rw [hI.none _ (S.fm_mem (by rw [h.len]; omega)) (h.rest m (Nat.le_refl _))]; rfl, fun hd => absurd (h.rest m (Nat.le_refl _)) hd⟩
/-- The same, the last one has the page a and a pin. -/
structure PC (S : PS) (m a : Nat) : Prop where
  cur : Cur S g0
  nine : S.d.ps.length = 9
  len : S.fs.length = m + 1
  pins : ∀ k, k < m → (S.fm k).pins = 1
  at_ : ∀ k, k < m → (S.fm k).at_ = k
  full : ∀ k, k < m → (S.fm k).data ≠ []
  one : (S.fm m).pins = 1
  last : (S.fm m).at_ = a
  data : (S.fm m).data ≠ []
  idx : YtkcoclpbkealgaaDoor.idx (a : Int) (keys S.fs) = some m
theorem PB.fetch {S : PS} {m a : Nat} (h : PB S m) (hI : Inv S) (ha : m ≤ a) (ha9 : a < 9) : (S.fetch (a : Int)).e = 0 ∧ PC (S.fetch (a : Int)).S m a := by
  obtain ⟨i, fg⟩ := fetch_good hI h.cur (a := a) (by rw [h.nine]; exact ha9) (goodL_right a 0) (fun _ => ⟨m, by rw [h.len]; omega, h.zero⟩)
  have him : i = m := by
    have hil := fg.lt
    rw [h.len] at hil
    by_cases e : i < m
    · rcases fg.was with hw | ⟨_, hw⟩
      · obtain ⟨_, _, h3⟩ := idx_full hw
        have := h.at_ i e; omega
      · have := h.pins i e; omega
    · omega
  subst him
  obtain ⟨h1, h2, h3⟩ := idx_full fg.idx
  refine ⟨fg.e, fg.cur, by rw [fg.ps]; exact h.nine, fg.len.trans h.len, fun k hk => ?_, fun k hk => ?_, fun k hk => ?_, by rw [fg.pins, h.zero], by omega, h2, fg.idx⟩
  · rw [fg.pins' k (by omega)]; exact h.pins k hk
  · rw [fg.at_' k (by omega)]; exact h.at_ k hk
  · rw [fg.data' k (by omega)]; exact h.full k hk
theorem pc_fetch {S : PS} {m a o : Nat} (h : PC S m a) (hI : Inv S) (ho : m ≤ o) (hne : o ≠ a) : S.fetch (o : Int) = ⟨5, [], S⟩ := by
  have hat : ∀ j, j < m + 1 → (S.fm j).data ≠ [] ∧ 0 < (S.fm j).pins ∧ (S.fm j).at_ ≠ o := fun j hj => by
    by_cases e : j < m
    · exact ⟨h.full j e, by rw [h.pins j e]; decide, by rw [h.at_ j e]; omega⟩
    · obtain rfl : j = m := by omega
      exact ⟨h.data, by rw [h.one]; decide, by rw [h.last]; exact fun e => hne e.symm⟩
  have hix : idx (o : Int) (keys S.fs) = none := by
    cases h1 : idx (o : Int) (keys S.fs) with
    | none => rfl
    | some j =>
      obtain ⟨hj, hf, h3⟩ := idx_full h1
      rw [h.len] at hj
      exact absurd (by omega) (hat j hj).2.2
  have hfree : freeAt (keys S.fs) = none := freeAt_not fun j hj => by
    rw [keys_length] at hj
    rw [keys_at hj]
    rw [h.len] at hj
    intro e
    exact (hat j hj).1 (key_none (by injection e))
  have hn := hI.few
  have hch := chooseN_all S.hand S.fs.length (by omega) S.fs rfl (fun j hj => (hat j (by rw [h.len] at hj; exact hj)).2.1) (2 * S.fs.length) 0
  have hf := PS.find_none hfree hch
  have hf5 : S.find.e ≠ 0 := by rw [hf]; simp
  have hr := PS.readIn_no (a := (o : Int)) hf5
  have e := PS.fetch_no hix (by rw [hr]; exact hf5)
  rw [e, hr, hf]
theorem pc_unpin {S : PS} {m a : Nat} (h : PC S m a) (hma : m ≤ a) : ∃ S1, S.unpin (a : Int) = (0, S1) ∧ S1.unpin (a : Int) = (1, S1) ∧ PB S1 m := by
  have hml : m < S.fs.length := by rw [h.len]; omega
  have e := PS.unpin_some h.idx (by rw [h.one]; decide)
  refine ⟨_, e, ?_, ?_⟩
  · refine PS.unpin_zero (i := m) ?_ ?_
    · show idx (a : Int) (keys (S.fs.set m _)) = some m
      rw [keys_same hml (f := { S.fm m with pins := (S.fm m).pins - 1 }) rfl rfl]; exact h.idx
    · rw [setF_fm_same hml]; show (S.fm m).pins - 1 = 0; rw [h.one]
  · refine ⟨h.cur.same hml rfl rfl rfl, h.nine, (setF_len _ _ _).trans h.len, fun k hk => ?_, fun k hk => ?_, fun k hk => ?_, by rw [setF_fm_same hml]; show (S.fm m).pins - 1 = 0; rw [h.one], fun _ => by rw [setF_fm_same hml]; show m ≤ (S.fm m).at_; rw [h.last]; exact hma⟩
    all_goals rw [setF_fm_other (by omega)]
    · exact h.pins k hk
    · exact h.at_ k hk
    · exact h.full k hk
theorem PB.held {S : PS} {m : Nat} (h : PB S m) {k : Nat} (hk : k < m) : k ∈ sorted (held S.fs) := by
  have hp : (sorted (YtkcoclpbkealgaaDoor.held S.fs)).Perm (YtkcoclpbkealgaaDoor.held S.fs) := List.mergeSort_perm _ _
  refine hp.mem_iff.2 (mem_held.2 ⟨k, ?_⟩)
  rw [keys_at (by rw [h.len]; omega)]; exact congrArg some ((key_of (h.full k hk)).trans (congrArg some (h.at_ k hk)))
/-- Was it met among the first j? -/
theorem contains_next {l : List Nat} {j : Nat} (h : j < l.length) (k : Nat) : ((l.take (j + 1)).contains k) = ((l.take j).contains k || decide (l.getD j 0 = k)) := by
  rw [List.take_succ_eq_append_getElem h, List.getD_eq_getElem?_getD, List.getElem?_eq_getElem h, Bool.eq_iff_iff]
  simp only [List.contains_eq_mem, decide_eq_true_eq, List.mem_append, List.mem_singleton, Bool.or_eq_true, Option.getD_some]
  constructor
  · rintro (h | h)
    · exact .inl h
    · exact .inr h.symm
  · rintro (h | h)
    · exact .inl h
    · exact .inr h.symm
theorem make_bytes (w : World) (n : Nat) (hn : n ≤ 1000) : ∃ W, (Instr.makeSlice 22 (.int .i64 (n : Int)) (.int .i64 (n : Int))).run Tryd.prog w = .ok (.slice (some ⟨w.heap.size, 0, none⟩) n n) W ∧ Bytes W (some ⟨w.heap.size, 0, none⟩) (List.replicate n 0) ∧ New w W := by
  obtain ⟨W, hr, Q, N⟩ := run_make_pl w 22 5 (.int .u8 0) n 1 1 Tryd.underlying22 info5 rfl (by decide) (by omega) (by decide)
  refine ⟨W, hr, fun _ => ⟨_, rfl, fun i hi => ?_⟩, N⟩
  rw [List.length_replicate] at hi
  have := Q.range (i := i) (by rw [List.length_replicate]; exact hi) 0 (.int .u8 0) (by rw [List.getElem_replicate]; rfl)
  rw [Nat.mul_one, Nat.add_zero] at this
  rw [Addr.add_mid, Nat.zero_add, this, List.getD_eq_getElem?_getD, List.getElem?_replicate, if_pos hi]; rfl

set_option maxHeartbeats 8000000 in
theorem pins_walk (f : Int) (a : Option Addr) (c : Nat) (l : List UInt8) (w : World) (hf : (Lit.int .u8 f).wf = true) (hP : Bytes w a l) (hl : l.length ≤ maxLen) (hT : Tab w) :
    Calls Tryd.prog 6 #[.int .u8 f, .slice a l.length c] w fun e w' => e = .returned (.bool true) ∧ New w w' := by
  have HT : Hid (Tab w) := hT
  have HP : Hid (Bytes w a l) := hP
  have hl9 : l.length ≤ 9223372036854775807 := by unfold maxLen at hl; omega
  clear hP hl hT
  obtain ⟨fb, rfl⟩ := byte_u8 hf
  have hfb := fb.toNat_lt
  generalize fb.toNat = fz at hfb
  clear hf
  obtain ⟨m, hm, hm6⟩ : ∃ m : Nat, (fz : Int) % 6 = (m : Int) ∧ m < 6 := ⟨fz % 6, by omega, by omega⟩
  by_cases h1 : 60 < l.length
  · go_enter Tryd.func6, Tryd.ntmps6
    go_wp2_with fail
    refine (wakes8 w HT.out).mono ?_
    rintro _ w1 ⟨rfl, b1⟩
    go_wp2_with fail
    go_ret
    exact ⟨rfl, b1⟩
  obtain ⟨W1, hmk, hBy, N1⟩ := make_bytes w 9 (by decide)
  have hmk' : (Instr.makeSlice 22 (.int .i64 9) (.int .i64 9)).run Tryd.prog w = .ok (.slice (some ⟨w.heap.size, 0, none⟩) 9 9) W1 := hmk
  have hpg := lawpages_any W1 (some ⟨w.heap.size, 0, none⟩) 9 (List.replicate 9 0) hBy (by decide)
  rw [List.length_replicate] at hpg
  clear hmk hBy
  go_enter Tryd.func6, Tryd.ntmps6
  go_wp2_with fail
  refine hpg.mono ?_
  rintro _ w1 ⟨v1, rfl, Q1, n1⟩
  have hfr := from_pages Q1 (pagesL_size _) 9 (by decide) (by decide) (by rw [pagesL_length, List.length_replicate]; decide)
  have N2 := N1.trans n1
  clear hpg Q1 N1 n1 hmk'
  go_wp2_with fail
  refine hfr.mono ?_
  rintro _ w2 ⟨n2, q, Fd, rfl, D2, hF2⟩
  have N3 := N2.trans n2
  have hs2 := N2.size
  have hF2' : ∀ x, Fd x → w.heap.size ≤ x := fun x hx => Nat.le_trans hs2 (hF2 x hx)
  have h02 : ¬ Fd 0 := fun h => by have h1 := hF2' 0 h; have h2 := HT.out.1; omega
  obtain ⟨n, hn⟩ : ∃ n : Nat, n = m + 1 := ⟨_, rfl⟩
  have hnp := newpool_any D2 (HT.out.after N3) h02 n (by omega) (by omega)
  have HNM : Hid (n = m + 1) := hn
  have hn6 : n ≤ 6 := by omega
  have hn1 : 1 ≤ n := by omega
  have hm1 : (1 : Int) + (m : Int) = (n : Int) := by omega
  have hm2 : (n : Int) - 1 = (m : Int) := by omega
  obtain ⟨s9, hs9⟩ : ∃ s : Nat, (9 : Int) - (n : Int) = (s : Int) := ⟨9 - n, by omega⟩
  obtain ⟨r, hr⟩ : ∃ r : Nat, (s9 : Int) + 1 = (r : Int) := ⟨s9 + 1, by omega⟩
  have HRR : Hid (r = 9 - m ∧ s9 = 8 - m) := ⟨by omega, by omega⟩
  have hs8 : s9 ≤ 8 := by omega
  clear hfr N2 n2 D2 hF2 hs2 h02 hn
  go_wp2_with fail
  refine hnp.mono ?_
  intro e w3 hm3
  obtain ⟨p, g, b, rfl, hU⟩ := hm3.up hF2' N3
  have U3 := hU 0 (Nat.le_refl _)
  have PA3 := PA.start (n := n) rfl
  generalize (⟨9, pagesL (List.replicate 9 0), [], -1, false⟩ : St) = d0 at U3 PA3
  clear hm3 hnp hU hF2' N3
  go_wp2_with fail
  go_loopw [10] (fun u wr => ∃ (i : Nat) (S : PS) (F : Nat → Prop), u = .int .i64 (i : Int) ∧ i ≤ m ∧ Up w wr (2 * i) p g b q F S ∧ PA S n i) (fun u _ => m - (intOf u).toNat)
  case atStart => exact ⟨0, _, Fd, rfl, by omega, U3, PA3⟩
  case round =>
    clear U3 PA3
    obtain ⟨i, S, F, rfl, hi, U, PAS⟩ := hrel
    by_cases him : i < m
    · have him' : (i : Int) < (m : Int) := by omega
      obtain ⟨ef, hnx⟩ := PAS.next U.pool.inv (by omega) (by omega)
      have hc := fetch_any U.pool (by omega) (i : Int) (by omega) (by omega)
      rw [ef] at hc
      have HNX : Hid (Inv (S.fetch (i : Int)).S → PA (S.fetch (i : Int)).S n (i + 1)) := hnx
      clear ef hnx PAS
      go_wp2_with fail
      refine hc.mono ?_
      rintro _ w4 ⟨rfl, l4⟩
      obtain ⟨F4, U4⟩ := U.left l4
      have PA4 := HNX.out U4.pool.inv
      generalize (S.fetch (i : Int)).S = S4 at U4 PA4
      generalize (S.fetch (i : Int)).t = t4
      clear hc l4 HNX U
      go_wp2_with fail
      exact ⟨⟨i + 1, S4, F4, by simp, by omega, U4, PA4⟩, by simp [intOf]; omega⟩
    · obtain rfl : m = i := by omega
      rw [HNM.out] at PAS
      have PB0 := PAS.pb U.pool.inv
      have U0 : Up w wr (20 + 4 * 0) p g b q F S := ⟨U.pool.mono (by omega), U.above⟩
      clear PAS U
      go_wp2_with fail
      go_loopw [13] (fun u wr => ∃ (i2 : Nat) (S : PS) (F : Nat → Prop), u = .int .i64 (i2 : Int) ∧ i2 ≤ l.length ∧ Up w wr (20 + 4 * i2) p g b q F S ∧ PB S m) (fun u _ => l.length - (intOf u).toNat)
      case atStart => exact ⟨0, _, F, rfl, by omega, U0, PB0⟩
      case round =>
        clear U0 PB0 hi him
        obtain ⟨i, S2, F2, rfl, hi, U, PBS⟩ := hrel
        rename World => wr2
        by_cases hil : i < l.length
        · have hil' : (i : Int) < (l.length : Int) := by omega
          obtain ⟨x, rfl, hx⟩ := HP.out (by omega)
          have hx0 := cell_below U.above.below (hx i hil) (Nat.le_refl _)
          clear hx
          obtain ⟨nn, hnn, hn256⟩ : ∃ nn : Nat, (l.getD i 0).toNat = nn ∧ nn < 256 := ⟨_, rfl, UInt8.toNat_lt _⟩
          rw [hnn] at hx0
          clear hnn
          have hr0 : r = 9 - m := HRR.out.1
          have hs0 : s9 = 8 - m := HRR.out.2
          obtain ⟨kb, hkb, hkbr⟩ : ∃ kb : Nat, Int.tmod (nn : Int) (r : Int) = (kb : Int) ∧ kb < r := ⟨nn % r, (Int.ofNat_tmod nn r).symm, Nat.mod_lt _ (by omega)⟩
          obtain ⟨ka, hkae⟩ : ∃ ka : Nat, (m : Int) + (kb : Int) = (ka : Int) := ⟨m + kb, by omega⟩
          have hka : m ≤ ka := by omega
          have hka9 : ka < 9 := by omega
          have hnm : n = m + 1 := HNM.out
          obtain ⟨ke, hke⟩ : ∃ ke : Nat, (ka : Int) - (n : Int) + 2 = (ke : Int) := ⟨ka + 2 - n, by omega⟩
          obtain ⟨k2, hk2, hk2r⟩ : ∃ k2 : Nat, Int.tmod (ke : Int) (r : Int) = (k2 : Int) ∧ k2 < r := ⟨ke % r, (Int.ofNat_tmod ke r).symm, Nat.mod_lt _ (by omega)⟩
          obtain ⟨o, ho⟩ : ∃ o : Nat, (m : Int) + (k2 : Int) = (o : Int) := ⟨m + k2, by omega⟩
          have hmo : m ≤ o := by omega
          have ho9 : o < 9 := by omega
          obtain ⟨ef, PCf⟩ := PBS.fetch U.pool.inv hka hka9
          have hc := fetch_any U.pool (by omega) (ka : Int) (by omega) (by omega)
          rw [ef] at hc
          have HPC : Hid (PC (S2.fetch (ka : Int)).S m ka) := PCf
          clear ef PCf PBS hr0 hs0 hnm hkbr hk2r
          go_wp2_with fail
          refine hc.mono ?_
          rintro _ w4 ⟨rfl, l4⟩
          obtain ⟨F4, U4⟩ := U.left l4
          generalize (S2.fetch (ka : Int)).S = S4 at U4 HPC
          generalize (S2.fetch (ka : Int)).t = t4
          clear hc l4 U hx0
          by_cases hoe : o = ka
          · obtain rfl : ka = o := hoe.symm
            have PC4 := HPC.out
            clear HPC
            obtain ⟨S5, eu1, eu2, PB5⟩ := pc_unpin PC4 hka
            have hc := unpin_any U4.pool (by omega) (ka : Int) (by omega) (by omega)
            rw [eu1] at hc
            dsimp only at hc
            have HE2 : Hid (S5.unpin (ka : Int) = (1, S5)) := eu2
            clear eu1 eu2 PC4
            go_wp2_with fail
            refine hc.mono ?_
            rintro _ w5 ⟨rfl, l5⟩
            obtain ⟨F5, U5⟩ := U4.left l5
            clear hc l5 U4
            have hc := unpin_any U5.pool (by omega) (ka : Int) (by omega) (by omega)
            rw [HE2.out] at hc
            dsimp only at hc
            go_wp2_with fail
            refine hc.mono ?_
            rintro _ w6 ⟨rfl, l6⟩
            obtain ⟨F6, U6⟩ := U5.left l6
            clear hc l6 U5 HE2
            have hh := held_any U6.pool (by omega)
            have HH : Hid (∀ k, k < m → k ∈ sorted (held S5.fs)) := fun k hk => PB5.held hk
            have HLn : Hid ((sorted (held S5.fs)).length ≤ 64) := by show (sorted (held S5.fs)).length ≤ 64; rw [sorted_length]; exact Nat.le_trans (held_le U6.pool.inv) U6.pool.inv.most
            obtain ⟨hl, hhl⟩ : ∃ hl, sorted (held S5.fs) = hl := ⟨_, rfl⟩
            rw [hhl] at hh HH HLn
            clear hhl
            go_wp2_with fail
            refine hh.mono ?_
            rintro _ w8 ⟨v8, rfl, Q8, n8⟩
            obtain ⟨ah, ch, hv8, _⟩ := Q8.form
            rw [intsL_length] at hv8
            obtain ⟨hn8, hln⟩ : ∃ hn8, hl.length = hn8 := ⟨_, rfl⟩
            rw [hln] at hv8
            subst hv8
            have hn64 : hn8 ≤ 64 := by rw [← hln]; exact HLn.out
            have HQ : Hid (Pl w8 (Fresh w6) 3 1 (.slice ah hn8 ch) (intsL hl) ∧ hl.length = hn8 ∧ Up w w8 (20 + 4 * (i + 1)) p g b q F6 S5 ∧ PB S5 m) := ⟨Q8, hln, ⟨(U6.pool.after n8).mono (by omega), U6.above.new n8⟩, PB5⟩
            clear hh U6 Q8 n8 PB5 HLn hln
            go_wp2_with fail
            go_loopw [21] (fun u wr2 => ∃ k : Nat, u = .int .i64 (k : Int) ∧ k ≤ m ∧ Hid (Pl wr2 (Fresh w6) 3 1 (.slice ah hn8 ch) (intsL hl) ∧ hl.length = hn8 ∧ Up w wr2 (20 + 4 * (i + 1)) p g b q F6 S5 ∧ PB S5 m)) (fun u _ => m - (intOf u).toNat)
            case atStart => exact ⟨0, rfl, by omega, HQ.out⟩
            case round =>
              clear HQ
              obtain ⟨k, rfl, hk, HQ⟩ := hrel
              by_cases hkm : k < m
              · have hkm' : (k : Int) < (m : Int) := by omega
                go_wp2_with fail
                go_loopw [22, 23] (fun t u wr3 => ∃ j : Nat, u = .int .i64 (j : Int) ∧ j ≤ hn8 ∧ t = .bool ((hl.take j).contains k) ∧ Hid (Pl wr3 (Fresh w6) 3 1 (.slice ah hn8 ch) (intsL hl) ∧ hl.length = hn8 ∧ Up w wr3 (20 + 4 * (i + 1)) p g b q F6 S5 ∧ PB S5 m)) (fun _ u _ => hn8 - (intOf u).toNat)
                case atStart => exact ⟨0, rfl, by omega, rfl, HQ.out⟩
                case round =>
                  clear HQ
                  obtain ⟨j, rfl, hj, rfl, HQ⟩ := hrel
                  by_cases hjn : j < hn8
                  · have hjl : j < hl.length := by rw [HQ.out.2.1]; exact hjn
                    obtain ⟨gh, ch2, eh, _⟩ := HQ.out.1.full (by rw [intsL_length]; omega)
                    rw [intsL_length, HQ.out.2.1] at eh
                    cases eh
                    have kc := HQ.out.1.num hjl
                    have HC : Hid ((hl.take (j + 1)).contains k = ((hl.take j).contains k || decide (hl.getD j 0 = k))) := contains_next hjl k
                    generalize hl.getD j 0 = xx at kc HC
                    have hjn' : (j : Int) < (hn8 : Int) := by omega
                    obtain ⟨bt, hbt⟩ : ∃ bt, (hl.take j).contains k = bt := ⟨_, rfl⟩
                    rw [hbt] at HC ⊢
                    clear hjl hbt
                    cases bt
                    · by_cases hxk : xx = k
                      · obtain rfl : k = xx := hxk.symm
                        go_wp2_with fail
                        exact ⟨⟨j + 1, by simp, by omega, by rw [HC.out, decide_eq_true rfl]; rfl, HQ.out⟩, by simp [intOf]; omega⟩
                      · have hxk' : ¬ (xx : Int) = (k : Int) := by omega
                        go_wp2_with fail
                        exact ⟨⟨j + 1, by simp, by omega, by rw [HC.out, decide_eq_false hxk]; exact congrArg Value.bool (beq_eq_false_iff_ne.2 hxk'), HQ.out⟩, by simp [intOf]; omega⟩
                    · go_wp2_with fail
                      exact ⟨⟨j + 1, by simp, by omega, by rw [HC.out]; rfl, HQ.out⟩, by simp [intOf]; omega⟩
                  · obtain rfl : hn8 = j := by omega
                    have hct : (hl.take hn8).contains k = true := by
                      rw [List.take_of_length_le (by rw [HQ.out.2.1]; exact Nat.le_refl _)]
                      exact List.contains_iff_mem.2 (HH.out k hkm)
                    rw [hct]
                    clear hct
                    go_wp2_with fail
                    exact ⟨⟨k + 1, by simp, by omega, HQ.out⟩, by simp [intOf]; omega⟩
              · obtain rfl : m = k := by omega
                go_wp2_with fail
                exact ⟨⟨i + 1, S5, F6, by simp, by omega, HQ.out.2.2.1, HQ.out.2.2.2⟩, by simp [intOf]; omega⟩
          · have hoe' : ¬ (o : Int) = (ka : Int) := by omega
            have ef := pc_fetch HPC.out U4.pool.inv hmo hoe
            have hc := fetch_any U4.pool (by omega) (o : Int) (by omega) (by omega)
            rw [ef] at hc
            dsimp only at hc
            clear ef
            go_wp2_with fail
            refine hc.mono ?_
            rintro _ w45 ⟨rfl, l45⟩
            obtain ⟨F45, U45⟩ := U4.left l45
            have PC4 := HPC.out
            clear hc l45 U4 HPC
            obtain ⟨S5, eu1, eu2, PB5⟩ := pc_unpin PC4 hka
            have hc := unpin_any U45.pool (by omega) (ka : Int) (by omega) (by omega)
            rw [eu1] at hc
            dsimp only at hc
            have HE2 : Hid (S5.unpin (ka : Int) = (1, S5)) := eu2
            clear eu1 eu2 PC4
            go_wp2_with fail
            refine hc.mono ?_
            rintro _ w5 ⟨rfl, l5⟩
            obtain ⟨F5, U5⟩ := U45.left l5
            clear hc l5 U45
            have hc := unpin_any U5.pool (by omega) (ka : Int) (by omega) (by omega)
            rw [HE2.out] at hc
            dsimp only at hc
            go_wp2_with fail
            refine hc.mono ?_
            rintro _ w6 ⟨rfl, l6⟩
            obtain ⟨F6, U6⟩ := U5.left l6
            clear hc l6 U5 HE2
            have hh := held_any U6.pool (by omega)
            have HH : Hid (∀ k, k < m → k ∈ sorted (held S5.fs)) := fun k hk => PB5.held hk
            have HLn : Hid ((sorted (held S5.fs)).length ≤ 64) := by show (sorted (held S5.fs)).length ≤ 64; rw [sorted_length]; exact Nat.le_trans (held_le U6.pool.inv) U6.pool.inv.most
            obtain ⟨hl, hhl⟩ : ∃ hl, sorted (held S5.fs) = hl := ⟨_, rfl⟩
            rw [hhl] at hh HH HLn
            clear hhl
            go_wp2_with fail
            refine hh.mono ?_
            rintro _ w8 ⟨v8, rfl, Q8, n8⟩
            obtain ⟨ah, ch, hv8, _⟩ := Q8.form
            rw [intsL_length] at hv8
            obtain ⟨hn8, hln⟩ : ∃ hn8, hl.length = hn8 := ⟨_, rfl⟩
            rw [hln] at hv8
            subst hv8
            have hn64 : hn8 ≤ 64 := by rw [← hln]; exact HLn.out
            have HQ : Hid (Pl w8 (Fresh w6) 3 1 (.slice ah hn8 ch) (intsL hl) ∧ hl.length = hn8 ∧ Up w w8 (20 + 4 * (i + 1)) p g b q F6 S5 ∧ PB S5 m) := ⟨Q8, hln, ⟨(U6.pool.after n8).mono (by omega), U6.above.new n8⟩, PB5⟩
            clear hh U6 Q8 n8 PB5 HLn hln
            go_wp2_with fail
            go_loopw [21] (fun u wr2 => ∃ k : Nat, u = .int .i64 (k : Int) ∧ k ≤ m ∧ Hid (Pl wr2 (Fresh w6) 3 1 (.slice ah hn8 ch) (intsL hl) ∧ hl.length = hn8 ∧ Up w wr2 (20 + 4 * (i + 1)) p g b q F6 S5 ∧ PB S5 m)) (fun u _ => m - (intOf u).toNat)
            case atStart => exact ⟨0, rfl, by omega, HQ.out⟩
            case round =>
              clear HQ
              obtain ⟨k, rfl, hk, HQ⟩ := hrel
              by_cases hkm : k < m
              · have hkm' : (k : Int) < (m : Int) := by omega
                go_wp2_with fail
                go_loopw [22, 23] (fun t u wr3 => ∃ j : Nat, u = .int .i64 (j : Int) ∧ j ≤ hn8 ∧ t = .bool ((hl.take j).contains k) ∧ Hid (Pl wr3 (Fresh w6) 3 1 (.slice ah hn8 ch) (intsL hl) ∧ hl.length = hn8 ∧ Up w wr3 (20 + 4 * (i + 1)) p g b q F6 S5 ∧ PB S5 m)) (fun _ u _ => hn8 - (intOf u).toNat)
                case atStart => exact ⟨0, rfl, by omega, rfl, HQ.out⟩
                case round =>
                  clear HQ
                  obtain ⟨j, rfl, hj, rfl, HQ⟩ := hrel
                  by_cases hjn : j < hn8
                  · have hjl : j < hl.length := by rw [HQ.out.2.1]; exact hjn
                    obtain ⟨gh, ch2, eh, _⟩ := HQ.out.1.full (by rw [intsL_length]; omega)
                    rw [intsL_length, HQ.out.2.1] at eh
                    cases eh
                    have kc := HQ.out.1.num hjl
                    have HC : Hid ((hl.take (j + 1)).contains k = ((hl.take j).contains k || decide (hl.getD j 0 = k))) := contains_next hjl k
                    generalize hl.getD j 0 = xx at kc HC
                    have hjn' : (j : Int) < (hn8 : Int) := by omega
                    obtain ⟨bt, hbt⟩ : ∃ bt, (hl.take j).contains k = bt := ⟨_, rfl⟩
                    rw [hbt] at HC ⊢
                    clear hjl hbt
                    cases bt
                    · by_cases hxk : xx = k
                      · obtain rfl : k = xx := hxk.symm
                        go_wp2_with fail
                        exact ⟨⟨j + 1, by simp, by omega, by rw [HC.out, decide_eq_true rfl]; rfl, HQ.out⟩, by simp [intOf]; omega⟩
                      · have hxk' : ¬ (xx : Int) = (k : Int) := by omega
                        go_wp2_with fail
                        exact ⟨⟨j + 1, by simp, by omega, by rw [HC.out, decide_eq_false hxk]; exact congrArg Value.bool (beq_eq_false_iff_ne.2 hxk'), HQ.out⟩, by simp [intOf]; omega⟩
                    · go_wp2_with fail
                      exact ⟨⟨j + 1, by simp, by omega, by rw [HC.out]; rfl, HQ.out⟩, by simp [intOf]; omega⟩
                  · obtain rfl : hn8 = j := by omega
                    have hct : (hl.take hn8).contains k = true := by
                      rw [List.take_of_length_le (by rw [HQ.out.2.1]; exact Nat.le_refl _)]
                      exact List.contains_iff_mem.2 (HH.out k hkm)
                    rw [hct]
                    clear hct
                    go_wp2_with fail
                    exact ⟨⟨k + 1, by simp, by omega, HQ.out⟩, by simp [intOf]; omega⟩
              · obtain rfl : m = k := by omega
                go_wp2_with fail
                exact ⟨⟨i + 1, S5, F6, by simp, by omega, HQ.out.2.2.1, HQ.out.2.2.2⟩, by simp [intOf]; omega⟩
        · obtain rfl : i = l.length := by omega
          go_wp2_with fail
          refine (wakes8 wr2 U.pool.bits.tab).mono ?_
          rintro _ w9 ⟨rfl, n9⟩
          go_wp2_with fail
          go_ret
          exact ⟨rfl, (U.above.new n9).toNew⟩
end Go.Proofs.YtkcoclpbkealgaaDoor
