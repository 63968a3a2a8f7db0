/-
  What a law's arguments are: lists of pairs, of nodes; a byte; two bytes; each opened. A list of nodes; a byte; two bytes; each opened. A pair as an argument, and a list of bytes, opened. PutOrder: pairs put in whatever order make one trie, the trie of all of them.
-/
import Derived.Test.YtjpjcojabjkaaaaDoorGaz
import Derived.ProofKit
import Derived.OpenShut
import Derived.ShutString
import Derived.ChangeOld
import Derived.Below
import Derived.Deep.SlicePairs
import Derived.Lib.SmallJoins
import Derived.SizedLaws
import Derived.Test.YtjpjcojabjkaaaaDoorGay
import Derived.Test.YtjpjcojabjkaaaaDoorGad
namespace Go.Proofs.YtjpjcojabjkaaaaDoor
open Go.ChangeShapes Go.WideShapes Go.ChangeAt Go.RowKit
set_option maxRecDepth 100000

theorem byte_u8 {z : Int} (h : (Lit.int .u8 z).wf = true) : ∃ v : UInt8, z = (v.toNat : Int) := by
  have hb := bounds_u8 h
  refine ⟨UInt8.ofNat z.toNat, ?_⟩
  rw [UInt8.toNat_ofNat']
  omega
theorem range_getD {α : Type} (q : Nat → α) (d : α) {i n : Nat} (h : i < n) : ((List.range n).map q).getD i d = q i := by
  rw [List.getD_eq_getElem?_getD, List.getElem?_map, List.getElem?_range h]; rfl
/-- Elements that lie one behind the other from an address on. -/
theorem ls_of {α : Type} {W : World} {x : Addr} {k n c : Nat} (f : α → List Value) (q : Nat → α) (hk : 0 < k) (hn : 0 < n) (hc : n ≤ c) (hq : ∀ i, i < n → (f (q i)).length = k ∧ ∀ j u, (f (q i))[j]? = some u → W.cell? (x.add (i * k + j)) = some u) :
    Ls W k (.slice (some x) n c) (((List.range n).map q).map f) := by
  obtain ⟨b, off, spot⟩ := x
  obtain ⟨h1, h2⟩ := hq 0 hn
  obtain ⟨u, hu⟩ : ∃ u, (f (q 0))[0]? = some u := ⟨(f (q 0))[0]'(by omega), List.getElem?_eq_getElem (by omega)⟩
  have h0 := h2 0 u hu
  have hspot : spot = none := by simpa [Addr.add] using World.cell?_spot h0
  subst hspot
  have hlen : (((List.range n).map q).map f).length = n := by rw [List.length_map, List.length_map, List.length_range]
  have hb : b < W.heap.size := by
    have := World.block_lt_of_cell? W _ h0
    rwa [Addr.add_mid] at this
  refine ⟨some ⟨b, off, none⟩, c, by rw [hlen], by omega, fun _ => ⟨b, off, rfl, hb, fun i hi j u hu => ?_⟩⟩
  rw [hlen] at hi
  rw [List.getElem_map, List.getElem_map, List.getElem_range] at hu
  have := (hq i hi).2 j u hu
  rw [Addr.add_mid] at this
  rw [Nat.add_assoc]; exact this

section
variable {H : Type} {enc : TypeId × Value → H} {W : World} {base : Nat} {d : DataW H} {p : List MemPlace} {v : Value}
theorem ask_prs (hv : Value.okWide Tryd.prog W .any base 26 v) (h : DataW.Trod enc Tryd.prog W 0 (fun _ => true) true 26 v d p) :
    ∃ l : List Pr, Ls W 2 v (l.map prC) ∧ l.length ≤ maxLen := by
  obtain ⟨a, len, cap, rfl⟩ := okWide_slice Tryd.underlying26 hv
  obtain ⟨fuel, hf⟩ := h
  rcases Go.Deep.open_slice Tryd.underlying26 hf with ⟨hcs, _⟩ | ⟨x, l, c, m, n, D, Pp, hcs, _, hl, hm, hmm, hpl, hcell⟩
  · simp [Value.cells] at hcs
    obtain ⟨rfl, rfl, rfl⟩ := hcs
    exact ⟨[], ⟨none, 0, rfl, Nat.le_refl _, fun h => absurd rfl h⟩, by simp⟩
  · simp [Value.cells] at hcs
    obtain ⟨rfl, rfl, rfl⟩ := hcs
    have each : ∀ i, i < len → ∃ q : Pr, W.cell? (x.add (i * 2)) = some (.string (bs q.1)) ∧ W.cell? (x.add (i * 2 + 1)) = some (.string (bs q.2)) := fun i hi => by
      obtain ⟨cs', h1, h2⟩ := hcell i (by rw [hmm]; split <;> omega)
      rw [show Tryd.prog.cellsOf 25 = 2 by kernel_rfl] at h1
      obtain ⟨_, hlen, hc⟩ := World.cells?_some h1
      obtain ⟨xs, m', hm', hx, hl', hlen', hfl⟩ := DataW.trod_struct Tryd.underlying25 h2
      match cs', hlen with
      | [v0, v1], _ =>
        have e0 := hc 0 (by omega)
        have e1 := hc 1 (by omega)
        rw [Go.Deep.add_add] at e0 e1
        match xs, hlen', hx, hfl with
        | [y0, y1], _, hx, hfl =>
          have g0 : DataW.trod enc Tryd.prog W 0 (fun _ => true) true m' 9 (([v0, v1].drop 0).take (Tryd.prog.cellsOf 9)) = some y0 := hfl 0 _ rfl
          have g1 : DataW.trod enc Tryd.prog W 0 (fun _ => true) true m' 9 (([v0, v1].drop 1).take (Tryd.prog.cellsOf 9)) = some y1 := hfl 1 _ rfl
          rw [show Tryd.prog.cellsOf 9 = 1 by kernel_rfl] at g0 g1
          obtain ⟨s0, a0, _, w0⟩ := DataW.trod_string Tryd.underlying9 g0
          obtain ⟨s1, a1, _, w1⟩ := DataW.trod_string Tryd.underlying9 g1
          simp at a0 a1 e0 e1
          subst a0; subst a1
          exact ⟨(L s0, L s1), by rw [bs_L]; exact e0, by rw [bs_L]; exact e1⟩
    obtain ⟨q, hq⟩ := Go.Deep.choose_lt (α := Pr) each
    refine ⟨(List.range len).map q, ?_, by rw [List.length_map, List.length_range]; omega⟩
    by_cases h0 : 0 < len
    · refine ls_of prC q (by omega) h0 (by omega) fun i hi => ⟨rfl, fun j u hu => ?_⟩
      obtain ⟨c0, c1⟩ := hq i hi
      match j, hu with
      | 0, hu => obtain rfl := Option.some.inj hu; exact c0
      | 1, hu => obtain rfl := Option.some.inj hu; exact c1
    · obtain rfl : len = 0 := by omega
      exact ⟨some x, cap, rfl, Nat.zero_le _, fun h => absurd rfl h⟩
end
end Go.Proofs.YtjpjcojabjkaaaaDoor
namespace Go.Proofs.YtjpjcojabjkaaaaDoor
open Go.ChangeShapes Go.WideShapes Go.ChangeAt Go.RowKit
set_option maxRecDepth 100000

instance : Inhabited Nd := ⟨noNd⟩
theorem four_heads {α : Type} {l : List α} (h : l.length = 20) : ∃ a b c d r, l = a :: b :: c :: d :: r ∧ r.length = 16 := by
  match l, h with
  | a :: b :: c :: d :: r, h => exact ⟨a, b, c, d, r, rfl, by simpa using h⟩
section
variable {H : Type} {enc : TypeId × Value → H} {W : World} {base : Nat} {d : DataW H} {p : List MemPlace} {v : Value}
theorem kids_open {fuel : Nat} {cs : List Value} {y : DataW H × List MemPlace} (hl : cs.length = 16) (h : DataW.trod enc Tryd.prog W 0 (fun _ => true) true fuel 53 cs = some y) : ∃ zs : List Int, zs.length = 16 ∧ cs = zs.map (Value.int .i64) := by
  obtain ⟨xs, k, _, _, _, hxl, hel⟩ := DataW.trod_array Tryd.underlying53 h
  rw [show Tryd.prog.cellsOf 3 = 1 by kernel_rfl] at hel
  have each : ∀ i, i < 16 → ∃ z : Int, cs[i]? = some (.int .i64 z) := fun i hi => by
    have g := hel i hi
    rw [List.getElem?_eq_getElem (show i < xs.length by omega)] at g
    obtain ⟨z, hz, _, _⟩ := DataW.trod_int Tryd.underlying3 g
    rw [Nat.mul_one, List.drop_eq_getElem_cons (by omega)] at hz
    have hz' : cs[i] :: (cs.drop (i + 1)).take 0 = [Value.int .i64 z] := hz
    exact ⟨z, by rw [List.getElem?_eq_getElem (by omega), (List.cons.inj hz').1]⟩
  obtain ⟨q, hq⟩ := Go.Deep.choose_lt (α := Int) each
  refine ⟨(List.range 16).map q, by simp, ?_⟩
  apply List.ext_getElem?
  intro i
  by_cases hi : i < 16
  · rw [hq i hi, List.getElem?_map, List.getElem?_map, List.getElem?_range hi]; rfl
  · rw [List.getElem?_eq_none (by omega), List.getElem?_eq_none (by simp; omega)]
theorem node_open {fuel : Nat} {cs : List Value} {y : DataW H × List MemPlace} (hl : cs.length = 20) (h : DataW.trod enc Tryd.prog W 0 (fun _ => true) true fuel 55 cs = some y) : ∃ m : Nd, m.kids.length = 16 ∧ cs = ndC m := by
  obtain ⟨xs, m', hm', hx, hl', hlen', hfl⟩ := DataW.trod_struct Tryd.underlying55 h
  obtain ⟨v0, v1, v2, v3, r, rfl, hr⟩ := four_heads hl
  match xs, hlen', hx, hfl with
  | [y0, y1, y2, y3, y4], _, hx, hfl =>
    have g0 : DataW.trod enc Tryd.prog W 0 (fun _ => true) true m' 3 (((v0 :: v1 :: v2 :: v3 :: r).drop 0).take (Tryd.prog.cellsOf 3)) = some y0 := hfl 0 _ rfl
    have g1 : DataW.trod enc Tryd.prog W 0 (fun _ => true) true m' 9 (((v0 :: v1 :: v2 :: v3 :: r).drop 1).take (Tryd.prog.cellsOf 9)) = some y1 := hfl 1 _ rfl
    have g2 : DataW.trod enc Tryd.prog W 0 (fun _ => true) true m' 4 (((v0 :: v1 :: v2 :: v3 :: r).drop 2).take (Tryd.prog.cellsOf 4)) = some y2 := hfl 2 _ rfl
    have g3 : DataW.trod enc Tryd.prog W 0 (fun _ => true) true m' 9 (((v0 :: v1 :: v2 :: v3 :: r).drop 3).take (Tryd.prog.cellsOf 9)) = some y3 := hfl 3 _ rfl
    have g4 : DataW.trod enc Tryd.prog W 0 (fun _ => true) true m' 53 (((v0 :: v1 :: v2 :: v3 :: r).drop 4).take (Tryd.prog.cellsOf 53)) = some y4 := hfl 4 _ rfl
    rw [show Tryd.prog.cellsOf 3 = 1 by kernel_rfl] at g0
    rw [show Tryd.prog.cellsOf 9 = 1 by kernel_rfl] at g1 g3
    rw [show Tryd.prog.cellsOf 4 = 1 by kernel_rfl] at g2
    rw [show Tryd.prog.cellsOf 53 = 16 by kernel_rfl] at g4
    obtain ⟨z0, a0, _, _⟩ := DataW.trod_int Tryd.underlying3 g0
    obtain ⟨s1, a1, _, _⟩ := DataW.trod_string Tryd.underlying9 g1
    obtain ⟨b2, a2, _⟩ := DataW.trod_bool Tryd.underlying4 g2
    obtain ⟨s3, a3, _, _⟩ := DataW.trod_string Tryd.underlying9 g3
    have h4 : ((v0 :: v1 :: v2 :: v3 :: r).drop 4).take 16 = r := by
      show r.take 16 = r
      rw [List.take_of_length_le (by omega)]
    rw [h4] at g4
    obtain ⟨zs, hz, rfl⟩ := kids_open hr g4
    simp at a0 a1 a2 a3
    subst a0; subst a1; subst a2; subst a3
    exact ⟨⟨z0, L s1, b2, L s3, zs⟩, hz, by unfold ndC; rw [bs_L, bs_L]⟩
theorem ask_nds (hv : Value.okWide Tryd.prog W .any base 23 v) (h : DataW.Trod enc Tryd.prog W 0 (fun _ => true) true 23 v d p) :
    ∃ l : List Nd, Ls W 20 v (l.map ndC) ∧ l.length ≤ maxLen ∧ ∀ x ∈ l, x.kids.length = 16 := by
  obtain ⟨a, len, cap, rfl⟩ := okWide_slice Tryd.underlying23 hv
  obtain ⟨fuel, hf⟩ := h
  rcases Go.Deep.open_slice Tryd.underlying23 hf with ⟨hcs, _⟩ | ⟨x, l, c, m, n, D, Pp, hcs, _, hl, hm, hmm, hpl, hcell⟩
  · simp [Value.cells] at hcs
    obtain ⟨rfl, rfl, rfl⟩ := hcs
    exact ⟨[], ⟨none, 0, rfl, Nat.le_refl _, fun h => absurd rfl h⟩, by simp, fun x hx => by simp at hx⟩
  · simp [Value.cells] at hcs
    obtain ⟨rfl, rfl, rfl⟩ := hcs
    have each : ∀ i, i < len → ∃ q : Nd, q.kids.length = 16 ∧ ∀ j u, (ndC q)[j]? = some u → W.cell? (x.add (i * 20 + j)) = some u := fun i hi => by
      obtain ⟨cs', h1, h2⟩ := hcell i (by rw [hmm]; split <;> omega)
      rw [show Tryd.prog.cellsOf 55 = 20 by kernel_rfl] at h1
      obtain ⟨_, hlen, hc⟩ := World.cells?_some h1
      obtain ⟨m, hk, rfl⟩ := node_open hlen h2
      refine ⟨m, hk, fun j u hu => ?_⟩
      have hj := (List.getElem?_eq_some_iff.1 hu).1
      have e0 := hc j (by omega)
      rw [Go.Deep.add_add] at e0
      rw [e0]; exact hu
    obtain ⟨q, hq⟩ := Go.Deep.choose_lt (α := Nd) each
    refine ⟨(List.range len).map q, ?_, by rw [List.length_map, List.length_range]; omega, fun y hy => ?_⟩
    · by_cases h0 : 0 < len
      · exact ls_of ndC q (by omega) h0 (by omega) fun i hi => ⟨ndC_len (hq i hi).1, (hq i hi).2⟩
      · obtain rfl : len = 0 := by omega
        exact ⟨some x, cap, rfl, Nat.zero_le _, fun h => absurd rfl h⟩
    · obtain ⟨i, hi, rfl⟩ := List.mem_map.1 hy
      exact (hq i (List.mem_range.1 hi)).1
end
end Go.Proofs.YtjpjcojabjkaaaaDoor
namespace Go.Proofs.YtjpjcojabjkaaaaDoor
open Go.ChangeShapes Go.WideShapes Go.ChangeAt Go.RowKit
set_option maxRecDepth 100000

def u8C (u : UInt8) : List Value := [.int .u8 (u.toNat : Int)]
section
variable {H : Type} {enc : TypeId × Value → H} {W : World} {base : Nat} {d : DataW H} {p : List MemPlace} {v : Value}
theorem ask_pr (hv : Value.okWide Tryd.prog W .any base 25 v) (h : DataW.Trod enc Tryd.prog W 0 (fun _ => true) true 25 v d p) : ∃ q : Pr, v = .agg (prC q).toArray := by
  obtain ⟨cs, rfl, hsz⟩ := okWide_struct Tryd.underlying25 hv
  obtain ⟨c0, c1, rfl⟩ := Go.Joins.array2 (hsz.trans (by kernel_rfl))
  obtain ⟨fuel, hf⟩ := h
  obtain ⟨xs, m', hm', hx, hl', hlen', hfl⟩ := DataW.trod_struct Tryd.underlying25 hf
  match xs, hlen', hx, hfl with
  | [y0, y1], _, hx, hfl =>
    have g0 : DataW.trod enc Tryd.prog W 0 (fun _ => true) true m' 9 (([c0, c1].drop 0).take (Tryd.prog.cellsOf 9)) = some y0 := hfl 0 _ rfl
    have g1 : DataW.trod enc Tryd.prog W 0 (fun _ => true) true m' 9 (([c0, c1].drop 1).take (Tryd.prog.cellsOf 9)) = some y1 := hfl 1 _ rfl
    rw [show Tryd.prog.cellsOf 9 = 1 by kernel_rfl] at g0 g1
    obtain ⟨s0, a0, _, _⟩ := DataW.trod_string Tryd.underlying9 g0
    obtain ⟨s1, a1, _, _⟩ := DataW.trod_string Tryd.underlying9 g1
    simp at a0 a1
    subst a0; subst a1
    exact ⟨(L s0, L s1), by show _ = Value.agg #[.string (bs (L s0)), .string (bs (L s1))]; rw [bs_L, bs_L]⟩
theorem ask_u8s (hv : Value.okWide Tryd.prog W .any base 50 v) (h : DataW.Trod enc Tryd.prog W 0 (fun _ => true) true 50 v d p) : ∃ l : Bt, Ls W 1 v (l.map u8C) ∧ l.length ≤ maxLen := by
  obtain ⟨a, len, cap, rfl⟩ := okWide_slice Tryd.underlying50 hv
  obtain ⟨fuel, hf⟩ := h
  rcases Go.Deep.open_slice1 Tryd.underlying50 (by kernel_rfl) hf with ⟨hcs, _⟩ | ⟨x, l, c, m, n, V, D, Pp, hcs, _, hl, hm, hmm, hpl, hcell⟩
  · simp [Value.cells] at hcs
    obtain ⟨rfl, rfl, rfl⟩ := hcs
    exact ⟨[], ⟨none, 0, rfl, Nat.le_refl _, fun h => absurd rfl h⟩, by simp⟩
  · simp [Value.cells] at hcs
    obtain ⟨rfl, rfl, rfl⟩ := hcs
    have each : ∀ i, i < len → ∃ q : UInt8, W.cell? (x.add i) = some (.int .u8 (q.toNat : Int)) := fun i hi => by
      obtain ⟨h1, h2⟩ := hcell i (by rw [hmm]; split <;> omega)
      obtain ⟨z0, hz0, _, hw0⟩ := DataW.trod_int Tryd.underlying5 h2
      obtain ⟨u0, rfl⟩ := byte_u8 hw0
      simp at hz0
      exact ⟨u0, by rw [h1, hz0]⟩
    obtain ⟨q, hq⟩ := Go.Deep.choose_lt (α := UInt8) each
    refine ⟨(List.range len).map q, ?_, by rw [List.length_map, List.length_range]; omega⟩
    by_cases h0 : 0 < len
    · refine ls_of u8C q (by omega) h0 (by omega) fun i hi => ⟨rfl, fun j u hu => ?_⟩
      match j, hu with
      | 0, hu =>
        obtain rfl := Option.some.inj hu
        rw [Nat.mul_one]; exact hq i hi
    · obtain rfl : len = 0 := by omega
      exact ⟨some x, cap, rfl, Nat.zero_le _, fun h => absurd rfl h⟩
end
end Go.Proofs.YtjpjcojabjkaaaaDoor
namespace Go.Proofs.YtjpjcojabjkaaaaDoor
open Go.RowKit
set_option maxRecDepth 20000
set_option linter.unusedVariables false

/-- What is known behind so many turns. -/
def Ord (l : List Pr) (g : Nat) (v : Value) (w0 wr : World) (ms : List Pr) : Prop := Pl wr (At g) 25 2 v (ms.map prC) ∧ ms.Perm l ∧ New w0 wr
theorem swap_perm {α : Type} (l : List α) {a b : Nat} {x y : α} (ha : l[a]? = some x) (hb : l[b]? = some y) : ((l.set a y).set b x).Perm l := by
  obtain ⟨h1, rfl⟩ := List.getElem?_eq_some_iff.1 ha
  obtain ⟨h2, rfl⟩ := List.getElem?_eq_some_iff.1 hb
  exact List.set_set_perm h1 h2
structure PairsO (g i j : Nat) (a b : List Value) where
  v : World
  h0 : v.rangeAt g i a
  h1 : v.rangeAt g j b
def HasO (g i j : Nat) (a b : List Value) (w : World) : Prop := ∃ q : PairsO g i j a b, w = q.v
theorem order_all {l m : List Pr} (h : mayB l = true) (hp : m.Perm l) : allP [] m = (buildN l, 0) := by
  have hok : ∀ q ∈ m, okV q = true := fun q hq => okV_may h q (hp.mem_iff.1 hq)
  have key : ∀ (m c : List Pr), mayB c = true → (∀ q ∈ m, okV q = true) → allL c m = (putL c m, 0) := by
    intro m
    induction m with
    | nil => intro c _ _; rfl
    | cons q m ih =>
      intro c hc hq
      have h1 := hq q (by simp)
      unfold okV at h1
      rw [Bool.and_eq_true] at h1
      have h0 : errP q = 0 := by
        unfold errP
        rw [if_neg (by rw [h1.1]; simp), if_neg (by have := of_decide_eq_true h1.2; omega)]
      show (if errP q = 0 then allL (setL c q.1 q.2) m else _) = _
      rw [if_pos h0, ih _ (set_may hc h1.1 (of_decide_eq_true h1.2)) fun r hr => hq r (List.mem_cons_of_mem _ hr)]
      rfl
  have h1 := allP_build (c := []) rfl m
  rw [bN_nil] at h1
  rw [h1, key m [] rfl hok, if_pos rfl, putL_perm h hp]
set_option maxHeartbeats 16000000 in
theorem putOrder_any {w : World} {v uv : Value} {l : List Pr} {us : Bt} (P : Ls w 2 v (l.map prC)) (hl : l.length ≤ maxLen) (U : Ls w 1 uv (us.map u8C)) (hT : Tab w) :
    Calls Tryd.prog 5 #[v, uv] w fun e w' => e = .returned (.bool true) ∧ New w w' := by
  have HP : Hid (Ls w 2 v (l.map prC)) := P
  have HT : Hid (Tab w) := hT
  have hlp := fun {W : World} (n : New w W) => longPairs_any (HP.out.after n) (by unfold maxLen at hl; omega)
  have hwk := fun {W : World} (n : New w W) => wakes_any W (HT.out.kept n)
  obtain ⟨b1, hb1⟩ : ∃ b, longB lenP 3000 ([], []) l = b := ⟨_, rfl⟩
  rw [hb1] at hlp
  clear P hT
  obtain ⟨al, cl, rfl, hcl⟩ : ∃ a c, v = .slice a l.length c ∧ l.length ≤ c := by
    obtain ⟨a, c, h1, h2, _⟩ := HP.out
    rw [List.length_map] at h1 h2
    exact ⟨a, c, h1, h2⟩
  obtain ⟨au, cu, rfl, hcu, HU⟩ := U.open 0
  clear U
  cases b1
  case true =>
    clear hb1
    go_enter Tryd.func5, Tryd.ntmps5
    go_wp2_with fail
    refine Calls.mono (hlp (New.refl w)) ?_
    rintro _ W1 ⟨rfl, N1⟩
    have M1 : New w W1 := (New.refl w).trans N1
    clear hlp
    go_wp2_with fail
    refine Calls.mono (hwk (M1)) ?_
    rintro _ W2 ⟨rfl, N2⟩
    have M2 : New w W2 := (M1).trans N2
    clear hwk
    go_wp2_with fail
    go_ret
    exact ⟨rfl, M2⟩
  obtain ⟨hs1, hs2⟩ := prs_of hb1
  obtain ⟨mb, hmb⟩ : ∃ b, mayB l = b := ⟨_, rfl⟩
  have hmay := fun {w1 : World} (n : New w w1) => refMay_any (HP.out.after n) (by omega) hs2
  rw [hmb] at hmay
  cases mb
  case false =>
    clear hs2 hmb hb1
    go_enter Tryd.func5, Tryd.ntmps5
    go_wp2_with fail
    refine Calls.mono (hlp (New.refl w)) ?_
    rintro _ W1 ⟨rfl, N1⟩
    have M1 : New w W1 := (New.refl w).trans N1
    clear hlp
    go_wp2_with fail
    refine Calls.mono (hmay (M1)) ?_
    rintro _ W2 ⟨rfl, N2⟩
    have M2 : New w W2 := (M1).trans N2
    clear hmay
    go_wp2_with fail
    refine Calls.mono (hwk (M2)) ?_
    rintro _ W3 ⟨rfl, N3⟩
    have M3 : New w W3 := (M2).trans N3
    clear hwk
    go_wp2_with fail
    go_ret
    exact ⟨rfl, M3⟩
  by_cases h30 : 30 < l.length
  · have h3b : decide ((30 : Int) < (l.length : Int)) = true := decide_eq_true (by omega)
    clear hs2 hmb hb1 h30
    go_enter Tryd.func5, Tryd.ntmps5
    go_wp2_with fail
    refine Calls.mono (hlp (New.refl w)) ?_
    rintro _ W1 ⟨rfl, N1⟩
    have M1 : New w W1 := (New.refl w).trans N1
    clear hlp
    go_wp2_with fail
    refine Calls.mono (hmay (M1)) ?_
    rintro _ W2 ⟨rfl, N2⟩
    have M2 : New w W2 := (M1).trans N2
    clear hmay
    go_wp2_with fail
    refine Calls.mono (hwk (M2)) ?_
    rintro _ W3 ⟨rfl, N3⟩
    have M3 : New w W3 := (M2).trans N3
    clear hwk
    go_wp2_with fail
    go_ret
    exact ⟨rfl, M3⟩
  have h3b : decide ((30 : Int) < (l.length : Int)) = false := decide_eq_false (by omega)
  by_cases h100 : 100 < us.length
  · have h4b : decide ((100 : Int) < (us.length : Int)) = true := decide_eq_true (by omega)
    clear hs2 hmb hb1 h30 h100
    go_enter Tryd.func5, Tryd.ntmps5
    go_wp2_with fail
    refine Calls.mono (hlp (New.refl w)) ?_
    rintro _ W1 ⟨rfl, N1⟩
    have M1 : New w W1 := (New.refl w).trans N1
    clear hlp
    go_wp2_with fail
    refine Calls.mono (hmay (M1)) ?_
    rintro _ W2 ⟨rfl, N2⟩
    have M2 : New w W2 := (M1).trans N2
    clear hmay
    go_wp2_with fail
    refine Calls.mono (hwk (M2)) ?_
    rintro _ W3 ⟨rfl, N3⟩
    have M3 : New w W3 := (M2).trans N3
    clear hwk
    go_wp2_with fail
    go_ret
    exact ⟨rfl, M3⟩
  have h4b : decide ((100 : Int) < (us.length : Int)) = false := decide_eq_false (by omega)
  have hbu := fun {W : World} (n : New w W) => r_build (HP.out.after n) (by omega) hs2
  rw [hmb, bX_build hmb] at hbu
  have htok : TOk (buildN l) := build_ok hmb (by omega)
  have hal := fun {W : World} {y : Value} {ms : List Pr} (n : New w W) (hp : ms.Perm l) (q' : Ls W 2 y (ms.map prC)) => all_any13 (Ls.nil W 20) no_tok (HT.out.kept n) q' (by rw [hp.length_eq]; omega)
  have hal2 := fun {W : World} {y : Value} {ms : List Pr} (n : New w W) (hp : ms.Perm l) (q' : Ls W 2 y (ms.map prC)) => (order_all hmb hp) ▸ hal n hp q'
  have hk1 := fun {W : World} {x y : Value} (q : Ls W 20 x ((buildN l).map ndC)) (q' : Ls W 20 y ((buildN l).map ndC)) => keepTrie_any q q' htok.k16 htok.k16 (by have := htok.few; omega) (by have := htok.few; omega)
  rw [decide_eq_true rfl] at hk1
  have hc2 := fun {W : World} (n : New w W) => run_copy_all (w := W) 26 25 26 2 _ _ Tryd.underlying26 info52 rfl (by decide) (by decide) (HP.out.after n) (fun e he => by obtain ⟨q, _, rfl⟩ := List.mem_map.1 he; rfl) (fun e he => by obtain ⟨q, _, rfl⟩ := List.mem_map.1 he; exact prC_one q) (by rw [List.length_map]; omega)
  have hfd := field_T
  generalize buildN l = t at hbu hal2 hk1
  have HBU : Hid (_) := @hbu
  have HAL : Hid (_) := @hal2
  have HK1 : Hid (_) := @hk1
  have HC2 : Hid (_) := @hc2
  have HWK : Hid (∀ {W : World}, New w W → Calls Tryd.prog 10 #[] W fun e w' => e = .returned (.bool true) ∧ New W w') := fun n => hwk n
  have hus : us.length ≤ 100 := by omega
  have hll : l.length ≤ 30 := by omega
  clear hs2 hmb hb1 h30 h100 htok hal hal2 hbu hk1 hc2 hwk hs1
  go_enter Tryd.func5, Tryd.ntmps5
  go_wp2_with fail
  refine Calls.mono (hlp (New.refl w)) ?_
  rintro _ W1 ⟨rfl, N1⟩
  have M1 : New w W1 := (New.refl w).trans N1
  clear hlp
  go_wp2_with fail
  refine Calls.mono (hmay (M1)) ?_
  rintro _ W2 ⟨rfl, N2⟩
  have M2 : New w W2 := (M1).trans N2
  clear hmay
  go_upto_region 4 with
    (obtain ⟨v6, W6, ha6, Q6, N6⟩ := HC2.out (M2); refine wpList_appends (by rfl) _ _ 26 26 _ _ v6 W6 (by rfl) (by rfl) (by rfl) (by rfl) ha6 ?_)
  have M6 : New w W6 := (M2).trans N6
  obtain ⟨am, cm, rfl, hcm⟩ := Q6.form
  rw [List.length_map] at hcm Q6 ⊢
  have HQ6 : Hid (Pl W6 (Fresh W2) 25 2 (.slice am l.length cm) (l.map prC)) := Q6
  have HGE : Hid (w.heap.size ≤ W2.heap.size) := (M2).size
  have hll0 : (0 : Int) ≤ (l.length : Int) := by omega
  clear Q6 N6 HC2 ha6
  go_wp2_with fail
  go_loopw [6, 7, 8] (fun i _ _ wr => ∃ (k : Nat) (ms : List Pr), k ≤ us.length ∧ i = .int .i64 (k : Int) ∧ Hid (Pl wr (Fresh W2) 25 2 (.slice am l.length cm) (ms.map prC)) ∧ Hid (ms.Perm l) ∧ Hid (New w wr)) (fun i _ _ _ => us.length - (intOf i).toNat)
  case atStart => exact ⟨0, l, by omega, rfl, HQ6.out, List.Perm.refl l, M6⟩
  case round =>
    obtain ⟨k, ms, hk, rfl, hq, hp, hN⟩ := hrel
    clear HQ6 M6
    by_cases hlt : k < us.length
    · have hki : (k : Int) < (us.length : Int) := by omega
      by_cases hl0 : 0 < l.length
      · have hml := hp.out.length_eq
        obtain ⟨g, c, e, hFg, hgw, hmc⟩ := hq.out.full (by rw [List.length_map]; omega)
        obtain ⟨e1, e3, e2⟩ := Value.slice.inj e
        clear e3
        subst e1; subst e2
        obtain ⟨gu, ou, rfl, hgu, hru⟩ := HU.out (by omega)
        obtain ⟨x, hx⟩ : ∃ x, us.getD k 0 = x := ⟨_, rfl⟩
        have q1 : ∀ p : NewW wr, p.v.cell? ⟨gu, ou + k, none⟩ = some (.int .u8 (x.toNat : Int)) := fun p => by
          have := hru p.v (hN.out.trans p.h) k hlt 0 (.int .u8 (x.toNat : Int)) (by rw [hx]; rfl)
          simpa using this
        have hne := NewW.ne wr
        obtain ⟨A, hA, hrA⟩ : ∃ A : Nat, A < l.length ∧ (k : Int).tmod (l.length : Int) = (A : Int) := ⟨k % l.length, Nat.mod_lt _ hl0, (Int.ofNat_tmod _ _).symm⟩
        obtain ⟨B, hB, hrB⟩ : ∃ B : Nat, B < l.length ∧ (x.toNat : Int).tmod (l.length : Int) = (B : Int) := ⟨x.toNat % l.length, Nat.mod_lt _ hl0, (Int.ofNat_tmod _ _).symm⟩
        obtain ⟨pa, hpa⟩ : ∃ p, ms[A]? = some p := ⟨ms[A]'(by omega), List.getElem?_eq_getElem (by omega)⟩
        obtain ⟨pb, hpb⟩ : ∃ p, ms[B]? = some p := ⟨ms[B]'(by omega), List.getElem?_eq_getElem (by omega)⟩
        have HPP : Hid (ms[A]? = some pa ∧ ms[B]? = some pb) := ⟨hpa, hpb⟩
        have HML : Hid (ms.length = l.length) := hml
        have HFG : Hid (Fresh W2 g) := hFg
        have hx8 : (x.toNat : Int) ≤ 255 := by have := x.toNat_lt; omega
        have hlp : (0 : Int) < (l.length : Int) := by omega
        have hlne : (l.length : Int) ≠ 0 := by omega
        have hwA : IntKind.i64.wrap (A : Int) = (A : Int) := IntWalk.i64_in _ (by omega)
        have hwB : IntKind.i64.wrap (B : Int) = (B : Int) := IntWalk.i64_in _ (by omega)
        clear hx hru hpa hpb hml e hmc hFg
        go_wp2_with fail
        refine region_new wr (New.refl wr) (by kernel_rfl) (by kernel_rfl) ?_
        repeat (go_big_quiet_step (fail))
        refine wpQuiet_nil ?_
        rintro W3 ⟨⟨_, k3'⟩, rfl⟩
        clear q1 hne
        have k3 := k3'
        go_wp2_with fail
        clear k3
        have k3 := k3'
        have hN3 : New w W3 := hN.out.trans k3
        have Q3 := hq.out.after k3
        have r0 : W3.drew.rangeAt g (A * 2) (prC pa) := by
          obtain ⟨hlt2, hh⟩ := List.getElem?_eq_some_iff.1 (show (ms.map prC)[A]? = some (prC pa) by rw [List.getElem?_map, HPP.out.1]; rfl)
          rw [← hh]; exact (Q3.after (New.drew W3)).range hlt2
        have r1 : W3.drew.rangeAt g (B * 2) (prC pb) := by
          obtain ⟨hlt2, hh⟩ := List.getElem?_eq_some_iff.1 (show (ms.map prC)[B]? = some (prC pb) by rw [List.getElem?_map, HPP.out.2]; rfl)
          rw [← hh]; exact (Q3.after (New.drew W3)).range hlt2
        have hS : HasO g (A * 2) (B * 2) (prC pa) (prC pb) W3.drew := ⟨⟨W3.drew, r0, r1⟩, rfl⟩
        have h4 : ∀ w, HasO g (A * 2) (B * 2) (prC pa) (prC pb) w → w.rangeAt g (A * 2) (prC pa) := fun w ⟨q, e⟩ => e ▸ q.h0
        have h4' : ∀ w, HasO g (A * 2) (B * 2) (prC pa) (prC pb) w → w.rangeAt g (B * 2) (prC pb) := fun w ⟨q, e⟩ => e ▸ q.h1
        have hAi : (A : Int) < (l.length : Int) := by omega
        have hBi : (B : Int) < (l.length : Int) := by omega
        refine wpH.region 13 (HasO g (A * 2) (B * 2) (prC pa) (prC pb)) (by kernel_rfl) ?_
        simp only [List.size_toArray, List.length_cons, List.length_nil, Nat.reduceAdd]
        refine wpH.plain (i := 0) (v := .slice (some ⟨g, 0, none⟩) l.length cm) (some 57) (by rfl) (by kernel_rfl) (by intro _ _ _ h; exact h) (by rfl) (by rfl) hS (fun w => by go_simp) ?_
        simp only [Act.put, List.setIfInBounds_toArray, List.set_cons_zero, List.set_cons_succ]
        refine wpH.plain (i := 1) (v := .int .i64 (A : Int)) (some 58) (by rfl) (by kernel_rfl) (by intro _ _ _ h; exact h) (by rfl) (by rfl) hS (fun w => by go_simp) ?_
        simp only [Act.put, List.setIfInBounds_toArray, List.set_cons_zero, List.set_cons_succ]
        refine wpH.plain (i := 2) (v := .slice (some ⟨g, 0, none⟩) l.length cm) (some 59) (by rfl) (by kernel_rfl) (by intro _ _ _ h; exact h) (by rfl) (by rfl) hS (fun w => by go_simp) ?_
        simp only [Act.put, List.setIfInBounds_toArray, List.set_cons_zero, List.set_cons_succ]
        refine wpH.plain (i := 3) (v := .int .i64 (B : Int)) (some 60) (by rfl) (by kernel_rfl) (by intro _ _ _ h; exact h) (by rfl) (by rfl) hS (fun w => by go_simp) ?_
        simp only [Act.put, List.setIfInBounds_toArray, List.set_cons_zero, List.set_cons_succ]
        refine wpH.plain (i := 4) (v := .slice (some ⟨g, 0, none⟩) l.length cm) (some 61) (by rfl) (by kernel_rfl) (by intro _ _ _ h; exact h) (by rfl) (by rfl) hS (fun w => by go_simp) ?_
        simp only [Act.put, List.setIfInBounds_toArray, List.set_cons_zero, List.set_cons_succ]
        refine wpH.plain (i := 5) (v := .int .i64 (B : Int)) (some 62) (by rfl) (by kernel_rfl) (by intro _ _ _ h; exact h) (by rfl) (by rfl) hS (fun w => by go_simp) ?_
        simp only [Act.put, List.setIfInBounds_toArray, List.set_cons_zero, List.set_cons_succ]
        refine wpH.plain (i := 6) (v := .pointer (some ⟨g, B * 2, none⟩)) (some 63) (by rfl) (by kernel_rfl) (by intro _ _ _ h; exact h) (by rfl) (by rfl) hS (fun w => by go_simp <;> (intro h; omega)) ?_
        simp only [Act.put, List.setIfInBounds_toArray, List.set_cons_zero, List.set_cons_succ]
        refine wpH.held (i := 7) (v := .agg (prC pb).toArray) (some 64) (by rfl) (by kernel_rfl) (by intro _ _ _ h; exact h) (by rfl) (by rfl) hS (fun w k => exec_load (by rfl) g (B * 2) (by rfl) (prC pb) (h4' w k) _ Tryd.underlying25 rfl i52) ?_
        simp only [Act.put, List.setIfInBounds_toArray, List.set_cons_zero, List.set_cons_succ]
        refine wpH.plain (i := 8) (v := .slice (some ⟨g, 0, none⟩) l.length cm) (some 65) (by rfl) (by kernel_rfl) (by intro _ _ _ h; exact h) (by rfl) (by rfl) hS (fun w => by go_simp) ?_
        simp only [Act.put, List.setIfInBounds_toArray, List.set_cons_zero, List.set_cons_succ]
        refine wpH.plain (i := 9) (v := .int .i64 (A : Int)) (some 66) (by rfl) (by kernel_rfl) (by intro _ _ _ h; exact h) (by rfl) (by rfl) hS (fun w => by go_simp) ?_
        simp only [Act.put, List.setIfInBounds_toArray, List.set_cons_zero, List.set_cons_succ]
        refine wpH.plain (i := 10) (v := .pointer (some ⟨g, A * 2, none⟩)) (some 67) (by rfl) (by kernel_rfl) (by intro _ _ _ h; exact h) (by rfl) (by rfl) hS (fun w => by go_simp <;> (intro h; omega)) ?_
        simp only [Act.put, List.setIfInBounds_toArray, List.set_cons_zero, List.set_cons_succ]
        refine wpH.held (i := 11) (v := .agg (prC pa).toArray) (some 68) (by rfl) (by kernel_rfl) (by intro _ _ _ h; exact h) (by rfl) (by rfl) hS (fun w k => exec_load (by rfl) g (A * 2) (by rfl) (prC pa) (h4 w k) _ Tryd.underlying25 rfl i52) ?_
        simp only [Act.put, List.setIfInBounds_toArray, List.set_cons_zero, List.set_cons_succ]
        refine wpH.plain (i := 12) (v := .pointer (some ⟨g, A * 2, none⟩)) (some 69) (by rfl) (by kernel_rfl) (by intro _ _ _ h; exact h) (by rfl) (by rfl) hS (fun w => by go_simp <;> (intro h; omega)) ?_
        simp only [Act.put, List.setIfInBounds_toArray, List.set_cons_zero, List.set_cons_succ]
        refine wpH.tail [13, 14, 15] _ _ _ (by kernel_rfl) (by kernel_rfl) (.inr rfl) ?_
        simp only [pick, List.getElem?_cons_succ, List.getElem?_cons_zero, Option.toList_some, List.cons_append, List.nil_append]
        refine wpList_store_pl (by rfl) 25 _ _ (by rfl) (Fresh W2) 25 2 g l.length cm A (ms.map prC) (prC pb) (Q3.after (New.drew W3)) (by rw [List.length_map, HML.out]; exact hA) (by rfl) (by rfl) rfl i52 (prC_one _) ?_
        intro W5 Q6 B5
        have M5 : New w W5 := B5.new (hN3.trans (New.drew W3)) (Nat.le_trans HGE.out HFG.out)
        clear r0 r1 hS h4 h4' Q3 B5
        go_wp2_with (refine wpList_store_pl (by rfl) 25 _ _ (by rfl) (Fresh W2) 25 2 g l.length cm B ((ms.map prC).set A (prC pb)) (prC pa) Q6 (by rw [List.length_set, List.length_map, HML.out]; exact hB) (by rfl) (by rfl) rfl i52 (prC_one _) ?_; intro W6 Q7 B6)
        have M6 : New w W6 := B6.new M5 (Nat.le_trans HGE.out HFG.out)
        have eM : ((ms.map prC).set A (prC pb)).set B (prC pa) = ((ms.set A pb).set B pa).map prC := by rw [List.map_set, List.map_set]
        rw [eM] at Q7
        exact ⟨⟨k + 1, (ms.set A pb).set B pa, by omega, by go_num, Q7, (swap_perm ms HPP.out.1 HPP.out.2).trans hp.out, M6⟩, by simp [intOf]; omega⟩
      · have hlz : decide ((0 : Int) < (l.length : Int)) = false := decide_eq_false (by omega)
        have HLm : Hid (Ls wr 2 (.slice am l.length cm) (ms.map prC)) := hq.out.ls
        clear hq
        go_wp2_with fail
        refine Calls.mono (HAL.out hN.out (List.Perm.refl l) (HP.out.after hN.out)) ?_
        rintro _ V1 ⟨v1, rfl, Q1, N1⟩
        have K1 := hN.out.trans N1
        have HL1 : Hid (Ls V1 20 v1 (t.map ndC)) := Q1.ls
        have HLm1 : Hid (Ls V1 2 (.slice am l.length cm) (ms.map prC)) := HLm.out.after N1
        clear Q1 HLm N1
        go_wp2_with fail
        refine Calls.mono (HAL.out K1 hp.out HLm1.out) ?_
        rintro _ V2 ⟨v2, rfl, Q2, N2⟩
        have K2 := K1.trans N2
        have HL2 : Hid (Ls V2 20 v2 (t.map ndC)) := Q2.ls
        have HL3 : Hid (Ls V2 20 v1 (t.map ndC)) := HL1.out.after N2
        clear Q2 HL1 HLm1 N2 K1
        go_wp2_with fail
        refine Calls.mono (HK1.out HL3.out HL2.out) ?_
        rintro _ V3 ⟨rfl, N3⟩
        have K3 := K2.trans N3
        have HL4 : Hid (Ls V3 20 v1 (t.map ndC)) := HL3.out.after N3
        clear HL2 HL3 N3 K2
        go_wp2_with fail
        refine Calls.mono (HBU.out K3) ?_
        rintro _ V4 ⟨a, n, c', a2, n2, c2, rfl, PT, _, N4⟩
        have K4 := K3.trans N4
        have HL5 : Hid (Ls V4 20 v1 (t.map ndC)) := HL4.out.after N4
        have HPT : Hid (Ls V4 20 (.slice a n c') (t.map ndC)) := PT
        have hf := hfd a n c' a2 n2 c2 true
        clear PT HL4 N4 K3 hfd
        go_wp2_with fail
        refine Calls.mono (HK1.out HL5.out HPT.out) ?_
        rintro _ V5 ⟨rfl, N5⟩
        have K5 := K4.trans N5
        clear HL5 HPT N5 K4
        go_wp2_with fail
        refine Calls.mono (HWK.out K5) ?_
        rintro _ V6 ⟨rfl, N6⟩
        go_wp2_with fail
        go_ret
        exact ⟨rfl, K5.trans N6⟩
    · have hkz : decide ((k : Int) < (us.length : Int)) = false := decide_eq_false (by omega)
      have HLm : Hid (Ls wr 2 (.slice am l.length cm) (ms.map prC)) := hq.out.ls
      clear hq
      go_wp2_with fail
      refine Calls.mono (HAL.out hN.out (List.Perm.refl l) (HP.out.after hN.out)) ?_
      rintro _ V1 ⟨v1, rfl, Q1, N1⟩
      have K1 := hN.out.trans N1
      have HL1 : Hid (Ls V1 20 v1 (t.map ndC)) := Q1.ls
      have HLm1 : Hid (Ls V1 2 (.slice am l.length cm) (ms.map prC)) := HLm.out.after N1
      clear Q1 HLm N1
      go_wp2_with fail
      refine Calls.mono (HAL.out K1 hp.out HLm1.out) ?_
      rintro _ V2 ⟨v2, rfl, Q2, N2⟩
      have K2 := K1.trans N2
      have HL2 : Hid (Ls V2 20 v2 (t.map ndC)) := Q2.ls
      have HL3 : Hid (Ls V2 20 v1 (t.map ndC)) := HL1.out.after N2
      clear Q2 HL1 HLm1 N2 K1
      go_wp2_with fail
      refine Calls.mono (HK1.out HL3.out HL2.out) ?_
      rintro _ V3 ⟨rfl, N3⟩
      have K3 := K2.trans N3
      have HL4 : Hid (Ls V3 20 v1 (t.map ndC)) := HL3.out.after N3
      clear HL2 HL3 N3 K2
      go_wp2_with fail
      refine Calls.mono (HBU.out K3) ?_
      rintro _ V4 ⟨a, n, c', a2, n2, c2, rfl, PT, _, N4⟩
      have K4 := K3.trans N4
      have HL5 : Hid (Ls V4 20 v1 (t.map ndC)) := HL4.out.after N4
      have HPT : Hid (Ls V4 20 (.slice a n c') (t.map ndC)) := PT
      have hf := hfd a n c' a2 n2 c2 true
      clear PT HL4 N4 K3 hfd
      go_wp2_with fail
      refine Calls.mono (HK1.out HL5.out HPT.out) ?_
      rintro _ V5 ⟨rfl, N5⟩
      have K5 := K4.trans N5
      clear HL5 HPT N5 K4
      go_wp2_with fail
      refine Calls.mono (HWK.out K5) ?_
      rintro _ V6 ⟨rfl, N6⟩
      go_wp2_with fail
      go_ret
      exact ⟨rfl, K5.trans N6⟩
end Go.Proofs.YtjpjcojabjkaaaaDoor
