/-
  The document's own add, what its maker is in memory, what its contract says.
-/
import Derived.Test.YtelaiblhnhbgiaaDoorAddG
namespace Go.Proofs.YtelaiblhnhbgiaaDoor
open Go.RowKit
set_option maxRecDepth 20000

def nd0 : Nd := ⟨0, [], false, [], no16⟩
theorem built49_0 : Tryd.prog.built 49 [] = some (ndA nd0) := by kernel_rfl
theorem built49_x (p : Bt) : Tryd.prog.built 49 [(0, .int .i64 2), (1, .string (bs p))] = some (ndA ⟨2, p, false, [], no16⟩) := by kernel_rfl
/-- The maker in memory: its pairs and their nibbles, the nodes and the paths so far. -/
def Mk (B M : Nat) (vl vn : Value) (ts : List Nd) (ps : List Bt) (w : World) : Prop := M < B ∧ B ≤ w.heap.size ∧ ∃ (vt vp : Value) (Ft Fp : Nat → Prop),
  Row w M #[vl, vn, vt, vp] 61 ∧ Pl w Ft 49 20 vt (ts.map ndC) ∧ Pl w Fp 9 1 vp (ps.map txC) ∧ (∀ b, Ft b → B ≤ b) ∧ (∀ b, Fp b → B ≤ b) ∧ (∀ b, Ft b → ¬ Fp b)
/-- Keys and values where they lie. -/
def Rd (gl ol gn : Nat) (L : List Pr) (w : World) : Prop := ∀ i p, L[i]? = some p → w.cell? ⟨gn, i, none⟩ = some (.string (bs p.1)) ∧ w.cell? ⟨gl, ol + i * 2 + 1, none⟩ = some (.string (bs p.2))
theorem Rd.thru {gl ol gn B M : Nat} {L : List Pr} {w w' : World} (h : Rd gl ol gn L w) (t : Thru B M w w') (hg : gl < B ∧ gl ≠ M ∧ gn < B ∧ gn ≠ M) : Rd gl ol gn L w' := fun i p hp =>
  ⟨(t.cell hg.2.2.1 hg.2.2.2).trans (h i p hp).1, (t.cell hg.1 hg.2.1).trans (h i p hp).2⟩
/-- Two footprints, apart, all new since B. -/
structure Apart (B : Nat) (Ft Fp : Nat → Prop) : Prop where
  t : ∀ b, Ft b → B ≤ b
  p : ∀ b, Fp b → B ≤ b
  d : ∀ b, Ft b → ¬ Fp b
def nds (G : List NP) : List Nd := G.map (·.1)
def pths (G : List NP) : List Bt := G.map (·.2)
theorem Mk.new {B M : Nat} {vl vn : Value} {ts : List Nd} {ps : List Bt} {w w' : World} (h : Mk B M vl vn ts ps w) (n : New w w') : Mk B M vl vn ts ps w' := by
  obtain ⟨a, b, vt, vp, Ft, Fp, R, Q, P, h⟩ := h
  exact ⟨a, Nat.le_trans b n.size, vt, vp, Ft, Fp, R.after n, Q.after n, P.after n, h⟩
theorem Mk.row {B M : Nat} {vl vn : Value} {ts : List Nd} {ps : List Bt} {w : World} (h : Mk B M vl vn ts ps w) : w.cell? ⟨M, 1, none⟩ = some vn ∧ w.cell? ⟨M, 0, none⟩ = some vl := by
  obtain ⟨_, _, vt, vp, Ft, Fp, R, _⟩ := h
  exact ⟨R.has 1 rfl, R.has 0 rfl⟩
theorem set_kid {E : Bool} {V : Bt} {ks : List Int} {h : Nat} (x : Int) : (ndC (brN E V ks)).set (4 + h) (.int .i64 x) = ndC (brN E V (ks.set h x)) := by
  unfold ndC brN
  rw [show 4 + h = h + 1 + 1 + 1 + 1 by omega]
  simp only [List.set_cons_succ, List.map_set]
theorem get_kid {E : Bool} {V : Bt} {ks : List Int} {h : Nat} {x : Int} (hk : ks[h]? = some x) : (ndC (brN E V ks))[4 + h]? = some (.int .i64 x) := by
  unfold ndC brN
  rw [show 4 + h = h + 1 + 1 + 1 + 1 by omega]
  simp only [List.getElem?_cons_succ, List.getElem?_map, hk, Option.map_some]
theorem set_mid' {α : Type} (a : List α) (x y : α) (c d : List α) : (a ++ [x] ++ c ++ d).set a.length y = a ++ [y] ++ (c ++ d) := by
  rw [List.append_assoc, List.append_assoc, List.set_append_right _ _ (Nat.le_refl _), Nat.sub_self, List.append_assoc]; rfl
theorem get_mid' {α : Type} (a : List α) (x : α) (c d : List α) : (a ++ [x] ++ c ++ d)[a.length]? = some x := by
  rw [List.append_assoc, List.append_assoc, List.getElem?_append_right (Nat.le_refl _), Nat.sub_self]; rfl
theorem set_mid {α : Type} (a : List α) (x y : α) (c : List α) : (a ++ [x] ++ c).set a.length y = a ++ y :: c := by
  rw [List.append_assoc, List.set_append_right _ _ (Nat.le_refl _), Nat.sub_self]; rfl
theorem get_mid {α : Type} (a : List α) (x : α) (c : List α) : (a ++ [x] ++ c)[a.length]? = some x := by
  rw [List.append_assoc, List.getElem?_append_right (Nat.le_refl _), Nat.sub_self]; rfl
def AddOk (f : Nat) : Prop := ∀ {w : World} {B M gl ol cl gn cn : Nat} {L : List Pr} {ts : List Nd} {ps : List Bt} {i e n : Nat}, 17 ≤ n + f → n ≤ 16 → i < e → e ≤ L.length → L.length ≤ 10000 → Fit (seg L i e) n →
  ts.length + 3 * (e - i) + 2 * f ≤ 40000 → ps.length = ts.length → L.length ≤ cl → L.length ≤ cn → (gl < B ∧ gl ≠ M ∧ gn < B ∧ gn ≠ M) →
  Mk B M (.slice (some ⟨gl, ol, none⟩) L.length cl) (.slice (some ⟨gn, 0, none⟩) L.length cn) ts ps w → Rd gl ol gn L w →
  Calls Tryd.prog 26 #[.pointer (some ⟨M, 0, none⟩), .int .i64 (i : Int), .int .i64 (e : Int), .int .i64 (n : Int)] w fun x w' => x = .returned (.int .i64 (ts.length : Int)) ∧
    Mk B M (.slice (some ⟨gl, ol, none⟩) L.length cl) (.slice (some ⟨gn, 0, none⟩) L.length cn) (ts ++ nds (grow f (seg L i e) n ts.length)) (ps ++ pths (grow f (seg L i e) n ts.length)) w' ∧ Thru B M w w'

end Go.Proofs.YtelaiblhnhbgiaaDoor
