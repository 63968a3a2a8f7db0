/-
  The laws' own small run, without memory.
-/
import Derived.Test.YtkcoclpbkealgaaDoorQPages
namespace Go.Proofs.YtkcoclpbkealgaaDoor

section
variable {A B C X Y : List UInt8}
def dk (A B C X : List UInt8) (ws : List (Nat × List UInt8)) : St := ⟨9, [A, B, C, X], ws, -1, false⟩
theorem wk1 (rA : rightB A = true) : (startP (dk A B C X []) 2).fetch 0 = ⟨0, A, ⟨dk A B C X [], [⟨0, A, 1, false, true⟩, noFm], 0⟩⟩ := by
  simp [PS.fetch, PS.readIn, PS.find, PS.bump, PS.setF, PS.fm, startP, keys, Fm.key, idx, isAt, freeAt, St.read, latest, latestN, dk, noFm, rA, List.findIdx?_cons]
theorem wk2 (a0 : A ≠ []) (rB : rightB B = true) : PS.fetch ⟨dk A B C X [], [⟨0, A, 1, false, true⟩, noFm], 0⟩ 1 = ⟨0, B, ⟨dk A B C X [], [⟨0, A, 1, false, true⟩, ⟨1, B, 1, false, true⟩], 0⟩⟩ := by
  simp [PS.fetch, PS.readIn, PS.find, PS.bump, PS.setF, PS.fm, keys, Fm.key, idx, isAt, freeAt, St.read, latest, latestN, dk, noFm, rB, a0, List.findIdx?_cons]
theorem wk3 (a0 : A ≠ []) (b0 : B ≠ []) : PS.fetch ⟨dk A B C X [], [⟨0, A, 1, false, true⟩, ⟨1, B, 1, false, true⟩], 0⟩ 2 = ⟨5, [], ⟨dk A B C X [], [⟨0, A, 1, false, true⟩, ⟨1, B, 1, false, true⟩], 0⟩⟩ := by
  simp [PS.fetch, PS.readIn, PS.find, chooseN, keys, Fm.key, idx, isAt, freeAt, dk, a0, b0, List.findIdx?_cons]
theorem wk4 (a0 : A ≠ []) (b0 : B ≠ []) : PS.unpin ⟨dk A B C X [], [⟨0, A, 1, false, true⟩, ⟨1, B, 1, false, true⟩], 0⟩ 0 = (0, ⟨dk A B C X [], [⟨0, A, 0, false, true⟩, ⟨1, B, 1, false, true⟩], 0⟩) := by
  simp [PS.unpin, PS.setF, PS.fm, keys, Fm.key, idx, isAt, dk, a0, b0, List.findIdx?_cons]
theorem wk5 (a0 : A ≠ []) (b0 : B ≠ []) (rC : rightB C = true) : PS.fetch ⟨dk A B C X [], [⟨0, A, 0, false, true⟩, ⟨1, B, 1, false, true⟩], 0⟩ 2 = ⟨0, C, ⟨dk A B C X [], [⟨2, C, 1, false, true⟩, ⟨1, B, 1, false, true⟩], 1⟩⟩ := by
  simp [PS.fetch, PS.readIn, PS.find, chooseN, PS.vacate, PS.bump, PS.setF, PS.fm, keys, Fm.key, idx, isAt, freeAt, St.read, latest, latestN, dk, noFm, rC, a0, b0, List.findIdx?_cons]
theorem wk6 (b0 : B ≠ []) (c0 : C ≠ []) (y : Y.length = 256) : PS.put ⟨dk A B C X [], [⟨2, C, 1, false, true⟩, ⟨1, B, 1, false, true⟩], 1⟩ 1 Y = (0, ⟨dk A B C X [], [⟨2, C, 1, false, true⟩, ⟨1, Y, 1, true, true⟩], 1⟩) := by
  simp [PS.put, PS.lay, PS.setF, PS.fm, keys, Fm.key, idx, isAt, dk, b0, c0, y, List.findIdx?_cons]
theorem wk7 (c0 : C ≠ []) (y0 : Y ≠ []) : PS.fetch ⟨dk A B C X [], [⟨2, C, 1, false, true⟩, ⟨1, Y, 1, true, true⟩], 1⟩ 3 = ⟨5, [], ⟨dk A B C X [], [⟨2, C, 1, false, true⟩, ⟨1, Y, 1, true, true⟩], 1⟩⟩ := by
  simp [PS.fetch, PS.readIn, PS.find, chooseN, keys, Fm.key, idx, isAt, freeAt, dk, c0, y0, List.findIdx?_cons]
theorem wk8 (c0 : C ≠ []) (y : Y.length = 256) (y0 : Y ≠ []) : PS.flush ⟨dk A B C X [], [⟨2, C, 1, false, true⟩, ⟨1, Y, 1, true, true⟩], 1⟩ = (0, ⟨dk A B C X [(1, Y)], [⟨2, C, 1, false, true⟩, ⟨1, Y, 1, false, true⟩], 1⟩) := by
  simp [PS.flush, flushL, dirties, sorted, PS.write, St.write, St.burn, PS.fm, keys, Fm.key, idx, isAt, dk, c0, y0, y, List.findIdx?_cons]
theorem wk9 : (dk A B C X [(1, Y)]).read 1 = (0, Y) := by
  simp [St.read, latest, latestN, dk]
theorem wk10 (c0 : C ≠ []) (y0 : Y ≠ []) : sorted (held [⟨2, C, 1, false, true⟩, ⟨1, Y, 1, false, true⟩]) = [1, 2] := by
  simp [held, keys, Fm.key, c0, y0, sorted, List.mergeSort]
theorem wk11 (c0 : C ≠ []) (y0 : Y ≠ []) : PS.unpin ⟨dk A B C X [(1, Y)], [⟨2, C, 1, false, true⟩, ⟨1, Y, 1, false, true⟩], 1⟩ 0 = (1, ⟨dk A B C X [(1, Y)], [⟨2, C, 1, false, true⟩, ⟨1, Y, 1, false, true⟩], 1⟩) := by
  simp [PS.unpin, keys, Fm.key, idx, isAt, c0, y0, List.findIdx?_cons]
theorem wk12 : sorted (dirties [⟨2, C, 1, false, true⟩, ⟨1, Y, 1, false, true⟩]) = [] := by
  simp [dirties, sorted]
end
end Go.Proofs.YtkcoclpbkealgaaDoor
