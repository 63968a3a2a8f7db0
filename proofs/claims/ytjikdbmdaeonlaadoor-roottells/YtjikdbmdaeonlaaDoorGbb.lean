/-
  What the rows' list of variables gives: the three tables lie in the first three blocks; and a world for the witness that holds them.
-/
import Derived.Test.YtjikdbmdaeonlaaDoorGba
import Derived.Test.YtjikdbmdaeonlaaDoorCards
import Derived.Test.YtjikdbmdaeonlaaDoorTie
import Derived.ProofKit
import Derived.OpenShut
import Derived.ShutString
import Derived.LaidSub
import Derived.Deep.DeepHandedRow
import Derived.Lib.LaidTab
namespace Go.Proofs.YtjikdbmdaeonlaaDoor
open Go.ChangeShapes Go.WideShapes Go.ChangeAt Go.RowKit
set_option maxRecDepth 20000

theorem ownK : ownKnob Tryd.prog.godebug = none := by kernel_rfl
theorem laidOut : laidOutB Tryd.prog = true := by kernel_rfl
theorem gA : Tryd.prog.globalNamed "umbel/digest.first" = some 0 := by kernel_rfl
theorem gB : Tryd.prog.globalNamed "umbel/digest.rounds" = some 1 := by kernel_rfl
theorem gC : Tryd.prog.globalNamed "umbel/nibble.upper" = some 2 := by kernel_rfl
theorem gAt : (Tryd.prog.globals[0]?).map (·.type) = some 67 := by kernel_rfl
theorem gBt : (Tryd.prog.globals[1]?).map (·.type) = some 69 := by kernel_rfl
theorem gCt : (Tryd.prog.globals[2]?).map (·.type) = some 131 := by kernel_rfl
theorem cells62 : Tryd.prog.cellsOf 67 = 8 := by kernel_rfl
theorem cells75 : Tryd.prog.cellsOf 69 = 64 := by kernel_rfl
theorem cells61 : Tryd.prog.cellsOf 66 = 1 := by kernel_rfl
theorem cells97 : Tryd.prog.cellsOf 131 = 16 := by kernel_rfl
theorem cells5 : Tryd.prog.cellsOf 5 = 1 := by kernel_rfl
def firstI : List Int := [1779033703, 3144134277, 1013904242, 2773480762, 1359893119, 2600822924, 528734635, 1541459225]
def roundsI : List Int := [1116352408, 1899447441, 3049323471, 3921009573, 961987163, 1508970993, 2453635748, 2870763221, 3624381080, 310598401, 607225278, 1426881987, 1925078388, 2162078206, 2614888103, 3248222580, 3835390401, 4022224774, 264347078, 604807628, 770255983, 1249150122, 1555081692, 1996064986, 2554220882, 2821834349, 2952996808, 3210313671, 3336571891, 3584528711, 113926993, 338241895, 666307205, 773529912, 1294757372, 1396182291, 1695183700, 1986661051, 2177026350, 2456956037, 2730485921, 2820302411, 3259730800, 3345764771, 3516065817, 3600352804, 4094571909, 275423344, 430227734, 506948616, 659060556, 883997877, 958139571, 1322822218, 1537002063, 1747873779, 1955562222, 2024104815, 2227730452, 2361852424, 2428436474, 2756734187, 3204031479, 3329325298]
def uppers : List Int := [0, 16, 32, 48, 64, 80, 96, 112, 128, 144, 160, 176, 192, 208, 224, 240]
theorem uppers_at : ∀ i : Nat, i < 16 → uppers.getD i 0 = ((i * 16 : Nat) : Int) := by decide
theorem has_of {W : World} {name : String} {g : Nat} {k : IntKind} {zs : List Int} (h : Lib.TabIs Tryd.prog W name k zs) (hg : Tryd.prog.globalNamed name = some g) : Dg.Has W g (zs.map fun z => Value.int k z).toArray := by
  unfold Lib.TabIs World.var? at h
  rw [hg] at h
  simp only [Option.bind_some] at h
  split at h
  · rename_i cs t fr e
    cases h
    exact ⟨t, fr, e⟩
  · cases h


/-- What the rows' list gives. -/
theorem tab_of {W : World} (h : laidMetH Tryd.prog [("umbel/digest.first", Rows.laid_umbel_digest_first), ("umbel/digest.rounds", Rows.laid_umbel_digest_rounds), ("umbel/nibble.upper", Rows.laid_umbel_nibble_upper)] W) : No.TT W := by
  have h0 : laidMet Tryd.prog [("umbel/digest.first", Rows.laid_umbel_digest_first), ("umbel/digest.rounds", Rows.laid_umbel_digest_rounds), ("umbel/nibble.upper", Rows.laid_umbel_nibble_upper)] W := h
  have hA : Lib.TabIs Tryd.prog W "umbel/digest.first" .u32 firstI := Lib.tabIs_of_head gA gAt Tryd.underlying67 Tryd.underlying66 cells61 cells62 h0
  have h1 : laidMet Tryd.prog [("umbel/digest.rounds", Rows.laid_umbel_digest_rounds)] W := laidMet.filter (fun x => x.1 == "umbel/digest.rounds") h0
  have h2 : laidMet Tryd.prog [("umbel/nibble.upper", Rows.laid_umbel_nibble_upper)] W := laidMet.filter (fun x => x.1 == "umbel/nibble.upper") h0
  have hB : Lib.TabIs Tryd.prog W "umbel/digest.rounds" .u32 roundsI := Lib.tabIs_of_head (rest := []) gB gBt Tryd.underlying69 Tryd.underlying66 cells61 cells75 h1
  have hC : Lib.TabIs Tryd.prog W "umbel/nibble.upper" .u8 uppers := Lib.tabIs_of_head (rest := []) gC gCt Tryd.underlying131 Tryd.underlying5 cells5 cells97 h2
  have hc : ∀ i : Nat, i < 16 → W.cell? ⟨2, i, none⟩ = some (.int .u8 ((i * 16 : Nat) : Int)) := fun i hi => by
    rw [← uppers_at i hi]
    exact hC.cell gC i hi
  exact ⟨⟨World.block_lt_of_cell? W _ (hc 0 (by decide)), hc⟩, has_of hA gA, has_of hB gB⟩

/-- A world for the witness: the settled one, the tables holding what their initialisers lay. -/
def laying (cs : Array Value) : Obj → Obj
  | .cells _ t frozen => .cells cs t frozen
  | o => o
def laidWorld (P : Program) (os : Os) : World :=
  { World.holding P os ⟨#[], #[], []⟩ with heap := (((World.holding P os ⟨#[], #[], []⟩).heap.modify 0 (laying #[.int .u32 1779033703, .int .u32 3144134277, .int .u32 1013904242, .int .u32 2773480762, .int .u32 1359893119, .int .u32 2600822924, .int .u32 528734635, .int .u32 1541459225])).modify 1 (laying #[.int .u32 1116352408, .int .u32 1899447441, .int .u32 3049323471, .int .u32 3921009573, .int .u32 961987163, .int .u32 1508970993, .int .u32 2453635748, .int .u32 2870763221, .int .u32 3624381080, .int .u32 310598401, .int .u32 607225278, .int .u32 1426881987, .int .u32 1925078388, .int .u32 2162078206, .int .u32 2614888103, .int .u32 3248222580, .int .u32 3835390401, .int .u32 4022224774, .int .u32 264347078, .int .u32 604807628, .int .u32 770255983, .int .u32 1249150122, .int .u32 1555081692, .int .u32 1996064986, .int .u32 2554220882, .int .u32 2821834349, .int .u32 2952996808, .int .u32 3210313671, .int .u32 3336571891, .int .u32 3584528711, .int .u32 113926993, .int .u32 338241895, .int .u32 666307205, .int .u32 773529912, .int .u32 1294757372, .int .u32 1396182291, .int .u32 1695183700, .int .u32 1986661051, .int .u32 2177026350, .int .u32 2456956037, .int .u32 2730485921, .int .u32 2820302411, .int .u32 3259730800, .int .u32 3345764771, .int .u32 3516065817, .int .u32 3600352804, .int .u32 4094571909, .int .u32 275423344, .int .u32 430227734, .int .u32 506948616, .int .u32 659060556, .int .u32 883997877, .int .u32 958139571, .int .u32 1322822218, .int .u32 1537002063, .int .u32 1747873779, .int .u32 1955562222, .int .u32 2024104815, .int .u32 2227730452, .int .u32 2361852424, .int .u32 2428436474, .int .u32 2756734187, .int .u32 3204031479, .int .u32 3329325298])).modify 2 (laying #[.int .u8 0, .int .u8 16, .int .u8 32, .int .u8 48, .int .u8 64, .int .u8 80, .int .u8 96, .int .u8 112, .int .u8 128, .int .u8 144, .int .u8 160, .int .u8 176, .int .u8 192, .int .u8 208, .int .u8 224, .int .u8 240]) }

end Go.Proofs.YtjikdbmdaeonlaaDoor
