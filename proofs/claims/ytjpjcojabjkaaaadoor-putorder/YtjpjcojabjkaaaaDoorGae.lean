/-
  The small functions of nibble: isOdd, joinedSize, allHalves, Good, Common: what each returns, for every text. A region that draws its order, whose operations only read and whose callees keep all that lay in memory, walked once, in the order of the text.
-/
import Derived.Test.YtjpjcojabjkaaaaDoorRows
import Derived.Test.YtjpjcojabjkaaaaDoorGaa
import Derived.Test.YtjpjcojabjkaaaaDoorGac
import Derived.WalkKit
import Derived.WalkSpells
import Derived.WalkLawsBesides
import Derived.RowKit3
import Derived.Below
import Derived.BigQuiet
namespace Go.Proofs.YtjpjcojabjkaaaaDoor
open Go.RowKit
set_option maxRecDepth 20000

def oddB (n : Nat) : Bool := decide (n % 2 = 1)
theorem ret_bool {a b : Bool} (h : a = b) : Ending.returned (.bool a) = .returned (.bool b) := by rw [h]
theorem ret_str {a b : ByteArray} (h : a = b) : Ending.returned (.string a) = .returned (.string b) := by rw [h]
theorem ret_int {a b : Int} (h : a = b) : Ending.returned (.int .i64 a) = .returned (.int .i64 b) := by rw [h]

/-- All that lay in memory is as it was. -/
def Kept (w w' : World) : Prop := New w w'
theorem Kept.refl (w : World) : Kept w w := New.refl w
theorem Kept.trans {a b c : World} (h : Kept a b) (k : Kept b c) : Kept a c := New.trans h k

theorem Kept.below {w w' : World} (h : Below w.heap.size w w') : Kept w w' := h
theorem Kept.drew (w : World) : Kept w w.drew := New.drew w
theorem Kept.drewR {w w' : World} (h : Kept w w') : Kept w w'.drew := h.trans (Kept.drew _)
theorem Kept.allocR {w w' : World} (h : Kept w w') (o : Obj) : Kept w (w'.alloc o) := New.alloc h o
theorem Kept.cell {w w' : World} (h : Kept w w') {b o : Nat} (hb : b < w.heap.size) : w'.cell? ⟨b, o, none⟩ = w.cell? ⟨b, o, none⟩ := New.cell h hb
theorem Kept.size {w w' : World} (h : Kept w w') : w.heap.size ≤ w'.heap.size := Below.size h
theorem odd_form (n : Nat) : ((n : Int) % 2 != 0) = oddB n := by
  unfold oddB
  rw [Bool.eq_iff_iff, bne_iff_ne, decide_eq_true_eq]; omega

theorem isOdd_any (n : Nat) (w : World) :
    Calls Tryd.prog 60 #[.int .i64 (n : Int)] w fun e w' => e = .returned (.bool (oddB n)) ∧ w' = w := by
  go_enter Tryd.func60, Tryd.ntmps60
  go_wp2
  go_ret
  exact ⟨ret_bool (odd_form n), rfl⟩

theorem joinedSize_any (n : Nat) (hn : n ≤ 5000) (w : World) :
    Calls Tryd.prog 63 #[.int .i64 (n : Int)] w fun e w' => e = .returned (.int .i64 (((n + 1) / 2 : Nat) : Int)) ∧ w' = w := by
  go_enter Tryd.func63, Tryd.ntmps63
  go_wp2
  go_ret
  exact ⟨ret_int (by omega), rfl⟩

theorem andNot15 : ∀ n : Nat, n < 256 → (bits .andNot .u8 (n : Int) 15 != 0) = !decide (n < 16) := by decide +kernel
theorem and15 : ∀ n : Nat, n < 256 → bits .and .u8 (n : Int) 15 = ((n % 16 : Nat) : Int) := by decide +kernel
theorem or_halves : ∀ a : Nat, a < 16 → ∀ b : Nat, b < 16 → bits .or .u8 ((a * 16 : Nat) : Int) (b : Int) = ((a * 16 + b : Nat) : Int) := by decide +kernel

set_option maxHeartbeats 400000 in
theorem allHalves_any (s : ByteArray) (hs : s.size ≤ 5000) (w : World) :
    Calls Tryd.prog 59 #[.string s] w fun e w' => e = .returned (.bool (halvesB (L s))) ∧ w' = w := by
  go_enter Tryd.func59, Tryd.ntmps59
  go_wp2_with fail
  go_loop [6] (fun i => ∃ k : Nat, k ≤ s.size ∧ i = .int .i64 k ∧ ∀ (j : Nat) c, j < k → (L s)[j]? = some c → c.toNat < 16) (fun i => s.size - (intOf i).toNat)
  case atStart => exact ⟨0, by omega, rfl, fun j c h => absurd h (by omega)⟩
  case round =>
    obtain ⟨k, hk, rfl, hall⟩ := hrel
    have HA : Hid (∀ (j : Nat) c, j < k → (L s)[j]? = some c → c.toNat < 16) := hall
    clear hall
    by_cases hlt : k < s.size
    · have hc : Hid ((L s)[k]? = some s[k]) := L_get s k hlt
      have ht := andNot15 (s[k]).toNat (s[k]).toNat_lt
      by_cases h16 : (s[k]).toNat < 16
      · rw [decide_eq_true h16] at ht
        go_wp2_with fail
        go_round
        case rel => exact ⟨k + 1, by omega, by go_num, fun j c hj hjc => by
          by_cases e : j = k
          · subst e; rw [hc.out] at hjc; cases hjc; exact h16
          · exact HA.out j c (by omega) hjc⟩
        case measure => simp [intOf]; omega
      · rw [decide_eq_false h16] at ht
        go_wp2_with fail
        go_ret
        exact ⟨ret_bool (halvesB_bad hc.out h16).symm, rfl⟩
    · obtain rfl : k = s.size := by omega
      go_wp2_with fail
      go_ret
      refine ⟨ret_bool (halvesB_good fun j c h => HA.out j c ?_ h).symm, rfl⟩
      rw [← L_size s]
      exact (List.getElem?_eq_some_iff.1 h).1

def goodB (l : List UInt8) : Bool := decide (l.length ≤ 16) && halvesB l
set_option maxHeartbeats 400000 in
theorem good_any (s : ByteArray) (hs : s.size ≤ 5000) (w : World) :
    Calls Tryd.prog 52 #[.string s] w fun e w' => e = .returned (.bool (goodB (L s))) ∧ w' = w := by
  by_cases h : s.size ≤ 16
  · have hd : decide ((s.size : Int) ≤ 16) = true := decide_eq_true (by omega)
    have HG : Hid (goodB (L s) = halvesB (L s)) := by show _ = _; unfold goodB; rw [decide_eq_true (by rw [L_size]; exact h)]; rfl
    go_enter Tryd.func52, Tryd.ntmps52
    go_wp2_with fail
    refine (allHalves_any s hs _).mono ?_
    rintro e w1 ⟨rfl, rfl⟩
    go_wp2_with fail
    go_ret
    exact ⟨ret_bool HG.out.symm, rfl⟩
  · have hd : decide ((s.size : Int) ≤ 16) = false := decide_eq_false (by omega)
    have HG : Hid (goodB (L s) = false) := by show _ = _; unfold goodB; rw [decide_eq_false (by rw [L_size]; exact h)]; rfl
    go_enter Tryd.func52, Tryd.ntmps52
    go_wp2_with fail
    go_ret
    exact ⟨ret_bool HG.out.symm, rfl⟩

theorem com_step {l m : List UInt8} {k : Nat} {a : UInt8} (h : l.take k = m.take k) (ha : l[k]? = some a) (hb : m[k]? = some a) : l.take (k + 1) = m.take (k + 1) := by
  rw [List.take_add_one, List.take_add_one, h, ha, hb]

set_option maxHeartbeats 400000 in
theorem common_any (s t : ByteArray) (hs : s.size ≤ 5000) (ht : t.size ≤ 5000) (w : World) :
    Calls Tryd.prog 43 #[.string s, .string t] w fun e w' => e = .returned (.int .i64 (comN (L s) (L t) : Nat)) ∧ Kept w w' := by
  go_enter Tryd.func43, Tryd.ntmps43
  go_wp2_with fail
  all_goals
    go_loopw [13] (fun i wr => ∃ k : Nat, k ≤ s.size ∧ k ≤ t.size ∧ i = .int .i64 k ∧ (L s).take k = (L t).take k ∧ Kept w wr) (fun i _ => s.size - (intOf i).toNat)
    case atStart => exact ⟨0, by omega, by omega, rfl, rfl, Kept.refl _⟩
    case round =>
      obtain ⟨k, hk1, hk2, rfl, hpre, hkept⟩ := hrel
      have HP : Hid ((L s).take k = (L t).take k) := hpre
      clear hpre
      by_cases hlt : k < s.size ∧ k < t.size
      · obtain ⟨h1, h2⟩ := hlt
        have hc : Hid ((L s)[k]? = some s[k]) := L_get s k h1
        have hd : Hid ((L t)[k]? = some t[k]) := L_get t k h2
        by_cases he : s[k] = t[k]
        · have hb : ((s[k].toNat : Int) != (t[k].toNat : Int)) = false := by rw [he]; simp
          have HE : Hid (s[k] = t[k]) := he
          clear he
          go_wp2_with fail
          go_region
          go_wp2_with fail
          exact ⟨⟨k + 1, by omega, by omega, by go_num, com_step HP.out (hc.out.trans (by rw [HE.out])) hd.out, hkept.trans (Kept.drew _)⟩, by simp [intOf]; omega⟩
        · have hb : ((s[k].toNat : Int) != (t[k].toNat : Int)) = true := by
            rw [bne_iff_ne]; intro h; exact he (UInt8.toNat_inj.1 (by omega))
          have HE : Hid (comN (L s) (L t) = k) := comN_stop _ _ _ HP.out (by rw [L_size]; omega) (by rw [L_size]; omega) (.inr (.inr ⟨_, _, hc.out, hd.out, he⟩))
          clear he
          go_wp2_with fail
          go_region
          go_wp2_with fail
          go_ret
          exact ⟨ret_int (by rw [HE.out]), hkept.trans (Kept.drew _)⟩
      · have HE : Hid (comN (L s) (L t) = k) := comN_stop _ _ _ HP.out (by rw [L_size]; omega) (by rw [L_size]; omega) (by rw [L_size, L_size]; omega)
        go_wp2_with fail
        go_ret
        exact ⟨ret_int (by rw [HE.out]; omega), hkept⟩

end Go.Proofs.YtjpjcojabjkaaaaDoor
namespace Go.Proofs.YtjpjcojabjkaaaaDoor
open Go.RowKit
set_option maxRecDepth 20000

/-- A world in which all that lay in w is as it was. -/
structure KeptW (w : World) where
  v : World
  h : Kept w v

theorem region_kept {P : Program} {id : Nat} {Q : Exit → Act → World → Prop} {a : Act} {w : World} {l : List Oper} (W : World) (hW : Kept W w) (hm : P.follows .mixedOrders = true) (hB : Region.lexB .any l.toArray = true)
    (h : wpQuiet P l.toArray (fun w' => ∃ p : KeptW W, w' = p.v) (fun a' => ∀ w', (∃ p : KeptW W, w' = p.v) → Q .normal a' w') l a) : (Code.region id l.toArray true).wp P Q a w :=
  wp_region_quiet (C := fun w' => ∃ p : KeptW W, w' = p.v) hm hB ⟨⟨w.drew, hW.drewR⟩, rfl⟩ (by simpa using h)

theorem Calls.keptw {P : Program} {f : FuncId} {args : Array Value} {W : World} {p : KeptW W} {v : Value}
    (h : Calls P f args p.v fun e w' => e = .returned v ∧ Kept p.v w') : Calls P f args p.v fun e w'' => e = .returned v ∧ ∃ q : KeptW W, w'' = q.v :=
  h.mono fun _ _ ⟨he, hk⟩ => ⟨he, ⟨_, p.h.trans hk⟩, rfl⟩
theorem Calls.keptw_same {P : Program} {f : FuncId} {args : Array Value} {W : World} {p : KeptW W} {v : Value}
    (h : Calls P f args p.v fun e w' => e = .returned v ∧ w' = p.v) : Calls P f args p.v fun e w'' => e = .returned v ∧ ∃ q : KeptW W, w'' = q.v :=
  h.mono fun _ _ ⟨he, hk⟩ => ⟨he, p, hk⟩

end Go.Proofs.YtjpjcojabjkaaaaDoor
