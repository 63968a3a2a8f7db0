/-
  Items, their texts in pieces, and back again, said of lists of bytes: plain mathematics.
-/
import Derived.Test.YtecamiefpdkjoaaDoorNbBackA
namespace Go.Proofs.YtecamiefpdkjoaaDoor

/-- An Item: kind, path, has, value, mask, hashes. -/
structure It where
  k : Int
  p : List UInt8
  has : Bool
  v : List UInt8
  m : Int
  hs : List (List UInt8)

/-- How many of the first bits of a number are set. -/
def popT (m : Nat) : Nat → Nat
  | 0 => 0
  | k + 1 => popT m k + m / 2 ^ k % 2
def popN (m : Nat) : Nat := popT m 16
theorem popT_le (m k : Nat) : popT m k ≤ k := by
  induction k with
  | zero => exact Nat.le_refl _
  | succ k ih => show popT m k + m / 2 ^ k % 2 ≤ k + 1; omega
theorem popN_le (m : Nat) : popN m ≤ 16 := popT_le m 16

def emptyB (l : List UInt8) : Bool := decide (l.length = 0)
theorem emptyB_true {l : List UInt8} : emptyB l = true ↔ l = [] := by unfold emptyB; rw [decide_eq_true_eq, List.length_eq_zero_iff]
theorem emptyB_false {l : List UInt8} : emptyB l = false ↔ l ≠ [] := by unfold emptyB; rw [decide_eq_false_iff_not, List.length_eq_zero_iff]
def goodV (I : It) : Bool := decide (I.v.length ≤ 16) && (I.has || emptyB I.v)
def goodH (hs : List (List UInt8)) (n : Nat) : Bool := decide (hs.length = n) && hs.all fun h => decide (h.length = 32)
def leadsN (I : It) : Nat := popN I.m.toNat + if I.has then 1 else 0
def goodLf (I : It) : Bool := goodB I.p && (I.has && (goodV I && (decide (I.m = 0) && decide (I.hs.length = 0))))
def goodEx (I : It) : Bool := !emptyB I.p && (goodB I.p && (!I.has && (emptyB I.v && (decide (I.m = 1) && goodH I.hs 1))))
def goodBr (I : It) : Bool := emptyB I.p && (decide (0 ≤ I.m) && (decide (I.m ≤ 65535) && (goodV I && (decide (2 ≤ leadsN I) && goodH I.hs (popN I.m.toNat)))))
def goodI (I : It) : Bool := if I.k = 1 then goodLf I else if I.k = 2 then goodEx I else if I.k = 3 then goodBr I else false

theorem goodH_iff {hs : List (List UInt8)} {n : Nat} : goodH hs n = true ↔ hs.length = n ∧ ∀ h ∈ hs, h.length = 32 := by
  unfold goodH; simp
inductive GoodI : It → Prop
  | leaf (p v : List UInt8) (hp : goodB p = true) (hv : v.length ≤ 16) : GoodI ⟨1, p, true, v, 0, []⟩
  | ext (p h : List UInt8) (hp : goodB p = true) (h0 : p ≠ []) (hh : h.length = 32) : GoodI ⟨2, p, false, [], 1, [h]⟩
  | branch (has : Bool) (v : List UInt8) (m : Nat) (hs : List (List UInt8)) (hv : v.length ≤ 16) (hv2 : has = false → v = []) (hm : m < 65536) (h2 : 2 ≤ popN m + if has then 1 else 0) (hl : hs.length = popN m) (hh : ∀ h ∈ hs, h.length = 32) : GoodI ⟨3, [], has, v, (m : Int), hs⟩
theorem goodI_iff (I : It) : goodI I = true ↔ GoodI I := by
  constructor
  · intro h
    obtain ⟨k, p, has, v, m, hs⟩ := I
    unfold goodI at h
    simp only at h
    split at h
    · subst k
      unfold goodLf goodV at h
      simp only [Bool.and_eq_true, decide_eq_true_eq, List.length_eq_zero_iff] at h
      obtain ⟨h1, h2, ⟨h3, _⟩, h5, h6⟩ := h
      subst h2; subst h5; subst h6
      exact .leaf p v h1 h3
    · split at h
      · subst k
        unfold goodEx at h
        simp only [Bool.and_eq_true, decide_eq_true_eq, Bool.not_eq_true', emptyB_true, emptyB_false, goodH_iff] at h
        obtain ⟨h1, h2, h3, h4, h5, h6, h7⟩ := h
        subst h3; subst h4; subst h5
        obtain ⟨x, rfl⟩ := List.length_eq_one_iff.1 h6
        exact .ext p x h2 h1 (h7 x (by simp))
      · split at h
        · subst k
          unfold goodBr goodV leadsN at h
          simp only [Bool.and_eq_true, decide_eq_true_eq, Bool.or_eq_true, emptyB_true, goodH_iff] at h
          obtain ⟨h1, h2, h3, ⟨h4, h5⟩, h6, h7, h8⟩ := h
          subst h1
          obtain ⟨n, rfl⟩ : ∃ n : Nat, m = (n : Int) := ⟨m.toNat, by omega⟩
          rw [Int.toNat_natCast] at h6 h7
          exact .branch has v n hs h4 (fun e => h5.resolve_left (by rw [e]; decide)) (by omega) h6 h7 h8
        · cases h
  · intro h
    cases h with
    | leaf p v hp hv => simp [goodI, goodLf, goodV, hp, hv]
    | ext p h hp h0 hh => simp [goodI, goodEx, hp, goodH, hh, emptyB_false.2 h0]; rfl
    | branch has v m hs hv hv2 hm h2 hl hh =>
      have e : goodH hs (popN m) = true := goodH_iff.2 ⟨hl, hh⟩
      have e2 : (has || emptyB v) = true := by
        cases has with
        | true => rfl
        | false => rw [hv2 rfl]; rfl
      simp only [goodI, goodBr, goodV, leadsN, Int.toNat_natCast, e, e2, hv]
      simp [h2, emptyB]
      omega

/-- An Item's text in pieces. -/
structure Pt where
  kind : List UInt8
  path : List UInt8
  mask : List UInt8
  has : List UInt8
  size : List UInt8
  value : List UInt8
  hs : List (List UInt8)
  rest : List UInt8
def Pt.text (P : Pt) : List UInt8 := P.kind ++ (P.path ++ (P.mask ++ (P.has ++ (P.size ++ (P.value ++ P.hs.flatten)))))
def pad16 (hs : List (List UInt8)) : List (List UInt8) := hs ++ List.replicate (16 - hs.length) []
theorem pad16_length (hs : List (List UInt8)) (h : hs.length ≤ 16) : (pad16 hs).length = 16 := by unfold pad16; simp; omega
theorem flat_nil (n : Nat) : (List.replicate n ([] : List UInt8)).flatten = [] := by
  induction n with
  | zero => rfl
  | succ n ih => rw [List.replicate_succ, List.flatten_cons, ih]; rfl
theorem pad16_flat (hs : List (List UInt8)) : (pad16 hs).flatten = hs.flatten := by
  unfold pad16; rw [List.flatten_append, flat_nil, List.append_nil]
def ptOf (I : It) : Pt :=
  { kind := [UInt8.ofNat I.k.toNat]
    path := if I.k = 3 then [] else packL I.p
    mask := if I.k = 3 then [UInt8.ofNat (I.m.toNat / 256), UInt8.ofNat I.m.toNat] else []
    has := if I.k = 3 then [if I.has then 1 else 0] else []
    size := if I.has then [UInt8.ofNat I.v.length] else []
    value := if I.has then I.v else []
    hs := pad16 I.hs
    rest := [] }
def encL (I : It) : List UInt8 := (ptOf I).text

/-- Bytes as a number, the highest first. -/
def numN (l : List UInt8) : Nat := l.foldl (fun v c => v * 256 + c.toNat) 0
theorem numN_one (c : UInt8) : numN [c] = c.toNat := by show 0 * 256 + c.toNat = _; omega
theorem numN_two (c d : UInt8) : numN [c, d] = c.toNat * 256 + d.toNat := by show (0 * 256 + c.toNat) * 256 + d.toNat = _; omega
/-- How many bytes the Pack has that a text begins with. -/
def pkN (l : List UInt8) : Nat := if unpackB l then unUsed l else 0
/-- So many pieces of 32 bytes. -/
def cutH (l : List UInt8) (n : Nat) : List (List UInt8) := (List.range n).map fun j => (l.drop (32 * j)).take 32
theorem cutH_length (l : List UInt8) (n : Nat) : (cutH l n).length = n := by unfold cutH; simp
theorem cutH_succ (l : List UInt8) (n : Nat) : cutH l (n + 1) = cutH l n ++ [(l.drop (32 * n)).take 32] := by unfold cutH; rw [List.range_succ, List.map_append]; rfl

def leafP (s : List UInt8) : Pt :=
  { kind := s.take 1, path := (s.drop 1).take (pkN (s.drop 1)), mask := [], has := []
    size := ((s.drop 1).drop (pkN (s.drop 1))).take 1
    value := (((s.drop 1).drop (pkN (s.drop 1))).drop 1).take (numN (((s.drop 1).drop (pkN (s.drop 1))).take 1))
    hs := List.replicate 16 []
    rest := (((s.drop 1).drop (pkN (s.drop 1))).drop 1).drop (numN (((s.drop 1).drop (pkN (s.drop 1))).take 1)) }
def extP (s : List UInt8) : Pt :=
  { kind := s.take 1, path := (s.drop 1).take (pkN (s.drop 1)), mask := [], has := [], size := [], value := []
    hs := pad16 [((s.drop 1).drop (pkN (s.drop 1))).take 32]
    rest := ((s.drop 1).drop (pkN (s.drop 1))).drop 32 }
def brV (r : List UInt8) (P : Pt) : Pt :=
  { P with hs := pad16 (cutH r (popN (numN P.mask))), rest := r.drop (32 * popN (numN P.mask)) }
def brP (s : List UInt8) : Pt :=
  if ((s.drop 1).drop 2).take 1 = [1] then
    brV (((((s.drop 1).drop 2).drop 1).drop 1).drop (numN ((((s.drop 1).drop 2).drop 1).take 1)))
      { kind := s.take 1, path := [], mask := (s.drop 1).take 2, has := ((s.drop 1).drop 2).take 1
        size := (((s.drop 1).drop 2).drop 1).take 1, value := ((((s.drop 1).drop 2).drop 1).drop 1).take (numN ((((s.drop 1).drop 2).drop 1).take 1)), hs := [], rest := [] }
  else brV (((s.drop 1).drop 2).drop 1)
      { kind := s.take 1, path := [], mask := (s.drop 1).take 2, has := ((s.drop 1).drop 2).take 1, size := [], value := [], hs := [], rest := [] }
def inP (s : List UInt8) : Pt :=
  if numN (s.take 1) = 1 then leafP s else if numN (s.take 1) = 2 then extP s else if numN (s.take 1) = 3 then brP s
  else { kind := s.take 1, path := [], mask := [], has := [], size := [], value := [], hs := List.replicate 16 [], rest := s.drop 1 }

theorem cutH_flat (l : List UInt8) (n : Nat) : (cutH l n).flatten ++ l.drop (32 * n) = l := by
  induction n with
  | zero => simp [cutH]
  | succ n ih =>
    rw [cutH_succ, List.flatten_append, List.append_assoc]
    show _ ++ (([(l.drop (32 * n)).take 32] : List (List UInt8)).flatten ++ _) = l
    rw [show ([(l.drop (32 * n)).take 32] : List (List UInt8)).flatten = (l.drop (32 * n)).take 32 by simp, show 32 * (n + 1) = 32 * n + 32 by omega, ← List.drop_drop, List.take_append_drop]
    exact ih
/-- What was read, put together, is the text. -/
theorem in_text (s : List UInt8) : (inP s).text ++ (inP s).rest = s := by
  have h1 : s.take 1 ++ s.drop 1 = s := List.take_append_drop 1 s
  unfold inP
  split
  · unfold leafP Pt.text
    simp only [flat_nil, List.append_assoc, List.nil_append]
    generalize s.drop 1 = r at *
    rw [List.take_append_drop, List.take_append_drop, List.take_append_drop, h1]
  · split
    · unfold extP Pt.text
      simp only [pad16_flat, List.append_assoc, List.nil_append, List.flatten_cons, List.flatten_nil]
      generalize s.drop 1 = r at *
      rw [List.take_append_drop, List.take_append_drop, h1]
    · split
      · unfold brP
        split
        · unfold brV Pt.text
          simp only [pad16_flat, List.append_assoc, List.nil_append]
          rw [cutH_flat]
          generalize s.drop 1 = r at *
          rw [List.take_append_drop, List.take_append_drop, List.take_append_drop, List.take_append_drop, h1]
        · unfold brV Pt.text
          simp only [pad16_flat, List.append_assoc, List.nil_append]
          rw [cutH_flat]
          generalize s.drop 1 = r at *
          rw [List.take_append_drop, List.take_append_drop, h1]
      · unfold Pt.text
        simp only [flat_nil, List.append_nil]
        exact h1

/-- What the pieces tell. -/
def itM (P : Pt) : Nat := if numN P.kind = 2 then 1 else if numN P.kind = 3 then numN P.mask else 0
def itP (P : Pt) : It :=
  { k := (numN P.kind : Nat), p := if unpackB P.path then unN P.path else [], has := decide (numN P.kind = 1) || (decide (numN P.kind = 3) && decide (P.has = [1])), v := P.value, m := (itM P : Nat), hs := P.hs.take (popN (itM P)) }
theorem pop0 : popN 0 = 0 := by decide
theorem pop1 : popN 1 = 1 := by decide
theorem mask_num (m : Nat) (h : m < 65536) : numN [UInt8.ofNat (m / 256), UInt8.ofNat m] = m := by
  rw [numN_two, UInt8.toNat_ofNat', UInt8.toNat_ofNat']; omega
theorem size_num (v : List UInt8) (h : v.length ≤ 16) : numN [UInt8.ofNat v.length] = v.length := by
  rw [numN_one, UInt8.toNat_ofNat']; omega
theorem take_pad (hs : List (List UInt8)) : (pad16 hs).take hs.length = hs := by
  unfold pad16; rw [List.take_left]
theorem unpack_self (p : List UInt8) (h : goodB p = true) : unpackB (packL p) = true ∧ unN (packL p) = p := by
  have := unpack_pack p [] h
  rw [List.append_nil] at this
  exact ⟨this.1, this.2.1⟩
theorem it_pt (I : It) (h : goodI I = true) : itP (ptOf I) = I := by
  rw [goodI_iff] at h
  cases h with
  | leaf p v hp hv =>
    have hu := unpack_self p hp
    unfold itP itM ptOf
    simp [numN_one, hu, pop0]
  | ext p h hp h0 hh =>
    have hu := unpack_self p hp
    unfold itP itM ptOf
    simp [numN_one, hu, pop1, pad16]
  | branch has v m hs hv hv2 hm h2 hl hh =>
    unfold itP itM ptOf
    have hk : numN [UInt8.ofNat (3 : Int).toNat] = 3 := by decide
    simp only [hk, if_true, Int.toNat_natCast, mask_num m hm]
    have e1 : (pad16 hs).take (popN m) = hs := by rw [← hl]; exact take_pad hs
    simp only [show (3 : Nat) = 2 ↔ False by simp, if_false, e1]
    cases has with
    | true => simp [unpackB]
    | false => simp [unpackB, hv2 rfl]

theorem drop_pack (p r : List UInt8) (h : goodB p = true) : pkN (packL p ++ r) = (packL p).length := by
  have := unpack_pack p r h
  unfold pkN
  rw [this.1, if_pos rfl, this.2.2]
theorem cutH_eq (hs : List (List UInt8)) (r : List UInt8) (h : ∀ x ∈ hs, x.length = 32) : cutH (hs.flatten ++ r) hs.length = hs ∧ (hs.flatten ++ r).drop (32 * hs.length) = r := by
  induction hs generalizing r with
  | nil => simp [cutH]
  | cons x hs ih =>
    have hx := h x (by simp)
    have ih := ih r (fun y hy => h y (by simp [hy]))
    have e : (x :: hs).flatten ++ r = x ++ (hs.flatten ++ r) := by rw [List.flatten_cons, List.append_assoc]
    rw [e]
    refine ⟨?_, ?_⟩
    · unfold cutH
      rw [List.length_cons, List.range_succ_eq_map, List.map_cons, List.map_map]
      have h0 : ((x ++ (hs.flatten ++ r)).drop (32 * 0)).take 32 = x := by rw [Nat.mul_zero, List.drop_zero, ← hx, List.take_left]
      rw [h0]
      congr 1
      refine Eq.trans ?_ ih.1
      unfold cutH
      refine List.map_congr_left fun j _ => ?_
      show ((x ++ (hs.flatten ++ r)).drop (32 * (j + 1))).take 32 = _
      rw [show 32 * (j + 1) = x.length + 32 * j by omega, ← List.drop_drop, List.drop_left]
    · rw [List.length_cons, show 32 * (hs.length + 1) = x.length + 32 * hs.length by omega, ← List.drop_drop, List.drop_left]
      exact ih.2
/-- An Item's text is read in its pieces, whatever stands behind it. -/
theorem in_more (I : It) (h : goodI I = true) (r : List UInt8) : inP (encL I ++ r) = { ptOf I with rest := r } := by
  rw [goodI_iff] at h
  cases h with
  | leaf p v hp hv =>
    have e : encL ⟨1, p, true, v, 0, []⟩ ++ r = 1 :: (packL p ++ (UInt8.ofNat v.length :: (v ++ r))) := by
      unfold encL Pt.text ptOf
      simp [pad16]
    rw [e]
    unfold inP
    rw [if_pos (by rfl)]
    unfold leafP
    have hd : (1 :: (packL p ++ (UInt8.ofNat v.length :: (v ++ r)))).drop 1 = packL p ++ (UInt8.ofNat v.length :: (v ++ r)) := rfl
    rw [hd, drop_pack p _ hp, List.take_left, List.drop_left]
    have h1 : (UInt8.ofNat v.length :: (v ++ r)).take 1 = [UInt8.ofNat v.length] := rfl
    have h2 : (UInt8.ofNat v.length :: (v ++ r)).drop 1 = v ++ r := rfl
    rw [h1, h2, size_num v hv, List.take_left, List.drop_left]
    rfl
  | ext p h hp h0 hh =>
    have e : encL ⟨2, p, false, [], 1, [h]⟩ ++ r = 2 :: (packL p ++ (h ++ r)) := by
      unfold encL Pt.text ptOf
      simp [pad16]
    rw [e]
    unfold inP
    have hk : numN ((2 :: (packL p ++ (h ++ r))).take 1) = 2 := rfl
    rw [hk, if_neg (by decide), if_pos (by rfl)]
    unfold extP
    have hd : (2 :: (packL p ++ (h ++ r))).drop 1 = packL p ++ (h ++ r) := rfl
    rw [hd, drop_pack p _ hp, List.take_left, List.drop_left, ← hh, List.take_left, List.drop_left]
    rfl
  | branch has v m hs hv hv2 hm h2 hl hh =>
    have hc := cutH_eq hs r hh
    rw [hl] at hc
    cases has with
    | true =>
      have e : encL ⟨3, [], true, v, (m : Int), hs⟩ ++ r = 3 :: UInt8.ofNat (m / 256) :: UInt8.ofNat m :: 1 :: UInt8.ofNat v.length :: (v ++ (hs.flatten ++ r)) := by
        unfold encL Pt.text ptOf
        simp [pad16_flat]
      rw [e]
      generalize hs.flatten ++ r = t at *
      unfold inP
      have hk : numN ((3 :: UInt8.ofNat (m / 256) :: UInt8.ofNat m :: 1 :: UInt8.ofNat v.length :: (v ++ t)).take 1) = 3 := rfl
      rw [hk, if_neg (by decide), if_neg (by decide), if_pos (by rfl)]
      unfold brP
      rw [if_pos (by rfl)]
      have h3 : ((((3 :: UInt8.ofNat (m / 256) :: UInt8.ofNat m :: 1 :: UInt8.ofNat v.length :: (v ++ t)).drop 1).drop 2).drop 1).take 1 = [UInt8.ofNat v.length] := rfl
      have h4 : (((((3 :: UInt8.ofNat (m / 256) :: UInt8.ofNat m :: 1 :: UInt8.ofNat v.length :: (v ++ t)).drop 1).drop 2).drop 1).drop 1) = v ++ t := rfl
      have h5 : ((3 :: UInt8.ofNat (m / 256) :: UInt8.ofNat m :: 1 :: UInt8.ofNat v.length :: (v ++ t)).drop 1).take 2 = [UInt8.ofNat (m / 256), UInt8.ofNat m] := rfl
      rw [h3, h4, h5, size_num v hv, List.take_left, List.drop_left]
      unfold brV
      simp only [mask_num m hm]
      rw [hc.1, hc.2]
      rfl
    | false =>
      obtain rfl := hv2 rfl
      have e : encL ⟨3, [], false, [], (m : Int), hs⟩ ++ r = 3 :: UInt8.ofNat (m / 256) :: UInt8.ofNat m :: 0 :: (hs.flatten ++ r) := by
        unfold encL Pt.text ptOf
        simp [pad16_flat]
      rw [e]
      generalize hs.flatten ++ r = t at *
      unfold inP
      have hk : numN ((3 :: UInt8.ofNat (m / 256) :: UInt8.ofNat m :: 0 :: t).take 1) = 3 := rfl
      rw [hk, if_neg (by decide), if_neg (by decide), if_pos (by rfl)]
      unfold brP
      have h1 : ((3 :: UInt8.ofNat (m / 256) :: UInt8.ofNat m :: 0 :: t).drop 1 |>.drop 2).take 1 = [0] := rfl
      rw [if_neg (by rw [h1]; decide)]
      have h5 : ((3 :: UInt8.ofNat (m / 256) :: UInt8.ofNat m :: 0 :: t).drop 1).take 2 = [UInt8.ofNat (m / 256), UInt8.ofNat m] := rfl
      have h4 : (((3 :: UInt8.ofNat (m / 256) :: UInt8.ofNat m :: 0 :: t).drop 1).drop 2).drop 1 = t := rfl
      rw [h4, h5]
      unfold brV
      simp only [mask_num m hm]
      rw [hc.1, hc.2]
      rfl
theorem in_enc (I : It) (h : goodI I = true) : inP (encL I) = ptOf I := by
  have := in_more I h []
  rw [List.append_nil] at this
  exact this

/-- What is decoded. -/
def decB (s : List UInt8) : Bool := goodI (itP (inP s)) && decide ((ptOf (itP (inP s))).kind = (inP s).kind ∧ (ptOf (itP (inP s))).path = (inP s).path ∧ (ptOf (itP (inP s))).mask = (inP s).mask ∧ (ptOf (itP (inP s))).has = (inP s).has ∧ (ptOf (itP (inP s))).size = (inP s).size ∧ (ptOf (itP (inP s))).value = (inP s).value ∧ (ptOf (itP (inP s))).hs = (inP s).hs ∧ (ptOf (itP (inP s))).rest = (inP s).rest)
theorem Pt.ext_iff {P Q : Pt} : (P.kind = Q.kind ∧ P.path = Q.path ∧ P.mask = Q.mask ∧ P.has = Q.has ∧ P.size = Q.size ∧ P.value = Q.value ∧ P.hs = Q.hs ∧ P.rest = Q.rest) ↔ P = Q := by
  obtain ⟨a, b, c, d, e, f, g, h⟩ := P
  obtain ⟨a', b', c', d', e', f', g', h'⟩ := Q
  simp
theorem decB_iff (s : List UInt8) : decB s = true ↔ goodI (itP (inP s)) = true ∧ ptOf (itP (inP s)) = inP s := by
  unfold decB
  rw [Bool.and_eq_true, decide_eq_true_eq, Pt.ext_iff]
theorem dec_yes {s : List UInt8} (h : decB s = true) : goodI (itP (inP s)) = true ∧ encL (itP (inP s)) = s := by
  obtain ⟨h1, h2⟩ := (decB_iff s).1 h
  refine ⟨h1, ?_⟩
  have h3 := in_text s
  rw [← h2] at h3
  have h4 : (ptOf (itP (inP s))).rest = [] := rfl
  rw [h4, List.append_nil] at h3
  exact h3
theorem dec_enc (I : It) (h : goodI I = true) : decB (encL I) = true ∧ itP (inP (encL I)) = I := by
  have e := in_enc I h
  have e2 := it_pt I h
  refine ⟨(decB_iff _).2 ?_, by rw [e, e2]⟩
  rw [e, e2]
  exact ⟨h, rfl⟩
theorem enc_inj {I J : It} (hI : goodI I = true) (hJ : goodI J = true) (h : encL I = encL J) : I = J := by
  rw [← (dec_enc I hI).2, h, (dec_enc J hJ).2]
/-- With a byte more it is none's. -/
theorem dec_more (I : It) (h : goodI I = true) : decB (encL I ++ [0]) = false := by
  rw [Bool.eq_false_iff]
  intro hd
  obtain ⟨h1, h2⟩ := (decB_iff _).1 hd
  rw [in_more I h [0]] at h2
  have h3 := congrArg Pt.rest h2
  cases h3

end Go.Proofs.YtecamiefpdkjoaaDoor
