/-
  The document's own nodes of pairs, said of stretches of a list: what a stretch is, that how deep it may go doesn't matter, the groups as runs. Plain mathematics.
-/
import Derived.Test.YtelaiblhnhbgiaaDoorShpM
namespace Go.Proofs.YtelaiblhnhbgiaaDoor
set_option maxRecDepth 20000

def seg {α : Type} (L : List α) (i j : Nat) : List α := (L.take j).drop i
section
variable {α : Type} {L : List α}
theorem seg_len {i j : Nat} (hj : j ≤ L.length) : (seg L i j).length = j - i := by unfold seg; rw [List.length_drop, List.length_take]; omega
theorem seg_get {i j x : Nat} (hx : i + x < j) : (seg L i j)[x]? = L[i + x]? := by unfold seg; rw [List.getElem?_drop, List.getElem?_take, if_pos hx]
theorem seg_append {i j k : Nat} (hij : i ≤ j) (hjk : j ≤ k) : seg L i j ++ seg L j k = seg L i k := by
  unfold seg
  by_cases h : j ≤ L.length
  · have e : L.take k = L.take j ++ (L.take k).drop j := by
      conv => lhs; rw [← List.take_append_drop j (L.take k)]
      rw [List.take_take, Nat.min_eq_left hjk]
    conv => rhs; rw [e]
    rw [List.drop_append_of_le_length (by rw [List.length_take]; omega)]
  · rw [List.take_of_length_le (by omega), List.take_of_length_le (by omega), List.drop_eq_nil_iff.2 (show L.length ≤ j by omega), List.append_nil]
theorem seg_self (i : Nat) : seg L i i = [] := by unfold seg; rw [List.drop_eq_nil_iff, List.length_take]; omega
theorem seg_all : seg L 0 L.length = L := by unfold seg; rw [List.take_length, List.drop_zero]
theorem seg_cons {i j : Nat} {p : α} (hij : i < j) (hp : L[i]? = some p) : seg L i j = p :: seg L (i + 1) j := by
  unfold seg
  have hi := (List.getElem?_eq_some_iff.1 hp).1
  rw [List.drop_eq_getElem_cons (by rw [List.length_take]; omega)]
  congr 1
  rw [List.getElem_take]
  exact (List.getElem?_eq_some_iff.1 hp).2
theorem seg_one {i : Nat} {p : α} (hp : L[i]? = some p) : seg L i (i + 1) = [p] := by rw [seg_cons (Nat.lt_succ_self i) hp, seg_self]
theorem seg_mem {i j x : Nat} {p : α} (hi : i ≤ x) (hj : x < j) (hp : L[x]? = some p) : p ∈ seg L i j := by
  have : (seg L i j)[x - i]? = some p := by rw [seg_get (by omega), show i + (x - i) = x by omega]; exact hp
  exact List.mem_of_getElem? this
theorem mem_seg {i j : Nat} {p : α} (h : p ∈ seg L i j) : ∃ x, i ≤ x ∧ x < j ∧ L[x]? = some p := by
  obtain ⟨x, hx⟩ := List.getElem?_of_mem h
  unfold seg at hx
  rw [List.getElem?_drop, List.getElem?_take] at hx
  split at hx
  · next hlt => exact ⟨i + x, by omega, hlt, hx⟩
  · cases hx
end

theorem kidsW_congr {G G' : List Pr → Nat → List NP} {gs : Nat → List Pr} {b : Nat} : ∀ h, (∀ c, c < h → gs c ≠ [] → ∀ b', G (gs c) b' = G' (gs c) b') → kidsW G gs b h = kidsW G' gs b h
  | 0, _ => rfl
  | h + 1, hG => by
    have ih := kidsW_congr (b := b) h fun c hc => hG c (by omega)
    show (if gs h = [] then _ else _) = (if gs h = [] then _ else _)
    rw [ih]
    split
    · rfl
    · next hne => rw [hG h (by omega) hne]
theorem forkW_congr {G G' : List Pr → Nat → List NP} {l : List Pr} {n b : Nat} (hG : ∀ c, c < 16 → grp (restL l n) n c ≠ [] → ∀ b', G (grp (restL l n) n c) b' = G' (grp (restL l n) n c) b') : forkW G l n b = forkW G' l n b := by
  unfold forkW
  rw [kidsW_congr 16 hG]
theorem grow_fuel : ∀ (f f' : Nat) (l : List Pr) (n b : Nat), 17 ≤ n + f → 17 ≤ n + f' → Fit l n → l ≠ [] → grow f l n b = grow f' l n b
  | 0, _, l, n, b, h, _, hl, hne => by
    obtain ⟨p, hp, _⟩ := headK_mem hne
    have := hl.len p hp
    omega
  | _ + 1, 0, l, n, b, _, h, hl, hne => by
    obtain ⟨p, hp, _⟩ := headK_mem hne
    have := hl.len p hp
    omega
  | f + 1, f' + 1, l, n, b, h, h', hl, hne => by
    unfold grow
    split
    · rfl
    split
    · rfl
    next h0 h1 =>
      have F := hl.fork (by omega)
      split
      · next hc =>
        rw [hc, Nat.add_zero] at F
        exact forkW_congr fun c _ hg b' => grow_fuel f f' _ (n + 1) b' (by omega) (by omega) (F.group c) hg
      · next hc =>
        congr 1
        exact forkW_congr fun c _ hg b' => grow_fuel f f' _ (n + comG l n + 1) b' (by omega) (by omega) (F.group c) hg
theorem grow_ext {f : Nat} {l : List Pr} {n b : Nat} (h : 17 ≤ n + (f + 1)) (hl : Fit l n) (h2 : 2 ≤ l.length) (hc : comG l n ≠ 0) :
    grow (f + 1) l n b = (extN (((headK l).drop n).take (comG l n)) ((b + 1 : Nat) : Int), (headK l).take n) :: grow f l (n + comG l n) (b + 1) := by
  have F := hl.fork h2
  have hne := F.ne
  have hcm := (hl.com hne).2
  obtain ⟨p, hp, e, _⟩ := headK_mem hne
  have h16 := hl.len p hp
  rw [e] at h16
  cases f with
  | zero => omega
  | succ f =>
    conv => lhs; unfold grow
    conv => rhs; unfold grow
    rw [if_neg (by omega), if_neg (by omega), if_neg hc, if_neg (by omega), if_neg (by omega), if_pos comG_again]
    congr 1
    exact forkW_congr fun c _ hg b' => grow_fuel (f + 1) f _ (n + comG l n + 1) b' (by omega) (by omega) (F.group c) hg
theorem grow_leaf {f : Nat} {l : List Pr} {n b : Nat} {p : Pr} (h : l = [p]) : grow (f + 1) l n b = [(leafN (p.1.drop n) p.2, p.1.take n)] := by
  subst h; unfold grow; rfl
theorem grow_fork {f : Nat} {l : List Pr} {n b : Nat} (h2 : 2 ≤ l.length) (hc : comG l n = 0) : grow (f + 1) l n b = forkW (fun g => grow f g (n + 1)) l n b := by
  conv => lhs; unfold grow
  rw [if_neg (by omega), if_neg (by omega), if_pos hc]

theorem kidsW_stay {G : List Pr → Nat → List NP} {gs : Nat → List Pr} {b : Nat} : ∀ (k h : Nat), (∀ c, h ≤ c → c < h + k → gs c = []) → kidsW G gs b (h + k) = kidsW G gs b h
  | 0, _, _ => rfl
  | k + 1, h, hg => by
    rw [← Nat.add_assoc]
    show (if gs (h + k) = [] then _ else _) = _
    rw [if_pos (hg (h + k) (by omega) (by omega))]
    exact kidsW_stay k h fun c h1 h2 => hg c h1 (by omega)
theorem filter_all {α : Type} {P : α → Bool} {l : List α} (h : ∀ x ∈ l, P x = true) : l.filter P = l := List.filter_eq_self.2 h
theorem filter_nil {α : Type} {P : α → Bool} {l : List α} (h : ∀ x ∈ l, P x = false) : l.filter P = [] := List.filter_eq_nil_iff.2 fun x hx => by rw [h x hx]; decide
/-- What the walk knows of a fork as far as the groups are laid. -/
structure Sofar (L : List Pr) (i0 e n h x : Nat) : Prop where
  ord : (seg L i0 e).Pairwise (fun p q => nib p n ≤ nib q n)
  lt : ∀ p ∈ seg L i0 e, nib p n < 16
  ix : i0 ≤ x
  xe : x ≤ e
  le : h ≤ 16
  upto : ∀ p ∈ seg L i0 x, nib p n < h
  from_ : ∀ p ∈ seg L x e, h ≤ nib p n
theorem Sofar.next {L : List Pr} {i0 e n h x y : Nat} (S : Sofar L i0 e n h x) {p : Pr} (hp : L[x]? = some p) (hxy : x < y) (hye : y ≤ e) (hr : ∀ z q, x ≤ z → z < y → L[z]? = some q → nib q n = nib p n)
    (hs : y < e → ∀ q, L[y]? = some q → nib q n ≠ nib p n) (he : e ≤ L.length) (G : List Pr → Nat → List NP) (b : Nat) :
    Sofar L i0 e n (nib p n + 1) y ∧ h ≤ nib p n ∧ nib p n < 16 ∧ grp (seg L i0 e) n (nib p n) = seg L x y ∧
    kidsW G (fun c => grp (seg L i0 e) n c) b (nib p n + 1) = ((kidsW G (fun c => grp (seg L i0 e) n c) b h).1.set (nib p n) ((b + (kidsW G (fun c => grp (seg L i0 e) n c) b h).2.length : Nat) : Int), (kidsW G (fun c => grp (seg L i0 e) n c) b h).2 ++ G (seg L x y) (b + (kidsW G (fun c => grp (seg L i0 e) n c) b h).2.length)) := by
  have hpm : p ∈ seg L x e := seg_mem (Nat.le_refl _) (by omega) hp
  have hpi : p ∈ seg L i0 e := seg_mem S.ix (by omega) hp
  have h1 := S.from_ p hpm
  have h16 := S.lt p hpi
  have hmid : ∀ q ∈ seg L x y, nib q n = nib p n := fun q hq => by
    obtain ⟨z, z1, z2, hz⟩ := mem_seg hq
    exact hr z q z1 z2 hz
  have hend : ∀ q ∈ seg L y e, nib p n < nib q n := fun q hq => by
    obtain ⟨z, z1, z2, hz⟩ := mem_seg hq
    obtain ⟨r, hr'⟩ : ∃ r, L[y]? = some r := ⟨L[y]'(by omega), List.getElem?_eq_getElem _⟩
    have hne := hs (by omega) r hr'
    have o := S.ord
    rw [List.pairwise_iff_getElem] at o
    have get : ∀ a u, i0 ≤ a → a < e → L[a]? = some u → ∃ (ha : a - i0 < (seg L i0 e).length), (seg L i0 e)[a - i0] = u := fun a u a1 a2 au => by
      have : (seg L i0 e)[a - i0]? = some u := by rw [seg_get (by omega), show i0 + (a - i0) = a by omega]; exact au
      exact List.getElem?_eq_some_iff.1 this
    obtain ⟨px, px'⟩ := get x p S.ix (by omega) hp
    have S_ix := S.ix
    obtain ⟨py, py'⟩ := get y r (by omega) (by omega) hr'
    obtain ⟨pz, pz'⟩ := get z q (by omega) z2 hz
    have o1 := o (x - i0) (y - i0) px py (by omega)
    rw [px', py'] at o1
    rcases Nat.lt_or_ge y z with hyz | hyz
    · have o2 := o (y - i0) (z - i0) py pz (by omega)
      rw [py', pz'] at o2
      omega
    · obtain rfl : z = y := by omega
      rw [hr'] at hz
      obtain rfl := Option.some.inj hz
      omega
  have hsplit : seg L i0 e = seg L i0 x ++ (seg L x y ++ seg L y e) := by
    rw [seg_append (Nat.le_of_lt hxy) hye, seg_append S.ix (by omega)]
  have hgrp : grp (seg L i0 e) n (nib p n) = seg L x y := by
    unfold grp
    rw [hsplit, List.filter_append, List.filter_append, filter_nil (fun q hq => by have := S.upto q hq; rw [beq_eq_false_iff_ne]; omega), filter_all (fun q hq => by rw [hmid q hq]; exact beq_self_eq_true _), filter_nil (fun q hq => by have := hend q hq; rw [beq_eq_false_iff_ne]; omega)]
    simp
  have hne : seg L x y ≠ [] := List.ne_nil_of_mem (seg_mem (Nat.le_refl _) hxy hp)
  have hstay : kidsW G (fun c => grp (seg L i0 e) n c) b (nib p n) = kidsW G (fun c => grp (seg L i0 e) n c) b h := by
    have := kidsW_stay (G := G) (gs := fun c => grp (seg L i0 e) n c) (b := b) (nib p n - h) h fun c c1 c2 => by
      show List.filter _ _ = []
      rw [hsplit, List.filter_append, List.filter_append, filter_nil (fun q hq => by have := S.upto q hq; rw [beq_eq_false_iff_ne]; omega), filter_nil (fun q hq => by have := hmid q hq; rw [beq_eq_false_iff_ne]; omega), filter_nil (fun q hq => by have := hend q hq; rw [beq_eq_false_iff_ne]; omega)]
      rfl
    rwa [show h + (nib p n - h) = nib p n by omega] at this
  refine ⟨⟨S.ord, S.lt, by have := S.ix; omega, hye, by omega, fun q hq => ?_, fun q hq => by have := hend q hq; omega⟩, h1, h16, hgrp, ?_⟩
  · rw [← seg_append S.ix (Nat.le_of_lt hxy)] at hq
    rcases List.mem_append.1 hq with hq | hq
    · have := S.upto q hq; omega
    · have := hmid q hq; omega
  · show (if grp (seg L i0 e) n (nib p n) = [] then _ else _) = _
    rw [hgrp, if_neg hne, hstay]
    simp only [hgrp]
theorem Sofar.done {L : List Pr} {i0 e n h : Nat} (S : Sofar L i0 e n h e) (G : List Pr → Nat → List NP) (b : Nat) :
    kidsW G (fun c => grp (seg L i0 e) n c) b 16 = kidsW G (fun c => grp (seg L i0 e) n c) b h := by
  have hle := S.le
  have := kidsW_stay (G := G) (gs := fun c => grp (seg L i0 e) n c) (b := b) (16 - h) h fun c c1 _ => by
    show List.filter _ _ = []
    exact filter_nil fun q hq => by have := S.upto q hq; rw [beq_eq_false_iff_ne]; omega
  rwa [show h + (16 - h) = 16 by omega] at this
theorem Sofar.start {L : List Pr} {i e n i0 : Nat} (F : Fork (seg L i e) n) (h0 : restL (seg L i e) n = seg L i0 e) (hi : i0 ≤ e) : Sofar L i0 e n 0 i0 :=
  ⟨h0 ▸ F.order, fun p hp => by rw [← h0] at hp; exact F.restfit.nib_lt hp (F.long p hp), Nat.le_refl _, hi, by omega, fun p hp => by rw [seg_self] at hp; simp at hp, fun _ _ => Nat.zero_le _⟩
theorem rest_seg {L : List Pr} {i e n : Nat} {p : Pr} (hie : i < e) (hp : L[i]? = some p) : restL (seg L i e) n = if p.1.length = n then seg L (i + 1) e else seg L i e := by
  rw [seg_cons hie hp]
  unfold restL endsB
  by_cases h : p.1.length = n
  · rw [if_pos (by simpa using h), if_pos h]; rfl
  · rw [if_neg (by simpa using h), if_neg h]
theorem head_seg {L : List Pr} {i e : Nat} {p : Pr} (hie : i < e) (hp : L[i]? = some p) : headK (seg L i e) = p.1 ∧ headVal (seg L i e) = p.2 := by rw [seg_cons hie hp]; exact ⟨rfl, rfl⟩
theorem last_seg {L : List Pr} {i e : Nat} {p : Pr} (hie : i ≤ e) (hp : L[e]? = some p) : lastL (seg L i (e + 1)) = p.1 := by
  rw [← seg_append hie (Nat.le_succ e), seg_one hp]
  unfold lastL
  rw [List.getLast?_append]
  rfl

end Go.Proofs.YtelaiblhnhbgiaaDoor
