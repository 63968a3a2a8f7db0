/-
  Pages, what waits, a fuse: the disk in plain mathematics. Nothing of the program's dump is read here.
-/
import Derived.WalkKit
namespace Go.Proofs.YtkcoclpbkealgaaDoor
set_option maxRecDepth 20000

/-- A text's bytes; a text of bytes. -/
def L (s : ByteArray) : List UInt8 := s.data.toList
def bs (l : List UInt8) : ByteArray := ⟨l.toArray⟩
theorem L_bs (l : List UInt8) : L (bs l) = l := rfl
theorem bs_L (s : ByteArray) : bs (L s) = s := by obtain ⟨⟨l⟩⟩ := s; rfl
theorem L_size (s : ByteArray) : (L s).length = s.size := by obtain ⟨⟨l⟩⟩ := s; rfl
theorem bs_size (l : List UInt8) : (bs l).size = l.length := rfl
theorem L_get (s : ByteArray) (k : Nat) (h : k < s.size) : (L s)[k]? = some s[k] := by
  rw [List.getElem?_eq_getElem (by rw [L_size]; exact h)]; rfl
theorem L_append (s t : ByteArray) : L (s ++ t) = L s ++ L t := by
  show (s ++ t).data.toList = _
  rw [ByteArray.data_append, Array.toList_append]; rfl
theorem L_extract (s : ByteArray) (i j : Nat) : L (s.extract i j) = ((L s).take j).drop i := by
  show (s.extract i j).data.toList = _
  rw [ByteArray.data_extract, Array.toList_extract, List.extract_eq_take_drop, List.drop_take]; rfl
theorem eq_of_L {s t : ByteArray} (h : L s = L t) : s = t := by rw [← bs_L s, ← bs_L t, h]
theorem bs_inj {l m : List UInt8} (h : bs l = bs m) : l = m := by rw [← L_bs l, ← L_bs m, h]

section
variable {α : Type}
/-- s laid over l from o on. -/
def put (l : List α) (o : Nat) (s : List α) : List α := l.take o ++ (s ++ l.drop (o + s.length))
theorem put_length (l : List α) (o : Nat) (s : List α) (h : o + s.length ≤ l.length) : (put l o s).length = l.length := by
  unfold put; simp only [List.length_append, List.length_take, List.length_drop]; omega
theorem put_nil (l : List α) (o : Nat) : put l o [] = l := by unfold put; simp
theorem put_cons (l : List α) (o : Nat) (v : α) (r : List α) (h : o < l.length) : put l o (v :: r) = put (l.set o v) (o + 1) r := by
  unfold put
  rw [List.take_set, List.drop_set_of_lt (by omega), List.take_add_one, List.getElem?_eq_getElem h]
  have e : (l.take o).length = o := by rw [List.length_take]; omega
  rw [List.set_append_right _ _ (by omega), e, Nat.sub_self]
  simp [show o + 1 + r.length = o + (r.length + 1) by omega]
theorem put_append (a m b s : List α) (h : s.length = m.length) : put (a ++ (m ++ b)) a.length s = a ++ (s ++ b) := by
  unfold put
  rw [List.take_left, ← List.drop_drop, List.drop_left, h, List.drop_left]
theorem put_map {β : Type} (f : α → β) (l : List α) (o : Nat) (s : List α) : (put l o s).map f = put (l.map f) o (s.map f) := by
  unfold put; simp [List.map_take, List.map_drop]
theorem get_put_in (l : List α) (o : Nat) (s : List α) (h : o ≤ l.length) (j : Nat) (hj : j < s.length) : (put l o s)[o + j]? = s[j]? := by
  unfold put
  rw [List.getElem?_append_right (by rw [List.length_take]; omega), List.length_take, show o + j - min o l.length = j by omega, List.getElem?_append_left hj]
theorem get_put_out (l : List α) (o : Nat) (s : List α) (h : o + s.length ≤ l.length) (j : Nat) (hj : j < o ∨ o + s.length ≤ j) : (put l o s)[j]? = l[j]? := by
  unfold put
  rcases hj with hj | hj
  · rw [List.getElem?_append_left (by rw [List.length_take]; omega), List.getElem?_take, if_pos hj]
  · rw [List.getElem?_append_right (by rw [List.length_take]; omega), List.length_take, List.getElem?_append_right (by omega), List.getElem?_drop]
    congr 1; omega

/-- Rows of k laid one behind the other. -/
theorem flat_length {k : Nat} : ∀ {es : List (List α)}, (∀ e ∈ es, e.length = k) → es.flatten.length = es.length * k
  | [], _ => by simp
  | e :: es, h => by
    rw [List.flatten_cons, List.length_append, flat_length fun x hx => h x (by simp [hx]), h e (by simp), List.length_cons, Nat.add_mul]; omega
theorem flat_at {k : Nat} : ∀ {es : List (List α)} (i : Nat) (hi : i < es.length), (∀ e ∈ es, e.length = k) → (es.flatten.drop (i * k)).take k = es[i]
  | e :: es, 0, _, h => by
    simp only [Nat.zero_mul, List.drop_zero, List.flatten_cons, List.getElem_cons_zero]
    have := h e (by simp)
    rw [← this, List.take_left]
  | e :: es, i + 1, hi, h => by
    have hk := h e (by simp)
    rw [List.flatten_cons, show (i + 1) * k = e.length + i * k by rw [hk, Nat.add_mul]; omega, ← List.drop_drop, List.drop_left]
    exact flat_at i (by simpa using hi) fun x hx => h x (by simp [hx])
theorem flat_set {k : Nat} : ∀ {es : List (List α)} (i : Nat), i < es.length → (∀ e ∈ es, e.length = k) → ∀ e, e.length = k → put es.flatten (i * k) e = (es.set i e).flatten
  | x :: es, 0, _, h, e, he => by
    have hx := h x (by simp)
    rw [Nat.zero_mul, List.set_cons_zero, List.flatten_cons, List.flatten_cons]
    have := put_append [] x es.flatten e (by omega)
    simpa using this
  | x :: es, i + 1, hi, h, e, he => by
    have hx := h x (by simp)
    rw [List.set_cons_succ, List.flatten_cons, List.flatten_cons, ← flat_set i (by simpa using hi) (fun y hy => h y (by simp [hy])) e he]
    unfold put
    rw [show (i + 1) * k = x.length + i * k by rw [hx, Nat.add_mul]; omega, List.take_append, List.take_of_length_le (show x.length ≤ x.length + i * k by omega), show x.length + i * k - x.length = i * k by omega,
      show x.length + i * k + e.length = x.length + (i * k + e.length) by omega, ← List.drop_drop, List.drop_left, List.append_assoc]
theorem flat_take {k : Nat} : ∀ {es : List (List α)} (n : Nat), (∀ e ∈ es, e.length = k) → es.flatten.take (n * k) = (es.take n).flatten
  | [], n, _ => by simp
  | e :: es, 0, _ => by simp
  | e :: es, n + 1, h => by
    have hk := h e (by simp)
    rw [List.flatten_cons, List.take_succ_cons, List.flatten_cons, show (n + 1) * k = e.length + n * k by rw [hk, Nat.add_mul]; omega, List.take_append, List.take_of_length_le (by omega), show e.length + n * k - e.length = n * k by omega,
      flat_take n fun x hx => h x (by simp [hx])]
end

/-- Is that bit set? -/
def bitOf (c i : Nat) : Bool := c / 2 ^ i % 2 == 1
/-- The sector of that number. -/
def sec (l : List UInt8) (i : Nat) : List UInt8 := (l.drop (64 * i)).take 64
/-- The first n sectors of b over a, as c says. -/
def tearN (a b : List UInt8) (c : Nat) : Nat → List UInt8
  | 0 => a
  | n + 1 => if bitOf c n then put (tearN a b c n) (64 * n) (sec b n) else tearN a b c n
def tear (a b : List UInt8) (c : Nat) : List UInt8 := tearN a b c 4
theorem sec_length {l : List UInt8} {i : Nat} (h : l.length = 256) (hi : i < 4) : (sec l i).length = 64 := by
  unfold sec; rw [List.length_take, List.length_drop]; omega
theorem tearN_length {a b : List UInt8} {c n : Nat} (ha : a.length = 256) (hb : b.length = 256) (hn : n ≤ 4) : (tearN a b c n).length = 256 := by
  induction n with
  | zero => exact ha
  | succ n ih =>
    unfold tearN
    split
    · rw [put_length _ _ _ (by rw [sec_length hb (by omega), ih (by omega)]; omega), ih (by omega)]
    · exact ih (by omega)
theorem tear_length {a b : List UInt8} {c : Nat} (ha : a.length = 256) (hb : b.length = 256) : (tear a b c).length = 256 := tearN_length ha hb (Nat.le_refl _)

/-- What is stable, when the first n of what waits have come there. -/
def latestN (ps : List (List UInt8)) (ws : List (Nat × List UInt8)) : Nat → List (List UInt8)
  | 0 => ps
  | n + 1 => (latestN ps ws n).set (ws.getD n (0, [])).1 (ws.getD n (0, [])).2
def latest (ps : List (List UInt8)) (ws : List (Nat × List UInt8)) : List (List UInt8) := latestN ps ws ws.length
/-- The same, torn. -/
def crashN (ps : List (List UInt8)) (ws : List (Nat × List UInt8)) (cs : List UInt8) : Nat → List (List UInt8)
  | 0 => ps
  | n + 1 => (crashN ps ws cs n).set (ws.getD n (0, [])).1 (tear ((crashN ps ws cs n).getD (ws.getD n (0, [])).1 []) (ws.getD n (0, [])).2 (cs.getD n 0).toNat)
def crashed (ps : List (List UInt8)) (ws : List (Nat × List UInt8)) (cs : List UInt8) : List (List UInt8) := crashN ps ws cs (min cs.length ws.length)
theorem latestN_length (ps : List (List UInt8)) (ws : List (Nat × List UInt8)) (n : Nat) : (latestN ps ws n).length = ps.length := by
  induction n with
  | zero => rfl
  | succ n ih => unfold latestN; rw [List.length_set, ih]
theorem crashN_length (ps : List (List UInt8)) (ws : List (Nat × List UInt8)) (cs : List UInt8) (n : Nat) : (crashN ps ws cs n).length = ps.length := by
  induction n with
  | zero => rfl
  | succ n ih => unfold crashN; rw [List.length_set, ih]

/-- A disk. -/
structure St where
  lim : Nat
  ps : List (List UInt8)
  ws : List (Nat × List UInt8)
  fuse : Int
  down : Bool
structure Ok (S : St) : Prop where
  page : ∀ p ∈ S.ps, p.length = 256
  wait : ∀ x ∈ S.ws, x.1 < S.ps.length ∧ x.2.length = 256
  lim : S.lim ≤ 200
  len : S.ps.length ≤ S.lim
  few : S.ws.length ≤ 1000
  lo : -9223372036854775808 ≤ S.fuse
  hi : S.fuse ≤ 9223372036854775807
theorem Ok.at {S : St} (h : Ok S) {i : Nat} (hi : i < S.ws.length) : (S.ws.getD i (0, [])).1 < S.ps.length ∧ (S.ws.getD i (0, [])).2.length = 256 := by
  rw [List.getD_eq_getElem?_getD, List.getElem?_eq_getElem hi]; exact h.wait _ (List.getElem_mem hi)
theorem set_all {P : List UInt8 → Prop} {l : List (List UInt8)} {i : Nat} {x : List UInt8} (h : ∀ p ∈ l, P p) (hx : P x) : ∀ p ∈ l.set i x, P p := fun p hp => by
  rcases List.mem_or_eq_of_mem_set hp with h1 | rfl
  · exact h p h1
  · exact hx
theorem Ok.latest {S : St} (h : Ok S) : ∀ n, n ≤ S.ws.length → ∀ p ∈ latestN S.ps S.ws n, p.length = 256
  | 0, _ => h.page
  | n + 1, hn => set_all (h.latest n (by omega)) (h.at (by omega)).2
theorem Ok.crash {S : St} (h : Ok S) (cs : List UInt8) : ∀ n, n ≤ S.ws.length → ∀ p ∈ crashN S.ps S.ws cs n, p.length = 256
  | 0, _ => h.page
  | n + 1, hn => by
    refine set_all (h.crash cs n (by omega)) (tear_length ?_ (h.at (by omega)).2)
    have hlt : (S.ws.getD n (0, [])).1 < (crashN S.ps S.ws cs n).length := by rw [crashN_length]; exact (h.at (by omega)).1
    rw [List.getD_eq_getElem?_getD, List.getElem?_eq_getElem hlt]
    exact h.crash cs n (by omega) _ (List.getElem_mem hlt)

/-- One action's fuse. -/
def St.burn (S : St) : St := { S with fuse := if 0 < S.fuse then S.fuse - 1 else S.fuse }
def St.dead (S : St) : St := { S with down := true }
def zeros : List UInt8 := List.replicate 256 0
theorem zeros_length : zeros.length = 256 := by unfold zeros; rw [List.length_replicate]
def growTo (ps : List (List UInt8)) (n : Nat) : List (List UInt8) := ps ++ List.replicate (n - ps.length) zeros
def St.write (S : St) (at_ : Int) (d : List UInt8) : Int × St :=
  if S.down then (2, S) else if d.length ≠ 256 then (1, S) else if ¬ (0 ≤ at_ ∧ at_ < S.ps.length) then (4, S) else if S.fuse = 0 then (2, S.dead) else (0, { S.burn with ws := S.ws ++ [(at_.toNat, d)] })
def St.read (S : St) (at_ : Int) : Int × List UInt8 :=
  if S.down then (2, []) else if ¬ (0 ≤ at_ ∧ at_ < S.ps.length) then (4, []) else (0, (latest S.ps S.ws).getD at_.toNat [])
def St.sync (S : St) : Int × St :=
  if S.down then (2, S) else if S.fuse = 0 then (2, S.dead) else (0, { S.burn with ps := latest S.ps S.ws, ws := [] })
def St.grow (S : St) (n : Int) : Int × St :=
  if S.down then (2, S) else if n < 0 then (1, S) else if (S.lim : Int) < n then (3, S) else if S.fuse = 0 then (2, S.dead) else (0, { S.burn with ps := growTo S.ps n.toNat })
def St.shrink (S : St) (n : Int) : Int × St :=
  if S.down then (2, S) else if n < 0 ∨ (S.ps.length : Int) < n then (4, S) else if S.fuse = 0 then (2, S.dead) else (0, { S.burn with ps := S.ps.take n.toNat, ws := S.ws.filter fun x => decide (x.1 < n.toNat) })
def St.setFuse (S : St) (n : Int) : St := if S.down then S else { S with fuse := n }
def St.crash (S : St) (cs : List UInt8) : St := ⟨S.lim, crashed S.ps S.ws cs, [], -1, false⟩
theorem latest_length (ps : List (List UInt8)) (ws : List (Nat × List UInt8)) : (latest ps ws).length = ps.length := latestN_length _ _ _
theorem Ok.burn {S : St} (h : Ok S) : Ok S.burn := ⟨h.page, h.wait, h.lim, h.len, h.few, by have := h.lo; unfold St.burn; simp only; split <;> omega, by have := h.hi; unfold St.burn; simp only; split <;> omega⟩

/-- What is read: found from behind, or not at all. -/
theorem latestN_skip (ps : List (List UInt8)) (ws : List (Nat × List UInt8)) (a i : Nat) : ∀ n, i ≤ n → (∀ j, i ≤ j → j < n → (ws.getD j (0, [])).1 ≠ a) → (latestN ps ws n)[a]? = (latestN ps ws i)[a]?
  | n, hn, h => by
    by_cases e : i = n
    · rw [e]
    · obtain ⟨m, rfl⟩ : ∃ m, n = m + 1 := ⟨n - 1, by omega⟩
      rw [latestN, List.getElem?_set_ne (h m (by omega) (by omega))]
      exact latestN_skip ps ws a i m (by omega) fun j h1 h2 => h j h1 (by omega)
theorem latest_found {ps : List (List UInt8)} {ws : List (Nat × List UInt8)} {a i : Nat} (hi : i < ws.length) (ha : a < ps.length) (he : (ws.getD i (0, [])).1 = a) (h : ∀ j, i + 1 ≤ j → j < ws.length → (ws.getD j (0, [])).1 ≠ a) :
    (latest ps ws).getD a [] = (ws.getD i (0, [])).2 := by
  unfold latest
  rw [List.getD_eq_getElem?_getD, latestN_skip ps ws a (i + 1) _ (by omega) h, latestN, he, List.getElem?_set_self (by rw [latestN_length]; exact ha)]
  rfl
theorem latest_none {ps : List (List UInt8)} {ws : List (Nat × List UInt8)} {a : Nat} (h : ∀ j, 0 ≤ j → j < ws.length → (ws.getD j (0, [])).1 ≠ a) : (latest ps ws).getD a [] = ps.getD a [] := by
  unfold latest
  rw [List.getD_eq_getElem?_getD, latestN_skip ps ws a 0 _ (by omega) h, latestN, List.getD_eq_getElem?_getD]

end Go.Proofs.YtkcoclpbkealgaaDoor
