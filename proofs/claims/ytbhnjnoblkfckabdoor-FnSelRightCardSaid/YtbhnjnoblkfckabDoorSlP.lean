/- Seals, plain; no program. -/
import Derived.Test.YtbhnjnoblkfckabDoorPure
namespace Go.Proofs.YtbhnjnoblkfckabDoor

/-- A number mixed in. -/
def mixS (n k : Int) : Int := (n * 257 + k + 31) % 65521
theorem mixS_lt (n k : Int) : 0 ≤ mixS n k ∧ mixS n k < 65521 := ⟨Int.emod_nonneg _ (by decide), Int.emod_lt_of_pos _ (by decide)⟩
def numS (u : Bool) : Int := if u then 1 else 2
def tailS (key : Int) (p : List UInt8) (u : Bool) (t n : Int) : List Int := [(p.length : Int), numS u, t, n, key]
/-- The numbers that are mixed in. -/
def partS (key : Int) (p : List UInt8) (u : Bool) (t n : Int) : List Int :=
  [key, key / 3] ++ p.map (fun c => (c.toNat : Int)) ++ tailS key p u t n
theorem parts_len (key : Int) (p : List UInt8) (u : Bool) (t n : Int) : (partS key p u t n).length = p.length + 7 := by simp [partS, tailS]
theorem parts_0 (key : Int) (p : List UInt8) (u : Bool) (t n : Int) : (partS key p u t n).getD 0 0 = key := rfl
theorem parts_1 (key : Int) (p : List UInt8) (u : Bool) (t n : Int) : (partS key p u t n).getD 1 0 = key / 3 := rfl
theorem parts_mid {s : ByteArray} {k : Nat} (key : Int) (u : Bool) (t n : Int) (hk : k < s.size) : (partS key s.data.toList u t n).getD (k + 2) 0 = ((s[k]).toNat : Int) := by
  have h1 : k < s.data.toList.length := by rw [← size_len]; exact hk
  have h2 : (partS key s.data.toList u t n)[k + 2]? = some ((s[k]).toNat : Int) := by
    unfold partS
    rw [List.getElem?_append_left (by simp; rw [size_len] at hk; simpa using hk), List.getElem?_append_right (by simp), List.getElem?_map]
    simp only [List.length_cons, List.length_nil, Nat.zero_add, Nat.reduceAdd, Nat.add_sub_cancel]
    rw [at_get s k hk]; rfl
  rw [List.getD_eq_getElem?_getD, h2]; rfl
theorem parts_end (key : Int) (p : List UInt8) (u : Bool) (t n : Int) (j : Nat) : (partS key p u t n).getD (p.length + 2 + j) 0 = (tailS key p u t n).getD j 0 := by
  unfold partS
  rw [List.getD_eq_getElem?_getD, List.getD_eq_getElem?_getD, List.getElem?_append_right (by simp)]
  congr 2
  simp
def sumS (L : List Int) : Int := L.foldl mixS 7
theorem sumS_snoc (L : List Int) (k : Int) : sumS (L ++ [k]) = mixS (sumS L) k := by simp [sumS, List.foldl_append]
theorem sumS_lt : ∀ L : List Int, 0 ≤ sumS L ∧ sumS L < 65521 := by
  intro L
  rcases List.eq_nil_or_concat L with rfl | ⟨M, k, rfl⟩
  · decide
  · rw [List.concat_eq_append, sumS_snoc]; exact mixS_lt _ _
def sealB (key : Int) (p : ByteArray) (t n : Int) : Bool := (decide (1 ≤ key) && decide (key ≤ 9999)) && decide (p.size ≤ 40) && decide (0 ≤ t ∧ t ≤ 999999) && decide (0 ≤ n ∧ n ≤ 999999)
def selS (key : Int) (p : ByteArray) (u : Bool) (t n : Int) : Int := if sealB key p t n = true then sumS (partS key p.data.toList u t n) else 0
theorem selS_lt (key : Int) (p : ByteArray) (u : Bool) (t n : Int) : 0 ≤ selS key p u t n ∧ selS key p u t n < 65521 := by
  unfold selS; split
  · exact sumS_lt _
  · decide
/-- A seal: path, whether also under it, until when, number, code. -/
structure Sl where
  path : ByteArray
  under : Bool
  til : Int
  nonce : Int
  code : Int
abbrev slV (s : Sl) : Value := .agg #[.string s.path, .bool s.under, .int .i64 s.til, .int .i64 s.nonce, .int .i64 s.code]
def slOk (s : Sl) : Prop := (Lit.int .i64 s.til).wf = true ∧ (Lit.int .i64 s.nonce).wf = true ∧ (Lit.int .i64 s.code).wf = true
def rightS (key : Int) (s : Sl) (now last : Int) : Bool := sealB key s.path s.til s.nonce && decide (s.code = selS key s.path s.under s.til s.nonce) && decide (now < s.til) && decide (last < s.nonce)

theorem mod_apart {x y : Int} (h : x % 65521 = y % 65521) : ∃ q, x - y = 65521 * q := ⟨x / 65521 - y / 65521, by omega⟩
/-- Numbers that differ stay apart, whatever is mixed in behind. -/
theorem mix_apart {a b k : Int} (ha : 0 ≤ a ∧ a < 65521) (hb : 0 ≤ b ∧ b < 65521) (hne : a ≠ b) : mixS a k ≠ mixS b k := by
  unfold mixS
  intro h
  obtain ⟨q, hq⟩ := mod_apart h
  have h4 : ∃ c, a - b = 65521 * c := ⟨51499 * q - 202 * (a - b), by omega⟩
  obtain ⟨c, hc⟩ := h4
  omega
theorem mix_differ {n k j : Int} (h1 : k ≠ j) (h2 : -65521 < k - j) (h3 : k - j < 65521) : mixS n k ≠ mixS n j := by
  unfold mixS
  intro h
  obtain ⟨q, hq⟩ := mod_apart h
  omega
theorem fold_apart (L : List Int) : ∀ {a b : Int}, 0 ≤ a ∧ a < 65521 → 0 ≤ b ∧ b < 65521 → a ≠ b → L.foldl mixS a ≠ L.foldl mixS b := by
  induction L with
  | nil => intro a b _ _ h; exact h
  | cons k L ih => intro a b ha hb h; exact ih (mixS_lt _ _) (mixS_lt _ _) (mix_apart ha hb h)
theorem sum_apart (A R : List Int) {k j : Int} (h1 : k ≠ j) (h2 : -65521 < k - j) (h3 : k - j < 65521) : sumS (A ++ k :: R) ≠ sumS (A ++ j :: R) := by
  unfold sumS
  rw [List.foldl_append, List.foldl_append, List.foldl_cons, List.foldl_cons]
  exact fold_apart R (mixS_lt _ _) (mixS_lt _ _) (mix_differ h1 h2 h3)
theorem parts_split (key : Int) (p : List UInt8) (u : Bool) (t n : Int) : partS key p u t n = ([key, key / 3] ++ p.map (fun c => (c.toNat : Int)) ++ [(p.length : Int)]) ++ numS u :: [t, n, key] := by
  unfold partS tailS; simp
/-- With the other scope, or with a time or a number one less, it is another seal. -/
theorem sel_under (key : Int) (p : ByteArray) (u : Bool) (t n : Int) (h : sealB key p t n = true) : selS key p (!u) t n ≠ selS key p u t n := by
  unfold selS
  rw [if_pos h, if_pos h, parts_split, parts_split]
  cases u
  · exact sum_apart _ _ (by decide) (by decide) (by decide)
  · exact sum_apart _ _ (by decide) (by decide) (by decide)
theorem sel_til (key : Int) (p : ByteArray) (u : Bool) (t n : Int) (h : sealB key p t n = true) (h1 : 1 ≤ t) : selS key p u (t - 1) n ≠ selS key p u t n := by
  have h2 : sealB key p (t - 1) n = true := by
    unfold sealB at h ⊢
    simp only [Bool.and_eq_true, decide_eq_true_eq] at h ⊢
    omega
  unfold selS
  rw [if_pos h, if_pos h2]
  have e : ∀ t, partS key p.data.toList u t n = ([key, key / 3] ++ p.data.toList.map (fun c => (c.toNat : Int)) ++ [(p.data.toList.length : Int), numS u]) ++ t :: [n, key] := fun t => by unfold partS tailS; simp
  rw [e, e]
  exact sum_apart _ _ (by omega) (by omega) (by omega)
theorem sel_nonce (key : Int) (p : ByteArray) (u : Bool) (t n : Int) (h : sealB key p t n = true) (h1 : 1 ≤ n) : selS key p u t (n - 1) ≠ selS key p u t n := by
  have h2 : sealB key p t (n - 1) = true := by
    unfold sealB at h ⊢
    simp only [Bool.and_eq_true, decide_eq_true_eq] at h ⊢
    omega
  unfold selS
  rw [if_pos h, if_pos h2]
  have e : ∀ n, partS key p.data.toList u t n = ([key, key / 3] ++ p.data.toList.map (fun c => (c.toNat : Int)) ++ [(p.data.toList.length : Int), numS u, t]) ++ n :: [key] := fun n => by unfold partS tailS; simp
  rw [e, e]
  exact sum_apart _ _ (by omega) (by omega) (by omega)
end Go.Proofs.YtbhnjnoblkfckabDoor
