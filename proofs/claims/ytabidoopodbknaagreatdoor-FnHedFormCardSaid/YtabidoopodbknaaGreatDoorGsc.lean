import Derived.Test.YtabidoopodbknaaGreatDoorGhed
import Derived.Test.YtabidoopodbknaaGreatDoorCutI
import Derived.Test.YtabidoopodbknaaGreatDoorGcan
import Derived.WalkLawsBesides
import Derived.BigQuiet
import Derived.Test.YtabidoopodbknaaGreatDoorGimp
import Derived.Recover
import Derived.Defers
-- from XHedT
/- Walks: the request with which a text begins, by the specification. -/
namespace Go.Proofs.YtabidoopodbknaaGreatDoor
open Go.RowKit

theorem srow_own {w : World} {B : Nat} {T : TypeId} {v : Value} {ls : List (List UInt8)} (h : w.ownsRow B T 1 v ls.length (ls.map strV)) : SRow w v ls := by
  rcases h.2 with ⟨rfl, h0⟩ | ⟨g, cap, cur, rfl, hB, hh, hn, hm, _, _⟩
  · have : ls = [] := List.eq_nil_of_length_eq_zero h0
    subst this
    exact ⟨none, 0, rfl, Nat.le_refl _, Nat.zero_le _, fun j l hj => by simp at hj⟩
  · refine ⟨_, cap, rfl, hn, hm, fun j l hj => ⟨g, 0, rfl, (Array.getElem?_eq_some_iff.1 hh).1, ?_⟩⟩
    rw [Nat.zero_add]
    exact own_cell h (by rw [List.getElem?_map, hj]; rfl)
theorem lines_le : ∀ (f : Nat) (r : List UInt8) (u : Nat), ∀ l ∈ (linesL f r u).1, l.length ≤ r.length := by
  intro f
  induction f with
  | zero => intro r u l hl; cases hl
  | succ f ih =>
    intro r u l hl
    by_cases h : 300 < u
    · rw [lines_big _ _ _ h] at hl; cases hl
    · cases hc : (cutL r 10).2.2
      · rw [lines_no h hc] at hl; cases hl
      · by_cases he : (cutL r 10).1 = []
        · rw [lines_end h hc he] at hl; cases hl
        · rw [lines_on h hc he] at hl
          have hcl := cutL_len r 10
          rcases List.mem_cons.1 hl with rfl | hl
          · exact hcl.1
          · exact Nat.le_trans (ih _ _ l hl) hcl.2
theorem lines_used : ∀ (f : Nat) (r : List UInt8) (u : Nat), (linesL f r u).2.1 ≤ u + r.length := by
  intro f
  induction f with
  | zero => intro r u; show u ≤ _; omega
  | succ f ih =>
    intro r u
    by_cases h : 300 < u
    · rw [lines_big _ _ _ h]; show u ≤ _; omega
    · cases hc : (cutL r 10).2.2
      · rw [lines_no h hc]; exact Nat.le_refl _
      · have hlt := cutL_lt hc
        by_cases he : (cutL r 10).1 = []
        · rw [lines_end h hc he]; show u + 1 ≤ _; omega
        · rw [lines_on h hc he]
          have := ih (cutL r 10).2.1 (u + (cutL r 10).1.length + 1)
          have hj : (cutL r 10).1.length + 1 + (cutL r 10).2.1.length = r.length := by
            have key : ∀ l : List UInt8, (cutL l 10).2.2 = true → (cutL l 10).1.length + 1 + (cutL l 10).2.1.length = l.length := by
              intro l
              induction l with
              | nil => intro h; cases h
              | cons b l ih =>
                intro h
                by_cases hb : b = 10
                · subst hb; rw [cutL_hit]; simp; omega
                · rw [cutL_cons hb] at h ⊢
                  have := ih h
                  simp only [List.length_cons]; omega
            exact key r hc
          show (linesL f (cutL r 10).2.1 (u + (cutL r 10).1.length + 1)).2.1 ≤ _
          omega
end Go.Proofs.YtabidoopodbknaaGreatDoor

-- from XHedE
/- Pure laws on requests: a beginning of a request's text is not all there, and what may be read in two ways is wrong. -/
namespace Go.Proofs.YtabidoopodbknaaGreatDoor

theorem lines_part : ∀ (ls : List (List UInt8)) (f k used : Nat), ls.length < f → used + (joinL ls).length ≤ 300 → k ≤ (joinL ls).length → (∀ l ∈ ls, l ≠ [] ∧ (10 : UInt8) ∉ l) →
    (linesL f ((joinL ls).take k) used).2.1 ≤ 300 ∧ (linesL f ((joinL ls).take k) used).2.2 = false := by
  intro ls
  induction ls with
  | nil =>
    intro f k used hf hu hk _
    obtain ⟨g, rfl⟩ : ∃ g, f = g + 1 := ⟨f - 1, by simp at hf; omega⟩
    have hj : (joinL []).take k = [] := by simp [joinL]
    have hz : (joinL []).length = 0 := rfl
    rw [hz] at hu
    rw [hj, lines_no (by omega) rfl]
    exact ⟨by simpa using hu, rfl⟩
  | cons l ls ih =>
    intro f k used hf hu hk hl
    obtain ⟨g, rfl⟩ : ∃ g, f = g + 1 := ⟨f - 1, by omega⟩
    obtain ⟨h1, h2⟩ := hl l (List.mem_cons_self ..)
    rw [joinL_len] at hu hk
    by_cases hkl : k ≤ l.length
    · have e : (joinL (l :: ls)).take k = l.take k := by rw [joinL_cons, List.take_append_of_le_length hkl]
      have hn : (10 : UInt8) ∉ l.take k := fun h => h2 (List.mem_of_mem_take h)
      have hc := cutL_no _ _ hn
      rw [e, lines_no (by omega) (by rw [hc])]
      refine ⟨?_, rfl⟩
      simp only [List.length_take]; omega
    · have e : (joinL (l :: ls)).take k = l ++ 10 :: (joinL ls).take (k - l.length - 1) := by
        rw [joinL_cons, List.take_append, List.take_of_length_le (by omega)]
        obtain ⟨m, hm⟩ : ∃ m, k - l.length = m + 1 := ⟨k - l.length - 1, by omega⟩
        rw [hm]; simp
      have hc := cutL_yes l ((joinL ls).take (k - l.length - 1)) 10 h2
      rw [e, lines_on (by omega) (by rw [hc]) (by rw [hc]; exact h1), hc]
      exact ih g _ _ (by simp at hf; omega) (by simp only; omega) (by omega) (fun x hx => hl x (List.mem_cons_of_mem _ hx))

/-- A beginning of a request's text, but all of it, is not all there. -/
theorem read_part {h : Hd} (hb : hedB h = true) {k : Nat} (hk : k < (hedT h).length) : readL ((hedT h).take k) = (noHd, 0, 2) := by
  have hk' := hedB_iff.1 hb
  obtain ⟨h1, h2⟩ := hed_lines hk'
  have hlen := hk'.len
  have hT : (headT h).length = (joinL (hedLines h)).length + 1 := by simp [headT]
  have hTT : (hedT h).length = (headT h).length + h.body.data.toList.length := by simp [hedT]
  by_cases hlt : k ≤ (joinL (hedLines h)).length
  · have e : (hedT h).take k = (joinL (hedLines h)).take k := by
      unfold hedT headT; rw [List.append_assoc, List.take_append_of_le_length hlt]
    obtain ⟨p1, p2⟩ := lines_part (hedLines h) 302 k 0 (by omega) (by omega) hlt h1
    rw [← e] at p1 p2
    unfold readL
    rw [if_neg (by omega), if_pos p2]
  · have e : (hedT h).take k = joinL (hedLines h) ++ 10 :: h.body.data.toList.take (k - (headT h).length) := by
      unfold hedT; rw [List.take_append, List.take_of_length_le (by omega)]; simp [headT]
    have hl := lines_mk (hedLines h) 302 (h.body.data.toList.take (k - (headT h).length)) 0 (by omega) (by omega) h1
    unfold readL
    rw [e, hl]
    simp only [Nat.zero_add]
    rw [← hT, if_neg (by omega), if_neg (by simp), whole_text hk']
    simp only
    rw [← e, if_pos]
    rw [List.length_take]; omega

theorem lines_all : ∀ (ls : List (List UInt8)) (f : Nat) (t : List UInt8) (used : Nat), 301 < f + used → (∀ l ∈ ls, l ≠ [] ∧ (10 : UInt8) ∉ l) →
    300 < (linesL f (joinL ls ++ 10 :: t) used).2.1 ∨ linesL f (joinL ls ++ 10 :: t) used = (ls, used + (joinL ls).length + 1, true) := by
  intro ls
  induction ls with
  | nil =>
    intro f t used hf _
    by_cases hu : 300 < used
    · rw [lines_big _ _ _ hu]; exact .inl hu
    · obtain ⟨g, rfl⟩ : ∃ g, f = g + 1 := ⟨f - 1, by omega⟩
      have hc : cutL (joinL [] ++ 10 :: t) 10 = ([], t, true) := cutL_yes [] t 10 (by simp)
      rw [lines_end hu (by rw [hc]) (by rw [hc])]
      exact .inr rfl
  | cons l ls ih =>
    intro f t used hf hl
    obtain ⟨h1, h2⟩ := hl l (List.mem_cons_self ..)
    by_cases hu : 300 < used
    · rw [lines_big _ _ _ hu]; exact .inl hu
    · obtain ⟨g, rfl⟩ : ∃ g, f = g + 1 := ⟨f - 1, by omega⟩
      have hc : cutL (joinL (l :: ls) ++ 10 :: t) 10 = (l, joinL ls ++ 10 :: t, true) := by
        rw [joinL_cons, List.append_assoc, List.cons_append]; exact cutL_yes l _ 10 h2
      rw [lines_on hu (by rw [hc]) (by rw [hc]; exact h1), hc]
      simp only
      rcases ih g t (used + l.length + 1) (by omega) (fun x hx => hl x (List.mem_cons_of_mem _ hx)) with h | h
      · exact .inl h
      · refine .inr ?_
        rw [h, joinL_len]
        simp only [Prod.mk.injEq, and_true, true_and]
        omega

/-- Lines that are none of a request are wrong, whatever stands behind them. -/
theorem read_bad {ls : List (List UInt8)} (t : List UInt8) (h : ∀ l ∈ ls, l ≠ [] ∧ (10 : UInt8) ∉ l) (hw : wholeL ls = none) : readL (joinL ls ++ 10 :: t) = (noHd, 0, 3) := by
  rcases lines_all ls 302 t 0 (by omega) h with hb | he
  · unfold readL; rw [if_pos hb]
  · unfold readL
    rw [he]
    simp only
    by_cases h3 : 300 < 0 + (joinL ls).length + 1
    · rw [if_pos h3]
    · rw [if_neg h3, if_neg (by simp), hw]

theorem whole_none {l : List UInt8} {ls : List (List UInt8)}
    (h : ∀ v p n fs, firstL l = some (v, p, n) → fieldsL ls = some fs → (oneOf (allTo fs ⟨bHost.toArray⟩ fs.length)).2 = false ∨ sizeL v fs = none ∨
      (n ≠ [] ∧ n ≠ hostC (oneOf (allTo fs ⟨bHost.toArray⟩ fs.length)).1.data.toList)) : wholeL (l :: ls) = none := by
  unfold wholeL
  simp only
  split
  · rename_i v p n fs h1 h2
    split
    · rename_i value h3
      rcases h v p n fs h1 h2 with k | k | k
      · rw [h3] at k; cases k
      · rw [k]; split <;> rfl
      · rw [if_neg]
        rintro ⟨_, q, _⟩
        rw [h3] at k
        exact q.elim k.1 k.2
    · rfl
  · rfl
theorem fields_some {ls : List (List UInt8)} {fs : List Fd} (h : fieldsL ls = some fs) : fs = ls.map rdF := by
  unfold fieldsL at h
  split at h
  · exact (Option.some.inj h).symm
  · cases h

/-- The first line of a request's text. -/
def topL (h : Hd) : List UInt8 := h.verb.data.toList ++ 32 :: h.target.data.toList
theorem top_lines (h : Hd) : hedLines h = topL h :: tailLines h := rfl
theorem hed_cut {h : Hd} (hk : HOk h) : hedT h = topL h ++ 10 :: (joinL (tailLines h) ++ 10 :: h.body.data.toList) ∧ (10 : UInt8) ∉ topL h := by
  refine ⟨by simp [hedT, headT, top_lines, joinL_cons], ?_⟩
  have := (hed_lines hk).1 (topL h) (by rw [top_lines]; exact List.mem_cons_self ..)
  exact this.2

/-- A text with lines more behind the first one. -/
def behL (h : Hd) (ms : List (List UInt8)) : List UInt8 := joinL (topL h :: (ms ++ tailLines h)) ++ 10 :: h.body.data.toList
theorem beh_lines {h : Hd} (hk : HOk h) {ms : List (List UInt8)} (hm : ∀ l ∈ ms, l ≠ [] ∧ (10 : UInt8) ∉ l) : ∀ l ∈ topL h :: (ms ++ tailLines h), l ≠ [] ∧ (10 : UInt8) ∉ l := by
  have hl := (hed_lines hk).1
  rw [top_lines] at hl
  intro l h1
  rcases List.mem_cons.1 h1 with rfl | h1
  · exact hl _ (List.mem_cons_self ..)
  · rcases List.mem_append.1 h1 with h1 | h1
    · exact hm l h1
    · exact hl l (List.mem_cons_of_mem _ h1)

theorem beh_bad {h : Hd} (hk : HOk h) {ms : List (List UInt8)} (hm : ∀ l ∈ ms, l ≠ [] ∧ (10 : UInt8) ∉ l)
    (hw : ∀ fs, fs = ms.map rdF ++ textFs h → (oneOf (allTo fs ⟨bHost.toArray⟩ fs.length)).2 = false ∨ ∀ v, sizeL v fs = none) : readL (behL h ms) = (noHd, 0, 3) := by
  refine read_bad _ (beh_lines hk hm) (whole_none ?_)
  intro v p n fs _ h2
  have := fields_some h2
  rw [List.map_append, (tail_lines hk).2] at this
  rcases hw fs this with k | k
  · exact .inl k
  · exact .inr (.inl (k v))

theorem one_not {l : List ByteArray} (h : 2 ≤ l.length) : (oneOf l).2 = false := by rw [oneOf_not (by omega)]
def bHostU : List UInt8 := [72, 111, 115, 116]
def bLengthU : List UInt8 := [76, 69, 78, 71, 84, 72]
def bChunked : List UInt8 := [99, 104, 117, 110, 107, 101, 100]
theorem rd_line {u n v : List UInt8} (hn : tokB n = true) (hv : valB v = true) (hu : lowL u = n) (hc : (58 : UInt8) ∉ u) : rdF (u ++ 58 :: 32 :: v) = (⟨n.toArray⟩, ⟨v.toArray⟩) := by
  have hf : fdB (⟨n.toArray⟩, ⟨v.toArray⟩) = true := by simp [fdB, hn, hv]
  obtain ⟨_, h2⟩ := fd_parts hf
  refine (rd_pair (read_of hf (by simpa using hu) hc ?_)).2
  rw [trim_left]
  simpa using h2

theorem strict_host {h : Hd} (hk : HOk h) : readL (behL h [bHostU ++ 58 :: 32 :: h.host.data.toList]) = (noHd, 0, 3) := by
  refine beh_bad hk ?_ ?_
  · intro l hl
    have : l = bHostU ++ 58 :: 32 :: h.host.data.toList := by simpa using hl
    subst this
    refine ⟨by simp [bHostU], fun hb => ?_⟩
    have hn := (host_not hk.host).2.2.1
    simp [bHostU] at hb
    exact hn (by simpa using hb)
  · intro fs hfs
    left
    refine one_not ?_
    rw [all_filter, hfs, List.map_cons, List.map_nil, rd_line (u := bHostU) (n := bHost) (by decide) (host_val hk.host) (by decide) (by decide)]
    have e := host_text hk
    rw [all_filter] at e
    rw [List.filter_append, List.map_append, e]
    simp
theorem strict_transfer {h : Hd} (hk : HOk h) : readL (behL h [bTransfer ++ 58 :: 32 :: bChunked]) = (noHd, 0, 3) := by
  refine beh_bad hk ?_ ?_
  · intro l hl
    have : l = bTransfer ++ 58 :: 32 :: bChunked := by simpa using hl
    subst this
    decide
  · intro fs hfs
    right
    intro v
    unfold sizeL
    rw [if_pos]
    rw [all_filter, hfs, List.map_cons, List.map_nil, rd_line (u := bTransfer) (n := bTransfer) (by decide) (by decide) (by decide) (by decide)]
    simp
theorem strict_length {h : Hd} (hk : HOk h) : readL (behL h [bLengthU ++ 58 :: 32 :: [48], bLength ++ 58 :: 32 :: [48]]) = (noHd, 0, 3) := by
  refine beh_bad hk ?_ ?_
  · intro l hl
    have : l = bLengthU ++ 58 :: 32 :: [48] ∨ l = bLength ++ 58 :: 32 :: [48] := by simpa using hl
    rcases this with rfl | rfl <;> decide
  · intro fs hfs
    right
    intro v
    have h2 : 2 ≤ (allTo fs ⟨bLength.toArray⟩ fs.length).length := by
      rw [all_filter, hfs, List.map_cons, List.map_cons, List.map_nil, rd_line (u := bLengthU) (n := bLength) (by decide) (by decide) (by decide) (by decide), rd_line (u := bLength) (n := bLength) (by decide) (by decide) (by decide) (by decide)]
      simp
    unfold sizeL
    split
    · rfl
    · generalize allTo fs ⟨bLength.toArray⟩ fs.length = l at h2
      match l, h2 with
      | a :: b :: l, _ => rfl

/-- A text whose target names a host. -/
def namedL (h : Hd) (x : List UInt8) : List UInt8 := joinL ((h.verb.data.toList ++ 32 :: (bHttp ++ x ++ h.target.data.toList)) :: tailLines h) ++ 10 :: h.body.data.toList
theorem strict_named {h : Hd} (hk : HOk h) {x : List UInt8} (hx : hostB x = true) (hne : x ≠ h.host.data.toList) : readL (namedL h x) = (noHd, 0, 3) := by
  obtain ⟨⟨r, hr⟩, hcb⟩ := canon_bytes hk.target
  refine read_bad _ ?_ (whole_none ?_)
  · intro l hl
    rcases List.mem_cons.1 hl with rfl | hl
    · refine ⟨by simp, fun hb => ?_⟩
      rcases List.mem_append.1 hb with hb | hb
      · exact (verb_bytes hk.verb).2.1 hb
      · rcases List.mem_cons.1 hb with hb | hb
        · exact absurd hb (by decide)
        · rcases List.mem_append.1 hb with hb | hb
          · rcases List.mem_append.1 hb with hb | hb
            · exact absurd hb (by decide)
            · exact (host_not hx).2.2.1 hb
          · exact (hcb 10 hb).1 rfl
    · obtain ⟨h1, h2, _⟩ := (tail_lines hk).1 l hl
      exact ⟨h1, h2⟩
  · intro v p n fs h1 h2
    have hfs := fields_some h2
    rw [(tail_lines hk).2] at hfs
    right; right
    have hn : n = x := by
      unfold firstL at h1
      rw [cutL_yes _ _ 32 (verb_bytes hk.verb).2.2, if_pos ⟨rfl, hk.verb⟩] at h1
      simp only at h1
      obtain ⟨t, ht, he⟩ := Option.map_eq_some_iff.1 h1
      have hp : bHttp.isPrefixOf (bHttp ++ x ++ h.target.data.toList) = true := by
        rw [List.isPrefixOf_iff_prefix, List.append_assoc]; exact List.prefix_append ..
      have hd : (bHttp ++ x ++ h.target.data.toList).drop 7 = x ++ 47 :: r := by
        rw [hr, List.append_assoc]; exact List.drop_left (l₁ := bHttp)
      unfold targetL at ht
      rw [if_pos hp, hd, cutL_yes x r 47 (host_not hx).2.2.2] at ht
      simp only [host_id hx] at ht
      rw [if_pos ⟨trivial, hx⟩] at ht
      obtain ⟨q, _, hq⟩ := Option.map_eq_some_iff.1 ht
      rw [← hq] at he
      exact (congrArg (fun z : List UInt8 × List UInt8 × List UInt8 => z.2.2) he).symm
    have ho : oneOf (allTo fs ⟨bHost.toArray⟩ fs.length) = (h.host, true) := by rw [hfs, host_text hk]; rfl
    rw [ho, hn]
    refine ⟨?_, ?_⟩
    · have := host_len hx
      rintro rfl
      simp at this
    · simp only; rw [host_id hk.host]; exact hne
end Go.Proofs.YtabidoopodbknaaGreatDoor

-- from XHedM
/- Pure laws on requests: lines past the most that there may be need no asking for, since one of the other bounds fails then. -/
namespace Go.Proofs.YtabidoopodbknaaGreatDoor

theorem own_name (a : ByteArray) : ownB a.data.toList = (decide (a = ⟨bHost.toArray⟩) || decide (a = ⟨bLength.toArray⟩) || decide (a = ⟨bTransfer.toArray⟩)) := by
  have e : ∀ l : List UInt8, (a.data.toList == l) = decide (a = ⟨l.toArray⟩) := fun l => by
    by_cases h : a = ⟨l.toArray⟩
    · subst h; simp
    · rw [decide_eq_false h, beq_eq_false_iff_ne]
      rintro rfl; exact h (by simp)
  unfold ownB
  rw [e, e, e]
theorem count_fs (fs : List Fd) : fs.length = (allTo fs ⟨bHost.toArray⟩ fs.length).length + (allTo fs ⟨bLength.toArray⟩ fs.length).length + (allTo fs ⟨bTransfer.toArray⟩ fs.length).length + (othersL fs).length := by
  rw [all_filter, all_filter, all_filter]
  simp only [List.length_map]
  induction fs with
  | nil => rfl
  | cons f fs ih =>
    have h1 : ¬ ((⟨bHost.toArray⟩ : ByteArray) = ⟨bLength.toArray⟩) := by rw [mk_inj]; decide
    have h2 : ¬ ((⟨bHost.toArray⟩ : ByteArray) = ⟨bTransfer.toArray⟩) := by rw [mk_inj]; decide
    have h3 : ¬ ((⟨bLength.toArray⟩ : ByteArray) = ⟨bTransfer.toArray⟩) := by rw [mk_inj]; decide
    have h1' := fun e => h1 (Eq.symm e)
    have h2' := fun e => h2 (Eq.symm e)
    have h3' := fun e => h3 (Eq.symm e)
    unfold othersL at ih ⊢
    by_cases a1 : f.1 = ⟨bHost.toArray⟩
    · rw [List.filter_cons_of_pos (by simpa using a1), List.filter_cons_of_neg (by rw [a1]; simpa using h1), List.filter_cons_of_neg (by rw [a1]; simpa using h2), List.filter_cons_of_neg (by rw [own_name, a1]; simp)]
      simp only [List.length_cons]; omega
    · by_cases a2 : f.1 = ⟨bLength.toArray⟩
      · rw [List.filter_cons_of_neg (by simpa using a1), List.filter_cons_of_pos (by simpa using a2), List.filter_cons_of_neg (by rw [a2]; simpa using h3), List.filter_cons_of_neg (by rw [own_name, a2]; simp)]
        simp only [List.length_cons]; omega
      · by_cases a3 : f.1 = ⟨bTransfer.toArray⟩
        · rw [List.filter_cons_of_neg (by simpa using a1), List.filter_cons_of_neg (by simpa using a2), List.filter_cons_of_pos (by simpa using a3), List.filter_cons_of_neg (by rw [own_name, a3]; simp)]
          simp only [List.length_cons]; omega
        · rw [List.filter_cons_of_neg (by simpa using a1), List.filter_cons_of_neg (by simpa using a2), List.filter_cons_of_neg (by simpa using a3), List.filter_cons_of_pos (by rw [own_name]; simp [a1, a2, a3])]
          simp only [List.length_cons]; omega

theorem size_many {verb : List UInt8} {fs : List Fd} (h : (oneOf (allTo fs ⟨bHost.toArray⟩ fs.length)).2 = true) (h2 : (othersL fs).length ≤ 6) (h8 : ¬ fs.length ≤ 8) : sizeL verb fs = none := by
  have hc := count_fs fs
  have h1 : (allTo fs ⟨bHost.toArray⟩ fs.length).length = 1 := by
    by_cases h1 : (allTo fs ⟨bHost.toArray⟩ fs.length).length = 1
    · exact h1
    · rw [oneOf_not h1] at h; cases h
  unfold sizeL
  split
  · rfl
  · rename_i ht
    generalize allTo fs ⟨bLength.toArray⟩ fs.length = l at hc ⊢
    match l, hc with
    | [], hc => simp at hc; omega
    | [x], hc => simp at hc; omega
    | _ :: _ :: _, _ => rfl

theorem fields_all {ls : List (List UInt8)} (h : ls.all rdB = true) : fieldsL ls = if ls.length ≤ 8 then some (ls.map rdF) else none := by
  unfold fieldsL
  by_cases h8 : ls.length ≤ 8
  · rw [if_pos ⟨h8, h⟩, if_pos h8]
  · rw [if_neg (fun e => h8 e.1), if_neg h8]
theorem whole_n1 {l : List UInt8} (ls : List (List UInt8)) (h : firstL l = none) : wholeL (l :: ls) = none := by
  rw [whole_cons, h]
theorem whole_n2 (l : List UInt8) {ls : List (List UInt8)} (h : ls.all rdB = false) : wholeL (l :: ls) = none := by
  have e : fieldsL ls = none := by unfold fieldsL; rw [if_neg (fun e => by rw [h] at e; cases e.2)]
  rw [whole_cons, e]
  cases firstL l <;> rfl
theorem whole_n3 (l : List UInt8) {ls : List (List UInt8)} (hall : ls.all rdB = true) (h : (oneOf (allTo (ls.map rdF) ⟨bHost.toArray⟩ (ls.map rdF).length)).2 = false) : wholeL (l :: ls) = none := by
  have e := fields_all hall
  by_cases h8 : ls.length ≤ 8
  · rw [if_pos h8] at e; exact whole_no1 e h
  · rw [if_neg h8] at e
    rw [whole_cons, e]
    cases firstL l <;> rfl
theorem whole_go {l : List UInt8} {ls : List (List UInt8)} {t : List UInt8 × List UInt8 × List UInt8} {value : ByteArray} (hfi : firstL l = some t) (hall : ls.all rdB = true) (h : oneOf (allTo (ls.map rdF) ⟨bHost.toArray⟩ (ls.map rdF).length) = (value, true)) :
    wholeL (l :: ls) = if hostB (hostC value.data.toList) = true ∧ (t.2.2 = [] ∨ t.2.2 = hostC value.data.toList) ∧ (othersL (ls.map rdF)).length ≤ 6 then
          (sizeL t.1 (ls.map rdF)).map fun n => (⟨⟨t.1.toArray⟩, ⟨t.2.1.toArray⟩, ⟨(hostC value.data.toList).toArray⟩, othersL (ls.map rdF), ⟨#[]⟩⟩, n)
        else none := by
  have e := fields_all hall
  by_cases h8 : ls.length ≤ 8
  · rw [if_pos h8] at e; exact whole_cond hfi e h
  · rw [if_neg h8] at e
    have hn : wholeL (l :: ls) = none := by
      rw [whole_cons, e]
      cases firstL l <;> rfl
    rw [hn]
    split
    · rename_i hc
      rw [size_many (by rw [h]) hc.2.2 (by simpa using h8)]; rfl
    · rfl
end Go.Proofs.YtabidoopodbknaaGreatDoor

-- from XScn
/- Walks: the program's scanner: its cells, what it takes, and where it stops. -/
namespace Go.Proofs.YtabidoopodbknaaGreatDoor
open Go.RowKit

/-- A scanner at block b: its bytes, and how far it is. -/
def ScAt (w : World) (b : Nat) (s : ByteArray) (p : Nat) : Prop := w.heap[b]? = some (.cells #[.string s, .int .i64 (p : Nat)] 45 (0, 0))
/-- Of what was there nothing has turned, but block b. -/
def But (b : Nat) (w w' : World) : Prop := w.grownBy w' (some b)
theorem But.refl (b : Nat) (w : World) : But b w w := ⟨rfl, rfl, rfl, Nat.le_refl _, fun _ _ _ => rfl⟩
theorem But.trans {b : Nat} {w w1 w2 : World} (h : But b w w1) (k : But b w1 w2) : But b w w2 :=
  ⟨k.os.trans h.os, k.tape.trans h.tape, k.output.trans h.output, Nat.le_trans h.size k.size, fun j hj hn => (k.block j (Nat.lt_of_lt_of_le hj h.size) hn).trans (h.block j hj hn)⟩
theorem but_of {b : Nat} {w w' : World} (h : Below w.heap.size w w') : But b w w' := ⟨h.os, h.tape, h.output, h.size, fun k hk _ => h.block k hk⟩
theorem But.on {b : Nat} {w w1 w2 : World} (h : But b w w1) (k : Below w1.heap.size w1 w2) : But b w w2 := h.trans (but_of k)
theorem But.onW {b : Nat} {w w1 w2 : World} (h : But b w w1) (k : Below w.heap.size w1 w2) : But b w w2 :=
  ⟨k.os.trans h.os, k.tape.trans h.tape, k.output.trans h.output, Nat.le_trans h.size k.size, fun j hj hn => (k.block j hj).trans (h.block j hj hn)⟩
theorem but_set (b : Nat) (w : World) (k : Nat) (v : Value) : But b w (w.setCell ⟨b, k, none⟩ v) :=
  ⟨rfl, rfl, rfl, by simp, fun j _ hn => heap_setCell_other w ⟨b, k, none⟩ j v (fun e => hn (by rw [e]))⟩
theorem But.low {b B : Nat} {w w' : World} (h : But b w w') (hB : B ≤ b) (hw : B ≤ w.heap.size) : Below B w w' :=
  ⟨h.os, h.tape, h.output, h.size, fun k hk => h.block k (Nat.lt_of_lt_of_le hk hw) (fun e => by injection e; omega)⟩
theorem own_but {w w' : World} {b B n size : Nat} {e : TypeId} {v : Value} {xs : List Value} (h : w.ownsRow B e size v n xs) (hB : b < B) (hb : But b w w') : w'.ownsRow B e size v n xs := own_drawn h hB hb

theorem ScAt.lt {w : World} {b p : Nat} {s : ByteArray} (h : ScAt w b s p) : b < w.heap.size := (Array.getElem?_eq_some_iff.1 h).1
theorem ScAt.keep {w w' : World} {b p : Nat} {s : ByteArray} (h : ScAt w b s p) (hb : Below w.heap.size w w') : ScAt w' b s p := (hb.block b h.lt).trans h
theorem ScAt.keepW {w w' : World} {b p B : Nat} {s : ByteArray} (h : ScAt w b s p) (hb : Below B w w') (hB : b < B) : ScAt w' b s p := (hb.block b hB).trans h
theorem ScAt.go {w : World} {b p : Nat} {s : ByteArray} (h : ScAt w b s p) (q : Nat) : ScAt (w.setCell ⟨b, 1, none⟩ (.int .i64 (q : Nat))) b s q := by
  have := heap_setCell_same w b 1 _ _ (.int .i64 (q : Nat)) h
  unfold ScAt
  rw [this]; rfl
theorem ScAt.goTo {w : World} {b p k : Nat} {s : ByteArray} {q : Int} (h : ScAt w b s p) (e : q = (k : Nat)) : ScAt (w.setCell ⟨b, 1, none⟩ (.int .i64 q)) b s k := by
  subst e; exact h.go k
theorem ScAt.cells {w : World} {b p : Nat} {s : ByteArray} (h : ScAt w b s p) : w.cell? ⟨b, 0, none⟩ = some (.string s) ∧ w.cell? ⟨b, 1, none⟩ = some (.int .i64 (p : Nat)) ∧ w.frozen? ⟨b, 0, none⟩ = false ∧ w.frozen? ⟨b, 1, none⟩ = false := by
  unfold ScAt at h
  refine ⟨?_, ?_, ?_, ?_⟩ <;> simp [World.cell?, World.frozen?, h]

/-- The panic with which a scanner stops. -/
def stopE (n : Int) : Ending := .panicked [{ v := .iface 46 (.int .i64 n), recovered := false }]

theorem must_yes (w : World) : Calls Tryz.prog 26 #[.bool true] w fun e w' => e = .returned (.tuple #[]) ∧ w = w' := by
  go_enter Tryz.func26, Tryz.ntmps26
  go_wp2
  go_end0
  exact ⟨rfl, rfl⟩
theorem must_no (w : World) : Calls Tryz.prog 26 #[.bool false] w fun e w' => e = stopE 3 ∧ w = w' := by
  go_enter Tryz.func26, Tryz.ntmps26
  go_wp2
  exact ⟨rfl, rfl, rfl⟩

theorem must_t {t : Bool} (h : t = true) (w : World) : Calls Tryz.prog 26 #[.bool t] w fun e w' => e = .returned (.tuple #[]) ∧ w = w' := by subst h; exact must_yes w
theorem must_f {t : Bool} (h : t = false) (w : World) : Calls Tryz.prog 26 #[.bool t] w fun e w' => e = stopE 3 ∧ w = w' := by subst h; exact must_no w

set_option maxHeartbeats 400000 in
theorem sc_rest (b p : Nat) (s : ByteArray) (w : World) (h : ScAt w b s p) (hp : p ≤ s.size) (_hs : s.size ≤ maxLen) :
    Calls Tryz.prog 60 #[.pointer (some ⟨b, 0, none⟩)] w fun e w' => e = .returned (.string ⟨(s.data.toList.drop p).toArray⟩) ∧ Below w.heap.size w w' := by
  obtain ⟨c0, c1, _, _⟩ := h.cells
  have hd := ext_drop s p
  have HD := Lib.hid hd; clear hd h
  go_enter Tryz.func60, Tryz.ntmps60
  go_wp2_with fail
  go_quiet (fail)
  go_wp2
  go_ret
  exact ⟨by rw [HD.out]; rfl, below_drewN (Below.refl _ _)⟩

/-- What is behind a scanner's place. -/
def restL (s : ByteArray) (p : Nat) : List UInt8 := s.data.toList.drop p
theorem rest_size (s : ByteArray) (p : Nat) : (ByteArray.mk (restL s p).toArray).size = s.size - p := by
  rw [size_len, size_len s]; simp [restL]
theorem rest_list (s : ByteArray) (p : Nat) : (ByteArray.mk (restL s p).toArray).data.toList = restL s p := by simp

set_option maxHeartbeats 400000 in
theorem sc_take (b p n : Nat) (s : ByteArray) (w : World) (h : ScAt w b s p) (hp : p + n ≤ s.size) (hs : s.size ≤ maxLen) :
    Calls Tryz.prog 31 #[.pointer (some ⟨b, 0, none⟩), .int .i64 (n : Nat)] w fun e w' => e = .returned (.string ⟨((restL s p).take n).toArray⟩) ∧ ScAt w' b s (p + n) ∧ But b w w' := by
  have hR := sc_rest b p s w h (by omega) hs
  have hsz := rest_size s p
  have hex : (ByteArray.mk (restL s p).toArray).extract 0 n = ⟨((restL s p).take n).toArray⟩ := by rw [ext_take]
  have hR' : Calls Tryz.prog 60 #[.pointer (some ⟨b, 0, none⟩)] w fun e w' => e = .returned (.string ⟨(restL s p).toArray⟩) ∧ Below w.heap.size w w' := hR
  clear hR
  have HX := Lib.hid hex; clear hex
  generalize (ByteArray.mk (restL s p).toArray) = r at *
  unfold maxLen at hs
  go_enter Tryz.func31, Tryz.ntmps31
  go_wp2_with fail
  refine hR'.mono ?_
  rintro e w1 ⟨rfl, hb⟩
  have h1 := h.keep hb
  have hlt := h.lt
  obtain ⟨c0, c1, z0, z1⟩ := h1.cells
  have hgo := h1.goTo (q := (p : Int) + n) (k := p + n) (by omega)
  have hbut : But b w (w1.setCell ⟨b, 1, none⟩ (.int .i64 ((p : Int) + n))) := (but_of hb).trans (but_set b w1 1 _)
  have i1 : ¬ ((r.size : Int) < n) := by omega
  have HG := Lib.hid (And.intro hgo hbut)
  clear hb hR' h h1 hgo hbut
  go_wp2
  go_ret
  exact ⟨by rw [HX.out]; rfl, HG.out⟩

set_option maxHeartbeats 400000 in
theorem sc_take_no (b p n : Nat) (s : ByteArray) (w : World) (h : ScAt w b s p) (hp : p ≤ s.size) (hn : s.size < p + n) (hs : s.size ≤ maxLen) :
    Calls Tryz.prog 31 #[.pointer (some ⟨b, 0, none⟩), .int .i64 (n : Nat)] w fun e w' => e = stopE 2 ∧ But b w w' := by
  have hR := sc_rest b p s w h hp hs
  have hsz := rest_size s p
  have hR' : Calls Tryz.prog 60 #[.pointer (some ⟨b, 0, none⟩)] w fun e w' => e = .returned (.string ⟨(restL s p).toArray⟩) ∧ Below w.heap.size w w' := hR
  clear hR
  generalize (ByteArray.mk (restL s p).toArray) = r at *
  unfold maxLen at hs
  go_enter Tryz.func31, Tryz.ntmps31
  go_wp2_with fail
  refine hR'.mono ?_
  rintro e w1 ⟨rfl, hb⟩
  have i1 : ((r.size : Int) < n) := by omega
  have HG := Lib.hid (but_of (b := b) hb)
  clear hb hR' h
  go_wp2
  exact ⟨rfl, rfl, HG.out⟩

theorem rest_cut (s : ByteArray) (p : Nat) (c : UInt8) : (restL s p).take (cutL (restL s p) c).1.length = (cutL (restL s p) c).1 := by
  have key : ∀ l : List UInt8, l.take (cutL l c).1.length = (cutL l c).1 := by
    intro l
    induction l with
    | nil => rfl
    | cons b l ih =>
      by_cases hb : b = c
      · subst hb; rw [cutL_hit]; rfl
      · rw [cutL_cons hb]; simp [ih]
  exact key _

set_option maxHeartbeats 400000 in
theorem sc_upto (b p : Nat) (c : UInt8) (s : ByteArray) (w : World) (h : ScAt w b s p) (hp : p ≤ s.size) (hs : s.size ≤ maxLen) :
    Calls Tryz.prog 55 #[.pointer (some ⟨b, 0, none⟩), .int .u8 c.toNat] w fun e w' => e = .returned (.string ⟨(cutL (restL s p) c).1.toArray⟩) ∧ ScAt w' b s (p + (cutL (restL s p) c).1.length) ∧ But b w w' := by
  have hR : Calls Tryz.prog 60 #[.pointer (some ⟨b, 0, none⟩)] w fun e w' => e = .returned (.string ⟨(restL s p).toArray⟩) ∧ Below w.heap.size w w' := sc_rest b p s w h hp hs
  have hsz := rest_size s p
  have hC := fun W => textcut ⟨(restL s p).toArray⟩ c W (by unfold maxLen at *; omega)
  rw [rest_list] at hC
  have hlen := (cutL_len (restL s p) c).1
  have hrl : (restL s p).length = s.size - p := by rw [← rest_size s p, size_len]
  rw [hrl] at hlen
  have hT := fun W hW => sc_take b p (cutL (restL s p) c).1.length s W hW (by omega) hs
  rw [rest_cut] at hT
  generalize cutL (restL s p) c = q at *
  obtain ⟨q1, q2, q3⟩ := q
  dsimp only at *
  have hq : (ByteArray.mk q1.toArray).size = q1.length := by rw [size_len]
  go_enter Tryz.func55, Tryz.ntmps55
  go_wp2_with fail
  refine hR.mono ?_
  rintro e w1 ⟨rfl, hb⟩
  go_wp2_with fail
  refine (hC _).mono ?_
  rintro e w2 ⟨rfl, n, rfl⟩
  have h2 : ScAt (w1.drewN n) b s p := h.keep (below_drewN hb)
  have hbut : But b w (w1.drewN n) := but_of (below_drewN hb)
  clear hb hR hC h
  go_wp2_with fail
  refine (hT _ h2).mono ?_
  rintro e w3 ⟨rfl, h3, hb3⟩
  have HG := Lib.hid (And.intro h3 (hbut.trans hb3))
  clear h3 hb3 hbut hT
  go_wp2
  go_ret
  exact ⟨rfl, HG.out⟩

set_option maxHeartbeats 400000 in
theorem sc_skips_no (b p : Nat) (t s : ByteArray) (w : World) (h : ScAt w b s p) (hp : p ≤ s.size) (hs : s.size ≤ maxLen) (ht : t.size ≤ maxLen) (hq : preB t.data.toList (restL s p) = false) :
    Calls Tryz.prog 56 #[.pointer (some ⟨b, 0, none⟩), .string t] w fun e w' => e = .returned (.bool false) ∧ ScAt w' b s p ∧ But b w w' := by
  have hR : Calls Tryz.prog 60 #[.pointer (some ⟨b, 0, none⟩)] w fun e w' => e = .returned (.string ⟨(restL s p).toArray⟩) ∧ Below w.heap.size w w' := sc_rest b p s w h hp hs
  have hsz := rest_size s p
  have hC := fun W => has_prefix ⟨(restL s p).toArray⟩ t W (by unfold maxLen at *; omega) ht
  rw [rest_list] at hC
  unfold maxLen at hs ht
  rw [hq] at hC
  clear hq
  go_enter Tryz.func56, Tryz.ntmps56
  go_wp2_with fail
  refine hR.mono ?_
  rintro e w1 ⟨rfl, hb⟩
  go_wp2_with fail
  refine (hC _).mono ?_
  rintro e w2 ⟨rfl, rfl⟩
  have HG := Lib.hid (And.intro (h.keep hb) (but_of (b := b) hb))
  clear hR hC hb h
  go_wp2
  go_ret
  exact ⟨rfl, HG.out⟩

set_option maxHeartbeats 400000 in
theorem sc_skips_yes (b p : Nat) (t s : ByteArray) (w : World) (h : ScAt w b s p) (hp : p ≤ s.size) (hs : s.size ≤ maxLen) (ht : t.size ≤ maxLen) (hq : preB t.data.toList (restL s p) = true) :
    Calls Tryz.prog 56 #[.pointer (some ⟨b, 0, none⟩), .string t] w fun e w' => e = .returned (.bool true) ∧ ScAt w' b s (p + t.size) ∧ But b w w' := by
  have hR : Calls Tryz.prog 60 #[.pointer (some ⟨b, 0, none⟩)] w fun e w' => e = .returned (.string ⟨(restL s p).toArray⟩) ∧ Below w.heap.size w w' := sc_rest b p s w h hp hs
  have hsz := rest_size s p
  have hC := fun W => has_prefix ⟨(restL s p).toArray⟩ t W (by unfold maxLen at *; omega) ht
  rw [rest_list] at hC
  have hple : preB t.data.toList (restL s p) = true → p + t.size ≤ s.size := fun h => by
    have h1 := (pre_iff.1 h).length_le
    rw [← size_len] at h1
    have hrl : (restL s p).length = s.size - p := by rw [← rest_size s p, size_len]
    omega
  unfold maxLen at hs ht
  have hpt := hple hq
  rw [hq] at hC
  clear hq hple
  go_enter Tryz.func56, Tryz.ntmps56
  go_wp2_with fail
  refine hR.mono ?_
  rintro e w1 ⟨rfl, hb⟩
  go_wp2_with fail
  refine (hC _).mono ?_
  rintro e w2 ⟨rfl, rfl⟩
  have h1 := h.keep hb
  have hlt := h.lt
  obtain ⟨c0, c1, z0, z1⟩ := h1.cells
  have hgo := h1.goTo (q := (p : Int) + t.size) (k := p + t.size) (by omega)
  have hbut : But b w (w1.setCell ⟨b, 1, none⟩ (.int .i64 ((p : Int) + t.size))) := (but_of hb).trans (but_set b w1 1 _)
  have HG := Lib.hid (And.intro hgo hbut)
  clear hR hC hb h h1 hgo hbut
  go_wp2
  go_ret
  exact ⟨rfl, HG.out⟩
end Go.Proofs.YtabidoopodbknaaGreatDoor

-- from XScl
/- Walks: the program's scanner takes a request's lines. -/
namespace Go.Proofs.YtabidoopodbknaaGreatDoor
open Go.RowKit

theorem cut_drop {c : UInt8} : ∀ {l : List UInt8}, (cutL l c).2.2 = true → l.drop (cutL l c).1.length = c :: (cutL l c).2.1 := by
  intro l
  induction l with
  | nil => intro h; cases h
  | cons b l ih =>
    intro h
    by_cases hb : b = c
    · subst hb; rw [cutL_hit]; rfl
    · rw [cutL_cons hb] at h ⊢
      simpa using ih h
theorem cut_all {c : UInt8} : ∀ {l : List UInt8}, (cutL l c).2.2 = false → (cutL l c).1 = l := by
  intro l
  induction l with
  | nil => intro _; rfl
  | cons b l ih =>
    intro h
    by_cases hb : b = c
    · subst hb; rw [cutL_hit] at h; cases h
    · rw [cutL_cons hb] at h ⊢
      simp only at h ⊢
      rw [ih h]
theorem rest_drop (s : ByteArray) (p n : Nat) : restL s (p + n) = (restL s p).drop n := by simp [restL]
theorem rest_len (s : ByteArray) (p : Nat) : (restL s p).length = s.size - p := by rw [size_len]; simp [restL]

def LinesPost (b : Nat) (w : World) (s : ByteArray) (L : List (List UInt8) × Nat × Bool) (e : Ending) (w' : World) : Prop :=
  ((300 < L.2.1 ∧ e = stopE 3) ∨ (¬ 300 < L.2.1 ∧ L.2.2 = false ∧ e = stopE 2) ∨
    (¬ 300 < L.2.1 ∧ L.2.2 = true ∧ ∃ v, e = .returned v ∧ w'.ownsRow w.heap.size 43 1 v L.1.length (L.1.map strV) ∧ ScAt w' b s L.2.1)) ∧ But b w w'

def LinesInv (b : Nat) (w : World) (s : ByteArray) (L : List (List UInt8) × Nat × Bool) (o : Value) (wr : World) : Prop :=
  ∃ (f u : Nat) (ls : List (List UInt8)), u ≤ s.size ∧ u ≤ 300 ∧ 302 ≤ f + u ∧ ls.length ≤ u ∧ L = (ls ++ (linesL f (restL s u) u).1, (linesL f (restL s u) u).2) ∧
    wr.ownsRow w.heap.size 43 1 o ls.length (ls.map strV) ∧ ScAt wr b s u ∧ But b w wr

theorem Tryz.infoText : (Tryz.prog.info? 43).map (fun i => (i.zero, i.size, i.bytes)) = some (some (.string ⟨#[]⟩), 1, 16) := by kernel_rfl

theorem lines_stop3 {L : List (List UInt8) × Nat × Bool} {b : Nat} {w w' : World} {s : ByteArray} (h : 300 < L.2.1) (hb : But b w w') : LinesPost b w s L (stopE 3) w' := ⟨.inl ⟨h, rfl⟩, hb⟩
theorem lines_stop2 {L : List (List UInt8) × Nat × Bool} {b : Nat} {w w' : World} {s : ByteArray} (h : ¬ 300 < L.2.1) (h2 : L.2.2 = false) (hb : But b w w') : LinesPost b w s L (stopE 2) w' := ⟨.inr (.inl ⟨h, h2, rfl⟩), hb⟩

set_option maxRecDepth 100000 in
set_option maxHeartbeats 1600000 in
theorem sc_lines (b : Nat) (s : ByteArray) (w : World) (h : ScAt w b s 0) (hs : s.size ≤ 1048576) :
    Calls Tryz.prog 25 #[.pointer (some ⟨b, 0, none⟩)] w (LinesPost b w s (linesL 302 s.data.toList 0)) := by
  obtain ⟨i0, hi, hz0, hz1, hz2⟩ := info_parts Tryz.infoText
  have hblt := h.lt
  have hstart : LinesInv b w s (linesL 302 s.data.toList 0) (.slice none 0 0) w := ⟨302, 0, [], Nat.zero_le _, by omega, by omega, Nat.le_refl _, rfl, World.ownsRow_nil _ _ _ _, h, But.refl _ _⟩
  generalize linesL 302 s.data.toList 0 = L at *
  clear h
  go_enter Tryz.func25, Tryz.ntmps25
  go_wp2_with fail
  go_loopw [3] (fun o wr => LinesInv b w s L o wr) (fun _ wr => 400 - (intOf ((wr.cell? ⟨b, 1, none⟩).getD undef)).toNat)
  case atStart => exact hstart
  case round =>
    obtain ⟨f, u, ls, hus, hu3, hfu, hlu, hLL, hown, hsc, hbut⟩ := hrel
    have hml : s.size ≤ maxLen := by unfold maxLen; omega
    have hU := sc_upto b u 10 s wr hsc hus hml
    obtain ⟨g, rfl⟩ : ∃ g, f = g + 1 := ⟨f - 1, by omega⟩
    have hno := lines_no (f := g) (r := restL s u) (u := u) (by omega)
    have hend := lines_end (f := g) (r := restL s u) (u := u) (by omega)
    have hon := lines_on (f := g) (r := restL s u) (u := u) (by omega)
    have hall := cut_all (c := 10) (l := restL s u)
    have hdr := cut_drop (c := 10) (l := restL s u)
    have hcl := cutL_len (restL s u) 10
    have hrl := rest_len s u
    have hrd := rest_drop s u (cutL (restL s u) 10).1.length
    generalize cutL (restL s u) 10 = q at *
    obtain ⟨ln, bh, ok⟩ := q
    dsimp only at hU hno hend hon hall hdr hcl hrd
    have hHI := Lib.hid hi; have hm0 : 0 ≤ ln.length := Nat.zero_le _
    cases ok
    · have hw := hall rfl
      have hr2 : restL s (u + ln.length) = [] := by rw [hrd, hw]; simp
      have hpre : preB (ByteArray.mk #[10]).data.toList (restL s (u + ln.length)) = false := by rw [hr2]; rfl
      have hK := fun W hW => sc_skips_no b (u + ln.length) ⟨#[10]⟩ s W hW (by omega) hml (by decide) hpre
      rw [hno rfl] at hLL
      simp only [List.append_nil] at hLL
      rw [← hw] at hLL
      have H3 : Hid (300 < u + ln.length → ∀ w', But b w w' → LinesPost b w s L (stopE 3) w') := Lib.hid fun h3 w' hb => lines_stop3 (by rw [hLL]; exact h3) hb
      have H2 : Hid (¬ 300 < u + ln.length → ∀ w', But b w w' → LinesPost b w s L (stopE 2) w') := Lib.hid fun h3 w' hb => lines_stop2 (by rw [hLL]; exact h3) (by rw [hLL]) hb
      clear hLL hno hend hon hall hdr hw hr2 hpre hrd hstart
      go_wp2_with fail
      refine hU.mono ?_
      rintro e w1 ⟨rfl, hs1, hb1⟩
      go_wp2_with fail
      refine (hK _ hs1).mono ?_
      rintro e w2 ⟨rfl, hs2, hb2⟩
      have hb12 := (hbut.trans hb1).trans hb2
      obtain ⟨c0, c1, z0, z1⟩ := hs2.cells
      have hb2lt := hs2.lt
      by_cases h3 : 300 < u + ln.length
      · have i1 : ¬ (((u + ln.length : Nat) : Int) ≤ 300) := by omega
        have HF := Lib.hid (H3.out h3 _ hb12)
        clear hU hK hbut hb1 hb2 hs1 hs2 hown H3 H2 hb12
        go_wp2_with fail
        refine (must_f (decide_eq_false (by omega)) _).mono ?_
        rintro e w3 ⟨rfl, rfl⟩
        exact ⟨rfl, HF.out⟩
      · have i1 : (((u + ln.length : Nat) : Int) ≤ 300) := by omega
        have HF := Lib.hid (H2.out h3 _ hb12)
        clear hU hK hbut hb1 hb2 hs1 hs2 hown H3 H2 hb12
        go_wp2_with fail
        refine (must_t (decide_eq_true (by omega)) _).mono ?_
        rintro e w3 ⟨rfl, rfl⟩
        go_wp2
        exact ⟨rfl, HF.out⟩
    · have hd := hdr rfl
      have hr2 : restL s (u + ln.length) = 10 :: bh := by rw [hrd, hd]
      have hr3 : restL s (u + ln.length + 1) = bh := by rw [rest_drop, hr2]; rfl
      have hpre : preB (ByteArray.mk #[10]).data.toList (restL s (u + ln.length)) = true := by rw [hr2]; rfl
      have hfit : u + ln.length + 1 ≤ s.size := by
        have := rest_len s (u + ln.length); rw [hr2] at this; simp at this; omega
      have hK : ∀ W, ScAt W b s (u + ln.length) → Calls Tryz.prog 56 #[.pointer (some ⟨b, 0, none⟩), .string ⟨#[10]⟩] W fun e w' => e = .returned (.bool true) ∧ ScAt w' b s (u + ln.length + 1) ∧ But b W w' :=
        fun W hW => sc_skips_yes b (u + ln.length) ⟨#[10]⟩ s W hW (by omega) hml (by decide) hpre
      have hU2 : (u : Int) + ln.length + 1 = ((u + ln.length + 1 : Nat) : Int) := by omega
      by_cases h3 : 300 < u + ln.length + 1
      · have hL1 : 300 < L.2.1 := by
          by_cases hl0 : ln = []
          · rw [hend rfl hl0] at hLL
            rw [hLL]; subst hl0; simpa using h3
          · rw [hon rfl hl0, lines_big _ _ _ h3] at hLL
            rw [hLL]; exact h3
        have H3 : Hid (∀ w', But b w w' → LinesPost b w s L (stopE 3) w') := Lib.hid fun w' hb => lines_stop3 hL1 hb
        clear hLL hL1 hno hend hon hall hdr hd hr2 hr3 hpre hrd hstart
        go_wp2_with fail
        refine hU.mono ?_
        rintro e w1 ⟨rfl, hs1, hb1⟩
        go_wp2_with fail
        refine (hK _ hs1).mono ?_
        rintro e w2 ⟨rfl, hs2, hb2⟩
        have hb12 := (hbut.trans hb1).trans hb2
        obtain ⟨c0, c1, z0, z1⟩ := hs2.cells
        have hb2lt := hs2.lt
        have HF := Lib.hid (H3.out _ hb12)
        clear hU hK hbut hb1 hb2 hs1 hs2 hown H3 hb12 hU2
        go_wp2_with fail
        refine (must_f (decide_eq_false (by omega)) _).mono ?_
        rintro e w3 ⟨rfl, rfl⟩
        exact ⟨rfl, HF.out⟩
      · by_cases hl0 : ln = []
        · rw [hend rfl hl0] at hLL
          simp only [List.append_nil] at hLL
          subst hl0
          have he : ((ByteArray.mk ([] : List UInt8).toArray).toList == []) = true := by rw [Lib.toList_data]; rfl
          have H1 : Hid (∀ v w', w'.ownsRow w.heap.size 43 1 v ls.length (ls.map strV) → ScAt w' b s (u + 1) → But b w w' → LinesPost b w s L (.returned v) w') := Lib.hid fun v w' ho hs hb =>
            ⟨.inr (.inr ⟨by rw [hLL]; simpa using h3, by rw [hLL], v, rfl, by rw [hLL]; exact ho, by rw [hLL]; exact hs⟩), hb⟩
          clear hLL hno hend hon hall hdr hd hr2 hr3 hpre hrd hstart
          simp only [List.length_nil, Nat.add_zero] at *
          generalize hln : ByteArray.mk ([] : List UInt8).toArray = lnB at *
          go_wp2_with fail
          refine hU.mono ?_
          rintro e w1 ⟨rfl, hs1, hb1⟩
          go_wp2_with fail
          refine (hK _ hs1).mono ?_
          rintro e w2 ⟨rfl, hs2, hb2⟩
          have hb12 := (hbut.trans hb1).trans hb2
          obtain ⟨c0, c1, z0, z1⟩ := hs2.cells
          have hb2lt := hs2.lt
          have HF := Lib.hid (H1.out _ _ (own_but (own_but hown hblt hb1) hblt hb2) hs2 hb12)
          clear hU hK hbut hb1 hb2 hs1 hs2 hown H1 hb12 hU2
          go_wp2_with fail
          refine (must_t (decide_eq_true (by omega)) _).mono ?_
          rintro e w3 ⟨rfl, rfl⟩
          go_wp2
          go_ret
          exact HF.out
        · rw [hon rfl hl0] at hLL
          have hLL2 : L = ((ls ++ [ln]) ++ (linesL g (restL s (u + ln.length + 1)) (u + ln.length + 1)).1, (linesL g (restL s (u + ln.length + 1)) (u + ln.length + 1)).2) := by rw [hLL, List.append_assoc, hr3]; rfl
          have HLL := Lib.hid hLL2
          have hne : ((ByteArray.mk ln.toArray).toList == []) = false := by rw [Lib.toList_data]; simpa using hl0
          have hie : ln.isEmpty = false := by simpa using hl0
          have hpos : 0 < ln.length := List.length_pos_iff.2 hl0
          have HWr := Lib.hid hsc.cells.2.1
          clear hLL hLL2 hno hend hon hall hdr hd hr2 hr3 hpre hrd hstart hl0
          go_wp2_with fail
          refine hU.mono ?_
          rintro e w1 ⟨rfl, hs1, hb1⟩
          go_wp2_with fail
          refine (hK _ hs1).mono ?_
          rintro e w2 ⟨rfl, hs2, hb2⟩
          have hb12 := (hbut.trans hb1).trans hb2
          have hs2' := hs2
          clear hs2
          obtain ⟨c0, c1, z0, z1⟩ := hs2'.cells
          have hb2lt := hs2'.lt
          have hown2 := own_but (own_but hown hblt hb1) hblt hb2
          have hsz2 : w.heap.size ≤ w2.heap.size := hb12.size
          have hvb := hown2.lt
          clear hU hK hbut hb1 hb2 hs1 hown hsc hU2
          go_wp2_with fail
          refine (must_t (decide_eq_true (by omega)) _).mono ?_
          rintro e w3 ⟨rfl, rfl⟩
          go_wp2_with (at_builtin; go_must (refine wpList_append1 w2 rfl _ _ 63 rfl w.heap.size 43 i0 _ 16 Tryz.underlying63 hi hz0 hz1 hz2 rfl _ _ _ (by rfl) hown2 _ rfl _ (by rfl) (by unfold maxLen; omega) (by omega) hsz2 ?_); intro v' w4 ho3 hb3 hlt3)
          have hs4 := hs2'.keepW hb3 hblt
          refine ⟨⟨g, u + ln.length + 1, ls ++ [ln], hfit, by omega, by omega, by simp; omega, HLL.out, ?_, hs4, hb12.onW hb3⟩, ?_⟩
          · rw [List.map_append, List.length_append]; exact ho3
          · rw [hs4.cells.2.1, HWr.out]
            simp [intOf]; omega
end Go.Proofs.YtabidoopodbknaaGreatDoor

-- from XScr
/- Walks: the readers of a request's fields, host, length and other fields, by the program: each stops where it can't go on. -/
namespace Go.Proofs.YtabidoopodbknaaGreatDoor
open Go.RowKit

set_option maxRecDepth 100000 in
set_option maxHeartbeats 1600000 in
theorem sc_fields (v : Value) (ls : List (List UInt8)) (w : World) (hF : SRow w v ls) (hls : ∀ l ∈ ls, l.length ≤ 1048576) (hn : ls.length ≤ 1048576) (hcls : Cls w) :
    Calls Tryz.prog 28 #[v] w fun e w' => ((ls.all rdB = false ∧ e = stopE 3) ∨ (ls.all rdB = true ∧ ∃ u, e = .returned u ∧ w'.ownsRow w.heap.size 39 2 u (ls.map rdF).length (fcells (ls.map rdF)))) ∧ Below w.heap.size w w' := by
  obtain ⟨i0, hi, hz0, hz1, hz2⟩ := info_parts Tryz.infoFd
  obtain ⟨a, c, rfl, h1, h2, h3⟩ := hF
  unfold maxLen at h2
  have H3 := Lib.hid h3; clear h3
  have HLs := Lib.hid hls; clear hls
  have HCl : Hid (∀ W, Below w.heap.size w W → Cls W) := Lib.hid fun W hW => hcls.below hW (Nat.le_refl _)
  clear hcls
  go_enter Tryz.func28, Tryz.ntmps28
  go_wp2_with fail
  go_loopw [3, 10] (fun x i wr => ∃ k : Nat, k ≤ ls.length ∧ i = .int .i64 k ∧ (ls.take k).all rdB = true ∧ wr.ownsRow w.heap.size 39 2 x ((ls.take k).map rdF).length (fcells ((ls.take k).map rdF)) ∧ Below w.heap.size w wr) (fun _ i _ => ls.length - (intOf i).toNat)
  case atStart => exact ⟨0, Nat.zero_le _, rfl, rfl, World.ownsRow_nil _ _ _ _, Below.refl _ _⟩
  case round =>
    obtain ⟨k, hk, rfl, hall, hown, hnx⟩ := hrel
    by_cases hlt : k < ls.length
    · obtain ⟨b1, o1, rfl, hb1, c1⟩ := H3.out k ls[k] (List.getElem?_eq_getElem hlt)
      have hsn : ls.take (k + 1) = ls.take k ++ [ls[k]] := by rw [List.take_add_one, List.getElem?_eq_getElem hlt]; rfl
      have hmem : ls[k] ∈ ls := List.getElem_mem hlt
      have hlk := HLs.out _ hmem
      generalize ls[k] = l at *
      have k1 := (hnx.cell (p := ⟨b1, o1 + k, none⟩) hb1).trans c1
      clear c1
      have hR := fun W hW => impl_read ⟨l.toArray⟩ W (by rw [size_len]; simp only; omega) hW
      have hll : (ByteArray.mk l.toArray).data.toList = l := by simp
      rw [hll] at hR
      have hkl : ((ls.take k).map rdF).length = k := by rw [List.length_map, List.length_take]; omega
      have hkl2 : ((ls.take k).map rdF).length ≤ 1048576 := by omega
      generalize hrows : (ls.take k).map rdF = rows at *
      have hcl := HCl.out _ hnx
      have hnxs := hnx.size
      clear hkl
      cases hrd : rdB l
      · rw [rdR_false hrd] at hR
        have hf : ls.all rdB = false := by
          rw [Bool.eq_false_iff]; intro h
          rw [List.all_eq_true] at h
          rw [h l hmem] at hrd; cases hrd
        have HF := Lib.hid hf
        clear hf hrd hmem hsn hll hrows hall
        unfold fdV at hR
        go_wp2_with fail
        refine (hR _ hcl).mono ?_
        rintro e w2 ⟨rfl, hb2⟩
        have HB := Lib.hid ((hnx.trans (hb2.mono hnxs)).alloc (by have := hb2.size; omega) (.cells #[.string ⟨#[]⟩, .string ⟨#[]⟩] 39))
        clear hb2 hR hcl hnx hown
        go_wp2_with fail
        refine (must_no _).mono ?_
        rintro e w3 ⟨rfl, rfl⟩
        exact ⟨rfl, .inl ⟨HF.out, rfl⟩, HB.out⟩
      · rw [rdR_true hrd] at hR
        have hall' : (ls.take (k + 1)).all rdB = true := by rw [hsn, List.all_append, hall]; simp [hrd]
        have hmap : (ls.take (k + 1)).map rdF = rows ++ [rdF l] := by rw [hsn, List.map_append, hrows]; rfl
        have HA := Lib.hid hall'
        have HM := Lib.hid hmap
        clear hall' hmap hall hrd hmem hsn hll hrows
        generalize rdF l = f at *
        obtain ⟨nm, vl⟩ := f
        unfold fdV at hR
        dsimp only at hR
        go_wp2_with fail
        refine (hR _ hcl).mono ?_
        rintro e w2 ⟨rfl, hb2⟩
        have hbel := hnx.trans (hb2.mono hnxs)
        have hown2 := own_below hown hb2
        have hsz2 := hbel.size
        have hown3 := hown2.alloc (.cells #[.string nm, .string vl] 39)
        have hbel3 := hbel.alloc hsz2 (.cells #[.string nm, .string vl] 39)
        have q0 : (w2.alloc (.cells #[.string nm, .string vl] 39)).cell? ⟨w2.heap.size, 0, none⟩ = some (.string nm) := by rw [World.cell?_alloc_at _ _ _ _ rfl]; rfl
        have q1 : (w2.alloc (.cells #[.string nm, .string vl] 39)).cell? ⟨w2.heap.size, 1, none⟩ = some (.string vl) := by rw [World.cell?_alloc_at _ _ _ _ rfl]; rfl
        have HQ := Lib.hid (And.intro q0 q1)
        clear hown hb2 hR hcl hnx hown2 hbel q0 q1
        go_wp2_with fail
        refine (must_yes _).mono ?_
        rintro e w3 ⟨rfl, rfl⟩
        obtain ⟨q0, q1⟩ := HQ.out
        go_wp2_with (at_builtin; go_must (refine wpList_append2 (w2.alloc (.cells #[.string nm, .string vl] 39)) rfl _ _ 25 rfl w.heap.size 39 i0 _ 32 Tryz.underlying25 hi hz0 hz1 hz2 rfl _ _ _ (by rfl) hown3 _ _ _ (w2.heap.size + 1) (by simp) (by rfl) (by unfold maxLen; omega) (by omega) hbel3.size ?_); intro v' w4 ho3 hb3 hlt3)
        go_roundw
        case rel => refine ⟨k + 1, by omega, by go_num, HA.out, ?_, hbel3.trans hb3⟩; rw [HM.out, fcells_app, List.length_append]; exact ho3
        case measure => simp [intOf]; omega
    · have hkn : k = ls.length := by omega
      subst hkn
      rw [List.take_length] at hown hall
      have HF := Lib.hid hall
      have HO := Lib.hid hown
      clear hall hown
      go_wp2
      go_ret
      exact ⟨.inr ⟨HF.out, _, rfl, HO.out⟩, hnx⟩

def hostN : ByteArray := ⟨bHost.toArray⟩
def lengthN : ByteArray := ⟨bLength.toArray⟩
def transferN : ByteArray := ⟨bTransfer.toArray⟩

set_option maxHeartbeats 800000 in
theorem sc_host (v : Value) (fs : List Fd) (w : World) (hF : FRow w v fs) (hok : FOk fs 1048576) (hn : fs.length ≤ 2000000) (hcls : Cls w) :
    Calls Tryz.prog 29 #[v] w fun e w' => (((oneOf (allTo fs hostN fs.length)).2 = false ∨ hostB (hostC (oneOf (allTo fs hostN fs.length)).1.data.toList) = false) ∧ e = stopE 3 ∨
      ((oneOf (allTo fs hostN fs.length)).2 = true ∧ hostB (hostC (oneOf (allTo fs hostN fs.length)).1.data.toList) = true ∧ e = .returned (.string ⟨(hostC (oneOf (allTo fs hostN fs.length)).1.data.toList).toArray⟩))) ∧ Below w.heap.size w w' := by
  have hO : Calls Tryz.prog 21 #[v, .string ⟨#[104, 111, 115, 116]⟩] w fun e w' => e = .returned (.tuple #[.string (oneOf (allTo fs hostN fs.length)).1, .bool (oneOf (allTo fs hostN fs.length)).2]) ∧ Below w.heap.size w w' :=
    impl_one v fs hostN w hF (fun f hf => ⟨Nat.le_trans (hok f hf).1 (by decide), Nat.le_trans (hok f hf).2 (by decide)⟩) hn (by decide)
  have hval : (oneOf (allTo fs hostN fs.length)).1.size ≤ 1048576 := by
    by_cases h1 : (allTo fs hostN fs.length).length = 1
    · obtain ⟨x, hx, ho⟩ := oneOf_one h1
      rw [ho]
      have hm : x ∈ allTo fs hostN fs.length := by rw [hx]; exact List.mem_cons_self ..
      rw [all_filter] at hm
      obtain ⟨f, hf, rfl⟩ := List.mem_map.1 hm
      exact (hok f (List.mem_filter.1 hf).1).2
    · rw [oneOf_not h1]; decide
  generalize oneOf (allTo fs hostN fs.length) = o at *
  obtain ⟨x, ok⟩ := o
  dsimp only at hO hval ⊢
  have hH := fun W hW => impl_host x W hval hW
  have hR : hostR x.data.toList = if hostB (hostC x.data.toList) = true then (⟨(hostC x.data.toList).toArray⟩, true) else (⟨#[]⟩, false) := rfl
  clear hval hok hF hn
  go_enter Tryz.func29, Tryz.ntmps29
  go_wp2_with fail
  refine hO.mono ?_
  rintro e w1 ⟨rfl, hb1⟩
  clear hO
  cases ok
  · have HB := Lib.hid hb1
    clear hb1 hH hR
    go_wp2_with fail
    refine (must_no _).mono ?_
    rintro e w2 ⟨rfl, rfl⟩
    exact ⟨rfl, .inl ⟨.inl rfl, rfl⟩, HB.out⟩
  · go_wp2_with fail
    refine (must_yes _).mono ?_
    rintro e w2 ⟨rfl, rfl⟩
    have hcl1 := hcls.below hb1 (Nat.le_refl _)
    cases hb : hostB (hostC x.data.toList)
    · rw [hb] at hR
      have hR' : hostR x.data.toList = (⟨#[]⟩, false) := hR
      rw [hR'] at hH
      dsimp only at hH
      have HHb := Lib.hid hb
      clear hR hR' hb
      go_wp2_with fail
      refine (hH _ hcl1).mono ?_
      rintro e w3 ⟨rfl, hb3⟩
      have HB := Lib.hid (hb1.trans (hb3.mono hb1.size))
      clear hb1 hb3 hH hcl1
      go_wp2_with fail
      refine (must_no _).mono ?_
      rintro e w4 ⟨rfl, rfl⟩
      exact ⟨rfl, .inl ⟨.inr HHb.out, rfl⟩, HB.out⟩
    · rw [hb, if_pos rfl] at hR
      rw [hR] at hH
      dsimp only at hH
      have HHb := Lib.hid hb
      clear hR hb
      go_wp2_with fail
      refine (hH _ hcl1).mono ?_
      rintro e w3 ⟨rfl, hb3⟩
      have HB := Lib.hid (hb1.trans (hb3.mono hb1.size))
      clear hb1 hb3 hH hcl1
      go_wp2_with fail
      refine (must_yes _).mono ?_
      rintro e w4 ⟨rfl, rfl⟩
      go_wp2
      go_ret
      exact ⟨.inr (by first | exact ⟨rfl, HHb.out, rfl⟩ | exact ⟨HHb.out, rfl⟩), HB.out⟩

/-- How long a body is, by the fields of that name. -/
def lenP (verb : List UInt8) : List ByteArray → Option Nat
  | [] => some 0
  | [x] => if (numR x.data.toList).2 = true ∧ (numR x.data.toList).1 ≤ mostN verb then some (numR x.data.toList).1 else none
  | _ => none
theorem size_lenP (verb : List UInt8) (fs : List Fd) (h : ¬ 0 < (allTo fs transferN fs.length).length) : sizeL verb fs = lenP verb (allTo fs lengthN fs.length) := by
  have h' : ¬ 0 < (allTo fs ⟨bTransfer.toArray⟩ fs.length).length := h
  unfold sizeL
  rw [if_neg h']
  show _ = lenP verb (allTo fs ⟨bLength.toArray⟩ fs.length)
  generalize allTo fs ⟨bLength.toArray⟩ fs.length = l
  match l with
  | [] => rfl
  | [x] =>
    simp only [lenP]
    by_cases hv : verb = bPut
    · have : mostN verb = 20 := if_pos hv
      rw [this]
      by_cases h1 : (numR x.data.toList).2 = true ∧ (numR x.data.toList).1 ≤ 20
      · rw [if_pos h1, if_pos ⟨h1.1, h1.2, .inr hv⟩]
      · rw [if_neg h1, if_neg (fun e => h1 ⟨e.1, e.2.1⟩)]
    · have : mostN verb = 0 := if_neg hv
      rw [this]
      by_cases h1 : (numR x.data.toList).2 = true ∧ (numR x.data.toList).1 ≤ 0
      · rw [if_pos h1, if_pos ⟨h1.1, by omega, .inl (by omega)⟩]
      · rw [if_neg h1, if_neg]
        rintro ⟨e1, _, e2⟩
        rcases e2 with e2 | e2
        · exact h1 ⟨e1, by omega⟩
        · exact hv e2
  | _ :: _ :: _ => rfl

set_option maxHeartbeats 1600000 in
theorem sc_len (v : Value) (fs : List Fd) (verb : ByteArray) (w : World) (hF : FRow w v fs) (hok : FOk fs 1048576) (hn : fs.length ≤ 2000000) (ht : Tab w) (he : Errs w) :
    Calls Tryz.prog 32 #[v, .string verb] w fun e w' => ((lenP verb.data.toList (allTo fs lengthN fs.length) = none ∧ e = stopE 3) ∨ (∃ n, lenP verb.data.toList (allTo fs lengthN fs.length) = some n ∧ e = .returned (.int .i64 (n : Nat)))) ∧ Below w.heap.size w w' := by
  have hA : Calls Tryz.prog 48 #[v, .string ⟨#[108, 101, 110, 103, 116, 104]⟩] w fun e w' => ∃ u, e = .returned u ∧ w'.ownsRow w.heap.size 9 1 u (allTo fs lengthN fs.length).length ((allTo fs lengthN fs.length).map sV) ∧ Below w.heap.size w w' :=
    impl_all v fs lengthN w hF (fun f hf => ⟨Nat.le_trans (hok f hf).1 (by decide), Nat.le_trans (hok f hf).2 (by decide)⟩) hn (by decide)
  have hall : ∀ x ∈ allTo fs lengthN fs.length, x.size ≤ 1048576 := fun x hx => by
    rw [all_filter] at hx
    obtain ⟨f, hf, rfl⟩ := List.mem_map.1 hx
    exact (hok f (List.mem_filter.1 hf).1).2
  have hM := fun W => impl_most verb W
  generalize allTo fs lengthN fs.length = L at *
  clear hok hF hn
  have HAll := Lib.hid hall; clear hall
  have HD : ∀ x, L = [x] → lenP verb.data.toList L = if (numR x.data.toList).2 = true ∧ (numR x.data.toList).1 ≤ mostN verb.data.toList then some (numR x.data.toList).1 else none := fun x e => by rw [e]; rfl
  have HL0 : L = [] → lenP verb.data.toList L = some 0 := fun e => by rw [e]; rfl
  have HL2 : 2 ≤ L.length → lenP verb.data.toList L = none := fun e => by
    match L, e with
    | _ :: _ :: _, _ => rfl
  generalize lenP verb.data.toList L = R at *
  have HD := Lib.hid HD; have HL0 := Lib.hid HL0; have HL2 := Lib.hid HL2
  generalize mostN verb.data.toList = most at *
  go_enter Tryz.func32, Tryz.ntmps32
  go_wp2_with fail
  refine hA.mono ?_
  rintro e w1 ⟨u, rfl, ho, hb1⟩
  clear hA
  have ht1 := ht.below hb1 (Nat.le_refl _)
  have he1 := he.below hb1 (Nat.le_refl _)
  clear ht he
  obtain ⟨g, cap, rfl⟩ := own_len ho
  have HO := Lib.hid ho
  clear ho
  match L, HAll, HD, HL0, HL2, HO with
  | [], HAll, HD, HL0, HL2, HO =>
    have HF := Lib.hid (HL0.out rfl)
    clear HAll HD HL0 HL2 HO
    go_wp2
    go_ret
    exact ⟨.inr ⟨0, HF.out, rfl⟩, hb1⟩
  | x :: r, HAll, HD, HL0, HL2, HO =>
    obtain ⟨g, cap, hg⟩ := own_form HO.out (by simp)
    have ho := HO.out
    injection hg with e1 _ e3
    subst e1; subst e3
    have c0 := own_cell ho (j := 0) (u := sV x) rfl
    unfold sV at c0
    have hx := HAll.out x (List.mem_cons_self ..)
    have hN := fun W ht he => impl_numread x W (by omega) ht he
    have HD' : Hid (r = [] → R = if (numR x.data.toList).2 = true ∧ (numR x.data.toList).1 ≤ most then some (numR x.data.toList).1 else none) := Lib.hid fun e => HD.out x (by rw [e])
    generalize numR x.data.toList = q at *
    obtain ⟨n, ok⟩ := q
    dsimp only at hN
    have hlr : (x :: r).length = r.length + 1 := rfl
    have hlen := ho.lt
    rw [hlr] at hlen ⊢
    clear ho hlen HD HL0 HAll
    have HL2 : Hid (r ≠ [] → R = none) := Lib.hid fun e => HL2.out (by rw [hlr]; have := List.length_pos_iff.2 e; omega)
    have hri : Hid (r = [] ↔ r.length = 0) := Lib.hid (List.length_eq_zero_iff).symm
    clear hlr
    dsimp only at HD'
    go_wp2_with fail
    refine (hN _ ht1 he1).mono ?_
    rintro e w2 ⟨rfl, hb2⟩
    have HB := Lib.hid (hb1.trans (hb2.mono hb1.size))
    clear hN hb1 hb2 ht1 he1 c0 hx
    cases ok
    · have hR : R = none := by
        by_cases hr : r = []
        · rw [HD'.out hr, if_neg (fun e => by cases e.1)]
        · exact HL2.out hr
      have HF := Lib.hid hR
      clear hR hM HD' HL2 hri
      go_wp2_with fail
      refine (must_no _).mono ?_
      rintro e w3 ⟨rfl, rfl⟩
      exact ⟨rfl, .inl ⟨HF.out, rfl⟩, HB.out⟩
    · by_cases hr : r = []
      · have hR := HD'.out hr
        have hz := hri.out.1 hr
        by_cases hm : n ≤ most
        · rw [if_pos ⟨rfl, hm⟩] at hR
          have HF := Lib.hid hR
          have i1 : (n : Int) ≤ most := by omega
          clear hR HD' HL2 hri hr
          go_wp2_with fail
          refine (hM _).mono ?_
          rintro e w3 ⟨rfl, rfl⟩
          go_wp2_with fail
          refine (must_t (by first | (simp; done) | (simp; omega)) _).mono ?_
          rintro e w3 ⟨rfl, rfl⟩
          go_wp2
          go_ret
          exact ⟨.inr ⟨n, HF.out, rfl⟩, HB.out⟩
        · rw [if_neg (fun e => hm e.2)] at hR
          have HF := Lib.hid hR
          have i1 : ¬ (n : Int) ≤ most := by omega
          clear hR HD' HL2 hri hr
          go_wp2_with fail
          refine (hM _).mono ?_
          rintro e w3 ⟨rfl, rfl⟩
          go_wp2_with fail
          refine (must_f (by first | (simp; done) | (simp; omega)) _).mono ?_
          rintro e w3 ⟨rfl, rfl⟩
          exact ⟨rfl, .inl ⟨HF.out, rfl⟩, HB.out⟩
      · have hz : r.length ≠ 0 := fun e => hr (hri.out.2 e)
        have hz2 : ((r.length : Int) + 1 == 1) = false := by simp; omega
        have hz3 : ¬ ((r.length : Int) + 1 = 1) := by omega
        have HF := Lib.hid (HL2.out hr)
        clear hM HD' HL2 hri hr
        go_wp2_with fail
        refine (must_f (by first | rfl | (simp; omega)) _).mono ?_
        rintro e w3 ⟨rfl, rfl⟩
        exact ⟨rfl, .inl ⟨HF.out, rfl⟩, HB.out⟩

set_option maxRecDepth 100000 in
set_option maxHeartbeats 1600000 in
theorem sc_others (v : Value) (fs : List Fd) (w : World) (hF : FRow w v fs) (hok : FOk fs 1048576) (hn : fs.length ≤ 2000000) :
    Calls Tryz.prog 30 #[v] w fun e w' => (((0 < (allTo fs transferN fs.length).length ∨ 6 < (othersL fs).length) ∧ e = stopE 3) ∨
      (¬ 0 < (allTo fs transferN fs.length).length ∧ (othersL fs).length ≤ 6 ∧ ∃ u, e = .returned u ∧ w'.ownsRow w.heap.size 39 2 u (othersL fs).length (fcells (othersL fs)))) ∧ Below w.heap.size w w' := by
  obtain ⟨i0, hi, hz0, hz1, hz2⟩ := info_parts Tryz.infoFd
  have hA : Calls Tryz.prog 48 #[v, .string ⟨#[116, 114, 97, 110, 115, 102, 101, 114]⟩] w fun e w' => ∃ u, e = .returned u ∧ w'.ownsRow w.heap.size 9 1 u (allTo fs transferN fs.length).length ((allTo fs transferN fs.length).map sV) ∧ Below w.heap.size w w' :=
    impl_all v fs transferN w hF (fun f hf => ⟨Nat.le_trans (hok f hf).1 (by decide), Nat.le_trans (hok f hf).2 (by decide)⟩) hn (by decide)
  generalize allTo fs transferN fs.length = Tr at *
  obtain ⟨a, c, rfl, h1, h2, h3⟩ := hF
  unfold maxLen at h2
  have H3 := Lib.hid h3; clear h3 hok
  go_enter Tryz.func30, Tryz.ntmps30
  go_wp2_with fail
  refine hA.mono ?_
  rintro e w1 ⟨u, rfl, ho, hb1⟩
  obtain ⟨g, cap, rfl⟩ := own_len ho
  clear ho hA
  by_cases ht : 0 < Tr.length
  · have hz : ¬ ((Tr.length : Int) = 0) := by omega
    have hz2 : ¬ (Tr.length = 0) := by omega
    have HT := Lib.hid ht
    have HNe : Hid (Tr ≠ []) := Lib.hid (List.length_pos_iff.1 ht)
    go_wp2_with fail
    refine (must_f (by first | rfl | (simp; done) | (simp; omega) | simpa using HNe.out) _).mono ?_
    rintro e w2 ⟨rfl, rfl⟩
    exact ⟨rfl, .inl ⟨.inl HT.out, rfl⟩, hb1⟩
  · have hz : Tr.length = 0 := by omega
    have HT := Lib.hid ht
    clear ht
    go_wp2_with fail
    refine (must_t (by first | rfl | (simp; done) | (simp; omega)) _).mono ?_
    rintro e w2 ⟨rfl, rfl⟩
    clear hz
    go_wp2_with fail
    go_loopw [3, 13] (fun x i wr => ∃ k : Nat, k ≤ fs.length ∧ i = .int .i64 k ∧ wr.ownsRow w.heap.size 39 2 x (othersL (fs.take k)).length (fcells (othersL (fs.take k))) ∧ Below w.heap.size w wr ∧ (othersL (fs.take k)).length ≤ k) (fun _ i _ => fs.length - (intOf i).toNat)
    case atStart => exact ⟨0, Nat.zero_le _, rfl, World.ownsRow_nil _ _ _ _, hb1, Nat.le_refl _⟩
    case round =>
      obtain ⟨k, hk, rfl, hown, hnx, hkl⟩ := hrel
      by_cases hlt : k < fs.length
      · obtain ⟨b1, o1, rfl, hbb1, c1, c2⟩ := H3.out k fs[k] (List.getElem?_eq_getElem hlt)
        have hsn : fs.take (k + 1) = fs.take k ++ [fs[k]] := by rw [List.take_add_one, List.getElem?_eq_getElem hlt]; rfl
        have hat := others_snoc (fs.take k) fs[k]
        rw [← hsn] at hat
        clear hsn
        generalize fs[k] = f at *
        have k1 := (hnx.cell (p := ⟨b1, o1 + k * 2, none⟩) hbb1).trans c1
        have k2 := (hnx.cell (p := ⟨b1, o1 + k * 2 + 1, none⟩) hbb1).trans c2
        clear c1 c2
        obtain ⟨nm, vl⟩ := f
        dsimp only at k1 k2 hat
        have hO := fun W => impl_own nm W
        generalize othersL (fs.take k) = rows at *
        have hnxs := hnx.size
        have hown3 := hown.alloc (.cells #[.string nm, .string vl] 39)
        have hbel3 := hnx.alloc hnxs (.cells #[.string nm, .string vl] 39)
        have q0 : (wr.alloc (.cells #[.string nm, .string vl] 39)).cell? ⟨wr.heap.size, 0, none⟩ = some (.string nm) := by rw [World.cell?_alloc_at _ _ _ _ rfl]; rfl
        have q1 : (wr.alloc (.cells #[.string nm, .string vl] 39)).cell? ⟨wr.heap.size, 1, none⟩ = some (.string vl) := by rw [World.cell?_alloc_at _ _ _ _ rfl]; rfl
        clear hown hnx
        cases ho : ownB nm.data.toList
        · rw [ho] at hO hat
          rw [if_neg (by decide)] at hat
          have HAt := Lib.hid hat; clear hat ho
          go_wp2_with fail
          refine (hO _).mono ?_
          rintro e w2 ⟨rfl, rfl⟩
          go_wp2_with (at_builtin; go_must (refine wpList_append2 (wr.alloc (.cells #[.string nm, .string vl] 39)) rfl _ _ 25 rfl w.heap.size 39 i0 _ 32 Tryz.underlying25 hi hz0 hz1 hz2 rfl _ _ _ (by rfl) hown3 _ _ _ (wr.heap.size + 1) (by simp) (by rfl) (by unfold maxLen; omega) (by omega) hbel3.size ?_); intro v' w3 ho3 hb3 hlt3)
          go_roundw
          case rel => refine ⟨k + 1, by omega, by go_num, ?_, hbel3.trans hb3, ?_⟩ <;> rw [HAt.out]
                      · rw [fcells_app, List.length_append]; exact ho3
                      · simp; omega
          case measure => simp [intOf]; omega
        · rw [ho] at hO hat
          rw [if_pos rfl] at hat
          have HAt := Lib.hid hat; clear hat ho
          have HO := Lib.hid hown3; clear hown3
          go_wp2_with fail
          refine (hO _).mono ?_
          rintro e w2 ⟨rfl, rfl⟩
          go_wp2
          go_roundw
          case rel => refine ⟨k + 1, by omega, by go_num, ?_, hbel3, ?_⟩ <;> rw [HAt.out]
                      · exact HO.out
                      · omega
          case measure => simp [intOf]; omega
      · have hkn : k = fs.length := by omega
        subst hkn
        rw [List.take_length] at hown
        obtain ⟨g3, cap3, rfl⟩ : ∃ g3 cap3, u3 = .slice g3 (othersL fs).length cap3 := by
          rcases hown.2 with ⟨e1, e2⟩ | ⟨g, cap, cur, e1, _⟩
          · exact ⟨_, _, by rw [e2]; exact e1⟩
          · exact ⟨_, _, e1⟩
        rw [List.take_length] at hkl
        generalize hoL : othersL fs = oL at *
        have HOL := Lib.hid hoL; clear hoL
        have HO := Lib.hid hown; clear hown
        by_cases h6 : oL.length ≤ 6
        · have H6 := Lib.hid h6
          have i1 : (oL.length : Int) ≤ 6 := by omega
          go_wp2_with fail
          refine (must_t (by first | rfl | (simp; done) | (simp; omega)) _).mono ?_
          rintro e w2 ⟨rfl, rfl⟩
          go_wp2
          go_ret
          refine ⟨.inr ⟨HT.out, ?_⟩, hnx⟩
          rw [HOL.out]
          exact ⟨H6.out, _, rfl, HO.out⟩
        · have H6 : Hid (6 < oL.length) := Lib.hid (by omega)
          have i1 : ¬ (oL.length : Int) ≤ 6 := by omega
          go_wp2_with fail
          refine (must_f (by first | rfl | (simp; done) | (simp; omega)) _).mono ?_
          rintro e w2 ⟨rfl, rfl⟩
          exact ⟨rfl, .inl ⟨.inr (by rw [HOL.out]; exact H6.out), rfl⟩, hnx⟩
end Go.Proofs.YtabidoopodbknaaGreatDoor

-- from XScs
/- Walks: the program's scanner takes a target's host, and a request's first line. -/
namespace Go.Proofs.YtabidoopodbknaaGreatDoor
open Go.RowKit

def HostPost (b : Nat) (w : World) (s : ByteArray) (p : Nat) (e : Ending) (w' : World) : Prop :=
  ((preB bHttp (restL s p) = false ∧ e = .returned (.string ⟨#[]⟩) ∧ ScAt w' b s p) ∨
   (preB bHttp (restL s p) = true ∧ hostB (hostC (cutL (restL s (p + 7)) 47).1) = false ∧ e = stopE 3) ∨
   (preB bHttp (restL s p) = true ∧ hostB (hostC (cutL (restL s (p + 7)) 47).1) = true ∧ e = .returned (.string ⟨(hostC (cutL (restL s (p + 7)) 47).1).toArray⟩) ∧ ScAt w' b s (p + 7 + (cutL (restL s (p + 7)) 47).1.length))) ∧ But b w w'

set_option maxHeartbeats 800000 in
theorem sc_hostpart (b p : Nat) (s : ByteArray) (w : World) (h : ScAt w b s p) (hp : p ≤ s.size) (hs : s.size ≤ 1048576) (g : Nat) (hgb : g ≤ b) (hgw : g ≤ w.heap.size) (hcls : ∀ W, Below g w W → Cls W) :
    Calls Tryz.prog 58 #[.pointer (some ⟨b, 0, none⟩)] w (HostPost b w s p) := by
  have hml : s.size ≤ maxLen := by unfold maxLen; omega
  have HC := Lib.hid hcls; clear hcls
  cases hq : preB bHttp (restL s p)
  · have hK : Calls Tryz.prog 56 #[.pointer (some ⟨b, 0, none⟩), .string ⟨#[104, 116, 116, 112, 58, 47, 47]⟩] w fun e w' => e = .returned (.bool false) ∧ ScAt w' b s p ∧ But b w w' :=
      sc_skips_no b p ⟨bHttp.toArray⟩ s w h hp hml (by decide) (by simpa using hq)
    have HQ := Lib.hid hq
    clear hq h
    go_enter Tryz.func58, Tryz.ntmps58
    go_wp2_with fail
    refine hK.mono ?_
    rintro e w1 ⟨rfl, h1, hb1⟩
    have HF := Lib.hid (And.intro h1 hb1)
    clear hK h1 hb1
    go_wp2
    go_ret
    exact ⟨.inl ⟨HQ.out, rfl, HF.out.1⟩, HF.out.2⟩
  · have hple : p + 7 ≤ s.size := by
      have h1 := (pre_iff.1 hq).length_le
      rw [rest_len] at h1
      have : bHttp.length = 7 := rfl
      omega
    have hK : Calls Tryz.prog 56 #[.pointer (some ⟨b, 0, none⟩), .string ⟨#[104, 116, 116, 112, 58, 47, 47]⟩] w fun e w' => e = .returned (.bool true) ∧ ScAt w' b s (p + 7) ∧ But b w w' :=
      sc_skips_yes b p ⟨bHttp.toArray⟩ s w h hp hml (by decide) (by simpa using hq)
    have hU := fun W hW => sc_upto b (p + 7) 47 s W hW hple hml
    have HQ := Lib.hid hq
    have hcl := (cutL_len (restL s (p + 7)) 47).1
    rw [rest_len] at hcl
    have HP : Hid (∀ e w', (hostB (hostC (cutL (restL s (p + 7)) 47).1) = false ∧ e = stopE 3 ∨ hostB (hostC (cutL (restL s (p + 7)) 47).1) = true ∧ e = .returned (.string ⟨(hostC (cutL (restL s (p + 7)) 47).1).toArray⟩) ∧ ScAt w' b s (p + 7 + (cutL (restL s (p + 7)) 47).1.length)) → But b w w' → HostPost b w s p e w') :=
      Lib.hid fun e w' h hb => ⟨h.elim (fun h => .inr (.inl ⟨hq, h.1, h.2⟩)) (fun h => .inr (.inr ⟨hq, h.1, h.2⟩)), hb⟩
    clear hq h
    generalize (cutL (restL s (p + 7)) 47).1 = l at *
    have hH := fun W hW => impl_host ⟨l.toArray⟩ W (by rw [size_len]; simp only; omega) hW
    have hll : (ByteArray.mk l.toArray).data.toList = l := by simp
    rw [hll] at hH
    have hR : hostR l = if hostB (hostC l) = true then (⟨(hostC l).toArray⟩, true) else (⟨#[]⟩, false) := rfl
    clear hll
    cases hb : hostB (hostC l)
    · rw [hb] at hR HP
      have hR' : hostR l = (⟨#[]⟩, false) := hR
      rw [hR'] at hH
      dsimp only at hH
      clear hR hR' hb
      go_enter Tryz.func58, Tryz.ntmps58
      go_wp2_with fail
      refine hK.mono ?_
      rintro e w1 ⟨rfl, h1, hb1⟩
      go_wp2_with fail
      refine (hU _ h1).mono ?_
      rintro e w2 ⟨rfl, h2, hb2⟩
      have hbb := hb1.trans hb2
      have hc2 := HC.out w2 (hbb.low hgb hgw)
      clear hK hU h1 hb1 hb2
      go_wp2_with fail
      refine (hH _ hc2).mono ?_
      rintro e w3 ⟨rfl, hb3⟩
      have HF := Lib.hid (HP.out (stopE 3) _ (.inl ⟨by first | rfl | trivial, rfl⟩) (hbb.on hb3))
      clear hH hc2 hbb hb3 h2 HP
      go_wp2_with fail
      refine (must_no _).mono ?_
      rintro e w4 ⟨rfl, rfl⟩
      exact ⟨rfl, HF.out⟩
    · rw [hb] at hR HP
      have hR' : hostR l = (⟨(hostC l).toArray⟩, true) := hR
      rw [hR'] at hH
      dsimp only at hH
      clear hR hR' hb
      generalize (ByteArray.mk (hostC l).toArray) = H at *
      go_enter Tryz.func58, Tryz.ntmps58
      go_wp2_with fail
      refine hK.mono ?_
      rintro e w1 ⟨rfl, h1, hb1⟩
      go_wp2_with fail
      refine (hU _ h1).mono ?_
      rintro e w2 ⟨rfl, h2, hb2⟩
      have hbb := hb1.trans hb2
      have hc2 := HC.out w2 (hbb.low hgb hgw)
      clear hK hU h1 hb1 hb2
      go_wp2_with fail
      refine (hH _ hc2).mono ?_
      rintro e w3 ⟨rfl, hb3⟩
      have HF := Lib.hid (HP.out (.returned (.string H)) _ (.inr ⟨by first | rfl | trivial, rfl, h2.keep hb3⟩) (hbb.on hb3))
      clear hH hc2 hbb hb3 h2 HP
      go_wp2_with fail
      refine (must_yes _).mono ?_
      rintro e w4 ⟨rfl, rfl⟩
      go_wp2
      go_ret
      exact HF.out

def headE (a p n : List UInt8) : Ending := .returned (.agg #[.string ⟨a.toArray⟩, .string ⟨p.toArray⟩, .string ⟨n.toArray⟩, .slice none 0 0, .string ⟨#[]⟩])
def StartPost (b : Nat) (w : World) (FL : Option (List UInt8 × List UInt8 × List UInt8)) (e : Ending) (w' : World) : Prop :=
  ((FL = none ∧ e = stopE 3) ∨ (∃ t, FL = some t ∧ e = headE t.1 t.2.1 t.2.2)) ∧ But b w w'
theorem first_no1 {l : List UInt8} (h : verbB (cutL l 32).1 = false) : firstL l = none := by
  unfold firstL; rw [if_neg (fun e => by rw [h] at e; cases e.2)]
theorem first_no2 {l : List UInt8} (h : (cutL l 32).2.2 = false) : firstL l = none := by
  unfold firstL; rw [if_neg (fun e => by rw [h] at e; cases e.1)]
theorem first_at {l : List UInt8} (h : (cutL l 32).2.2 = true) (hv : verbB (cutL l 32).1 = true) : firstL l = (targetL (cutL l 32).2.1).map fun t => ((cutL l 32).1, t.1, t.2) := by
  unfold firstL; rw [if_pos ⟨h, hv⟩]
theorem target_plain {r : List UInt8} (h : preB bHttp r = false) : targetL r = (canonL r).map fun p => (p, []) := by
  unfold targetL; rw [if_neg (by unfold preB at h; rw [h]; decide)]
theorem target_bad {r : List UInt8} (h : preB bHttp r = true) (hb : hostB (hostC (cutL (r.drop 7) 47).1) = false) : targetL r = none := by
  unfold preB at h
  unfold targetL; rw [if_pos h, if_neg (fun e => by rw [hb] at e; cases e.2)]
theorem target_host {r : List UInt8} (h : preB bHttp r = true) (hb : hostB (hostC (cutL (r.drop 7) 47).1) = true) : targetL r = (canonL ((r.drop 7).drop (cutL (r.drop 7) 47).1.length)).map fun p => (p, hostC (cutL (r.drop 7) 47).1) := by
  unfold preB at h
  unfold targetL; rw [if_pos h]
  cases hc : (cutL (r.drop 7) 47).2.2
  · rw [if_neg (fun e => by cases e.1)]
    have hd : (r.drop 7).drop (cutL (r.drop 7) 47).1.length = [] := by rw [cut_all hc]; simp; omega
    rw [hd]; rfl
  · rw [if_pos ⟨rfl, hb⟩, cut_drop hc]

theorem sc_hostcases (b p : Nat) (s : ByteArray) (hp : p ≤ s.size) (hs : s.size ≤ 1048576) (g : Nat) (hgb : g ≤ b) :
    (targetL (restL s p) = none ∧ ∀ w, ScAt w b s p → g ≤ w.heap.size → (∀ W, Below g w W → Cls W) → Calls Tryz.prog 58 #[.pointer (some ⟨b, 0, none⟩)] w fun e w' => e = stopE 3 ∧ But b w w') ∨
    (∃ hl p', p' ≤ s.size ∧ targetL (restL s p) = (canonL (restL s p')).map (fun x => (x, hl)) ∧ ∀ w, ScAt w b s p → g ≤ w.heap.size → (∀ W, Below g w W → Cls W) →
      Calls Tryz.prog 58 #[.pointer (some ⟨b, 0, none⟩)] w fun e w' => e = .returned (.string ⟨hl.toArray⟩) ∧ ScAt w' b s p' ∧ But b w w') := by
  have hP := fun w h hgw hc => sc_hostpart b p s w h hp hs g hgb hgw hc
  cases hq : preB bHttp (restL s p)
  · refine .inr ⟨[], p, hp, target_plain hq, fun w h hgw hc => (hP w h hgw hc).mono ?_⟩
    rintro e w' ⟨⟨_, h2, h3⟩ | ⟨h1, _⟩ | ⟨h1, _⟩, hb⟩
    · exact ⟨h2, h3, hb⟩
    · rw [hq] at h1; cases h1
    · rw [hq] at h1; cases h1
  · have e7 : restL s (p + 7) = (restL s p).drop 7 := rest_drop s p 7
    cases hb : hostB (hostC (cutL (restL s (p + 7)) 47).1)
    · refine .inl ⟨target_bad hq (by rw [← e7]; exact hb), fun w h hgw hc => (hP w h hgw hc).mono ?_⟩
      rintro e w' ⟨⟨h1, _⟩ | ⟨_, _, h3⟩ | ⟨_, h2, _⟩, hbt⟩
      · rw [hq] at h1; cases h1
      · exact ⟨h3, hbt⟩
      · rw [hb] at h2; cases h2
    · have hple : p + 7 ≤ s.size := by
        have h1 := (pre_iff.1 hq).length_le
        rw [rest_len] at h1
        have : bHttp.length = 7 := rfl
        omega
      have hcl := (cutL_len (restL s (p + 7)) 47).1
      rw [rest_len] at hcl
      refine .inr ⟨hostC (cutL (restL s (p + 7)) 47).1, p + 7 + (cutL (restL s (p + 7)) 47).1.length, by omega, ?_, fun w h hgw hc => (hP w h hgw hc).mono ?_⟩
      · rw [rest_drop s (p + 7), e7]
        rw [e7] at hb
        exact target_host hq hb
      · rintro e w' ⟨⟨h1, _⟩ | ⟨_, h2, _⟩ | ⟨_, _, h3, h4⟩, hbt⟩
        · rw [hq] at h1; cases h1
        · rw [hb] at h2; cases h2
        · exact ⟨h3, h4, hbt⟩

set_option maxRecDepth 100000 in
set_option maxHeartbeats 1600000 in
theorem sc_start (b : Nat) (s : ByteArray) (w : World) (h : ScAt w b s 0) (hs : s.size ≤ 1048576) (g : Nat) (hgb : g ≤ b) (hgw : g ≤ w.heap.size) (hcls : ∀ W, Below g w W → Cls W) :
    Calls Tryz.prog 27 #[.pointer (some ⟨b, 0, none⟩)] w (StartPost b w (firstL s.data.toList)) := by
  have hml : s.size ≤ maxLen := by unfold maxLen; omega
  have hr0 : restL s 0 = s.data.toList := rfl
  obtain ⟨wA, hwA⟩ : ∃ wA, wA = w.alloc (.cells #[.string ⟨#[]⟩, .string ⟨#[]⟩, .string ⟨#[]⟩, .slice none 0 0, .string ⟨#[]⟩] 27) := ⟨_, rfl⟩
  have hsA : wA.heap.size = w.heap.size + 1 := by rw [hwA]; simp
  have hbA : Below w.heap.size w wA := by rw [hwA]; exact (Below.refl _ _).alloc (Nat.le_refl _) _
  have hblt := h.lt
  have hA := h.keep hbA
  have hres : ∀ W, But b wA W → W.heap[w.heap.size]? = some (.cells #[.string ⟨#[]⟩, .string ⟨#[]⟩, .string ⟨#[]⟩, .slice none 0 0, .string ⟨#[]⟩] 27 (0, 0)) := fun W hW =>
    (hW.block w.heap.size (by omega) (fun e => by injection e; omega)).trans (by rw [hwA]; exact heap_alloc_new w _)
  have hclA : ∀ W, But b wA W → ∀ W', Below g W W' → Cls W' := fun W hW W' hW' => hcls W' ((hbA.mono hgw).trans ((hW.low hgb (by omega)).trans hW'))
  have hbw : ∀ W, But b wA W → But b w W := fun W hW => (but_of hbA).trans hW
  have HR := Lib.hid hres; have HCl := Lib.hid hclA; have HBw := Lib.hid hbw; have HW := Lib.hid hwA
  clear hres hclA hbw hwA hcls h hbA
  have hU := sc_upto b 0 32 s wA hA (Nat.zero_le _) hml
  rw [hr0, Nat.zero_add] at hU
  have hcl := (cutL_len s.data.toList 32).1
  rw [← size_len] at hcl
  have HN1 := first_no1 (l := s.data.toList)
  have HN2 := first_no2 (l := s.data.toList)
  have HAt := first_at (l := s.data.toList)
  have hdr := cut_drop (c := 32) (l := s.data.toList)
  have hall := cut_all (c := 32) (l := s.data.toList)
  have hrest : restL s (cutL s.data.toList 32).1.length = s.data.toList.drop (cutL s.data.toList 32).1.length := rfl
  generalize cutL s.data.toList 32 = q at *
  obtain ⟨verb, tg, ok⟩ := q
  dsimp only at *
  generalize firstL s.data.toList = FL at *
  have HN1 := Lib.hid HN1; have HN2 := Lib.hid HN2; have HAt := Lib.hid HAt
  have hvs : (ByteArray.mk verb.toArray).size = verb.length := by rw [size_len]
  have hFr := fun W => fresh ⟨verb.toArray⟩ W (by rw [hvs]; omega)
  have hV := fun W => impl_verb ⟨verb.toArray⟩ W
  have hvl : (ByteArray.mk verb.toArray).data.toList = verb := by simp
  rw [hvl] at hV
  clear hvl hvs hr0
  go_enter Tryz.func27, Tryz.ntmps27
  go_wp2_with fail
  rw [← HW.out]
  refine hU.mono ?_
  rintro e w1 ⟨rfl, h1, hb1⟩
  go_wp2_with fail
  refine (hFr _).mono ?_
  rintro e w2 ⟨rfl, hb2⟩
  have h2 := h1.keep hb2
  have hb02 := hb1.on hb2
  clear hU hFr h1 hb1 hb2 hA
  go_wp2_with fail
  refine (hV _).mono ?_
  rintro e w3 ⟨rfl, rfl⟩
  cases hvb : verbB verb
  · have HF := Lib.hid (And.intro (HN1.out hvb) (HBw.out _ hb02))
    rw [hvb] at hV
    clear hV hvb HN1 HN2 HAt hdr hall hrest
    go_wp2_with fail
    refine (must_no _).mono ?_
    rintro e w3 ⟨rfl, rfl⟩
    exact ⟨rfl, .inl ⟨HF.out.1, rfl⟩, HF.out.2⟩
  · have HVb := Lib.hid hvb
    clear hV HN1 hvb
    cases ok
    · have hpre : preB (ByteArray.mk #[32]).data.toList (restL s verb.length) = false := by rw [hrest, hall rfl, List.drop_length]; rfl
      have hK := sc_skips_no b verb.length ⟨#[32]⟩ s w2 h2 hcl hml (by decide) hpre
      have HF : Hid (FL = none) := Lib.hid (HN2.out (by first | rfl | trivial))
      clear hpre hdr hall hrest HAt HN2
      go_wp2_with fail
      refine hK.mono ?_
      rintro e w3 ⟨rfl, h3, hb3⟩
      have HB := Lib.hid (HBw.out _ (hb02.trans hb3))
      clear hK hb3 h3
      go_wp2_with fail
      refine (must_no _).mono ?_
      rintro e w4 ⟨rfl, rfl⟩
      exact ⟨rfl, .inl ⟨by first | exact HF.out | rfl, rfl⟩, HB.out⟩
    · have hd := hdr rfl
      have hre : restL s verb.length = 32 :: tg := by rw [hrest, hd]
      have hpre : preB (ByteArray.mk #[32]).data.toList (restL s verb.length) = true := by rw [hre]; rfl
      have hfit : verb.length + 1 ≤ s.size := by
        have := rest_len s verb.length; rw [hre] at this; simp at this; omega
      have hK : Calls Tryz.prog 56 #[.pointer (some ⟨b, 0, none⟩), .string ⟨#[32]⟩] w2 fun e w' => e = .returned (.bool true) ∧ ScAt w' b s (verb.length + 1) ∧ But b w2 w' :=
        sc_skips_yes b verb.length ⟨#[32]⟩ s w2 h2 hcl hml (by decide) hpre
      have hrt : restL s (verb.length + 1) = tg := by rw [rest_drop, hre]; rfl
      have hcase := sc_hostcases b (verb.length + 1) s hfit hs g hgb
      rw [hrt] at hcase
      have hat := HAt.out (by first | rfl | trivial) HVb.out
      have HAt := Lib.hid hat
      clear hpre hdr hall hrest HN2 hd hre hrt hat
      rcases hcase with ⟨ht, hHo⟩ | ⟨hl, p', hp', ht, hHo⟩
      · have HF : Hid (FL = none) := Lib.hid (by rw [HAt.out, ht]; rfl)
        clear ht HAt
        go_wp2_with fail
        refine hK.mono ?_
        rintro e w3 ⟨rfl, h3, hb3⟩
        have hb03 := hb02.trans hb3
        clear hK hb3 hb02 h2
        go_wp2_with fail
        refine (must_yes _).mono ?_
        rintro e w4 ⟨rfl, rfl⟩
        have hH' := hHo _ h3 (by have := hb03.size; omega) (HCl.out _ hb03)
        clear hHo
        go_wp2_with fail
        refine hH'.mono ?_
        rintro e w4 ⟨rfl, hb4⟩
        exact ⟨rfl, .inl ⟨HF.out, rfl⟩, HBw.out _ (hb03.trans hb4)⟩
      · have hR := fun W hW => sc_rest b p' s W hW hp' hml
        have hR : ∀ W, ScAt W b s p' → Calls Tryz.prog 60 #[.pointer (some ⟨b, 0, none⟩)] W fun e w' => e = .returned (.string ⟨(restL s p').toArray⟩) ∧ Below W.heap.size W w' := hR
        have hrs := rest_size s p'
        have hU := fun W hW => impl_canon ⟨(restL s p').toArray⟩ W (by omega) hW
        rw [rest_list] at hU
        have hFL : FL = (canonL (restL s p')).map fun x => (verb, x, hl) := by rw [HAt.out, ht, Option.map_map]; rfl
        have HFL := Lib.hid hFL
        clear ht hFL HAt hrs
        generalize canonL (restL s p') = oc at *
        unfold canV strV at hU
        generalize (ByteArray.mk (restL s p').toArray) = rb at *
        go_wp2_with fail
        refine hK.mono ?_
        rintro e w3 ⟨rfl, h3, hb3⟩
        have hb03 := hb02.trans hb3
        clear hK hb3 hb02 h2
        go_wp2_with fail
        refine (must_yes _).mono ?_
        rintro e w4 ⟨rfl, rfl⟩
        have hH' := hHo _ h3 (by have := hb03.size; omega) (HCl.out _ hb03)
        clear hHo
        go_wp2_with fail
        refine hH'.mono ?_
        rintro e w4 ⟨rfl, h4, hb4⟩
        have hb04 := hb03.trans hb4
        have hR' := hR _ h4
        clear hH' hR hb03 h3 hb4
        go_wp2_with fail
        refine hR'.mono ?_
        rintro e w5 ⟨rfl, hb5⟩
        have hb05 := hb04.on hb5
        have hU' := hU _ (HCl.out _ hb05 _ (Below.refl _ _))
        clear hU hR' hb04 hb5
        go_wp2_with fail
        refine hU'.mono ?_
        rintro e w6 ⟨rfl, hb6⟩
        have hb06 := hb05.on hb6
        clear hU' hb05 hb6
        cases oc with
        | none =>
          have HF : Hid (FL = none) := Lib.hid HFL.out
          have HB := Lib.hid (HBw.out _ hb06)
          clear hb06
          go_wp2_with fail
          refine (must_no _).mono ?_
          rintro e w7 ⟨rfl, rfl⟩
          exact ⟨rfl, .inl ⟨by first | exact HF.out | rfl, rfl⟩, HB.out⟩
        | some cn =>
          have HF : Hid (FL = some (verb, cn, hl)) := Lib.hid HFL.out
          have r0 := HR.out _ hb06
          obtain ⟨q0, q1, q2, q3, q4, f0, f1, f2, f3, f4⟩ := five_facts r0
          have z := five_set r0 (.string ⟨verb.toArray⟩) (.string ⟨cn.toArray⟩) (.string ⟨hl.toArray⟩) (.slice none 0 0) (.string ⟨#[]⟩)
          unfold set5 at z
          obtain ⟨z0, z1, z2, z3, z4, _⟩ := five_facts z
          have HB : Hid (But b w (set5 w6 w.heap.size (.string ⟨verb.toArray⟩) (.string ⟨cn.toArray⟩) (.string ⟨hl.toArray⟩) (.slice none 0 0) (.string ⟨#[]⟩))) :=
            Lib.hid ((HBw.out _ hb06).onW (below_set5 (Below.refl _ _)))
          have HZ := Lib.hid (And.intro z0 (And.intro z1 (And.intro z2 (And.intro z3 z4))))
          clear z0 z1 z2 z3 z4 z r0 hb06 HFL
          go_wp2_with fail
          refine (must_yes _).mono ?_
          rintro e w7 ⟨rfl, rfl⟩
          go_wp2_with fail
          obtain ⟨z0, z1, z2, z3, z4⟩ := HZ.out
          exact bodyPost_ret (v := .agg #[.string ⟨verb.toArray⟩, .string ⟨cn.toArray⟩, .string ⟨hl.toArray⟩, .slice none 0 0, .string ⟨#[]⟩]) (by simp [results, Tryz.results27, go_sem, z0, z1, z2, z3, z4]) rfl ⟨.inr ⟨_, HF.out, rfl⟩, HB.out⟩
end Go.Proofs.YtabidoopodbknaaGreatDoor

-- from XScq
/- Walks: the program's scanner takes a request. -/
namespace Go.Proofs.YtabidoopodbknaaGreatDoor
open Go.RowKit

theorem lines_count : ∀ (f : Nat) (r : List UInt8) (u : Nat), (linesL f r u).1.length + u ≤ (linesL f r u).2.1 := by
  intro f
  induction f with
  | zero => intro r u; show 0 + u ≤ u; omega
  | succ f ih =>
    intro r u
    by_cases h : 300 < u
    · rw [lines_big _ _ _ h]; show 0 + u ≤ u; omega
    · cases hc : (cutL r 10).2.2
      · rw [lines_no h hc]; show 0 + u ≤ u + r.length; omega
      · by_cases he : (cutL r 10).1 = []
        · rw [lines_end h hc he]; show 0 + u ≤ u + 1; omega
        · rw [lines_on h hc he]
          have := ih (cutL r 10).2.1 (u + (cutL r 10).1.length + 1)
          simp only [List.length_cons]
          omega
theorem fds_ok {ls : List (List UInt8)} (h : ls.all rdB = true) : FOk (ls.map rdF) 30 := fun f hf => by
  obtain ⟨l, hl, rfl⟩ := List.mem_map.1 hf
  have hr := (List.all_eq_true.1 h) l hl
  unfold rdB at hr
  rw [Bool.and_eq_true] at hr
  have := fdB_len (a := (rdF l).1) (b := (rdF l).2) hr.2
  omega
theorem first_len {l : List UInt8} {t : List UInt8 × List UInt8 × List UInt8} (h : firstL l = some t) : t.1.length ≤ 5 ∧ t.2.1.length ≤ 40 := by
  unfold firstL at h
  split at h
  · rename_i hc
    obtain ⟨q, hq, rfl⟩ := Option.map_eq_some_iff.1 h
    refine ⟨?_, ?_⟩
    · rcases verb_cases hc.2 with e | e | e <;> rw [e] <;> decide
    · unfold targetL at hq
      split at hq
      · split at hq
        · obtain ⟨c, hcn, rfl⟩ := Option.map_eq_some_iff.1 hq
          exact (canon_form hcn).2.1
        · cases hq
      · obtain ⟨c, hcn, rfl⟩ := Option.map_eq_some_iff.1 hq
        exact (canon_form hcn).2.1
  · cases h
theorem others_ok {fs : List Fd} {K : Nat} (h : FOk fs K) : FOk (othersL fs) K := fun f hf => h f (List.mem_filter.1 hf).1

def RequestPost (b : Nat) (w : World) (s : ByteArray) (R : Hd × Nat × Nat) (e : Ending) (w' : World) : Prop :=
  ((∃ n : Nat, R = (noHd, 0, n) ∧ (n = 2 ∨ n = 3) ∧ e = stopE n) ∨
   (∃ h n, R = (h, n, 1) ∧ ∃ v, e = .returned (.agg #[.string h.verb, .string h.target, .string h.host, v, .string h.body]) ∧ w'.ownsRow w.heap.size 39 2 v h.fs.length (fcells h.fs) ∧ ScAt w' b s n)) ∧ But b w w'

set_option maxRecDepth 100000 in
set_option maxHeartbeats 20000000 in
theorem sc_request (b : Nat) (s : ByteArray) (w : World) (h : ScAt w b s 0) (hs : s.size ≤ 1048576) (g : Nat) (hgb : g ≤ b) (hgw : g ≤ w.heap.size) (hctx : ∀ W, Below g w W → Cls W ∧ Tab W ∧ Errs W) :
    Calls Tryz.prog 15 #[.pointer (some ⟨b, 0, none⟩)] w (RequestPost b w s (readL s.data.toList)) := by
  have hml : s.size ≤ maxLen := by unfold maxLen; omega
  have hdef : readL s.data.toList = if 300 < (linesL 302 s.data.toList 0).2.1 then (noHd, 0, 3)
    else if (linesL 302 s.data.toList 0).2.2 = false then (noHd, 0, 2)
    else match wholeL (linesL 302 s.data.toList 0).1 with
      | none => (noHd, 0, 3)
      | some (h, n) =>
        if s.data.toList.length < (linesL 302 s.data.toList 0).2.1 + n then (noHd, 0, 2)
        else if hedB { h with body := ⟨((s.data.toList.drop (linesL 302 s.data.toList 0).2.1).take n).toArray⟩ } = true then ({ h with body := ⟨((s.data.toList.drop (linesL 302 s.data.toList 0).2.1).take n).toArray⟩ }, (linesL 302 s.data.toList 0).2.1 + n, 1) else (noHd, 0, 3) := rfl
  obtain ⟨wA, hwA⟩ : ∃ wA, wA = w.alloc (.cells #[.string ⟨#[]⟩, .string ⟨#[]⟩, .string ⟨#[]⟩, .slice none 0 0, .string ⟨#[]⟩] 27) := ⟨_, rfl⟩
  have hsA : wA.heap.size = w.heap.size + 1 := by rw [hwA]; simp
  have hbA : Below w.heap.size w wA := by rw [hwA]; exact (Below.refl _ _).alloc (Nat.le_refl _) _
  have hblt := h.lt
  have hA := h.keep hbA
  have hres : ∀ W, But b wA W → W.heap[w.heap.size]? = some (.cells #[.string ⟨#[]⟩, .string ⟨#[]⟩, .string ⟨#[]⟩, .slice none 0 0, .string ⟨#[]⟩] 27 (0, 0)) := fun W hW =>
    (hW.block w.heap.size (by omega) (fun e => by injection e; omega)).trans (by rw [hwA]; exact heap_alloc_new w _)
  have hclA : ∀ W, But b wA W → ∀ W', Below g W W' → Cls W' ∧ Tab W' ∧ Errs W' := fun W hW W' hW' => hctx W' ((hbA.mono hgw).trans ((hW.low hgb (by omega)).trans hW'))
  have hbw : ∀ W, But b wA W → But b w W := fun W hW => (but_of hbA).trans hW
  have HR := Lib.hid hres; have HCl := Lib.hid hclA; have HBw := Lib.hid hbw; have HW := Lib.hid hwA
  clear hres hclA hbw hwA hctx h hbA
  have hL := sc_lines b s wA hA hs
  have hle := lines_le 302 s.data.toList 0
  have hus := lines_used 302 s.data.toList 0
  have hco := lines_count 302 s.data.toList 0
  rw [← size_len] at hus hle hdef
  generalize linesL 302 s.data.toList 0 = L at *
  generalize readL s.data.toList = R at *
  obtain ⟨ls, used, ended⟩ := L
  dsimp only at hdef hle hus hco
  rw [Nat.zero_add] at hus
  have HD := Lib.hid hdef; clear hdef
  go_enter Tryz.func15, Tryz.ntmps15
  go_wp2_with fail
  rw [← HW.out]
  refine hL.mono ?_
  rintro e w1 ⟨hcase, hb1⟩
  dsimp only at hcase
  clear hL hA
  have HB1 := Lib.hid (HBw.out _ hb1)
  rcases hcase with ⟨h3, rfl⟩ | ⟨h3, h2, rfl⟩ | ⟨h3, hend, v, rfl, hown, hs1⟩
  · have HF : Hid (R = (noHd, 0, 3)) := Lib.hid (by rw [HD.out, if_pos h3])
    exact ⟨rfl, .inl ⟨3, HF.out, .inr rfl, rfl⟩, HB1.out⟩
  · have HF : Hid (R = (noHd, 0, 2)) := Lib.hid (by rw [HD.out, if_neg h3, if_pos h2])
    exact ⟨rfl, .inl ⟨2, HF.out, .inl rfl, rfl⟩, HB1.out⟩
  have hD1 := HD.out
  rw [if_neg h3, if_neg (by rw [hend]; decide)] at hD1
  have HD := Lib.hid hD1
  clear hD1 hend
  have hsz1 := hb1.size
  cases ls with
  | nil =>
    have HF : Hid (R = (noHd, 0, 3)) := Lib.hid HD.out
    obtain ⟨a, c, rfl⟩ := own_len2 hown
    clear HD hown
    simp only [List.length_nil]
    go_wp2_with fail
    refine (must_f (by first | rfl | (simp; done) | (simp; omega)) _).mono ?_
    rintro e w2 ⟨rfl, rfl⟩
    exact ⟨rfl, .inl ⟨3, HF.out, .inr rfl, rfl⟩, HB1.out⟩
  | cons l ls =>
    obtain ⟨gv, cap, rfl⟩ := own_form hown (by simp)
    have hcell : ∀ j x, (l :: ls)[j]? = some x → w1.cell? ⟨gv, j, none⟩ = some (.string ⟨x.toArray⟩) := fun j x hj => own_cell hown (by rw [List.getElem?_map, hj]; rfl)
    have c0 := hcell 0 l rfl
    have hgv := (hown.lt gv rfl)
    have hcap : (l :: ls).length ≤ cap ∧ cap ≤ maxLen := by
      rcases hown.2 with ⟨e1, _⟩ | ⟨g', cap', cur, e1, _, _, h5, h6, _⟩
      · cases e1
      · injection e1 with _ _ e2
        subst e2; exact ⟨h5, h6⟩
    have HNone : Hid (wholeL (l :: ls) = none → R = (noHd, 0, 3)) := Lib.hid fun e => by rw [HD.out, e]
    have HSome : Hid (∀ h n, wholeL (l :: ls) = some (h, n) → R = if s.size < used + n then (noHd, 0, 2) else if hedB { h with body := ⟨((restL s used).take n).toArray⟩ } = true then ({ h with body := ⟨((restL s used).take n).toArray⟩ }, used + n, 1) else (noHd, 0, 3)) := Lib.hid fun h n e => by rw [HD.out, e]; rfl
    clear HD
    have hll : l.length ≤ s.size := hle l (List.mem_cons_self ..)
    have hlsl : ∀ x ∈ ls, x.length ≤ 1048576 := fun x hx => Nat.le_trans (hle x (List.mem_cons_of_mem _ hx)) hs
    have hlsn : ls.length ≤ 300 := by simp only [List.length_cons] at hco; omega
    have hbb := hb1.low hgb (by omega)
    have hScB : ScAt (w1.alloc (.cells #[.string ⟨l.toArray⟩, .int .i64 0] 45)) w1.heap.size ⟨l.toArray⟩ 0 := heap_alloc_new w1 _
    have hsB : (w1.alloc (.cells #[.string ⟨l.toArray⟩, .int .i64 0] 45)).heap.size = w1.heap.size + 1 := by simp
    have hbB : Below w1.heap.size w1 (w1.alloc (.cells #[.string ⟨l.toArray⟩, .int .i64 0] 45)) := (Below.refl _ _).alloc (Nat.le_refl _) _
    have hStart := sc_start w1.heap.size ⟨l.toArray⟩ (w1.alloc (.cells #[.string ⟨l.toArray⟩, .int .i64 0] 45)) hScB (by rw [size_len]; simp only; omega) g (by omega) (by omega) (fun W hW => (HCl.out w1 hb1 W ((hbB.mono (by omega)).trans hW)).1)
    have hlt : (ByteArray.mk l.toArray).data.toList = l := by simp
    rw [hlt] at hStart
    have hTo : ∀ W, But w1.heap.size (w1.alloc (.cells #[.string ⟨l.toArray⟩, .int .i64 0] 45)) W → Below w1.heap.size w1 W := fun W hW => hbB.trans (hW.low (Nat.le_refl _) (by omega))
    have HTo := Lib.hid hTo
    clear hTo hle hco hScB hsB hbB hlt hbb
    simp only [List.length_cons] at *
    cases ls with
    | nil =>
      have hN : wholeL [l] = none := whole_n3 l rfl rfl
      have HF : Hid (R = (noHd, 0, 3)) := Lib.hid (HNone.out hN)
      clear HNone HSome hN hlsl hcell
      simp only [List.length_nil, Nat.zero_add] at *
      by_cases hc1 : cap = 1
      · subst hc1
        go_wp2_with fail
        refine (must_t (by first | rfl | (simp; done) | (simp; omega)) _).mono ?_
        rintro e w2 ⟨rfl, rfl⟩
        go_wp2_with fail
        refine hStart.mono ?_
        rintro e w2 ⟨hst, hb2⟩
        have hb12 := HTo.out _ hb2
        have hb02 := hb1.on hb12
        have hs2 := hs1.keep hb12
        clear hStart hb2 hs1
        rcases hst with ⟨hf, rfl⟩ | ⟨t, hf, rfl⟩
        · exact ⟨rfl, .inl ⟨3, HF.out, .inr rfl, rfl⟩, HBw.out _ hb02⟩
        unfold headE
        have hW3s : (w2.alloc (.cells #[.string ⟨t.1.toArray⟩, .string ⟨t.2.1.toArray⟩, .string ⟨t.2.2.toArray⟩, .slice none 0 0, .string ⟨#[]⟩] 27)).heap.size = w2.heap.size + 1 := by simp
        have hb03 : But b wA (w2.alloc (.cells #[.string ⟨t.1.toArray⟩, .string ⟨t.2.1.toArray⟩, .string ⟨t.2.2.toArray⟩, .slice none 0 0, .string ⟨#[]⟩] 27)) := hb02.on ((Below.refl _ _).alloc (Nat.le_refl _) _)
        have hFl := sc_fields (.slice (some ⟨gv, 0, none⟩) 0 0) [] _ ⟨_, _, rfl, Nat.zero_le _, by unfold maxLen at *; omega, fun j l hj => by simp at hj⟩ (fun l hl => by cases hl) (Nat.zero_le _) (HCl.out _ hb03 _ (Below.refl _ _)).1
        skip
        go_wp2_with fail
        refine hFl.mono ?_
        rintro e w4 ⟨hfl, hb4⟩
        have hb04 := hb03.on hb4
        rcases hfl with ⟨hf, _⟩ | ⟨_, u, rfl, hu⟩
        · cases hf
        have hHo := sc_host u [] w4 (frow_own (by omega) hu) (fun f hf => by cases hf) (Nat.zero_le _) (HCl.out _ hb04 _ (Below.refl _ _)).1
        clear hFl hu hb4
        go_wp2_with fail
        refine hHo.mono ?_
        rintro e w5 ⟨hho, hb5⟩
        rcases hho with ⟨_, rfl⟩ | ⟨hf, _⟩
        · exact ⟨rfl, .inl ⟨3, HF.out, .inr rfl, rfl⟩, HBw.out _ (hb04.on hb5)⟩
        · cases hf
      · have HC1 := Lib.hid hc1
        clear hc1
        go_wp2_with fail
        refine (must_t (by first | rfl | (simp; done) | (simp; omega)) _).mono ?_
        rintro e w2 ⟨rfl, rfl⟩
        go_wp2_with fail
        refine hStart.mono ?_
        rintro e w2 ⟨hst, hb2⟩
        have hb12 := HTo.out _ hb2
        have hb02 := hb1.on hb12
        have hs2 := hs1.keep hb12
        clear hStart hb2 hs1
        rcases hst with ⟨hf, rfl⟩ | ⟨t, hf, rfl⟩
        · exact ⟨rfl, .inl ⟨3, HF.out, .inr rfl, rfl⟩, HBw.out _ hb02⟩
        unfold headE
        have hW3s : (w2.alloc (.cells #[.string ⟨t.1.toArray⟩, .string ⟨t.2.1.toArray⟩, .string ⟨t.2.2.toArray⟩, .slice none 0 0, .string ⟨#[]⟩] 27)).heap.size = w2.heap.size + 1 := by simp
        have hb03 : But b wA (w2.alloc (.cells #[.string ⟨t.1.toArray⟩, .string ⟨t.2.1.toArray⟩, .string ⟨t.2.2.toArray⟩, .slice none 0 0, .string ⟨#[]⟩] 27)) := hb02.on ((Below.refl _ _).alloc (Nat.le_refl _) _)
        have hFl := sc_fields (.slice (some ⟨gv, 1, none⟩) 0 (cap - 1)) [] _ ⟨_, _, rfl, Nat.zero_le _, by unfold maxLen at *; omega, fun j l hj => by simp at hj⟩ (fun l hl => by cases hl) (Nat.zero_le _) (HCl.out _ hb03 _ (Below.refl _ _)).1
        have i1 := HC1.out
        go_wp2_with fail
        refine hFl.mono ?_
        rintro e w4 ⟨hfl, hb4⟩
        have hb04 := hb03.on hb4
        rcases hfl with ⟨hf, _⟩ | ⟨_, u, rfl, hu⟩
        · cases hf
        have hHo := sc_host u [] w4 (frow_own (by omega) hu) (fun f hf => by cases hf) (Nat.zero_le _) (HCl.out _ hb04 _ (Below.refl _ _)).1
        clear hFl hu hb4
        go_wp2_with fail
        refine hHo.mono ?_
        rintro e w5 ⟨hho, hb5⟩
        rcases hho with ⟨_, rfl⟩ | ⟨hf, _⟩
        · exact ⟨rfl, .inl ⟨3, HF.out, .inr rfl, rfl⟩, HBw.out _ (hb04.on hb5)⟩
        · cases hf
    | cons x r =>
      have hcap1 : ¬ cap = 1 := by simp only [List.length_cons] at hcap; omega
      have hcap0 : ¬ cap = 0 := by simp only [List.length_cons] at hcap; omega
      have hSR : SRow w1 (.slice (some ⟨gv, 1, none⟩) (x :: r).length (cap - 1)) (x :: r) :=
        ⟨_, _, rfl, by have := hcap.1; simp only [List.length_cons] at this ⊢; omega, by unfold maxLen at *; omega, fun j y hj => ⟨gv, 1, rfl, hgv.2, by rw [Nat.add_comm]; exact hcell (j + 1) y (by simpa using hj)⟩⟩
      have HNm := Lib.hid (fun e => HNone.out (whole_n1 (x :: r) e) : firstL l = none → R = (noHd, 0, 3))
      generalize hls : x :: r = ls at *
      have HLs : Hid (0 < ls.length) := Lib.hid (by rw [← hls]; simp)
      clear hcell hls hown
      go_wp2_with fail
      refine (must_t (by first | rfl | (simp; done) | (simp; omega)) _).mono ?_
      rintro e w2 ⟨rfl, rfl⟩
      go_wp2_with fail
      refine hStart.mono ?_
      rintro e w2 ⟨hst, hb2⟩
      have hb12 := HTo.out _ hb2
      have hb02 := hb1.on hb12
      have hs2 := hs1.keep hb12
      have hSR2 := hSR.below (Nat.le_refl _) hb12
      clear hStart hb2 hs1 HTo c0 hSR hb1 hb12
      rcases hst with ⟨hf, rfl⟩ | ⟨t, hf, rfl⟩
      · exact ⟨rfl, .inl ⟨3, HNm.out hf, .inr rfl, rfl⟩, HBw.out _ hb02⟩
      unfold headE
      have HFi := Lib.hid hf
      obtain ⟨ht1, ht2⟩ := first_len hf
      clear hf HNm
      have hv1 : (ByteArray.mk t.1.toArray).data.toList = t.1 := by simp
      have hv3 : (ByteArray.mk t.2.2.toArray).data.toList = t.2.2 := by simp
      have hz1 : (ByteArray.mk t.1.toArray).size ≤ 5 := by rw [size_len, hv1]; exact ht1
      have hz2 : (ByteArray.mk t.2.1.toArray).size ≤ 40 := by rw [size_len]; exact ht2
      obtain ⟨VB, hVB⟩ : ∃ V : ByteArray, V = ⟨t.1.toArray⟩ := ⟨_, rfl⟩
      obtain ⟨TB, hTB⟩ : ∃ V : ByteArray, V = ⟨t.2.1.toArray⟩ := ⟨_, rfl⟩
      obtain ⟨NB, hNB⟩ : ∃ V : ByteArray, V = ⟨t.2.2.toArray⟩ := ⟨_, rfl⟩
      rw [← hVB] at hv1 hz1
      rw [← hTB] at hz2
      rw [← hNB] at hv3
      rw [← hVB, ← hTB, ← hNB]
      have HVN := Lib.hid (And.intro hv1 hv3)
      have HVT := Lib.hid (And.intro hVB hTB)
      clear hv1 hv3 hVB hTB hNB ht1 ht2
      have hb03 := hb02.on ((Below.refl _ _).alloc (Nat.le_refl w2.heap.size) (.cells #[.string VB, .string TB, .string NB, .slice none 0 0, .string ⟨#[]⟩] 27))
      have hs3 := hs2.keep ((Below.refl _ _).alloc (Nat.le_refl w2.heap.size) (.cells #[.string VB, .string TB, .string NB, .slice none 0 0, .string ⟨#[]⟩] 27))
      have hSR3 := hSR2.below (Nat.le_refl _) ((Below.refl _ _).alloc (Nat.le_refl w2.heap.size) (.cells #[.string VB, .string TB, .string NB, .slice none 0 0, .string ⟨#[]⟩] 27))
      have hH3 : (w2.alloc (.cells #[.string VB, .string TB, .string NB, .slice none 0 0, .string ⟨#[]⟩] 27)).heap[w2.heap.size]? = some (.cells #[.string VB, .string TB, .string NB, .slice none 0 0, .string ⟨#[]⟩] 27 (0, 0)) := heap_alloc_new w2 _
      have hz3 : (w2.alloc (.cells #[.string VB, .string TB, .string NB, .slice none 0 0, .string ⟨#[]⟩] 27)).heap.size = w2.heap.size + 1 := by simp
      have hbh : wA.heap.size ≤ w2.heap.size := hb02.size
      have hFl := sc_fields _ ls _ hSR3 hlsl (by omega) (HCl.out _ hb03 _ (Below.refl _ _)).1
      clear hSR2 hSR3 hs2 hb02 hlsl
      go_wp2_with fail
      generalize (w2.alloc (.cells #[.string VB, .string TB, .string NB, .slice none 0 0, .string ⟨#[]⟩] 27)) = w3 at *
      generalize hbhe : w2.heap.size = bh at *
      refine hFl.mono ?_
      rintro e w4 ⟨hfl, hb4⟩
      have hb04 := hb03.on hb4
      have hs4 := hs3.keep hb4
      have hH4 := (hb4.block bh (by omega)).trans hH3
      have hz4 := hb4.size
      clear hFl hb4 hb03 hs3 hH3
      rcases hfl with ⟨hal, rfl⟩ | ⟨hal, u, rfl, hu⟩
      · exact ⟨rfl, .inl ⟨3, HNone.out (whole_n2 l hal), .inr rfl, rfl⟩, HBw.out _ hb04⟩
      have hfok := fds_ok hal
      have hfn : (ls.map rdF).length ≤ 300 := by rw [List.length_map]; omega
      have HGo := Lib.hid (fun value => whole_go (value := value) HFi.out hal)
      have HN3 := Lib.hid (fun e => HNone.out (whole_n3 l hal e))
      clear HFi hal
      generalize ls.map rdF = fs at *
      have hFR4 := frow_own (by omega) hu
      have hHo := sc_host u fs w4 hFR4 (fun f hf => ⟨Nat.le_trans (hfok f hf).1 (by decide), Nat.le_trans (hfok f hf).2 (by decide)⟩) (by omega) (HCl.out _ hb04 _ (Below.refl _ _)).1
      go_wp2_with fail
      refine hHo.mono ?_
      rintro e w5 ⟨hho, hb5⟩
      have hb05 := hb04.on hb5
      have hs5 := hs4.keep hb5
      have hH5 := (hb5.block bh (by omega)).trans hH4
      have hz5 := hb5.size
      have hu5 := own_below hu hb5
      clear hHo hb5 hb04 hs4 hH4 hu hFR4
      have HGo : Hid (∀ value, oneOf (allTo fs hostN fs.length) = (value, true) → wholeL (l :: ls) = if hostB (hostC value.data.toList) = true ∧ (t.2.2 = [] ∨ t.2.2 = hostC value.data.toList) ∧ (othersL fs).length ≤ 6 then (sizeL t.1 fs).map fun n => (⟨⟨t.1.toArray⟩, ⟨t.2.1.toArray⟩, ⟨(hostC value.data.toList).toArray⟩, othersL fs, ⟨#[]⟩⟩, n) else none) := Lib.hid HGo.out
      have HN3 : Hid ((oneOf (allTo fs hostN fs.length)).2 = false → R = (noHd, 0, 3)) := Lib.hid HN3.out
      rcases ho : oneOf (allTo fs hostN fs.length) with ⟨value, one⟩
      rw [ho] at hho HN3
      dsimp only at hho HN3
      have hgo := HGo.out value
      rw [ho] at hgo
      clear HGo ho
      rcases hho with ⟨hbad, rfl⟩ | ⟨hone, hhb, rfl⟩
      · have hR : R = (noHd, 0, 3) := by
          rcases hbad with h1 | h1
          · exact HN3.out h1
          · cases one
            · exact HN3.out rfl
            · refine HNone.out ?_
              rw [hgo rfl, if_neg (fun e => by rw [h1] at e; cases e.1)]
        exact ⟨rfl, .inl ⟨3, hR, .inr rfl, rfl⟩, HBw.out _ hb05⟩
      subst hone
      have hgo := hgo rfl
      have HGo : Hid (wholeL (l :: ls) = if (t.2.2 = [] ∨ t.2.2 = hostC value.data.toList) ∧ (othersL fs).length ≤ 6 then (sizeL t.1 fs).map fun n => (⟨VB, TB, ⟨(hostC value.data.toList).toArray⟩, othersL fs, ⟨#[]⟩⟩, n) else none) := Lib.hid (by
        rw [hgo, HVT.out.1, HVT.out.2]
        by_cases hc : (t.2.2 = [] ∨ t.2.2 = hostC value.data.toList) ∧ (othersL fs).length ≤ 6
        · rw [if_pos hc, if_pos ⟨hhb, hc⟩]
        · rw [if_neg hc, if_neg (fun e => hc e.2)])
      have hhl := host_len hhb
      clear hgo HN3 HVT hhb
      generalize hostC value.data.toList = hc at *
      have hcl : (ByteArray.mk hc.toArray).data.toList = hc := by simp
      have hcs : (ByteArray.mk hc.toArray).size ≤ 20 := by rw [size_len, hcl]; exact hhl.2
      generalize (ByteArray.mk hc.toArray) = HB at *
      have HCL := Lib.hid hcl
      clear hhl hcl
      obtain ⟨t0, t1, t2, t3, t4, f0, f1, f2, f3, f4⟩ := five_facts hH5
      have hneq : ∀ a c : ByteArray, a.data.toList ≠ c.data.toList → (a.toList == c.toList) = false := fun a c h => by rw [Lib.toList_data, Lib.toList_data]; simpa using h
      by_cases hnm : t.2.2 = [] ∨ t.2.2 = hc
      · have HGo : Hid (wholeL (l :: ls) = if (othersL fs).length ≤ 6 then (sizeL t.1 fs).map fun n => (⟨VB, TB, HB, othersL fs, ⟨#[]⟩⟩, n) else none) := Lib.hid (by
          rw [HGo.out]
          by_cases h6 : (othersL fs).length ≤ 6
          · rw [if_pos ⟨hnm, h6⟩, if_pos h6]
          · rw [if_neg (fun e => h6 e.2), if_neg h6])
        have hb5s : Below wA.heap.size w5 (w5.setCell ⟨bh, 2, none⟩ (.string HB)) := below_setB (Below.refl _ _) hbh
        have hb06 := hb05.onW hb5s
        have hs6 := hs5.keepW hb5s (by omega)
        have hH6 : (w5.setCell ⟨bh, 2, none⟩ (.string HB)).heap[bh]? = some (.cells #[.string VB, .string TB, .string HB, .slice none 0 0, .string ⟨#[]⟩] 27 (0, 0)) := heap_setCell_same w5 bh 2 _ _ (.string HB) hH5
        have hz6 : (w5.setCell ⟨bh, 2, none⟩ (.string HB)).heap.size = w5.heap.size := by simp
        have hu6 := own_setk hu5 (b := bh) (k := 2) (by omega) (.string HB)
        have hOt := sc_others u fs _ (frow_own (by omega) hu6) (fun f hf => ⟨Nat.le_trans (hfok f hf).1 (by decide), Nat.le_trans (hfok f hf).2 (by decide)⟩) (by omega)
        have hoo := others_ok hfok
        clear hb5s hb05 hs5 hH5 hu5 hneq
        by_cases h0 : t.2.2 = []
        · have he : (NB.toList == []) = true := by rw [Lib.toList_data, HVN.out.2, h0]; rfl
          clear h0 hnm
          go_wp2_with fail
          refine (must_t (by first | rfl | (simp; done) | (simp; omega)) _).mono ?_
          rintro e w6 ⟨rfl, rfl⟩
          go_wp2_with fail
          generalize (w5.setCell ⟨bh, 2, none⟩ (.string HB)) = w6 at *
          clear t0 t1 t2 t3 t4 f0 f1 f2 f3 f4
          refine hOt.mono ?_
          rintro e w7 ⟨hot, hb7⟩
          have hb07 := hb06.on hb7
          have hs7 := hs6.keep hb7
          have hH7 := (hb7.block bh (by omega)).trans hH6
          have hz7 := hb7.size
          have hu7 := own_below hu6 hb7
          clear hb7 hb06 hs6 hH6 hu6 hOt
          rcases hot with ⟨hbad, rfl⟩ | ⟨htr, h6, u2, rfl, ho7⟩
          · have hR : R = (noHd, 0, 3) := HNone.out (by
              rw [HGo.out]
              rcases hbad with h1 | h1
              · have : sizeL t.1 fs = none := by unfold sizeL; exact if_pos h1
                rw [this]; split <;> rfl
              · rw [if_neg (by omega)])
            exact ⟨rfl, .inl ⟨3, hR, .inr rfl, rfl⟩, HBw.out _ hb07⟩
          have hgo := HGo.out
          rw [if_pos h6, size_lenP _ _ htr, ← HVN.out.1] at hgo
          have HGo := Lib.hid hgo
          clear hgo htr
          obtain ⟨a2, c2, rfl⟩ := own_len2 ho7
          obtain ⟨t0, t1, t2, t3, t4, f0, f1, f2, f3, f4⟩ := five_facts hH7
          have hb7s : Below wA.heap.size w7 (w7.setCell ⟨bh, 3, none⟩ (.slice a2 (othersL fs).length c2)) := below_setB (Below.refl _ _) hbh
          have hb08 := hb07.onW hb7s
          have hs8 := hs7.keepW hb7s (by omega)
          have hH8 : (w7.setCell ⟨bh, 3, none⟩ (.slice a2 (othersL fs).length c2)).heap[bh]? = some (.cells #[.string VB, .string TB, .string HB, .slice a2 (othersL fs).length c2, .string ⟨#[]⟩] 27 (0, 0)) := heap_setCell_same w7 bh 3 _ _ (.slice a2 (othersL fs).length c2) hH7
          have hz8 : (w7.setCell ⟨bh, 3, none⟩ (.slice a2 (othersL fs).length c2)).heap.size = w7.heap.size := by simp
          have hu8 := own_setk hu7 (b := bh) (k := 3) (by omega) (.slice a2 (othersL fs).length c2)
          have ho8 := own_setk ho7 (b := bh) (k := 3) (by omega) (.slice a2 (othersL fs).length c2)
          obtain ⟨r0, r1, r2, r3, r4, y0, y1, y2, y3, y4⟩ := five_facts hH8
          have hLn := sc_len u fs VB _ (frow_own (by omega) hu8) (fun f hf => ⟨Nat.le_trans (hfok f hf).1 (by decide), Nat.le_trans (hfok f hf).2 (by decide)⟩) (by omega) (HCl.out _ hb08 _ (Below.refl _ _)).2.1 (HCl.out _ hb08 _ (Below.refl _ _)).2.2
          have H6 := Lib.hid h6
          clear hb7s hb07 hs7 hH7 hu7 ho7 hu8 h6
          go_wp2_with fail
          generalize (w7.setCell ⟨bh, 3, none⟩ (.slice a2 (othersL fs).length c2)) = w8 at *
          clear t0 t1 t2 t3 t4 f0 f1 f2 f3 f4 r0 r1 r2 r3 r4 y0 y1 y2 y3 y4
          refine hLn.mono ?_
          rintro e w9 ⟨hln, hb9⟩
          have hb09 := hb08.on hb9
          have hs9 := hs8.keep hb9
          have hH9 := (hb9.block bh (by omega)).trans hH8
          have hz9 := hb9.size
          have ho9 := own_below ho8 hb9
          clear hb9 hb08 hs8 hH8 ho8 hLn
          rcases hln with ⟨hbad, rfl⟩ | ⟨n, hn, rfl⟩
          · have hR : R = (noHd, 0, 3) := HNone.out (by rw [HGo.out, hbad]; rfl)
            exact ⟨rfl, .inl ⟨3, hR, .inr rfl, rfl⟩, HBw.out _ hb09⟩
          have hsome := HSome.out _ n (by rw [HGo.out, hn]; rfl)
          have HSm := Lib.hid hsome
          clear hsome hn
          by_cases hsh : s.size < used + n
          · have hR : R = (noHd, 0, 2) := by rw [HSm.out, if_pos hsh]
            have hTk := sc_take_no b used n s w9 hs9 hus hsh hml
            have HF := Lib.hid hR
            clear hR
            go_wp2_with fail
            refine hTk.mono ?_
            rintro e w10 ⟨rfl, hb10⟩
            exact ⟨rfl, .inl ⟨2, HF.out, .inl rfl, rfl⟩, HBw.out _ (hb09.trans hb10)⟩
          have hsome := HSm.out
          rw [if_neg hsh] at hsome
          have HSm := Lib.hid hsome
          clear hsome
          have hTk := sc_take b used n s w9 hs9 (by omega) hml
          have hbl : (ByteArray.mk ((restL s used).take n).toArray).size ≤ 1048576 := by
            rw [size_len]; simp only [List.length_take, rest_len]; omega
          generalize (ByteArray.mk ((restL s used).take n).toArray) = BB at *
          have hFr := fun W => fresh BB W (by omega)
          go_wp2_with fail
          refine hTk.mono ?_
          rintro e w10 ⟨rfl, hs10, hb10⟩
          have hb010 := hb09.trans hb10
          have hH10 := (hb10.block bh (Array.getElem?_eq_some_iff.1 hH9).1 (fun e => by injection e; omega)).trans hH9
          have ho10 := own_but ho9 (by omega) hb10
          have hz10 := hb10.size
          clear hTk hs9 hb09 hH9 ho9 hb10
          go_wp2_with fail
          refine (hFr _).mono ?_
          rintro e w11 ⟨rfl, hb11⟩
          have hb011 := hb010.on hb11
          have hs11 := hs10.keep hb11
          have hH11 := (hb11.block bh (by omega)).trans hH10
          have ho11 := own_below ho10 hb11
          have hz11 := hb11.size
          clear hFr hs10 hb010 hH10 ho10 hb11
          obtain ⟨t0, t1, t2, t3, t4, f0, f1, f2, f3, f4⟩ := five_facts hH11
          have hb11s : Below wA.heap.size w11 (w11.setCell ⟨bh, 4, none⟩ (.string BB)) := below_setB (Below.refl _ _) hbh
          have hb012 := hb011.onW hb11s
          have hs12 := hs11.keepW hb11s (by omega)
          have hH12 : (w11.setCell ⟨bh, 4, none⟩ (.string BB)).heap[bh]? = some (.cells #[.string VB, .string TB, .string HB, .slice a2 (othersL fs).length c2, .string BB] 27 (0, 0)) := heap_setCell_same w11 bh 4 _ _ (.string BB) hH11
          have hz12 : (w11.setCell ⟨bh, 4, none⟩ (.string BB)).heap.size = w11.heap.size := by simp
          have ho12 := own_setk ho11 (b := bh) (k := 4) (by omega) (.string BB)
          obtain ⟨r0, r1, r2, r3, r4, y0, y1, y2, y3, y4⟩ := five_facts hH12
          have hOk := impl_hedok ⟨VB, TB, HB, othersL fs, BB⟩ (.slice a2 (othersL fs).length c2) _ (frow_own (by omega) ho12) (fun f hf => ⟨Nat.le_trans (hoo f hf).1 (by decide), Nat.le_trans (hoo f hf).2 (by decide)⟩) (Nat.le_trans hz1 (by decide)) (Nat.le_trans hz2 (by decide)) (Nat.le_trans hcs (by decide)) hbl (HCl.out _ hb012 _ (Below.refl _ _)).1 (HCl.out _ hb012 _ (Below.refl _ _)).2.1
          dsimp only at hOk
          clear hb11s hb011 hs11 hH11 ho11
          generalize hfsO : othersL fs = os at *
          generalize hhd : Hd.mk VB TB HB os BB = hd at *
          have HHd := Lib.hid hhd
          clear hhd
          have HSm : Hid (R = if hedB hd = true then (hd, used + n, 1) else (noHd, 0, 3)) := Lib.hid (by rw [HSm.out, ← HHd.out])
          generalize hedB hd = ok at *
          cases ok
          · have HF : Hid (R = (noHd, 0, 3)) := Lib.hid HSm.out
            have HBt := Lib.hid hb012
            clear hb012 ho12 hs12
            go_wp2_with fail
            refine hOk.mono ?_
            rintro e w13 ⟨rfl, hb13⟩
            go_wp2_with fail
            refine (must_no _).mono ?_
            rintro e w14 ⟨rfl, rfl⟩
            exact ⟨rfl, .inl ⟨3, HF.out, .inr rfl, rfl⟩, HBw.out _ (HBt.out.on hb13)⟩
          · have HF : Hid (R = (hd, used + n, 1)) := Lib.hid HSm.out
            go_wp2_with fail
            refine hOk.mono ?_
            rintro e w13 ⟨rfl, hb13⟩
            have hb013 := hb012.on hb13
            have hs13 := hs12.keep hb13
            have hH13 := (hb13.block bh (by omega)).trans hH12
            have ho13 := own_below ho12 hb13
            have hz13 := hb13.size
            clear hOk hs12 hb012 hH12 ho12 hb13 t0 t1 t2 t3 t4 f0 f1 f2 f3 f4 r0 r1 r2 r3 r4 y0 y1 y2 y3 y4
            obtain ⟨t0, t1, t2, t3, t4, f0, f1, f2, f3, f4⟩ := five_facts hH13
            have q := HR.out _ hb013
            obtain ⟨q0, q1, q2, q3, q4, p0, p1, p2, p3, p4⟩ := five_facts q
            have z := five_set q (.string VB) (.string TB) (.string HB) (.slice a2 os.length c2) (.string BB)
            have hb14 : Below w.heap.size w13 (set5 w13 w.heap.size (.string VB) (.string TB) (.string HB) (.slice a2 os.length c2) (.string BB)) := below_set5 (Below.refl _ _)
            have hs14 := hs13.keepW hb14 hblt
            have ho14 : (set5 w13 w.heap.size (.string VB) (.string TB) (.string HB) (.slice a2 os.length c2) (.string BB)).ownsRow w.heap.size 39 2 (.slice a2 os.length c2) os.length (fcells os) := by
              unfold set5
              exact own_low (own_setk (own_setk (own_setk (own_setk (own_setk ho13 (by omega) _) (by omega) _) (by omega) _) (by omega) _) (by omega) _) (by omega)
            have HFin := Lib.hid (And.intro hs14 (And.intro ho14 ((HBw.out _ hb013).onW hb14)))
            clear hb14 hs14 ho14 hb013 hs13 hH13 ho13
            unfold set5 at z
            obtain ⟨z0, z1, z2, z3, z4, _⟩ := five_facts z
            have HZ := Lib.hid (And.intro z0 (And.intro z1 (And.intro z2 (And.intro z3 z4))))
            clear z0 z1 z2 z3 z4 z
            go_wp2_with fail
            refine (must_yes _).mono ?_
            rintro e w14 ⟨rfl, rfl⟩
            go_wp2_with fail
            obtain ⟨z0, z1, z2, z3, z4⟩ := HZ.out
            refine bodyPost_ret (v := .agg #[.string VB, .string TB, .string HB, .slice a2 os.length c2, .string BB]) (by simp [results, Tryz.results15, go_sem, z0, z1, z2, z3, z4]) rfl ?_
            refine ⟨.inr ⟨hd, used + n, HF.out, .slice a2 os.length c2, ?_, ?_, HFin.out.1⟩, HFin.out.2.2⟩
            · rw [← HHd.out]
            · rw [← HHd.out]; exact HFin.out.2.1
        · have he : (NB.toList == []) = false := by rw [Lib.toList_data, HVN.out.2]; simpa using h0
          have he2 : (NB.toList == HB.toList) = true := by rw [Lib.toList_data, Lib.toList_data, HVN.out.2, HCL.out]; simpa using hnm.resolve_left h0
          clear h0 hnm
          go_wp2_with fail
          refine (must_t (by first | rfl | (simp; done) | (simp; omega)) _).mono ?_
          rintro e w6 ⟨rfl, rfl⟩
          go_wp2_with fail
          generalize (w5.setCell ⟨bh, 2, none⟩ (.string HB)) = w6 at *
          clear t0 t1 t2 t3 t4 f0 f1 f2 f3 f4
          refine hOt.mono ?_
          rintro e w7 ⟨hot, hb7⟩
          have hb07 := hb06.on hb7
          have hs7 := hs6.keep hb7
          have hH7 := (hb7.block bh (by omega)).trans hH6
          have hz7 := hb7.size
          have hu7 := own_below hu6 hb7
          clear hb7 hb06 hs6 hH6 hu6 hOt
          rcases hot with ⟨hbad, rfl⟩ | ⟨htr, h6, u2, rfl, ho7⟩
          · have hR : R = (noHd, 0, 3) := HNone.out (by
              rw [HGo.out]
              rcases hbad with h1 | h1
              · have : sizeL t.1 fs = none := by unfold sizeL; exact if_pos h1
                rw [this]; split <;> rfl
              · rw [if_neg (by omega)])
            exact ⟨rfl, .inl ⟨3, hR, .inr rfl, rfl⟩, HBw.out _ hb07⟩
          have hgo := HGo.out
          rw [if_pos h6, size_lenP _ _ htr, ← HVN.out.1] at hgo
          have HGo := Lib.hid hgo
          clear hgo htr
          obtain ⟨a2, c2, rfl⟩ := own_len2 ho7
          obtain ⟨t0, t1, t2, t3, t4, f0, f1, f2, f3, f4⟩ := five_facts hH7
          have hb7s : Below wA.heap.size w7 (w7.setCell ⟨bh, 3, none⟩ (.slice a2 (othersL fs).length c2)) := below_setB (Below.refl _ _) hbh
          have hb08 := hb07.onW hb7s
          have hs8 := hs7.keepW hb7s (by omega)
          have hH8 : (w7.setCell ⟨bh, 3, none⟩ (.slice a2 (othersL fs).length c2)).heap[bh]? = some (.cells #[.string VB, .string TB, .string HB, .slice a2 (othersL fs).length c2, .string ⟨#[]⟩] 27 (0, 0)) := heap_setCell_same w7 bh 3 _ _ (.slice a2 (othersL fs).length c2) hH7
          have hz8 : (w7.setCell ⟨bh, 3, none⟩ (.slice a2 (othersL fs).length c2)).heap.size = w7.heap.size := by simp
          have hu8 := own_setk hu7 (b := bh) (k := 3) (by omega) (.slice a2 (othersL fs).length c2)
          have ho8 := own_setk ho7 (b := bh) (k := 3) (by omega) (.slice a2 (othersL fs).length c2)
          obtain ⟨r0, r1, r2, r3, r4, y0, y1, y2, y3, y4⟩ := five_facts hH8
          have hLn := sc_len u fs VB _ (frow_own (by omega) hu8) (fun f hf => ⟨Nat.le_trans (hfok f hf).1 (by decide), Nat.le_trans (hfok f hf).2 (by decide)⟩) (by omega) (HCl.out _ hb08 _ (Below.refl _ _)).2.1 (HCl.out _ hb08 _ (Below.refl _ _)).2.2
          have H6 := Lib.hid h6
          clear hb7s hb07 hs7 hH7 hu7 ho7 hu8 h6
          go_wp2_with fail
          generalize (w7.setCell ⟨bh, 3, none⟩ (.slice a2 (othersL fs).length c2)) = w8 at *
          clear t0 t1 t2 t3 t4 f0 f1 f2 f3 f4 r0 r1 r2 r3 r4 y0 y1 y2 y3 y4
          refine hLn.mono ?_
          rintro e w9 ⟨hln, hb9⟩
          have hb09 := hb08.on hb9
          have hs9 := hs8.keep hb9
          have hH9 := (hb9.block bh (by omega)).trans hH8
          have hz9 := hb9.size
          have ho9 := own_below ho8 hb9
          clear hb9 hb08 hs8 hH8 ho8 hLn
          rcases hln with ⟨hbad, rfl⟩ | ⟨n, hn, rfl⟩
          · have hR : R = (noHd, 0, 3) := HNone.out (by rw [HGo.out, hbad]; rfl)
            exact ⟨rfl, .inl ⟨3, hR, .inr rfl, rfl⟩, HBw.out _ hb09⟩
          have hsome := HSome.out _ n (by rw [HGo.out, hn]; rfl)
          have HSm := Lib.hid hsome
          clear hsome hn
          by_cases hsh : s.size < used + n
          · have hR : R = (noHd, 0, 2) := by rw [HSm.out, if_pos hsh]
            have hTk := sc_take_no b used n s w9 hs9 hus hsh hml
            have HF := Lib.hid hR
            clear hR
            go_wp2_with fail
            refine hTk.mono ?_
            rintro e w10 ⟨rfl, hb10⟩
            exact ⟨rfl, .inl ⟨2, HF.out, .inl rfl, rfl⟩, HBw.out _ (hb09.trans hb10)⟩
          have hsome := HSm.out
          rw [if_neg hsh] at hsome
          have HSm := Lib.hid hsome
          clear hsome
          have hTk := sc_take b used n s w9 hs9 (by omega) hml
          have hbl : (ByteArray.mk ((restL s used).take n).toArray).size ≤ 1048576 := by
            rw [size_len]; simp only [List.length_take, rest_len]; omega
          generalize (ByteArray.mk ((restL s used).take n).toArray) = BB at *
          have hFr := fun W => fresh BB W (by omega)
          go_wp2_with fail
          refine hTk.mono ?_
          rintro e w10 ⟨rfl, hs10, hb10⟩
          have hb010 := hb09.trans hb10
          have hH10 := (hb10.block bh (Array.getElem?_eq_some_iff.1 hH9).1 (fun e => by injection e; omega)).trans hH9
          have ho10 := own_but ho9 (by omega) hb10
          have hz10 := hb10.size
          clear hTk hs9 hb09 hH9 ho9 hb10
          go_wp2_with fail
          refine (hFr _).mono ?_
          rintro e w11 ⟨rfl, hb11⟩
          have hb011 := hb010.on hb11
          have hs11 := hs10.keep hb11
          have hH11 := (hb11.block bh (by omega)).trans hH10
          have ho11 := own_below ho10 hb11
          have hz11 := hb11.size
          clear hFr hs10 hb010 hH10 ho10 hb11
          obtain ⟨t0, t1, t2, t3, t4, f0, f1, f2, f3, f4⟩ := five_facts hH11
          have hb11s : Below wA.heap.size w11 (w11.setCell ⟨bh, 4, none⟩ (.string BB)) := below_setB (Below.refl _ _) hbh
          have hb012 := hb011.onW hb11s
          have hs12 := hs11.keepW hb11s (by omega)
          have hH12 : (w11.setCell ⟨bh, 4, none⟩ (.string BB)).heap[bh]? = some (.cells #[.string VB, .string TB, .string HB, .slice a2 (othersL fs).length c2, .string BB] 27 (0, 0)) := heap_setCell_same w11 bh 4 _ _ (.string BB) hH11
          have hz12 : (w11.setCell ⟨bh, 4, none⟩ (.string BB)).heap.size = w11.heap.size := by simp
          have ho12 := own_setk ho11 (b := bh) (k := 4) (by omega) (.string BB)
          obtain ⟨r0, r1, r2, r3, r4, y0, y1, y2, y3, y4⟩ := five_facts hH12
          have hOk := impl_hedok ⟨VB, TB, HB, othersL fs, BB⟩ (.slice a2 (othersL fs).length c2) _ (frow_own (by omega) ho12) (fun f hf => ⟨Nat.le_trans (hoo f hf).1 (by decide), Nat.le_trans (hoo f hf).2 (by decide)⟩) (Nat.le_trans hz1 (by decide)) (Nat.le_trans hz2 (by decide)) (Nat.le_trans hcs (by decide)) hbl (HCl.out _ hb012 _ (Below.refl _ _)).1 (HCl.out _ hb012 _ (Below.refl _ _)).2.1
          dsimp only at hOk
          clear hb11s hb011 hs11 hH11 ho11
          generalize hfsO : othersL fs = os at *
          generalize hhd : Hd.mk VB TB HB os BB = hd at *
          have HHd := Lib.hid hhd
          clear hhd
          have HSm : Hid (R = if hedB hd = true then (hd, used + n, 1) else (noHd, 0, 3)) := Lib.hid (by rw [HSm.out, ← HHd.out])
          generalize hedB hd = ok at *
          cases ok
          · have HF : Hid (R = (noHd, 0, 3)) := Lib.hid HSm.out
            have HBt := Lib.hid hb012
            clear hb012 ho12 hs12
            go_wp2_with fail
            refine hOk.mono ?_
            rintro e w13 ⟨rfl, hb13⟩
            go_wp2_with fail
            refine (must_no _).mono ?_
            rintro e w14 ⟨rfl, rfl⟩
            exact ⟨rfl, .inl ⟨3, HF.out, .inr rfl, rfl⟩, HBw.out _ (HBt.out.on hb13)⟩
          · have HF : Hid (R = (hd, used + n, 1)) := Lib.hid HSm.out
            go_wp2_with fail
            refine hOk.mono ?_
            rintro e w13 ⟨rfl, hb13⟩
            have hb013 := hb012.on hb13
            have hs13 := hs12.keep hb13
            have hH13 := (hb13.block bh (by omega)).trans hH12
            have ho13 := own_below ho12 hb13
            have hz13 := hb13.size
            clear hOk hs12 hb012 hH12 ho12 hb13 t0 t1 t2 t3 t4 f0 f1 f2 f3 f4 r0 r1 r2 r3 r4 y0 y1 y2 y3 y4
            obtain ⟨t0, t1, t2, t3, t4, f0, f1, f2, f3, f4⟩ := five_facts hH13
            have q := HR.out _ hb013
            obtain ⟨q0, q1, q2, q3, q4, p0, p1, p2, p3, p4⟩ := five_facts q
            have z := five_set q (.string VB) (.string TB) (.string HB) (.slice a2 os.length c2) (.string BB)
            have hb14 : Below w.heap.size w13 (set5 w13 w.heap.size (.string VB) (.string TB) (.string HB) (.slice a2 os.length c2) (.string BB)) := below_set5 (Below.refl _ _)
            have hs14 := hs13.keepW hb14 hblt
            have ho14 : (set5 w13 w.heap.size (.string VB) (.string TB) (.string HB) (.slice a2 os.length c2) (.string BB)).ownsRow w.heap.size 39 2 (.slice a2 os.length c2) os.length (fcells os) := by
              unfold set5
              exact own_low (own_setk (own_setk (own_setk (own_setk (own_setk ho13 (by omega) _) (by omega) _) (by omega) _) (by omega) _) (by omega) _) (by omega)
            have HFin := Lib.hid (And.intro hs14 (And.intro ho14 ((HBw.out _ hb013).onW hb14)))
            clear hb14 hs14 ho14 hb013 hs13 hH13 ho13
            unfold set5 at z
            obtain ⟨z0, z1, z2, z3, z4, _⟩ := five_facts z
            have HZ := Lib.hid (And.intro z0 (And.intro z1 (And.intro z2 (And.intro z3 z4))))
            clear z0 z1 z2 z3 z4 z
            go_wp2_with fail
            refine (must_yes _).mono ?_
            rintro e w14 ⟨rfl, rfl⟩
            go_wp2_with fail
            obtain ⟨z0, z1, z2, z3, z4⟩ := HZ.out
            refine bodyPost_ret (v := .agg #[.string VB, .string TB, .string HB, .slice a2 os.length c2, .string BB]) (by simp [results, Tryz.results15, go_sem, z0, z1, z2, z3, z4]) rfl ?_
            refine ⟨.inr ⟨hd, used + n, HF.out, .slice a2 os.length c2, ?_, ?_, HFin.out.1⟩, HFin.out.2.2⟩
            · rw [← HHd.out]
            · rw [← HHd.out]; exact HFin.out.2.1
      · have hR : R = (noHd, 0, 3) := HNone.out (by rw [HGo.out, if_neg (fun e => hnm e.1)])
        have HF := Lib.hid hR
        have hn1 : (NB.toList == []) = false := by rw [Lib.toList_data, HVN.out.2]; simpa using fun e => hnm (.inl e)
        have hn2 : (NB.toList == HB.toList) = false := by rw [Lib.toList_data, Lib.toList_data, HVN.out.2, HCL.out]; simpa using fun e => hnm (.inr e)
        have HBt := Lib.hid (HBw.out _ hb05)
        clear hR hnm hneq hb05 hu5 hs5 hH5
        go_wp2_with fail
        refine (must_f (by first | rfl | (simp; done) | (simp; omega)) _).mono ?_
        rintro e w6 ⟨rfl, rfl⟩
        exact ⟨rfl, .inl ⟨3, HF.out, .inr rfl, rfl⟩, HBt.out⟩
end Go.Proofs.YtabidoopodbknaaGreatDoor

-- from XScd
/- Walks: HedRead of the program: its deferred closure, which recovers where the scanner stopped. -/
namespace Go.Proofs.YtabidoopodbknaaGreatDoor
open Go.RowKit

theorem assert_stop (n : Int) (xT : TypeId) (w : World) : (Instr.typeAssert (.iface 46 (.int .i64 n)) xT 46 true).run Tryz.prog w = .ok (.tuple #[.int .i64 n, .bool true]) w := by
  simp [Instr.typeAssert, run_underlying Tryz.underlying46, Sem.run_bind, go_sem]

set_option maxRecDepth 100000 in
set_option maxHeartbeats 1000000 in
theorem catch_stop (p : Addr) (x n : Int) (older : List PanicEntry) (w : World) (hc : w.cell? p = some (.int .i64 x)) (hz : w.frozen? p = false) :
    CallsD Tryz.prog 14 #[.pointer (some p)] (.panicking ({ v := .iface 46 (.int .i64 n), recovered := false } :: older)) w fun e u' w' =>
      e = .returned (.tuple #[]) ∧ u' = .panicking ({ v := .iface 46 (.int .i64 n), recovered := true } :: older) ∧ w' = w.setCell p (.int .i64 n) := by
  refine callsD_of_wpS Tryz.func14 rfl fun c₀ cs hu => ?_
  simp only [Tryz.ntmps14, List.size_toArray, List.length_cons, List.length_nil, Nat.reduceAdd, Nat.reduceSub, Array.replicate_succ, Array.replicate_zero, List.push_toArray, List.append_toArray, List.nil_append, List.cons_append]
  apply wpS_seq
  apply wpS_region
  simp [wpOpsS, go_sem, recoverD, hu, Exit.thenS]
  refine wpS_of_wp ?_
  have hta := fun xT => assert_stop n xT w
  go_wp2
  simp [bodyPostS, results, Tryz.results14]

set_option maxRecDepth 100000 in
set_option maxHeartbeats 1000000 in
theorem catch_idle (p : Addr) (w : World) :
    CallsD Tryz.prog 14 #[.pointer (some p)] .returning w fun e u' w' => e = .returned (.tuple #[]) ∧ u' = .returning ∧ w' = w := by
  refine callsD_of_wpS Tryz.func14 rfl fun c₀ cs hu => ?_
  simp only [Tryz.ntmps14, List.size_toArray, List.length_cons, List.length_nil, Nat.reduceAdd, Nat.reduceSub, Array.replicate_succ, Array.replicate_zero, List.push_toArray, List.append_toArray, List.nil_append, List.cons_append]
  apply wpS_seq
  apply wpS_region
  simp [wpOpsS, go_sem, recoverD, hu, Exit.thenS]
  refine wpS_of_wp ?_
  go_wp2
  cases c₀
  simp_all [bodyPostS, results, Tryz.results14]
end Go.Proofs.YtabidoopodbknaaGreatDoor

-- from XRdP
/- What HedRead answers. -/
namespace Go.Proofs.YtabidoopodbknaaGreatDoor
open Go.RowKit

def ReadPost (w : World) (r : Hd × Nat × Nat) (e : Ending) (w' : World) : Prop :=
  (∃ v, e = .returned (.tuple #[.agg #[.string r.1.verb, .string r.1.target, .string r.1.host, v, .string r.1.body], .int .i64 (r.2.1 : Nat), .int .i64 (r.2.2 : Nat)]) ∧ w'.ownsRow w.heap.size 39 2 v r.1.fs.length (fcells r.1.fs)) ∧ Below w.heap.size w w'
end Go.Proofs.YtabidoopodbknaaGreatDoor

-- from XSce
/- Walks: HedRead of the program. -/
namespace Go.Proofs.YtabidoopodbknaaGreatDoor
open Go.RowKit

theorem below_set5' {w w3 : World} {g : Nat} {a b c d e : Value} (h : Below g w w3) : Below g w (set5 w3 g a b c d e) := h.trans (below_set5 (Below.refl _ _))

set_option maxRecDepth 100000 in
set_option maxHeartbeats 4000000 in
theorem impl_hedread (s : ByteArray) (w : World) (hs : s.size ≤ 1048576) (hcls : Cls w) (htab : Tab w) (herr : Errs w) :
    Calls Tryz.prog 5 #[.string s] w fun e w' => ReadPost w (readL s.data.toList) e w' := by
  have hmf : ∀ (fn : Fn) (first cap : Array Value) (w : World), (Instr.makeFunc fn first cap).run Tryz.prog w = .ok (.func fn first cap) w := fun _ _ _ _ => rfl
  obtain ⟨W0, hW0⟩ : ∃ W0, W0 = ((w.alloc (.cells #[.string ⟨#[]⟩, .string ⟨#[]⟩, .string ⟨#[]⟩, .slice none 0 0, .string ⟨#[]⟩] 27)).alloc (.cells #[.int .i64 0] 3)).alloc (.cells #[.string s, .int .i64 0] 45) := ⟨_, rfl⟩
  have hz0 : W0.heap.size = w.heap.size + 3 := by rw [hW0]; simp
  have hb0 : Below w.heap.size w W0 := by
    rw [hW0]
    exact (((Below.refl _ _).alloc (Nat.le_refl _) _).alloc (by simp) _).alloc (by simp; omega) _
  have hA0 : W0.heap[w.heap.size]? = some (.cells #[.string ⟨#[]⟩, .string ⟨#[]⟩, .string ⟨#[]⟩, .slice none 0 0, .string ⟨#[]⟩] 27 (0, 0)) := by
    rw [hW0, Below.heap_alloc _ _ _ (by simp; omega), Below.heap_alloc _ _ _ (by simp)]; exact heap_alloc_new w _
  have hA1 : W0.heap[w.heap.size + 1]? = some (.cells #[.int .i64 0] 3 (0, 0)) := by
    rw [hW0, Below.heap_alloc _ _ _ (by simp)]
    have := heap_alloc_new (w.alloc (.cells #[.string ⟨#[]⟩, .string ⟨#[]⟩, .string ⟨#[]⟩, .slice none 0 0, .string ⟨#[]⟩] 27)) (.cells #[.int .i64 0] 3)
    simpa using this
  have hA2 : ScAt W0 (w.heap.size + 2) s 0 := by
    unfold ScAt
    rw [hW0]
    have := heap_alloc_new ((w.alloc (.cells #[.string ⟨#[]⟩, .string ⟨#[]⟩, .string ⟨#[]⟩, .slice none 0 0, .string ⟨#[]⟩] 27)).alloc (.cells #[.int .i64 0] 3)) (.cells #[.string s, .int .i64 0] 45)
    simpa using this
  have hRq := sc_request (w.heap.size + 2) s W0 hA2 hs w.heap.size (by omega) (by omega) (fun W hW => by
    have h := hb0.trans hW
    exact ⟨hcls.below h (Nat.le_refl _), htab.below h (Nat.le_refl _), herr.below h (Nat.le_refl _)⟩)
  have HA := Lib.hid (And.intro hA0 hA1)
  have HB := Lib.hid hb0
  have HW := Lib.hid hW0
  clear hA0 hA1 hA2 hb0 hW0 hcls htab herr
  generalize readL s.data.toList = R at *
  go_enter_defers Tryz.func5, Tryz.ntmps5
  go_wp2_with fail
  rw [← HW.out]
  refine hRq.mono ?_
  rintro e w1 ⟨hrq, hb1⟩
  have hz1 := hb1.size
  have hH0 := (hb1.block w.heap.size (by omega) (fun e => by injection e; omega)).trans HA.out.1
  have hH1 := (hb1.block (w.heap.size + 1) (by omega) (fun e => by injection e; omega)).trans HA.out.2
  have hbl := HB.out.trans (hb1.low (B := w.heap.size) (by omega) (by omega))
  clear hRq
  rcases hrq with ⟨n, hR, hn, rfl⟩ | ⟨h, n, hR, v, rfl, ho, hs1⟩
  · subst hR
    have hw : w1.cell? ⟨w.heap.size + 1, 0, none⟩ = some (.int .i64 0) := by simp [World.cell?, hH1]
    have hwz : w1.frozen? ⟨w.heap.size + 1, 0, none⟩ = false := by simp [World.frozen?, hH1]
    have hw2 := heap_setCell_same w1 (w.heap.size + 1) 0 _ _ (.int .i64 (n : Nat)) hH1
    have hH0' := (heap_setCell_other w1 ⟨w.heap.size + 1, 0, none⟩ w.heap.size (.int .i64 (n : Nat)) (by simp)).trans hH0
    obtain ⟨z0, z1, z2, z3, z4, _⟩ := five_facts hH0'
    have z5 : (w1.setCell ⟨w.heap.size + 1, 0, none⟩ (.int .i64 (n : Nat))).cell? ⟨w.heap.size + 1, 0, none⟩ = some (.int .i64 (n : Nat)) := by simp [World.cell?, hw2]
    have hbf := below_setB (k := 0) (x := .int .i64 (n : Nat)) hbl (Nat.le_succ w.heap.size)
    refine leaves_cons (f := 14) (args := #[.pointer (some ⟨w.heap.size + 1, 0, none⟩)]) (by simp) (by simp [go_sem]) ?_
    refine (catch_stop ⟨w.heap.size + 1, 0, none⟩ 0 n [] _ hw hwz).mono ?_
    rintro e u' w'' ⟨rfl, rfl, rfl⟩
    refine (show Leaves _ _ _ _ [] .returning _ from ⟨.tuple #[.agg #[.string ⟨#[]⟩, .string ⟨#[]⟩, .string ⟨#[]⟩, .slice none 0 0, .string ⟨#[]⟩], .int .i64 0, .int .i64 (n : Nat)], by simp [results, Tryz.results5, go_sem, z0, z1, z2, z3, z4, z5], ?_⟩)
    exact ⟨⟨.slice none 0 0, rfl, World.ownsRow_nil _ _ _ _⟩, hbf⟩
  · subst hR
    obtain ⟨a2, c2, rfl⟩ := own_len2 ho
    have q := hH0
    obtain ⟨q0, q1, q2, q3, q4, p0, p1, p2, p3, p4⟩ := five_facts q
    have z := five_set q (.string h.verb) (.string h.target) (.string h.host) (.slice a2 h.fs.length c2) (.string h.body)
    have hb2 : Below w.heap.size w1 (set5 w1 w.heap.size (.string h.verb) (.string h.target) (.string h.host) (.slice a2 h.fs.length c2) (.string h.body)) := below_set5 (Below.refl _ _)
    have hs2 : ScAt (set5 w1 w.heap.size (.string h.verb) (.string h.target) (.string h.host) (.slice a2 h.fs.length c2) (.string h.body)) (w.heap.size + 2) s n := (set5_other (by omega)).trans hs1
    have hw2 : (set5 w1 w.heap.size (.string h.verb) (.string h.target) (.string h.host) (.slice a2 h.fs.length c2) (.string h.body)).heap[w.heap.size + 1]? = some (.cells #[.int .i64 0] 3 (0, 0)) := (set5_other (by omega)).trans hH1
    have ho2 : (set5 w1 w.heap.size (.string h.verb) (.string h.target) (.string h.host) (.slice a2 h.fs.length c2) (.string h.body)).ownsRow W0.heap.size 39 2 (.slice a2 h.fs.length c2) h.fs.length (fcells h.fs) := by
      unfold set5
      exact own_setk (own_setk (own_setk (own_setk (own_setk ho (by omega) _) (by omega) _) (by omega) _) (by omega) _) (by omega) _
    have hbl2 := hbl.trans hb2
    unfold set5 at z hs2 hw2 ho2 hbl2
    clear hb2 q hH0 hH1 ho hs1 hb1 hbl
    go_wp2_with fail
    generalize (((((w1.setCell ⟨w.heap.size, 0, none⟩ (.string h.verb)).setCell ⟨w.heap.size, 1, none⟩ (.string h.target)).setCell ⟨w.heap.size, 2, none⟩ (.string h.host)).setCell ⟨w.heap.size, 3, none⟩ (.slice a2 h.fs.length c2)).setCell ⟨w.heap.size, 4, none⟩ (.string h.body)) = w2 at *
    clear q0 q1 q2 q3 q4 p0 p1 p2 p3 p4
    obtain ⟨q0, q1, q2, q3, q4, p0, p1, p2, p3, p4⟩ := five_facts z
    obtain ⟨c0, c1, y0, y1⟩ := hs2.cells
    have cw : w2.cell? ⟨w.heap.size + 1, 0, none⟩ = some (.int .i64 0) := by simp [World.cell?, hw2]
    have yw : w2.frozen? ⟨w.heap.size + 1, 0, none⟩ = false := by simp [World.frozen?, hw2]
    have c1' : w2.cell? ⟨w.heap.size + 1 + 1, 1, none⟩ = some (.int .i64 (n : Nat)) := c1
    have z2 := five_set z (.string h.verb) (.string h.target) (.string h.host) (.slice a2 h.fs.length c2) (.string h.body)
    have hw3 : (set5 w2 w.heap.size (.string h.verb) (.string h.target) (.string h.host) (.slice a2 h.fs.length c2) (.string h.body)).heap[w.heap.size + 1]? = some (.cells #[.int .i64 0] 3 (0, 0)) := (set5_other (by omega)).trans hw2
    have hw4 := heap_setCell_same _ (w.heap.size + 1) 0 _ _ (.int .i64 1) hw3
    have z3 := (heap_setCell_other (set5 w2 w.heap.size (.string h.verb) (.string h.target) (.string h.host) (.slice a2 h.fs.length c2) (.string h.body)) ⟨w.heap.size + 1, 0, none⟩ w.heap.size (.int .i64 1) (by simp)).trans z2
    have ho3 : ((set5 w2 w.heap.size (.string h.verb) (.string h.target) (.string h.host) (.slice a2 h.fs.length c2) (.string h.body)).setCell ⟨w.heap.size + 1, 0, none⟩ (.int .i64 1)).ownsRow w.heap.size 39 2 (.slice a2 h.fs.length c2) h.fs.length (fcells h.fs) := by
      unfold set5
      exact own_low (own_setk (own_setk (own_setk (own_setk (own_setk (own_setk ho2 (by omega) _) (by omega) _) (by omega) _) (by omega) _) (by omega) _) (by omega) _) (by omega)
    have hbl3 : Below w.heap.size w ((set5 w2 w.heap.size (.string h.verb) (.string h.target) (.string h.host) (.slice a2 h.fs.length c2) (.string h.body)).setCell ⟨w.heap.size + 1, 0, none⟩ (.int .i64 1)) :=
      below_setB (below_set5' hbl2) (Nat.le_succ _)
    unfold set5 at z3 hw4 ho3 hbl3
    have HF := Lib.hid (And.intro z3 (And.intro hw4 (And.intro ho3 hbl3)))
    clear z z2 z3 hw3 hw4 ho3 hbl3 hbl2 ho2 hs2 hw2 c1
    go_region
    obtain ⟨z3, hw4, ho3, hbl3⟩ := HF.out
    clear HF q0 q1 q2 q3 q4 p0 p1 p2 p3 p4 c0 y0 y1 cw yw c1'
    generalize ((((((w2.setCell ⟨w.heap.size, 0, none⟩ (.string h.verb)).setCell ⟨w.heap.size, 1, none⟩ (.string h.target)).setCell ⟨w.heap.size, 2, none⟩ (.string h.host)).setCell ⟨w.heap.size, 3, none⟩ (.slice a2 h.fs.length c2)).setCell ⟨w.heap.size, 4, none⟩ (.string h.body)).setCell ⟨w.heap.size + 1, 0, none⟩ (.int .i64 1)) = w3 at *
    have z3' : w3.drew.heap[w.heap.size]? = some (.cells #[.string h.verb, .string h.target, .string h.host, .slice a2 h.fs.length c2, .string h.body] 27 (0, 0)) := z3
    have hw5 : w3.drew.heap[w.heap.size + 1]? = some (.cells #[.int .i64 1] 3 (0, 0)) := hw4
    have hbl4 := hbl3.drew
    have ho4 := own_drewN ho3 1
    have HF := Lib.hid (And.intro ho4 hbl4)
    obtain ⟨q0, q1, q2, q3, q4, _⟩ := five_facts z3'
    have q5 : w3.drew.cell? ⟨w.heap.size + 1, 0, none⟩ = some (.int .i64 1) := by simp [World.cell?, hw5]
    clear z3 hw4 ho3 hbl3 z3' hw5 hbl4 ho4
    have HQ := Lib.hid (And.intro q0 (And.intro q1 (And.intro q2 (And.intro q3 (And.intro q4 q5)))))
    clear q0 q1 q2 q3 q4 q5
    go_wp2
    obtain ⟨q0, q1, q2, q3, q4, q5⟩ := HQ.out
    refine leaves_cons (f := 14) (args := #[.pointer (some ⟨w.heap.size + 1, 0, none⟩)]) (by simp) (by simp [go_sem]) ?_
    refine (catch_idle ⟨w.heap.size + 1, 0, none⟩ _).mono ?_
    rintro e u' w'' ⟨rfl, rfl, rfl⟩
    refine (show Leaves _ _ _ _ [] .returning _ from ⟨.tuple #[.agg #[.string h.verb, .string h.target, .string h.host, .slice a2 h.fs.length c2, .string h.body], .int .i64 (n : Nat), .int .i64 1], by simp [results, Tryz.results5, go_sem, q0, q1, q2, q3, q4, q5], ?_⟩)
    exact ⟨⟨_, rfl, HF.out.1⟩, HF.out.2⟩
end Go.Proofs.YtabidoopodbknaaGreatDoor

-- from XHedU
/- Walks: the request with which a text begins, by the specification. -/
namespace Go.Proofs.YtabidoopodbknaaGreatDoor
open Go.RowKit

theorem size_le {verb : List UInt8} {fs : List Fd} {n : Nat} (h : sizeL verb fs = some n) : n ≤ 20 := by
  unfold sizeL at h
  split at h
  · cases h
  · split at h
    · cases h; omega
    · split at h
      · rename_i hc; cases h; exact hc.2.1
      · cases h
    · cases h

theorem whole_n {ls : List (List UInt8)} {h : Hd} {n : Nat} (e : wholeL ls = some (h, n)) : n ≤ 20 := by
  cases ls with
  | nil => cases e
  | cons l ls =>
    rw [whole_cons] at e
    split at e
    · split at e
      · split at e
        · obtain ⟨m, hm, hp⟩ := Option.map_eq_some_iff.1 e; cases hp; exact size_le hm
        · cases e
      · cases e
    · cases e

theorem first_bound {l : List UInt8} {t : List UInt8 × List UInt8 × List UInt8} (e : firstL l = some t) : t.1.length ≤ 5 ∧ t.2.1.length ≤ 40 := by
  unfold firstL at e
  split at e
  · rename_i hc
    obtain ⟨q, hq, rfl⟩ := Option.map_eq_some_iff.1 e
    refine ⟨?_, ?_⟩
    · show (cutL l 32).1.length ≤ 5
      rcases verb_cases hc.2 with h | h | h <;> (rw [h]; decide)
    · show q.1.length ≤ 40
      unfold targetL at hq
      split at hq
      · split at hq
        · obtain ⟨p, hp, rfl⟩ := Option.map_eq_some_iff.1 hq; exact (canon_form hp).2.1
        · cases hq
      · obtain ⟨p, hp, rfl⟩ := Option.map_eq_some_iff.1 hq; exact (canon_form hp).2.1
  · cases e
theorem whole_bound {ls : List (List UInt8)} {h : Hd} {n : Nat} (e : wholeL ls = some (h, n)) : h.verb.size ≤ 5 ∧ h.target.size ≤ 40 ∧ h.host.size ≤ 20 ∧ h.fs.length ≤ 6 ∧ FOk h.fs 30 := by
  cases ls with
  | nil => cases e
  | cons l ls =>
    rw [whole_cons] at e
    split at e
    · rename_i h1 h2
      have hf := first_bound h1
      have hfs := (fields_ok h2).2
      split at e
      · split at e
        · rename_i hc
          obtain ⟨m, hm, hp⟩ := Option.map_eq_some_iff.1 e
          cases hp
          refine ⟨by rw [size_len]; exact hf.1, by rw [size_len]; exact hf.2, by rw [size_len]; exact (host_len hc.1).2, hc.2.2, fun f hx => hfs f (List.mem_filter.1 hx).1⟩
        · cases e
      · cases e
    · cases e
theorem ext_mid (s : ByteArray) (a n : Nat) : s.extract a (a + n) = ⟨((s.data.toList.drop a).take n).toArray⟩ := by
  apply ByteArray.ext
  apply Array.toList_inj.mp
  rw [ByteArray.data_extract, Array.toList_extract, List.extract_eq_take_drop]
  simp

set_option maxRecDepth 100000 in
set_option maxHeartbeats 20000000 in
theorem spec_hedread (s : ByteArray) (w : World) (hs : s.size ≤ 1048576) :
    Calls Tryz.prog 6 #[.string s] w fun e w' => ReadPost w (readL s.data.toList) e w' := by
  have HA : Below w.heap.size w (w.alloc (.cells #[.string ⟨#[]⟩, .string ⟨#[]⟩, .string ⟨#[]⟩, .slice none 0 0, .string ⟨#[]⟩] 27)) := (Below.refl _ _).alloc (Nat.le_refl _) _
  obtain ⟨W0, hW0⟩ : ∃ W0, W0 = w.alloc (.cells #[.string ⟨#[]⟩, .string ⟨#[]⟩, .string ⟨#[]⟩, .slice none 0 0, .string ⟨#[]⟩] 27) := ⟨_, rfl⟩
  have hs0 : W0.heap.size = w.heap.size + 1 := by rw [hW0]; simp
  rw [← hW0] at HA
  have hRes : ∀ W, Below W0.heap.size W0 W → W.heap[w.heap.size]? = some (.cells #[.string ⟨#[]⟩, .string ⟨#[]⟩, .string ⟨#[]⟩, .slice none 0 0, .string ⟨#[]⟩] 27 (0, 0)) := fun W hW => by
    rw [hs0, hW0] at hW
    exact (hW.block w.heap.size (Nat.lt_succ_self _)).trans (heap_alloc_new w _)
  have HR := Lib.hid hRes; have HW := Lib.hid hW0
  clear hRes hW0
  have hdef : readL s.data.toList = if 300 < (linesL 302 s.data.toList 0).2.1 then (noHd, 0, 3)
    else if (linesL 302 s.data.toList 0).2.2 = false then (noHd, 0, 2)
    else match wholeL (linesL 302 s.data.toList 0).1 with
      | none => (noHd, 0, 3)
      | some (h, n) =>
        if s.data.toList.length < (linesL 302 s.data.toList 0).2.1 + n then (noHd, 0, 2)
        else if hedB { h with body := ⟨((s.data.toList.drop (linesL 302 s.data.toList 0).2.1).take n).toArray⟩ } = true then ({ h with body := ⟨((s.data.toList.drop (linesL 302 s.data.toList 0).2.1).take n).toArray⟩ }, (linesL 302 s.data.toList 0).2.1 + n, 1) else (noHd, 0, 3) := rfl
  have hL := fun W => spec_lines s W hs
  have hle := lines_le 302 s.data.toList 0
  have hus := lines_used 302 s.data.toList 0
  rw [← size_len] at hus hle
  generalize linesL 302 s.data.toList 0 = L at *
  obtain ⟨ls, used, ended⟩ := L
  dsimp only at hdef hL hle hus
  have HD := Lib.hid hdef; clear hdef
  go_enter Tryz.func6, Tryz.ntmps6
  go_wp2_with fail
  rw [← HW.out]
  refine (hL _).mono ?_
  rintro e w1 ⟨v1, rfl, ho1, hb1⟩
  have hw1 := hb1.size
  have hSR := srow_own ho1
  have hWh := spec_whole v1 ls w1 hSR (fun l hl => Nat.le_trans (hle l hl) hs)
  clear hL
  by_cases h300 : 300 < used
  · clear hWh
    have HN : Hid (readL s.data.toList = (noHd, 0, 3)) := Lib.hid (by rw [HD.out, if_pos h300])
    have r0 := HR.out _ hb1
    obtain ⟨q0, q1, q2, q3, q4, f0, f1, f2, f3, f4⟩ := five_facts r0
    have hb := HA.trans (hb1.mono (by omega))
    have z := five_set r0 (.string ⟨#[]⟩) (.string ⟨#[]⟩) (.string ⟨#[]⟩) (.slice none 0 0) (.string ⟨#[]⟩)
    unfold set5 at z
    obtain ⟨z0, z1, z2, z3, z4, _⟩ := five_facts z
    have HF := Lib.hid (below_set5 (a := .string ⟨#[]⟩) (b := .string ⟨#[]⟩) (c := .string ⟨#[]⟩) (d := .slice none 0 0) (e := .string ⟨#[]⟩) hb)
    have HZ := Lib.hid (And.intro z0 (And.intro z1 (And.intro z2 (And.intro z3 z4))))
    clear z0 z1 z2 z3 z4 z r0 hb hb1 HA
    go_wp2_with fail
    obtain ⟨z0, z1, z2, z3, z4⟩ := HZ.out
    refine bodyPost_ret (v := .tuple #[.agg #[.string ⟨#[]⟩, .string ⟨#[]⟩, .string ⟨#[]⟩, .slice none 0 0, .string ⟨#[]⟩], .int .i64 0, .int .i64 3]) (by simp [results, Tryz.results6, go_sem, z0, z1, z2, z3, z4]) rfl ?_
    rw [HN.out]
    exact ⟨⟨_, rfl, rfl, .inl ⟨rfl, rfl⟩⟩, HF.out⟩
  cases ended
  · clear hWh
    have HN : Hid (readL s.data.toList = (noHd, 0, 2)) := Lib.hid (by rw [HD.out, if_neg h300, if_pos rfl])
    have r0 := HR.out _ hb1
    obtain ⟨q0, q1, q2, q3, q4, f0, f1, f2, f3, f4⟩ := five_facts r0
    have hb := HA.trans (hb1.mono (by omega))
    have z := five_set r0 (.string ⟨#[]⟩) (.string ⟨#[]⟩) (.string ⟨#[]⟩) (.slice none 0 0) (.string ⟨#[]⟩)
    unfold set5 at z
    obtain ⟨z0, z1, z2, z3, z4, _⟩ := five_facts z
    have HF := Lib.hid (below_set5 (a := .string ⟨#[]⟩) (b := .string ⟨#[]⟩) (c := .string ⟨#[]⟩) (d := .slice none 0 0) (e := .string ⟨#[]⟩) hb)
    have HZ := Lib.hid (And.intro z0 (And.intro z1 (And.intro z2 (And.intro z3 z4))))
    clear z0 z1 z2 z3 z4 z r0 hb hb1 HA
    go_wp2_with fail
    obtain ⟨z0, z1, z2, z3, z4⟩ := HZ.out
    refine bodyPost_ret (v := .tuple #[.agg #[.string ⟨#[]⟩, .string ⟨#[]⟩, .string ⟨#[]⟩, .slice none 0 0, .string ⟨#[]⟩], .int .i64 0, .int .i64 2]) (by simp [results, Tryz.results6, go_sem, z0, z1, z2, z3, z4]) rfl ?_
    rw [HN.out]
    exact ⟨⟨_, rfl, rfl, .inl ⟨rfl, rfl⟩⟩, HF.out⟩
  go_wp2_with fail
  refine hWh.mono ?_
  rintro e w2 ⟨⟨va, vb, vc, sa, sn, sc, rfl, hwq⟩, hb2⟩
  have hb02 := hb1.trans (hb2.mono hw1)
  have hw2 := hb2.size
  clear hb1 hSR
  unfold hedV
  have hb03 := hb02.alloc (by omega) (.cells #[.string va, .string vb, .string vc, .slice sa sn sc, .string ⟨#[]⟩] 27)
  have hh3 : (w2.alloc (.cells #[.string va, .string vb, .string vc, .slice sa sn sc, .string ⟨#[]⟩] 27)).heap[w2.heap.size]? = some (.cells #[.string va, .string vb, .string vc, .slice sa sn sc, .string ⟨#[]⟩] 27 (0, 0)) := heap_alloc_new w2 _
  have hs3 : (w2.alloc (.cells #[.string va, .string vb, .string vc, .slice sa sn sc, .string ⟨#[]⟩] 27)).heap.size = w2.heap.size + 1 := by simp
  cases hwl : wholeL ls with
  | none =>
    have hd := HD.out
    rw [if_neg h300, if_neg (by decide), hwl] at hd
    simp only [Option.map_none, sizeV]
    clear hh3 hb02
    have HN : Hid (readL s.data.toList = (noHd, 0, 3)) := Lib.hid (hd)
    have r0 := HR.out _ hb03
    obtain ⟨q0, q1, q2, q3, q4, f0, f1, f2, f3, f4⟩ := five_facts r0
    have hb := HA.trans (hb03.mono (by omega))
    have z := five_set r0 (.string ⟨#[]⟩) (.string ⟨#[]⟩) (.string ⟨#[]⟩) (.slice none 0 0) (.string ⟨#[]⟩)
    unfold set5 at z
    obtain ⟨z0, z1, z2, z3, z4, _⟩ := five_facts z
    have HF := Lib.hid (below_set5 (a := .string ⟨#[]⟩) (b := .string ⟨#[]⟩) (c := .string ⟨#[]⟩) (d := .slice none 0 0) (e := .string ⟨#[]⟩) hb)
    have HZ := Lib.hid (And.intro z0 (And.intro z1 (And.intro z2 (And.intro z3 z4))))
    clear z0 z1 z2 z3 z4 z r0 hb hb03 HA hd
    go_wp2_with fail
    obtain ⟨z0, z1, z2, z3, z4⟩ := HZ.out
    refine bodyPost_ret (v := .tuple #[.agg #[.string ⟨#[]⟩, .string ⟨#[]⟩, .string ⟨#[]⟩, .slice none 0 0, .string ⟨#[]⟩], .int .i64 0, .int .i64 3]) (by simp [results, Tryz.results6, go_sem, z0, z1, z2, z3, z4]) rfl ?_
    rw [HN.out]
    exact ⟨⟨_, rfl, rfl, .inl ⟨rfl, rfl⟩⟩, HF.out⟩
  | some hn =>
    obtain ⟨h, n⟩ := hn
    obtain ⟨rfl, rfl, rfl, ho2⟩ := hwq h n hwl
    have hn20 := whole_n hwl
    have hd := HD.out
    rw [if_neg h300, if_neg (by decide), hwl] at hd
    dsimp only at hd
    rw [← size_len] at hd
    simp only [Option.map_some, sizeV]
    by_cases hsh : s.size < used + n
    · rw [if_pos hsh] at hd
      clear hh3 hb02
      have HN : Hid (readL s.data.toList = (noHd, 0, 2)) := Lib.hid (hd)
      have r0 := HR.out _ hb03
      obtain ⟨q0, q1, q2, q3, q4, f0, f1, f2, f3, f4⟩ := five_facts r0
      have hb := HA.trans (hb03.mono (by omega))
      have z := five_set r0 (.string ⟨#[]⟩) (.string ⟨#[]⟩) (.string ⟨#[]⟩) (.slice none 0 0) (.string ⟨#[]⟩)
      unfold set5 at z
      obtain ⟨z0, z1, z2, z3, z4, _⟩ := five_facts z
      have HF := Lib.hid (below_set5 (a := .string ⟨#[]⟩) (b := .string ⟨#[]⟩) (c := .string ⟨#[]⟩) (d := .slice none 0 0) (e := .string ⟨#[]⟩) hb)
      have HZ := Lib.hid (And.intro z0 (And.intro z1 (And.intro z2 (And.intro z3 z4))))
      clear z0 z1 z2 z3 z4 z r0 hb hb03 HA hd
      go_wp2_with fail
      obtain ⟨z0, z1, z2, z3, z4⟩ := HZ.out
      refine bodyPost_ret (v := .tuple #[.agg #[.string ⟨#[]⟩, .string ⟨#[]⟩, .string ⟨#[]⟩, .slice none 0 0, .string ⟨#[]⟩], .int .i64 0, .int .i64 2]) (by simp [results, Tryz.results6, go_sem, z0, z1, z2, z3, z4]) rfl ?_
      rw [HN.out]
      exact ⟨⟨_, rfl, rfl, .inl ⟨rfl, rfl⟩⟩, HF.out⟩
    · rw [if_neg hsh] at hd
      obtain ⟨k1, k2, k3, k4, k5⟩ := whole_bound hwl
      have hB := ext_mid s used n
      rw [← hB] at hd
      have hBs : (s.extract used (used + n)).size ≤ 1048576 := by simp; omega
      generalize hBB : s.extract used (used + n) = B at *
      have HBB := Lib.hid hBB
      have HDD := Lib.hid hd
      have HK := Lib.hid k5
      have hbs : ((used : Int) + n) = ((used + n : Nat) : Int) := by omega
      clear hB hd hBB HD hWh hwq hwl ho1 hle k5 hb03 hh3 hs3 hb2 hbs
      go_wp2_with fail
      rw [HBB.out]
      have hb03 := hb02.alloc (by omega) (.cells #[.string h.verb, .string h.target, .string h.host, .slice sa sn sc, .string B] 27)
      have hh3 : (w2.alloc (.cells #[.string h.verb, .string h.target, .string h.host, .slice sa sn sc, .string B] 27)).heap[w2.heap.size]? = some (.cells #[.string h.verb, .string h.target, .string h.host, .slice sa sn sc, .string B] 27 (0, 0)) := heap_alloc_new w2 _
      have hs3 : (w2.alloc (.cells #[.string h.verb, .string h.target, .string h.host, .slice sa sn sc, .string B] 27)).heap.size = w2.heap.size + 1 := by simp
      have ho3 := ho2.alloc (.cells #[.string h.verb, .string h.target, .string h.host, .slice sa sn sc, .string B] 27)
      have hOk := spec_hedok ⟨h.verb, h.target, h.host, h.fs, B⟩ (.slice sa sn sc) (w2.alloc (.cells #[.string h.verb, .string h.target, .string h.host, .slice sa sn sc, .string B] 27)) (frow_own (by omega) ho3) (Nat.le_trans k4 (by decide)) (fun f hf => ⟨Nat.le_trans (HK.out f hf).1 (by decide), Nat.le_trans (HK.out f hf).2 (by decide)⟩) (Nat.le_trans k1 (by decide)) (Nat.le_trans k2 (by decide)) (Nat.le_trans k3 (by decide)) hBs
      dsimp only at hOk
      generalize (w2.alloc (.cells #[.string h.verb, .string h.target, .string h.host, .slice sa sn sc, .string B] 27)) = w3 at *
      generalize hhd : Hd.mk h.verb h.target h.host h.fs B = hd at *
      have HHd := Lib.hid hhd
      have hR := HDD.out
      have HR2 := Lib.hid hR
      clear hR hhd HDD ho2 hb02
      generalize hbhe : w2.heap.size = bh at *
      have hbh : w.heap.size < bh := by omega
      generalize hedB hd = ok at *
      cases ok
      · have HF : Hid (readL s.data.toList = (noHd, 0, 3)) := Lib.hid HR2.out
        clear HR2 ho3
        refine hOk.mono ?_
        rintro e w4 ⟨rfl, hb4⟩
        have hb04 := hb03.trans (hb4.mono (by omega))
        have r0 := HR.out _ hb04
        obtain ⟨q0, q1, q2, q3, q4, f0, f1, f2, f3, f4⟩ := five_facts r0
        have z := five_set r0 (.string ⟨#[]⟩) (.string ⟨#[]⟩) (.string ⟨#[]⟩) (.slice none 0 0) (.string ⟨#[]⟩)
        have hbf : Below w.heap.size w (set5 w4 w.heap.size (.string ⟨#[]⟩) (.string ⟨#[]⟩) (.string ⟨#[]⟩) (.slice none 0 0) (.string ⟨#[]⟩)) := (HA.trans (hb04.mono (by omega))).trans (below_set5 (Below.refl _ _))
        unfold set5 at z hbf
        obtain ⟨z0, z1, z2, z3, z4, _⟩ := five_facts z
        have HZ := Lib.hid (And.intro z0 (And.intro z1 (And.intro z2 (And.intro z3 (And.intro z4 hbf)))))
        clear z0 z1 z2 z3 z4 z r0 hb04 hb4 hb03 HA hh3 hOk hbf
        go_wp2_with fail
        obtain ⟨z0, z1, z2, z3, z4, hbf⟩ := HZ.out
        refine bodyPost_ret (v := .tuple #[.agg #[.string ⟨#[]⟩, .string ⟨#[]⟩, .string ⟨#[]⟩, .slice none 0 0, .string ⟨#[]⟩], .int .i64 0, .int .i64 3]) (by simp [results, Tryz.results6, go_sem, z0, z1, z2, z3, z4]) rfl ?_
        rw [HF.out]
        exact ⟨⟨_, rfl, rfl, .inl ⟨rfl, rfl⟩⟩, hbf⟩
      · have HF : Hid (readL s.data.toList = (hd, used + n, 1)) := Lib.hid HR2.out
        clear HR2
        refine hOk.mono ?_
        rintro e w4 ⟨rfl, hb4⟩
        have hb04 := hb03.trans (hb4.mono (by omega))
        have hh4 := (hb4.block bh (by omega)).trans hh3
        have ho4 := own_below ho3 hb4
        obtain ⟨t0, t1, t2, t3, t4, g0, g1, g2, g3, g4⟩ := five_facts hh4
        have r0 := HR.out _ hb04
        obtain ⟨q0, q1, q2, q3, q4, f0, f1, f2, f3, f4⟩ := five_facts r0
        have z := five_set r0 (.string h.verb) (.string h.target) (.string h.host) (.slice sa sn sc) (.string B)
        have hbf : Below w.heap.size w (set5 w4 w.heap.size (.string h.verb) (.string h.target) (.string h.host) (.slice sa sn sc) (.string B)) := (HA.trans (hb04.mono (by omega))).trans (below_set5 (Below.refl _ _))
        have hof : (set5 w4 w.heap.size (.string h.verb) (.string h.target) (.string h.host) (.slice sa sn sc) (.string B)).ownsRow w.heap.size 39 2 (.slice sa sn sc) h.fs.length (fcells h.fs) := by
          unfold set5
          exact own_low (own_setk (own_setk (own_setk (own_setk (own_setk ho4 (by omega) _) (by omega) _) (by omega) _) (by omega) _) (by omega) _) (by omega)
        unfold set5 at z hbf hof
        obtain ⟨z0, z1, z2, z3, z4, _⟩ := five_facts z
        have HZ := Lib.hid (And.intro z0 (And.intro z1 (And.intro z2 (And.intro z3 (And.intro z4 (And.intro hbf hof))))))
        clear z0 z1 z2 z3 z4 z r0 hb04 hb4 hb03 HA hh3 hOk hbf hof ho4 ho3 hh4
        go_wp2_with fail
        obtain ⟨z0, z1, z2, z3, z4, hbf, hof⟩ := HZ.out
        refine bodyPost_ret (v := .tuple #[.agg #[.string h.verb, .string h.target, .string h.host, .slice sa sn sc, .string B], .int .i64 ((used + n : Nat) : Int), .int .i64 1]) (by simp [results, Tryz.results6, go_sem, z0, z1, z2, z3, z4]) rfl ?_
        rw [HF.out, ← HHd.out]
        exact ⟨⟨_, rfl, hof⟩, hbf⟩
end Go.Proofs.YtabidoopodbknaaGreatDoor

