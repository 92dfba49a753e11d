import Derived.Test.YtncegikmpapldaaGreatDoorHstP
import Derived.Test.YtncegikmpapldaaGreatDoorFrd
import Derived.Test.YtncegikmpapldaaGreatDoorGcan
import Derived.Test.YtncegikmpapldaaGreatDoorFOne
import Derived.Test.YtncegikmpapldaaGreatDoorNum
import Derived.Test.YtncegikmpapldaaGreatDoorBod
import Derived.Test.YtncegikmpapldaaGreatDoorFPure
import Derived.Test.YtncegikmpapldaaGreatDoorFv
import Derived.Test.YtncegikmpapldaaGreatDoorVals
import Derived.Deep.RegionHeld3
import Derived.Test.YtncegikmpapldaaGreatDoorDrawL
-- from XHedD
/- Requests: what they are, their texts, and what is read of a text, as plain functions. -/
namespace Go.Proofs.YtncegikmpapldaaGreatDoor

/-- A request. -/
structure Hd where
  verb : ByteArray
  target : ByteArray
  host : ByteArray
  fs : List (ByteArray × ByteArray)
  body : ByteArray

def bGet : List UInt8 := [103, 101, 116]
def bPut : List UInt8 := [112, 117, 116]
def bPurge : List UInt8 := [112, 117, 114, 103, 101]
def bHost : List UInt8 := [104, 111, 115, 116]
def bLength : List UInt8 := [108, 101, 110, 103, 116, 104]
def bTransfer : List UInt8 := [116, 114, 97, 110, 115, 102, 101, 114]
def bHttp : List UInt8 := [104, 116, 116, 112, 58, 47, 47]

def verbB (l : List UInt8) : Bool := l == bGet || l == bPut || l == bPurge
def ownB (l : List UInt8) : Bool := l == bHost || l == bLength || l == bTransfer
/-- Lines, each with its end. -/
def joinL (ls : List (List UInt8)) : List UInt8 := ls.flatMap (· ++ [10])
def lenLines (b : List UInt8) : List (List UInt8) := if b = [] then [] else [bLength ++ 58 :: 32 :: Lib.decDigits b.length]
def hedLines (h : Hd) : List (List UInt8) :=
  (h.verb.data.toList ++ 32 :: h.target.data.toList) :: (bHost ++ 58 :: 32 :: h.host.data.toList) :: ((h.fs.map fun f => (fdT f).data.toList) ++ lenLines h.body.data.toList)
/-- The text ahead of the body. -/
def headT (h : Hd) : List UInt8 := joinL (hedLines h) ++ [10]
def hedT (h : Hd) : List UInt8 := headT h ++ h.body.data.toList

def hedB (h : Hd) : Bool :=
  verbB h.verb.data.toList && decide (canonL h.target.data.toList = some h.target.data.toList) && hostB h.host.data.toList && decide (h.fs.length ≤ 6) && bodyB h.body.data.toList &&
  (decide (h.body.data.toList = []) || h.verb.data.toList == bPut) && (h.fs.all fun f => fdB f && !ownB f.1.data.toList) && decide ((headT h).length ≤ 300)

/-- The lines ahead of the first empty one, how many bytes they have with that, and whether there is one. -/
def linesL : Nat → List UInt8 → Nat → List (List UInt8) × Nat × Bool
  | 0, _, used => ([], used, false)
  | f + 1, rest, used =>
    if 300 < used then ([], used, false)
    else if (cutL rest 10).2.2 = false then ([], used + rest.length, false)
    else if (cutL rest 10).1 = [] then ([], used + 1, true)
    else ((cutL rest 10).1 :: (linesL f (cutL rest 10).2.1 (used + (cutL rest 10).1.length + 1)).1, (linesL f (cutL rest 10).2.1 (used + (cutL rest 10).1.length + 1)).2)

def targetL (l : List UInt8) : Option (List UInt8 × List UInt8) :=
  if bHttp.isPrefixOf l = true then
    (if (cutL (l.drop 7) 47).2.2 = true ∧ hostB (hostC (cutL (l.drop 7) 47).1) = true then (canonL (47 :: (cutL (l.drop 7) 47).2.1)).map fun p => (p, hostC (cutL (l.drop 7) 47).1) else none)
  else (canonL l).map fun p => (p, [])
/-- The verb, the place, and of whom, if the line says so. -/
def firstL (line : List UInt8) : Option (List UInt8 × List UInt8 × List UInt8) :=
  if (cutL line 32).2.2 = true ∧ verbB (cutL line 32).1 = true then (targetL (cutL line 32).2.1).map fun t => ((cutL line 32).1, t.1, t.2) else none
def fieldsL (ls : List (List UInt8)) : Option (List (ByteArray × ByteArray)) := if ls.length ≤ 8 ∧ ls.all rdB = true then some (ls.map rdF) else none
def othersL (fs : List (ByteArray × ByteArray)) : List (ByteArray × ByteArray) := fs.filter fun f => !ownB f.1.data.toList
def sizeL (verb : List UInt8) (fs : List (ByteArray × ByteArray)) : Option Nat :=
  if 0 < (allTo fs ⟨bTransfer.toArray⟩ fs.length).length then none
  else match allTo fs ⟨bLength.toArray⟩ fs.length with
    | [] => some 0
    | [x] => if (numR x.data.toList).2 = true ∧ (numR x.data.toList).1 ≤ 20 ∧ ((numR x.data.toList).1 = 0 ∨ verb = bPut) then some (numR x.data.toList).1 else none
    | _ => none
/-- A request of its lines, but for its body, and how long that is. -/
def wholeL (ls : List (List UInt8)) : Option (Hd × Nat) :=
  match ls with
  | [] => none
  | l :: ls => match firstL l, fieldsL ls with
    | some (verb, place, named), some fs => match oneOf (allTo fs ⟨bHost.toArray⟩ fs.length) with
      | (value, true) =>
        if hostB (hostC value.data.toList) = true ∧ (named = [] ∨ named = hostC value.data.toList) ∧ (othersL fs).length ≤ 6 then
          (sizeL verb fs).map fun n => (⟨⟨verb.toArray⟩, ⟨place.toArray⟩, ⟨(hostC value.data.toList).toArray⟩, othersL fs, ⟨#[]⟩⟩, n)
        else none
      | _ => none
    | _, _ => none
def noHd : Hd := ⟨⟨#[]⟩, ⟨#[]⟩, ⟨#[]⟩, [], ⟨#[]⟩⟩
/-- What is read of a text: the request, its bytes, and what it is. -/
def readL (s : List UInt8) : Hd × Nat × Nat :=
  if 300 < (linesL 302 s 0).2.1 then (noHd, 0, 3)
  else if (linesL 302 s 0).2.2 = false then (noHd, 0, 2)
  else match wholeL (linesL 302 s 0).1 with
    | none => (noHd, 0, 3)
    | some (h, n) =>
      if s.length < (linesL 302 s 0).2.1 + n then (noHd, 0, 2)
      else if hedB { h with body := ⟨((s.drop (linesL 302 s 0).2.1).take n).toArray⟩ } = true then ({ h with body := ⟨((s.drop (linesL 302 s 0).2.1).take n).toArray⟩ }, (linesL 302 s 0).2.1 + n, 1) else (noHd, 0, 3)

end Go.Proofs.YtncegikmpapldaaGreatDoor

-- from XHedP
/- Pure laws on requests: their texts, and what is read of a text. -/
namespace Go.Proofs.YtncegikmpapldaaGreatDoor

/-! ### Lines -/
theorem joinL_cons (l : List UInt8) (ls : List (List UInt8)) : joinL (l :: ls) = l ++ 10 :: joinL ls := by simp [joinL]
theorem joinL_app (a b : List (List UInt8)) : joinL (a ++ b) = joinL a ++ joinL b := by simp [joinL]
theorem joinL_len (l : List UInt8) (ls : List (List UInt8)) : (joinL (l :: ls)).length = l.length + 1 + (joinL ls).length := by rw [joinL_cons]; simp; omega

theorem lines_mk : ∀ (ls : List (List UInt8)) (f : Nat) (t : List UInt8) (used : Nat), ls.length < f → used + (joinL ls).length ≤ 300 → (∀ l ∈ ls, l ≠ [] ∧ (10 : UInt8) ∉ l) →
    linesL f (joinL ls ++ 10 :: t) used = (ls, used + (joinL ls).length + 1, true) := by
  intro ls
  induction ls with
  | nil =>
    intro f t used hf hu _
    match f, hf with
    | f + 1, _ =>
      have hj : joinL [] = [] := rfl
      rw [hj] at hu ⊢
      have hc : cutL ([] ++ 10 :: t) 10 = ([], t, true) := cutL_yes [] t 10 (by simp)
      unfold linesL
      rw [hc, if_neg (by simp at hu; omega), if_neg (by simp), if_pos rfl]
      simp
  | cons l ls ih =>
    intro f t used hf hu hl
    match f, hf with
    | f + 1, hf =>
      obtain ⟨h1, h2⟩ := hl l (List.mem_cons_self ..)
      rw [joinL_len] at hu
      have hc : cutL (joinL (l :: ls) ++ 10 :: t) 10 = (l, joinL ls ++ 10 :: t, true) := by
        rw [joinL_cons, List.append_assoc, List.cons_append]; exact cutL_yes l _ 10 h2
      unfold linesL
      rw [hc, if_neg (by omega), if_neg (by simp), if_neg h1]
      simp only
      rw [ih f t (used + l.length + 1) (by simp at hf; omega) (by omega) (fun x hx => hl x (List.mem_cons_of_mem _ hx)), joinL_len]
      simp only [Prod.mk.injEq, and_true, true_and]
      omega

/-! ### The bytes of what is read -/
theorem up_bytes (n : Nat) (hn : n < 256) : ∀ b ∈ putC n, b ≠ 10 ∧ b ≠ 32 := by
  have h : ∀ n : Fin 256, ∀ b ∈ putC n.val, b ≠ 10 ∧ b ≠ 32 := by decide +kernel
  exact h ⟨n, hn⟩
theorem lit_bytes {asks : Bool} {c : UInt8} (h : okLit asks c = true) : c ≠ 10 ∧ c ≠ 32 := by
  have hh : ∀ a : Bool, ∀ n : Fin 256, okLit a (UInt8.ofNat n.val) = true → UInt8.ofNat n.val ≠ 10 ∧ UInt8.ofNat n.val ≠ 32 := by decide +kernel
  have e : UInt8.ofNat c.toNat = c := by simp
  have := hh asks ⟨c.toNat, c.toNat_lt⟩
  simp only [e] at this
  exact this h

theorem plain_bytes {asks : Bool} {l r : List UInt8} (h : plainL asks l = some r) : ∀ b ∈ r, b ≠ 10 ∧ b ≠ 32 := by
  refine plain_ind (M := fun _ r => ∀ b ∈ r, b ≠ 10 ∧ b ≠ 32) (by simp) ?_ ?_ h
  · intro c l r hc _ _ ih b hb
    rcases List.mem_cons.1 hb with rfl | hb
    · exact lit_bytes hc
    · exact ih b hb
  · intro c l r n hn _ _ ih b hb
    rcases List.mem_append.1 hb with hb | hb
    · exact up_bytes n (codeL_lt hn) b hb
    · exact ih b hb
theorem canon_bytes {l c : List UInt8} (h : canonL l = some c) : (∃ r, c = 47 :: r) ∧ ∀ b ∈ c, b ≠ 10 ∧ b ≠ 32 := by
  obtain ⟨_, l', o, _, h1, _, h3⟩ := canon_iff h
  rcases h3 with ⟨_, rfl⟩ | ⟨_, m, hm, rfl⟩
  · refine ⟨⟨_, rfl⟩, fun b hb => ?_⟩
    rcases List.mem_cons.1 hb with rfl | hb
    · decide
    · exact plain_bytes h1 b hb
  · refine ⟨⟨_, rfl⟩, fun b hb => ?_⟩
    rcases List.mem_cons.1 hb with rfl | hb
    · decide
    · rcases List.mem_append.1 hb with hb | hb
      · exact plain_bytes h1 b hb
      · rcases List.mem_cons.1 hb with rfl | hb
        · decide
        · exact plain_bytes hm b hb
theorem verb_cases {l : List UInt8} (h : verbB l = true) : l = bGet ∨ l = bPut ∨ l = bPurge := by
  simpa [verbB, or_assoc] using h
theorem verb_bytes {l : List UInt8} (h : verbB l = true) : l ≠ [] ∧ (10 : UInt8) ∉ l ∧ (32 : UInt8) ∉ l := by
  rcases verb_cases h with rfl | rfl | rfl <;> decide

/-! ### Fields of a request's own -/
theorem drop_none {p : UInt8 → Bool} {l : List UInt8} (h : ∀ b ∈ l, p b = false) : l.dropWhile p = l := by
  cases l with
  | nil => rfl
  | cons b l => rw [List.dropWhile_cons, h b (List.mem_cons_self ..)]; rfl
theorem trim_none {l : List UInt8} (h : (32 : UInt8) ∉ l) : Lib.trimB l 32 = l := by
  have hp : ∀ b ∈ l, (b == 32) = false := fun b hb => by
    simp only [beq_eq_false_iff_ne]; rintro rfl; exact h hb
  unfold Lib.trimB Lib.trimLeftB Lib.trimRightB
  rw [drop_none (fun b hb => hp b (List.mem_reverse.1 hb)), List.reverse_reverse, drop_none hp]
theorem small_print (c : UInt8) (h : isSmall c = true) : printC c = true := by
  have hh : ∀ n : Fin 256, isSmall (UInt8.ofNat n.val) = true → printC (UInt8.ofNat n.val) = true := by decide +kernel
  have e : UInt8.ofNat c.toNat = c := by simp
  have := hh ⟨c.toNat, c.toNat_lt⟩
  simp only [e] at this
  exact this h
theorem host_val {l : List UInt8} (h : hostB l = true) : valB l = true := by
  refine valB_yes (by have := host_len h; omega) ?_ (trim_none (host_not h).2.1)
  unfold printB
  rw [List.all_eq_true]
  intro b hb
  rcases host_bytes h hb with rfl | hs
  · decide
  · exact small_print b hs
theorem dig_val (n : Nat) (hn : n ≤ 20) : valB (Lib.decDigits n) = true ∧ (10 : UInt8) ∉ Lib.decDigits n := by
  have h : ∀ n : Fin 21, valB (Lib.decDigits n.val) = true ∧ (10 : UInt8) ∉ Lib.decDigits n.val := by decide +kernel
  exact h ⟨n, by omega⟩
theorem own_read {n v : List UInt8} (hn : tokB n = true) (hv : valB v = true) : rdR (n ++ 58 :: 32 :: v) = ((⟨n.toArray⟩, ⟨v.toArray⟩), true) := by
  have hf : fdB (⟨n.toArray⟩, ⟨v.toArray⟩) = true := by simp [fdB, hn, hv]
  have hs := tok_smalls hn
  obtain ⟨_, h2⟩ := fd_parts hf
  refine read_of hf (by simpa using low_small hs) (by simpa using colon_small hs) ?_
  rw [trim_left]
  simpa using h2

theorem rd_pair {l : List UInt8} {f : ByteArray × ByteArray} (h : rdR l = (f, true)) : rdB l = true ∧ rdF l = f := by
  unfold rdR at h
  by_cases hb : rdB l = true
  · rw [if_pos hb] at h
    injection h with h1 _
    exact ⟨hb, h1⟩
  · rw [if_neg hb] at h
    injection h with _ h2
    cases h2

theorem all_filter (fs : List Fd) (s : ByteArray) : allTo fs s fs.length = (fs.filter fun f => f.1 = s).map (·.2) := by
  have h : ∀ k, k ≤ fs.length → allTo fs s k = ((fs.take k).filter fun f => f.1 = s).map (·.2) := by
    intro k
    induction k with
    | zero => intro _; rfl
    | succ k ih =>
      intro hk
      have hg : fs[k]? = some fs[k] := List.getElem?_eq_getElem (by omega)
      rw [allTo_at s hg, ih (by omega), List.take_add_one, hg, List.filter_append, List.map_append]
      by_cases he : fs[k].1 = s
      · rw [if_pos he]
        have : ([fs[k]].filter fun f => decide (f.1 = s)) = [fs[k]] := by rw [List.filter_cons_of_pos (by simpa using he)]; rfl
        rw [Option.toList_some, this]; rfl
      · rw [if_neg he]
        have : ([fs[k]].filter fun f => decide (f.1 = s)) = [] := by rw [List.filter_cons_of_neg (by simpa using he)]; rfl
        rw [Option.toList_some, this]; simp
  rw [h fs.length (Nat.le_refl _), List.take_length]
end Go.Proofs.YtncegikmpapldaaGreatDoor

-- from XHedR
/- Pure laws on requests: a request's text is read as it. -/
namespace Go.Proofs.YtncegikmpapldaaGreatDoor

structure HOk (h : Hd) : Prop where
  verb : verbB h.verb.data.toList = true
  target : canonL h.target.data.toList = some h.target.data.toList
  host : hostB h.host.data.toList = true
  many : h.fs.length ≤ 6
  body : bodyB h.body.data.toList = true
  put : h.body.data.toList = [] ∨ h.verb.data.toList = bPut
  fs : ∀ f ∈ h.fs, fdB f = true ∧ ownB f.1.data.toList = false
  len : (headT h).length ≤ 300
theorem hedB_iff {h : Hd} : hedB h = true ↔ HOk h := by
  unfold hedB
  simp only [Bool.and_eq_true, Bool.or_eq_true, decide_eq_true_eq, List.all_eq_true, beq_iff_eq, Bool.not_eq_true']
  constructor
  · rintro ⟨⟨⟨⟨⟨⟨⟨h1, h2⟩, h3⟩, h4⟩, h5⟩, h6⟩, h7⟩, h8⟩
    exact ⟨h1, h2, h3, h4, h5, h6, h7, h8⟩
  · rintro ⟨h1, h2, h3, h4, h5, h6, h7, h8⟩
    exact ⟨⟨⟨⟨⟨⟨⟨h1, h2⟩, h3⟩, h4⟩, h5⟩, h6⟩, h7⟩, h8⟩

/-- The field that tells the body's length. -/
def lenFs (b : List UInt8) : List (ByteArray × ByteArray) := if b = [] then [] else [(⟨bLength.toArray⟩, ⟨(Lib.decDigits b.length).toArray⟩)]
/-- All fields of a request's text. -/
def textFs (h : Hd) : List (ByteArray × ByteArray) := (⟨bHost.toArray⟩, h.host) :: (h.fs ++ lenFs h.body.data.toList)

theorem print_not10 {l : List UInt8} (h : printB l = true) : (10 : UInt8) ∉ l := fun hb => by
  unfold printB at h
  exact absurd (List.all_eq_true.1 h 10 hb) (by decide)
theorem body_len {h : Hd} (hk : HOk h) : h.body.data.toList.length ≤ 20 ∧ printB h.body.data.toList = true := by
  have := hk.body
  simpa [bodyB] using this

theorem fd_line {f : ByteArray × ByteArray} (hf : fdB f = true) : (fdT f).data.toList ≠ [] ∧ (10 : UInt8) ∉ (fdT f).data.toList ∧ rdB (fdT f).data.toList = true ∧ rdF (fdT f).data.toList = f := by
  obtain ⟨n, v⟩ := f
  obtain ⟨h1, h2⟩ := rd_pair (read_text hf)
  refine ⟨?_, ?_, h1, h2⟩
  · rw [fdT_list hf]; simp
  · rw [fdT_list hf]
    have hs := tok_smalls (fd_parts hf).1
    have hv : printB v.data.toList = true := by
      simp only [fdB, valB, Bool.and_eq_true] at hf
      exact hf.2.1.2
    intro hb
    rcases List.mem_append.1 hb with hb | hb
    · exact (hsmall_lt 10 (smalls_mem hs hb)).2.2.1 rfl
    · rcases List.mem_cons.1 hb with hb | hb
      · exact absurd hb (by decide)
      · rcases List.mem_cons.1 hb with hb | hb
        · exact absurd hb (by decide)
        · exact print_not10 hv hb

theorem own_line {n v : List UInt8} (hn : tokB n = true) (hv : valB v = true) : n ++ 58 :: 32 :: v ≠ [] ∧ (10 : UInt8) ∉ (n ++ 58 :: 32 :: v) ∧ rdB (n ++ 58 :: 32 :: v) = true ∧ rdF (n ++ 58 :: 32 :: v) = (⟨n.toArray⟩, ⟨v.toArray⟩) := by
  obtain ⟨h1, h2⟩ := rd_pair (own_read hn hv)
  refine ⟨by simp, ?_, h1, h2⟩
  have hs := tok_smalls hn
  have hp : printB v = true := by
    simp only [valB, Bool.and_eq_true] at hv
    exact hv.1.2
  intro hb
  rcases List.mem_append.1 hb with hb | hb
  · exact (hsmall_lt 10 (smalls_mem hs hb)).2.2.1 rfl
  · rcases List.mem_cons.1 hb with hb | hb
    · exact absurd hb (by decide)
    · rcases List.mem_cons.1 hb with hb | hb
      · exact absurd hb (by decide)
      · exact print_not10 hp hb

theorem len_line {h : Hd} (hk : HOk h) : (∀ l ∈ lenLines h.body.data.toList, l ≠ [] ∧ (10 : UInt8) ∉ l ∧ rdB l = true) ∧ (lenLines h.body.data.toList).map rdF = lenFs h.body.data.toList := by
  unfold lenLines lenFs
  by_cases hb : h.body.data.toList = []
  · rw [if_pos hb, if_pos hb]; simp
  · rw [if_neg hb, if_neg hb]
    obtain ⟨h1, h2, h3, h4⟩ := own_line (n := bLength) (by decide) (dig_val _ (body_len hk).1).1
    refine ⟨fun l hl => ?_, by rw [List.map_cons, h4]; rfl⟩
    have : l = bLength ++ 58 :: 32 :: Lib.decDigits h.body.data.toList.length := by simpa using hl
    rw [this]; exact ⟨h1, h2, h3⟩
/-- The lines behind the first one, and what they say. -/
def tailLines (h : Hd) : List (List UInt8) := (bHost ++ 58 :: 32 :: h.host.data.toList) :: ((h.fs.map fun f => (fdT f).data.toList) ++ lenLines h.body.data.toList)
theorem tail_lines {h : Hd} (hk : HOk h) : (∀ l ∈ tailLines h, l ≠ [] ∧ (10 : UInt8) ∉ l ∧ rdB l = true) ∧ (tailLines h).map rdF = textFs h := by
  obtain ⟨h1, h2, h3, h4⟩ := own_line (n := bHost) (by decide) (host_val hk.host)
  obtain ⟨k1, k2⟩ := len_line hk
  constructor
  · intro l hl
    unfold tailLines at hl
    rcases List.mem_cons.1 hl with rfl | hl
    · exact ⟨h1, h2, h3⟩
    · rcases List.mem_append.1 hl with hl | hl
      · obtain ⟨f, hf, rfl⟩ := List.mem_map.1 hl
        obtain ⟨g1, g2, g3, _⟩ := fd_line (hk.fs f hf).1
        exact ⟨g1, g2, g3⟩
      · exact k1 l hl
  · unfold tailLines textFs
    rw [List.map_cons, h4, ba_mk, List.map_append, k2, List.map_map]
    congr 2
    conv => rhs; rw [← List.map_id h.fs]
    exact List.map_congr_left fun f hf => (fd_line (hk.fs f hf).1).2.2.2

theorem lenLines_len (b : List UInt8) : (lenLines b).length ≤ 1 := by unfold lenLines; split <;> simp
theorem tail_len {h : Hd} (hk : HOk h) : (tailLines h).length ≤ 8 := by
  have := lenLines_len h.body.data.toList
  have := hk.many
  simp [tailLines]; omega
theorem fields_text {h : Hd} (hk : HOk h) : fieldsL (tailLines h) = some (textFs h) := by
  obtain ⟨h1, h2⟩ := tail_lines hk
  unfold fieldsL
  rw [if_pos ⟨tail_len hk, List.all_eq_true.2 fun l hl => (h1 l hl).2.2⟩, h2]
theorem first_text {h : Hd} (hk : HOk h) : firstL (h.verb.data.toList ++ 32 :: h.target.data.toList) = some (h.verb.data.toList, h.target.data.toList, []) := by
  obtain ⟨⟨r, hr⟩, _⟩ := canon_bytes hk.target
  have hc := cutL_yes h.verb.data.toList h.target.data.toList 32 (verb_bytes hk.verb).2.2
  have ht : targetL h.target.data.toList = some (h.target.data.toList, []) := by
    unfold targetL
    rw [if_neg (by rw [hr]; simp [bHttp, List.isPrefixOf]), hk.target]; rfl
  unfold firstL
  rw [hc, if_pos ⟨rfl, hk.verb⟩]
  simp only
  rw [ht]; rfl

theorem name_ne {a : ByteArray} {l : List UInt8} (h : a.data.toList ≠ l) : ¬ a = ⟨l.toArray⟩ := by
  rintro rfl; exact h (by simp)
theorem not_own {l : List UInt8} (h : ownB l = false) : l ≠ bHost ∧ l ≠ bLength ∧ l ≠ bTransfer := by
  simpa [ownB, and_assoc] using h
theorem filter_none {fs : List Fd} {s : ByteArray} (h : ∀ f ∈ fs, ¬ f.1 = s) : (fs.filter fun f => f.1 = s) = [] := by
  rw [List.filter_eq_nil_iff]
  intro f hf
  simpa using h f hf
theorem filter_own {h : Hd} (hk : HOk h) (l : List UInt8) (hl : l = bHost ∨ l = bLength ∨ l = bTransfer) : (h.fs.filter fun f => f.1 = (⟨l.toArray⟩ : ByteArray)) = [] := by
  refine filter_none fun f hf => name_ne ?_
  obtain ⟨n1, n2, n3⟩ := not_own (hk.fs f hf).2
  rcases hl with rfl | rfl | rfl
  · exact n1
  · exact n2
  · exact n3
theorem mk_inj {a b : List UInt8} : ((⟨a.toArray⟩ : ByteArray) = ⟨b.toArray⟩) ↔ a = b := by
  constructor
  · intro h
    have := congrArg (fun x : ByteArray => x.data.toList) h
    simpa using this
  · rintro rfl; rfl
theorem host_text {h : Hd} (hk : HOk h) : allTo (textFs h) ⟨bHost.toArray⟩ (textFs h).length = [h.host] := by
  rw [all_filter]
  have hl : ((lenFs h.body.data.toList).filter fun f => f.1 = (⟨bHost.toArray⟩ : ByteArray)) = [] := by
    refine filter_none fun f hf => ?_
    unfold lenFs at hf
    split at hf
    · cases hf
    · have : f = (⟨bLength.toArray⟩, ⟨(Lib.decDigits h.body.data.toList.length).toArray⟩) := by simpa using hf
      subst this
      rw [mk_inj]; decide
  unfold textFs
  rw [List.filter_cons_of_pos (by simp), List.filter_append, filter_own hk _ (.inl rfl), hl]; rfl
theorem transfer_text {h : Hd} (hk : HOk h) : allTo (textFs h) ⟨bTransfer.toArray⟩ (textFs h).length = [] := by
  rw [all_filter]
  have hl : ((lenFs h.body.data.toList).filter fun f => f.1 = (⟨bTransfer.toArray⟩ : ByteArray)) = [] := by
    refine filter_none fun f hf => ?_
    unfold lenFs at hf
    split at hf
    · cases hf
    · have : f = (⟨bLength.toArray⟩, ⟨(Lib.decDigits h.body.data.toList.length).toArray⟩) := by simpa using hf
      subst this
      rw [mk_inj]; decide
  unfold textFs
  rw [List.filter_cons_of_neg (by simp only [decide_eq_true_eq]; rw [mk_inj]; decide), List.filter_append, filter_own hk _ (.inr (.inr rfl)), hl]; rfl
theorem length_text {h : Hd} (hk : HOk h) : allTo (textFs h) ⟨bLength.toArray⟩ (textFs h).length = (lenFs h.body.data.toList).map (·.2) := by
  rw [all_filter]
  have hl : ((lenFs h.body.data.toList).filter fun f => f.1 = (⟨bLength.toArray⟩ : ByteArray)) = lenFs h.body.data.toList := by
    unfold lenFs
    split
    · rfl
    · simp
  unfold textFs
  rw [List.filter_cons_of_neg (by simp only [decide_eq_true_eq]; rw [mk_inj]; decide), List.filter_append, filter_own hk _ (.inr (.inl rfl)), hl]; rfl
theorem others_text {h : Hd} (hk : HOk h) : othersL (textFs h) = h.fs := by
  have h1 : othersL h.fs = h.fs := by
    unfold othersL
    rw [List.filter_eq_self]
    intro f hf
    simp [(hk.fs f hf).2]
  have h2 : othersL (lenFs h.body.data.toList) = [] := by
    unfold othersL
    rw [List.filter_eq_nil_iff]
    intro f hf
    unfold lenFs at hf
    split at hf
    · cases hf
    · have : f = (⟨bLength.toArray⟩, ⟨(Lib.decDigits h.body.data.toList.length).toArray⟩) := by simpa using hf
      subst this
      simp [show ownB bLength = true from by decide]
  have e : othersL (textFs h) = othersL h.fs ++ othersL (lenFs h.body.data.toList) := by
    unfold othersL textFs
    rw [List.filter_cons_of_neg (by simp [show ownB bHost = true from by decide]), List.filter_append]
  rw [e, h1, h2, List.append_nil]
theorem size_text {h : Hd} (hk : HOk h) : sizeL h.verb.data.toList (textFs h) = some h.body.data.toList.length := by
  unfold sizeL
  rw [transfer_text hk, length_text hk, if_neg (by simp)]
  unfold lenFs
  by_cases hb : h.body.data.toList = []
  · rw [if_pos hb, hb]; rfl
  · rw [if_neg hb]
    have hn := numR_dec h.body.data.toList.length (by have := (body_len hk).1; omega)
    simp only [List.map_cons, List.map_nil]
    rw [hn, if_pos ⟨rfl, (body_len hk).1, .inr (hk.put.resolve_left hb)⟩]

theorem whole_text {h : Hd} (hk : HOk h) : wholeL (hedLines h) = some (⟨h.verb, h.target, h.host, h.fs, ⟨#[]⟩⟩, h.body.data.toList.length) := by
  have e1 : hedLines h = (h.verb.data.toList ++ 32 :: h.target.data.toList) :: tailLines h := rfl
  rw [e1]
  unfold wholeL
  simp only [first_text hk, fields_text hk, host_text hk, oneOf]
  rw [host_id hk.host, if_pos ⟨hk.host, .inl trivial, by rw [others_text hk]; exact hk.many⟩, size_text hk, others_text hk]
  simp only [Option.map_some, ba_mk]

theorem hed_lines {h : Hd} (hk : HOk h) : (∀ l ∈ hedLines h, l ≠ [] ∧ (10 : UInt8) ∉ l) ∧ (hedLines h).length ≤ 9 := by
  have e1 : hedLines h = (h.verb.data.toList ++ 32 :: h.target.data.toList) :: tailLines h := rfl
  rw [e1]
  refine ⟨fun l hl => ?_, by have := tail_len hk; simp; omega⟩
  rcases List.mem_cons.1 hl with rfl | hl
  · refine ⟨by simp, fun hb => ?_⟩
    rcases List.mem_append.1 hb with hb | hb
    · exact (verb_bytes hk.verb).2.1 hb
    · rcases List.mem_cons.1 hb with hb | hb
      · exact absurd hb (by decide)
      · exact ((canon_bytes hk.target).2 10 hb).1 rfl
  · obtain ⟨h1, h2, _⟩ := (tail_lines hk).1 l hl
    exact ⟨h1, h2⟩

/-- A request's text is read as it, whatever stands behind it. -/
theorem read_write {h : Hd} (hb : hedB h = true) (t : List UInt8) : readL (hedT h ++ t) = (h, (hedT h).length, 1) := by
  have hk := hedB_iff.1 hb
  obtain ⟨h1, h2⟩ := hed_lines hk
  have hlen := hk.len
  have hT : (headT h).length = (joinL (hedLines h)).length + 1 := by simp [headT]
  have e0 : hedT h ++ t = joinL (hedLines h) ++ 10 :: (h.body.data.toList ++ t) := by simp [hedT, headT]
  have hl := lines_mk (hedLines h) 302 (h.body.data.toList ++ t) 0 (by omega) (by omega) h1
  have hd : (hedT h ++ t).drop (headT h).length = h.body.data.toList ++ t := by
    unfold hedT
    rw [List.append_assoc, List.drop_left]
  unfold readL
  rw [e0, hl]
  simp only [Nat.zero_add]
  rw [← hT, if_neg (by omega), if_neg (by simp), whole_text hk]
  simp only
  rw [← e0, hd, List.take_left, ba_mk, if_neg (by simp [hedT]), if_pos hb]
  simp [hedT]
end Go.Proofs.YtncegikmpapldaaGreatDoor

-- from XHstW
/- Walks: hosts, verbs, names of a request's own, bodies, by the specification. -/
namespace Go.Proofs.YtncegikmpapldaaGreatDoor
open Go.RowKit

set_option maxHeartbeats 400000 in
theorem l4_verb (s : ByteArray) (w : World) :
    Calls Tryz.prog 72 #[.string s] w fun e w' => e = .returned (.bool (verbB s.data.toList)) ∧ w = w' := by
  have he : verbB s.data.toList = (s.toList == [103, 101, 116] || s.toList == [112, 117, 116] || s.toList == [112, 117, 114, 103, 101]) := by rw [Lib.toList_data]; rfl
  have HE := Lib.hid he; clear he
  go_enter Tryz.func72, Tryz.ntmps72
  go_wp2
  all_goals go_ret
  all_goals (refine ⟨?_, rfl⟩; rw [HE.out])
  · rename_i h; rw [h]; rfl
  · rename_i h1 h; rw [h]; rfl
  · rfl

set_option maxHeartbeats 400000 in
theorem l4_own (s : ByteArray) (w : World) :
    Calls Tryz.prog 75 #[.string s] w fun e w' => e = .returned (.bool (ownB s.data.toList)) ∧ w = w' := by
  have he : ownB s.data.toList = (s.toList == [104, 111, 115, 116] || s.toList == [108, 101, 110, 103, 116, 104] || s.toList == [116, 114, 97, 110, 115, 102, 101, 114]) := by rw [Lib.toList_data]; rfl
  have HE := Lib.hid he; clear he
  go_enter Tryz.func75, Tryz.ntmps75
  go_wp2
  all_goals go_ret
  all_goals (refine ⟨?_, rfl⟩; rw [HE.out])
  · rename_i h; rw [h]; rfl
  · rename_i h1 h; rw [h]; rfl
  · rfl

/-- No part is longer than the text. -/
theorem parts_le {c : UInt8} : ∀ {l p : List UInt8}, p ∈ partsL l c → p.length ≤ l.length := by
  intro l
  induction l with
  | nil => intro p h; have : p = [] := by simpa [partsL] using h
           subst this; exact Nat.le_refl _
  | cons x l ih =>
    intro p h
    have e1 : partsL (x :: l) c = if x = c then [] :: partsL l c else match partsL l c with
      | [] => [[x]]
      | p :: ps => (x :: p) :: ps := rfl
    rw [e1] at h
    by_cases hx : x = c
    · rw [if_pos hx] at h
      rcases List.mem_cons.1 h with rfl | h
      · simp
      · have := ih h; simp; omega
    · rw [if_neg hx] at h
      cases hp : partsL l c with
      | nil => exact absurd hp (partsL_ne l c)
      | cons q qs =>
        rw [hp] at h
        dsimp only at h
        rcases List.mem_cons.1 h with rfl | h
        · have := ih (p := q) (by rw [hp]; exact List.mem_cons_self ..); simp; omega
        · have := ih (p := p) (by rw [hp]; exact List.mem_cons_of_mem _ h); simp; omega

set_option maxHeartbeats 3200000 in
theorem spec_host (s : ByteArray) (w : World) (hs : s.size ≤ 1048576) :
    Calls Tryz.prog 71 #[.string s] w fun e w' => e = .returned (.tuple #[.string (hostR s.data.toList).1, .bool (hostR s.data.toList).2]) ∧ Below w.heap.size w w' := by
  have hL := fun W => spec_lower s W hs
  have hlen : (lowL s.data.toList).length = s.size := by rw [low_len, size_len]
  have hR : hostR s.data.toList = if hostB (stripL (lowL s.data.toList)) = true then (⟨(stripL (lowL s.data.toList)).toArray⟩, true) else (⟨#[]⟩, false) := rfl
  generalize lowL s.data.toList = t at *
  unfold strV at hL
  have hstrip : stripL t = if 3 < s.size ∧ t.drop (s.size - 3) = [58, 56, 48] then t.take (s.size - 3) else t := by unfold stripL; rw [hlen]
  have hts : (ByteArray.mk t.toArray).size = s.size := by rw [size_len]; simpa using hlen
  have hdr : (ByteArray.mk t.toArray).extract (s.size - 3) s.size = ⟨(t.drop (s.size - 3)).toArray⟩ := by
    have := ext_drop (ByteArray.mk t.toArray) (s.size - 3)
    rw [hts] at this
    rw [this]
  have htk : (ByteArray.mk t.toArray).extract 0 (s.size - 3) = ⟨(t.take (s.size - 3)).toArray⟩ := by
    rw [ext_take]
  obtain ⟨X, hX⟩ : ∃ X : ByteArray, X = ⟨(stripL t).toArray⟩ := ⟨_, rfl⟩
  have hXl : X.data.toList = stripL t := by rw [hX]
  have HX := Lib.hid hX; have HXl := Lib.hid hXl
  have hXs : X.size ≤ 1048576 := by
    rw [size_len, hXl, hstrip]
    split
    · rw [List.length_take]; omega
    · omega
  by_cases h3 : 3 < s.size
  · by_cases hd : t.drop (s.size - 3) = [58, 56, 48]
    · rw [if_pos ⟨h3, hd⟩] at hstrip
      have hy : (ByteArray.mk t.toArray).extract 0 (s.size - 3) = X := by rw [htk, hX, hstrip]
      have he : (((ByteArray.mk t.toArray).extract (s.size - 3) s.size).toList == [58, 56, 48]) = true := by rw [hdr, Lib.toList_data]; simp [hd]
      have i1 : (3 : Int) < (s.size : Int) := by omega
      clear hdr htk hd hstrip
      generalize (ByteArray.mk t.toArray) = T at *
      have HY := Lib.hid hy; clear hy
      clear hX hXl
      go_enter Tryz.func71, Tryz.ntmps71
      go_wp2_with fail
      refine (hL _).mono ?_
      rintro e w1 ⟨rfl, hb1⟩
      go_wp2_with fail
      rw [HY.out]
      refine (spec_parts X 46 _ hXs).mono ?_
      rintro e w2 ⟨v, rfl, ho, hb2⟩

      have hSl : (stripL t).length = X.size := by rw [size_len, HXl.out]
      have ho' := ho
      rw [HXl.out] at ho
      have hne := partsL_ne (stripL t) 46
      have hpos : 0 < (partsL (stripL t) 46).length := by
        cases hp : partsL (stripL t) 46 with
        | nil => exact absurd hp hne
        | cons => simp
      obtain ⟨g, cap, rfl⟩ := own_form ho hpos
      have hplen := partsL_len (stripL t) 46
      have hcell : ∀ j p, (partsL (stripL t) 46)[j]? = some p → w2.cell? ⟨g, j, none⟩ = some (.string ⟨p.toArray⟩) := fun j p hj => own_cell ho (by rw [List.getElem?_map, hj]; rfl)
      have hgl := (ho.lt g rfl).2
      have hplB : ∀ p ∈ partsL (stripL t) 46, p.length ≤ (stripL t).length := fun p hp => parts_le hp
      have HCell := Lib.hid hcell; have HPl := Lib.hid hplB
      have hbel := hb1.trans (hb2.mono hb1.size)
      have HBel := Lib.hid hbel
      have hhb : hostB (stripL t) = (decide ((stripL t).length ≤ 20) && (partsL (stripL t) 46).all tokB) := rfl
      have HH := Lib.hid hhb
      clear ho ho' hcell hplB hne hb1 hb2 hbel hhb hL
      generalize hPs : partsL (stripL t) 46 = Ps at *
      have HPs := Lib.hid hPs
      clear hPs
      by_cases h20 : X.size ≤ 20
      · go_wp2_with fail
        go_loopw [6] (fun i wr => ∃ k : Nat, k ≤ Ps.length ∧ i = .int .i64 k ∧ (Ps.take k).all tokB = true ∧ wr = w2) (fun i _ => Ps.length - (intOf i).toNat)
        case atStart => exact ⟨0, Nat.zero_le _, rfl, by simp, rfl⟩
        case round =>
          obtain ⟨k, hk, rfl, hall, rfl⟩ := hrel
          by_cases hlt : k < Ps.length
          · have hgk : Ps[k]? = some Ps[k] := List.getElem?_eq_getElem hlt
            have c0 := HCell.out k _ hgk
            have hpk := HPl.out Ps[k] (List.getElem_mem hlt)
            have htk : Ps.take (k + 1) = Ps.take k ++ [Ps[k]] := by rw [List.take_add_one, hgk]; rfl
            have hmem : Ps[k] ∈ Ps := List.getElem_mem hlt
            generalize Ps[k] = p at *
            have hT := fun W => spec_tok ⟨p.toArray⟩ W (by unfold maxLen; rw [size_len]; simp only; omega)
            have hpl : (ByteArray.mk p.toArray).data.toList = p := by simp
            rw [hpl] at hT
            have HTk := Lib.hid htk
            clear htk hpl hgk
            cases htp : tokB p
            · rw [htp] at hT
              have hf : hostB (stripL t) = false := by
                rw [HH.out]
                have : Ps.all tokB = false := by
                  rw [Bool.eq_false_iff]; intro h
                  rw [List.all_eq_true] at h
                  rw [h p hmem] at htp; cases htp
                rw [this, Bool.and_false]
              rw [hf] at hR
              have HF := Lib.hid hR
              clear hf htp hmem hR
              go_wp2_with fail
              refine (hT _).mono ?_
              rintro e w3 ⟨rfl, rfl⟩
              go_wp2
              go_ret2
              rw [HF.out]
              exact ⟨rfl, HBel.out⟩
            · rw [htp] at hT
              have hall' : (Ps.take (k + 1)).all tokB = true := by rw [HTk.out, List.all_append, hall]; simp [htp]
              have HA := Lib.hid hall'
              clear hall' htp hmem hall
              go_wp2_with fail
              refine (hT _).mono ?_
              rintro e w3 ⟨rfl, rfl⟩
              go_wp2
              go_roundw
              case rel => exact ⟨k + 1, by omega, by go_num, HA.out, trivial⟩
              case measure => simp [intOf]; omega
          · have hkn : k = Ps.length := by omega
            subst hkn
            rw [List.take_of_length_le (Nat.le_refl _)] at hall
            have hf : hostB (stripL t) = true := by
              rw [HH.out, hall, Bool.and_true, decide_eq_true_eq, ← HXl.out, ← size_len]; exact h20
            rw [hf, if_pos rfl, ← HX.out] at hR
            have HF := Lib.hid hR
            clear hf hR hall
            go_wp2
            go_ret2
            rw [HF.out]
            exact ⟨rfl, HBel.out⟩
      · have hf : hostB (stripL t) = false := by
          rw [HH.out, decide_eq_false (by rw [← HXl.out, ← size_len]; exact h20), Bool.false_and]
        rw [hf] at hR
        have HF := Lib.hid hR
        clear hf hR
        go_wp2
        go_ret2
        rw [HF.out]
        exact ⟨rfl, HBel.out⟩
    · rw [if_neg (fun h => hd h.2)] at hstrip
      have hy : X = (ByteArray.mk t.toArray) := by rw [hX, hstrip]
      have he : (((ByteArray.mk t.toArray).extract (s.size - 3) s.size).toList == [58, 56, 48]) = false := by rw [hdr, Lib.toList_data]; simpa using hd
      have i1 : (3 : Int) < (s.size : Int) := by omega
      clear hdr htk hd hstrip
      generalize (ByteArray.mk t.toArray) = T at *
      subst hy
      clear hX hXl
      go_enter Tryz.func71, Tryz.ntmps71
      go_wp2_with fail
      refine (hL _).mono ?_
      rintro e w1 ⟨rfl, hb1⟩
      go_wp2_with fail
      refine (spec_parts X 46 _ hXs).mono ?_
      rintro e w2 ⟨v, rfl, ho, hb2⟩

      have hSl : (stripL t).length = X.size := by rw [size_len, HXl.out]
      have ho' := ho
      rw [HXl.out] at ho
      have hne := partsL_ne (stripL t) 46
      have hpos : 0 < (partsL (stripL t) 46).length := by
        cases hp : partsL (stripL t) 46 with
        | nil => exact absurd hp hne
        | cons => simp
      obtain ⟨g, cap, rfl⟩ := own_form ho hpos
      have hplen := partsL_len (stripL t) 46
      have hcell : ∀ j p, (partsL (stripL t) 46)[j]? = some p → w2.cell? ⟨g, j, none⟩ = some (.string ⟨p.toArray⟩) := fun j p hj => own_cell ho (by rw [List.getElem?_map, hj]; rfl)
      have hgl := (ho.lt g rfl).2
      have hplB : ∀ p ∈ partsL (stripL t) 46, p.length ≤ (stripL t).length := fun p hp => parts_le hp
      have HCell := Lib.hid hcell; have HPl := Lib.hid hplB
      have hbel := hb1.trans (hb2.mono hb1.size)
      have HBel := Lib.hid hbel
      have hhb : hostB (stripL t) = (decide ((stripL t).length ≤ 20) && (partsL (stripL t) 46).all tokB) := rfl
      have HH := Lib.hid hhb
      clear ho ho' hcell hplB hne hb1 hb2 hbel hhb hL
      generalize hPs : partsL (stripL t) 46 = Ps at *
      have HPs := Lib.hid hPs
      clear hPs
      by_cases h20 : X.size ≤ 20
      · go_wp2_with fail
        go_loopw [6] (fun i wr => ∃ k : Nat, k ≤ Ps.length ∧ i = .int .i64 k ∧ (Ps.take k).all tokB = true ∧ wr = w2) (fun i _ => Ps.length - (intOf i).toNat)
        case atStart => exact ⟨0, Nat.zero_le _, rfl, by simp, rfl⟩
        case round =>
          obtain ⟨k, hk, rfl, hall, rfl⟩ := hrel
          by_cases hlt : k < Ps.length
          · have hgk : Ps[k]? = some Ps[k] := List.getElem?_eq_getElem hlt
            have c0 := HCell.out k _ hgk
            have hpk := HPl.out Ps[k] (List.getElem_mem hlt)
            have htk : Ps.take (k + 1) = Ps.take k ++ [Ps[k]] := by rw [List.take_add_one, hgk]; rfl
            have hmem : Ps[k] ∈ Ps := List.getElem_mem hlt
            generalize Ps[k] = p at *
            have hT := fun W => spec_tok ⟨p.toArray⟩ W (by unfold maxLen; rw [size_len]; simp only; omega)
            have hpl : (ByteArray.mk p.toArray).data.toList = p := by simp
            rw [hpl] at hT
            have HTk := Lib.hid htk
            clear htk hpl hgk
            cases htp : tokB p
            · rw [htp] at hT
              have hf : hostB (stripL t) = false := by
                rw [HH.out]
                have : Ps.all tokB = false := by
                  rw [Bool.eq_false_iff]; intro h
                  rw [List.all_eq_true] at h
                  rw [h p hmem] at htp; cases htp
                rw [this, Bool.and_false]
              rw [hf] at hR
              have HF := Lib.hid hR
              clear hf htp hmem hR
              go_wp2_with fail
              refine (hT _).mono ?_
              rintro e w3 ⟨rfl, rfl⟩
              go_wp2
              go_ret2
              rw [HF.out]
              exact ⟨rfl, HBel.out⟩
            · rw [htp] at hT
              have hall' : (Ps.take (k + 1)).all tokB = true := by rw [HTk.out, List.all_append, hall]; simp [htp]
              have HA := Lib.hid hall'
              clear hall' htp hmem hall
              go_wp2_with fail
              refine (hT _).mono ?_
              rintro e w3 ⟨rfl, rfl⟩
              go_wp2
              go_roundw
              case rel => exact ⟨k + 1, by omega, by go_num, HA.out, trivial⟩
              case measure => simp [intOf]; omega
          · have hkn : k = Ps.length := by omega
            subst hkn
            rw [List.take_of_length_le (Nat.le_refl _)] at hall
            have hf : hostB (stripL t) = true := by
              rw [HH.out, hall, Bool.and_true, decide_eq_true_eq, ← HXl.out, ← size_len]; exact h20
            rw [hf, if_pos rfl, ← HX.out] at hR
            have HF := Lib.hid hR
            clear hf hR hall
            go_wp2
            go_ret2
            rw [HF.out]
            exact ⟨rfl, HBel.out⟩
      · have hf : hostB (stripL t) = false := by
          rw [HH.out, decide_eq_false (by rw [← HXl.out, ← size_len]; exact h20), Bool.false_and]
        rw [hf] at hR
        have HF := Lib.hid hR
        clear hf hR
        go_wp2
        go_ret2
        rw [HF.out]
        exact ⟨rfl, HBel.out⟩
  · rw [if_neg (fun h => h3 h.1)] at hstrip
    have hy : X = (ByteArray.mk t.toArray) := by rw [hX, hstrip]
    have i1 : ¬ (3 : Int) < (s.size : Int) := by omega
    clear hdr htk hstrip
    generalize (ByteArray.mk t.toArray) = T at *
    subst hy
    clear hX hXl
    go_enter Tryz.func71, Tryz.ntmps71
    go_wp2_with fail
    refine (hL _).mono ?_
    rintro e w1 ⟨rfl, hb1⟩
    go_wp2_with fail
    refine (spec_parts X 46 _ hXs).mono ?_
    rintro e w2 ⟨v, rfl, ho, hb2⟩

    have hSl : (stripL t).length = X.size := by rw [size_len, HXl.out]
    have ho' := ho
    rw [HXl.out] at ho
    have hne := partsL_ne (stripL t) 46
    have hpos : 0 < (partsL (stripL t) 46).length := by
      cases hp : partsL (stripL t) 46 with
      | nil => exact absurd hp hne
      | cons => simp
    obtain ⟨g, cap, rfl⟩ := own_form ho hpos
    have hplen := partsL_len (stripL t) 46
    have hcell : ∀ j p, (partsL (stripL t) 46)[j]? = some p → w2.cell? ⟨g, j, none⟩ = some (.string ⟨p.toArray⟩) := fun j p hj => own_cell ho (by rw [List.getElem?_map, hj]; rfl)
    have hgl := (ho.lt g rfl).2
    have hplB : ∀ p ∈ partsL (stripL t) 46, p.length ≤ (stripL t).length := fun p hp => parts_le hp
    have HCell := Lib.hid hcell; have HPl := Lib.hid hplB
    have hbel := hb1.trans (hb2.mono hb1.size)
    have HBel := Lib.hid hbel
    have hhb : hostB (stripL t) = (decide ((stripL t).length ≤ 20) && (partsL (stripL t) 46).all tokB) := rfl
    have HH := Lib.hid hhb
    clear ho ho' hcell hplB hne hb1 hb2 hbel hhb hL
    generalize hPs : partsL (stripL t) 46 = Ps at *
    have HPs := Lib.hid hPs
    clear hPs
    by_cases h20 : X.size ≤ 20
    · go_wp2_with fail
      go_loopw [6] (fun i wr => ∃ k : Nat, k ≤ Ps.length ∧ i = .int .i64 k ∧ (Ps.take k).all tokB = true ∧ wr = w2) (fun i _ => Ps.length - (intOf i).toNat)
      case atStart => exact ⟨0, Nat.zero_le _, rfl, by simp, rfl⟩
      case round =>
        obtain ⟨k, hk, rfl, hall, rfl⟩ := hrel
        by_cases hlt : k < Ps.length
        · have hgk : Ps[k]? = some Ps[k] := List.getElem?_eq_getElem hlt
          have c0 := HCell.out k _ hgk
          have hpk := HPl.out Ps[k] (List.getElem_mem hlt)
          have htk : Ps.take (k + 1) = Ps.take k ++ [Ps[k]] := by rw [List.take_add_one, hgk]; rfl
          have hmem : Ps[k] ∈ Ps := List.getElem_mem hlt
          generalize Ps[k] = p at *
          have hT := fun W => spec_tok ⟨p.toArray⟩ W (by unfold maxLen; rw [size_len]; simp only; omega)
          have hpl : (ByteArray.mk p.toArray).data.toList = p := by simp
          rw [hpl] at hT
          have HTk := Lib.hid htk
          clear htk hpl hgk
          cases htp : tokB p
          · rw [htp] at hT
            have hf : hostB (stripL t) = false := by
              rw [HH.out]
              have : Ps.all tokB = false := by
                rw [Bool.eq_false_iff]; intro h
                rw [List.all_eq_true] at h
                rw [h p hmem] at htp; cases htp
              rw [this, Bool.and_false]
            rw [hf] at hR
            have HF := Lib.hid hR
            clear hf htp hmem hR
            go_wp2_with fail
            refine (hT _).mono ?_
            rintro e w3 ⟨rfl, rfl⟩
            go_wp2
            go_ret2
            rw [HF.out]
            exact ⟨rfl, HBel.out⟩
          · rw [htp] at hT
            have hall' : (Ps.take (k + 1)).all tokB = true := by rw [HTk.out, List.all_append, hall]; simp [htp]
            have HA := Lib.hid hall'
            clear hall' htp hmem hall
            go_wp2_with fail
            refine (hT _).mono ?_
            rintro e w3 ⟨rfl, rfl⟩
            go_wp2
            go_roundw
            case rel => exact ⟨k + 1, by omega, by go_num, HA.out, trivial⟩
            case measure => simp [intOf]; omega
        · have hkn : k = Ps.length := by omega
          subst hkn
          rw [List.take_of_length_le (Nat.le_refl _)] at hall
          have hf : hostB (stripL t) = true := by
            rw [HH.out, hall, Bool.and_true, decide_eq_true_eq, ← HXl.out, ← size_len]; exact h20
          rw [hf, if_pos rfl, ← HX.out] at hR
          have HF := Lib.hid hR
          clear hf hR hall
          go_wp2
          go_ret2
          rw [HF.out]
          exact ⟨rfl, HBel.out⟩
    · exact absurd (by omega) h20
end Go.Proofs.YtncegikmpapldaaGreatDoor

-- from XHedW
/- Walks: a request's text, and whether a request is ok, by the specification. -/
namespace Go.Proofs.YtncegikmpapldaaGreatDoor
open Go.RowKit

/-- The lines ahead of a request's fields. -/
def preL (h : Hd) : List UInt8 := h.verb.data.toList ++ 32 :: h.target.data.toList ++ [10] ++ bHost ++ 58 :: 32 :: h.host.data.toList ++ [10]
def fsL (fs : List Fd) : List UInt8 := joinL (fs.map fun f => (fdT f).data.toList)
theorem fsL_snoc (fs : List Fd) (f : Fd) : fsL (fs ++ [f]) = fsL fs ++ ((fdT f).data.toList ++ [10]) := by simp [fsL, joinL]
theorem fdT_len (f : Fd) : (fdT f).size ≤ 44 := by
  obtain ⟨a, b⟩ := f
  unfold fdT
  by_cases h : fdB (a, b) = true
  · rw [if_pos h]
    have := fdB_len h
    simp only [ByteArray.size_append]
    have e : (ByteArray.mk #[58, 32]).size = 2 := rfl
    omega
  · rw [if_neg h]; decide
theorem hedT_pre (h : Hd) : hedT h = preL h ++ fsL h.fs ++ (joinL (lenLines h.body.data.toList) ++ 10 :: h.body.data.toList) := by
  simp [hedT, headT, hedLines, preL, fsL, joinL]

set_option maxHeartbeats 1600000 in
theorem spec_write (h : Hd) (v : Value) (w : World) (hv : FRow w v h.fs) (hn : h.fs.length ≤ 2000000) (hok : FOk h.fs maxLen)
    (b1 : h.verb.size ≤ 2000000) (b2 : h.target.size ≤ 2000000) (b3 : h.host.size ≤ 2000000) (b4 : h.body.size ≤ 2000000) :
    Calls Tryz.prog 76 #[.agg #[.string h.verb, .string h.target, .string h.host, v, .string h.body]] w fun e w' => e = .returned (.string ⟨(hedT h).toArray⟩) ∧ Below w.heap.size w w' := by
  have he := hedT_pre h
  have hp : (preL h).length = h.verb.size + h.target.size + h.host.size + 9 := by
    rw [size_len, size_len, size_len]; simp only [preL, bHost, List.length_append, List.length_cons, List.length_nil]; omega
  have hpre : preL h = h.verb.data.toList ++ 32 :: h.target.data.toList ++ [10] ++ bHost ++ 58 :: 32 :: h.host.data.toList ++ [10] := rfl
  have hll : lenLines h.body.data.toList = if h.body.data.toList = [] then [] else [bLength ++ 58 :: 32 :: Lib.decDigits h.body.data.toList.length] := rfl
  obtain ⟨verb, target, host, fs, body⟩ := h
  dsimp only at *
  generalize preL ⟨verb, target, host, fs, body⟩ = pre at *
  generalize hedT ⟨verb, target, host, fs, body⟩ = full at *
  obtain ⟨a, c, rfl, h1, h2, h3⟩ := hv
  unfold maxLen at h2
  have H3 := Lib.hid h3; clear h3
  have HE := Lib.hid he; clear he
  have HPre := Lib.hid hpre; clear hpre
  have HL := Lib.hid hll; clear hll
  have HOk := Lib.hid hok; clear hok
  go_enter Tryz.func76, Tryz.ntmps76
  go_wp2_with fail
  generalize hO : Obj.cells #[.string verb, .string target, .string host, .slice a fs.length c, .string body] 40 = O
  have q3 : (w.alloc O).cell? ⟨w.heap.size, 3, none⟩ = some (.slice a fs.length c) := by rw [← hO, World.cell?_alloc_at _ _ _ _ rfl]; rfl
  have q4 : (w.alloc O).cell? ⟨w.heap.size, 4, none⟩ = some (.string body) := by rw [← hO, World.cell?_alloc_at _ _ _ _ rfl]; rfl
  have hsz : (w.alloc O).heap.size = w.heap.size + 1 := by simp
  have hbA : Below w.heap.size w (w.alloc O) := (Below.refl _ _).alloc (Nat.le_refl _) O
  clear hO
  obtain ⟨X0, hX0⟩ : ∃ X0, X0 = verb ++ { data := #[32] } ++ target ++ { data := #[10, 104, 111, 115, 116, 58, 32] } ++ host ++ { data := #[10] } := ⟨_, rfl⟩
  rw [← hX0]
  have hX : X0.data.toList = pre := by rw [HPre.out, hX0]; simp [bHost]
  have hXs : X0.size ≤ 8000000 := by rw [size_len, hX]; omega
  have HX := Lib.hid hX; clear hX hX0
  generalize (w.alloc O) = wA at *
  go_loopw [3, 4] (fun x i wr => ∃ (k : Nat) (X : ByteArray), k ≤ fs.length ∧ i = .int .i64 k ∧ x = .string X ∧ X.data.toList = pre ++ fsL (fs.take k) ∧ X.size ≤ 8000000 + 45 * k ∧ Below (w.heap.size + 1) wA wr) (fun _ i _ => fs.length - (intOf i).toNat)
  case atStart => exact ⟨0, X0, Nat.zero_le _, rfl, rfl, by rw [HX.out]; simp [fsL, joinL], hXs, Below.refl _ _⟩
  case round =>
    obtain ⟨k, X, hk, rfl, rfl, hXk, hXsz, hbr⟩ := hrel
    have r3 := (hbr.cell (p := ⟨w.heap.size, 3, none⟩) (by simp)).trans q3
    have r4 := (hbr.cell (p := ⟨w.heap.size, 4, none⟩) (by simp)).trans q4
    have HXk := Lib.hid hXk; clear hXk
    have hbw := hbA.trans (hbr.mono (Nat.le_succ _))
    have hwr : w.heap.size + 1 ≤ wr.heap.size := by have := hbr.size; omega
    by_cases hlt : k < fs.length
    · obtain ⟨b1, o1, rfl, hb1, c1, c2⟩ := H3.out k fs[k] (List.getElem?_eq_getElem hlt)
      have k1 := (hbw.cell (p := ⟨b1, o1 + k * 2, none⟩) hb1).trans c1
      have k2 := (hbw.cell (p := ⟨b1, o1 + k * 2 + 1, none⟩) hb1).trans c2
      have hok := HOk.out fs[k] (List.getElem_mem hlt)
      have hsn : fs.take (k + 1) = fs.take k ++ [fs[k]] := by rw [List.take_add_one, List.getElem?_eq_getElem hlt]; rfl
      have HSn := Lib.hid hsn; clear hsn
      clear c1 c2
      generalize fs[k] = f at *
      obtain ⟨nm, vl⟩ := f
      dsimp only at k1 k2 hok
      have hT := fun W => spec_text nm vl W hok.1 hok.2
      have hTl := fdT_len (nm, vl)
      generalize hF : fdT (nm, vl) = F at *
      have HF := Lib.hid hF; clear hF
      go_wp2_with fail
      refine (hT _).mono ?_
      rintro e w2 ⟨rfl, hb2⟩
      go_wp2
      go_roundw
      case rel =>
        refine ⟨k + 1, _, by omega, by go_num, rfl, ?_, ?_, hbr.trans (hb2.mono hwr)⟩
        · rw [HSn.out, fsL_snoc, HF.out]; simp [HXk.out]
        · simp only [ByteArray.size_append]; have e : (ByteArray.mk #[10]).size = 1 := rfl; omega
      case measure => simp [intOf]; omega
    · have hkn : k = fs.length := by omega
      subst hkn
      rw [List.take_length] at HXk
      by_cases hb : body.data.toList = []
      · have he : (body.toList == []) = true := by rw [Lib.toList_data, hb]; rfl
        have hl := HL.out
        rw [if_pos hb] at hl
        have HB := Lib.hid hb; have HL2 := Lib.hid hl
        clear hb hl
        go_wp2
        go_ret
        refine ⟨congrArg (fun s => Ending.returned (Value.string s)) ?_, hbw⟩
        rw [HE.out, HL2.out]
        refine str_inj2 ?_
        simp [HXk.out, joinL]
      · have he : (body.toList == []) = false := by rw [Lib.toList_data]; simpa using hb
        have hl := HL.out
        rw [if_neg hb] at hl
        have HB := Lib.hid hb; have HL2 := Lib.hid hl
        have hbs : body.data.toList.length = body.size := (size_len body).symm
        rw [hbs] at HL2
        have hP := fun W => plain_any body.size W (by omega)
        have hdl := dec_len_le 7 body.size (by omega)
        have hds : (ByteArray.mk (Lib.decDigits body.size).toArray).size ≤ 8 := by rw [size_len]; simpa using hdl
        unfold strV at hP
        clear hb hl hbs hdl
        have hdd : (ByteArray.mk (Lib.decDigits body.size).toArray).data.toList = Lib.decDigits body.size := by simp
        have HDD := Lib.hid hdd; clear hdd
        generalize (ByteArray.mk (Lib.decDigits body.size).toArray) = D at *
        go_wp2_with fail
        refine (hP _).mono ?_
        rintro e w2 ⟨rfl, hb2⟩
        have s4 := (hb2.cell (p := ⟨w.heap.size, 4, none⟩) (by simp; omega)).trans r4
        go_wp2
        go_ret
        refine ⟨congrArg (fun s => Ending.returned (Value.string s)) ?_, hbw.trans (hb2.mono hbw.size)⟩
        rw [HE.out, HL2.out]
        refine str_inj2 ?_
        simp [HXk.out, HDD.out, joinL, bLength]
end Go.Proofs.YtncegikmpapldaaGreatDoor

-- from XHedL
/- A request's cells, read at once. -/
namespace Go.Proofs.YtncegikmpapldaaGreatDoor
open Go.RowKit

theorem Tryz.infoHed : (Tryz.prog.info? 40).map (fun i => (i.size, i.bytes)) = some (5, 88) := by kernel_rfl
theorem load_hed (w : World) (b : Nat) (v0 v1 v2 v3 v4 : Value) (t0 : w.cell? ⟨b, 0, none⟩ = some v0) (t1 : w.cell? ⟨b, 1, none⟩ = some v1) (t2 : w.cell? ⟨b, 2, none⟩ = some v2) (t3 : w.cell? ⟨b, 3, none⟩ = some v3) (t4 : w.cell? ⟨b, 4, none⟩ = some v4) :
    (loadVar 40 ⟨b, 0, none⟩).run Tryz.prog w = .ok (.agg #[v0, v1, v2, v3, v4]) w := by
  have hl := run_loadCells_list (P := Tryz.prog) w ⟨b, 0, none⟩ [v0, v1, v2, v3, v4] (fun j v hv => by
    match j with
    | 0 => simpa [Addr.add] using (by simpa using hv : v0 = v) ▸ t0
    | 1 => simpa [Addr.add] using (by simpa using hv : v1 = v) ▸ t1
    | 2 => simpa [Addr.add] using (by simpa using hv : v2 = v) ▸ t2
    | 3 => simpa [Addr.add] using (by simpa using hv : v3 = v) ▸ t3
    | 4 => simpa [Addr.add] using (by simpa using hv : v4 = v) ▸ t4
    | j + 5 => simp at hv)
  have hag : (isAgg 40).run Tryz.prog w = .ok true w := by
    simp [isAgg, run_underlying Tryz.underlying40]
  obtain ⟨i, hi, hs⟩ := Option.map_eq_some_iff.1 Tryz.infoHed
  have hz : i.size = 5 := by injection hs
  simp only [List.length_cons, List.length_nil] at hl
  simp [loadVar, Sem.run_bind, hag, sizeOf, typeInfo, hi, hz, hl]

theorem fsL_len (fs : List Fd) : (fsL fs).length ≤ 45 * fs.length := by
  induction fs with
  | nil => simp [fsL, joinL]
  | cons f fs ih =>
    have e : fsL (f :: fs) = (fdT f).data.toList ++ 10 :: fsL fs := by simp [fsL, joinL]
    have := fdT_len f
    rw [size_len] at this
    rw [e]
    simp only [List.length_append, List.length_cons]
    omega
theorem head_len (h : Hd) (hb : h.body.size ≤ 1048576) : (headT h).length ≤ h.verb.size + h.target.size + h.host.size + 45 * h.fs.length + 100 := by
  have e : (hedT h).length = (headT h).length + h.body.data.toList.length := by simp [hedT]
  have hp : (preL h).length = h.verb.size + h.target.size + h.host.size + 9 := by
    rw [size_len, size_len, size_len]; simp only [preL, bHost, List.length_append, List.length_cons, List.length_nil]; omega
  have hf := fsL_len h.fs
  have hl : (joinL (lenLines h.body.data.toList)).length ≤ 20 := by
    unfold lenLines
    split
    · simp [joinL]
    · have := dec_len_le 7 h.body.data.toList.length (by rw [← size_len]; omega)
      simp only [joinL, List.flatMap_cons, List.flatMap_nil, List.length_append, List.length_cons, List.length_nil, bLength]
      omega
  have e2 := congrArg List.length (hedT_pre h)
  simp only [List.length_append, List.length_cons] at e2
  omega

/-- As Below, whatever was drawn. -/
def BelowH (B : Nat) (w w' : World) : Prop := Below B w { w' with drawn := w.drawn }
theorem below_toH {B : Nat} {w w' : World} (h : Below B w w') : BelowH B w w' := ⟨h.os, h.tape, h.output, h.size, h.block⟩
theorem BelowH.out {B : Nat} {w w' : World} (h : BelowH B w w') : Below B w w' := ⟨h.os, h.tape, h.output, h.size, h.block⟩
/-- What stays of a request's cells. -/
def HedS (w : World) (fs : List Fd) (v : Value) (W : World) : Prop := FRow W v fs ∧ BelowH w.heap.size w W ∧ w.heap.size < W.heap.size
theorem HedS.next {w W W' : World} {fs : List Fd} {v : Value} (h : HedS w fs v W) (hb : Below W.heap.size W W') : HedS w fs v W' :=
  ⟨h.1.below (Nat.le_refl _) hb, below_toH (h.2.1.out.trans (hb.mono h.2.1.out.size)), Nat.lt_of_lt_of_le h.2.2 hb.size⟩
end Go.Proofs.YtncegikmpapldaaGreatDoor

-- from XHedO
/- Walks: whether a request is ok, by the specification. -/
namespace Go.Proofs.YtncegikmpapldaaGreatDoor
open Go.RowKit

theorem hed_no {h : Hd} (hk : ¬ HOk h) : hedB h = false := by
  rw [Bool.eq_false_iff]; exact fun e => hk (hedB_iff.1 e)

theorem can_parts (t : ByteArray) : ∃ (T : ByteArray) (ok : Bool), canV (canonL t.data.toList) = .tuple #[.string T, .bool ok] ∧ ((ok = true ∧ T = t) ↔ canonL t.data.toList = some t.data.toList) := by
  cases hc : canonL t.data.toList with
  | none => exact ⟨⟨#[]⟩, false, rfl, by simp⟩
  | some c =>
    refine ⟨⟨c.toArray⟩, true, rfl, ?_⟩
    constructor
    · rintro ⟨_, h⟩; rw [← h]
    · intro h; refine ⟨rfl, ?_⟩; rw [Option.some.inj h]
theorem host_parts (t : ByteArray) : ∃ (T : ByteArray) (ok : Bool), hostR t.data.toList = (T, ok) ∧ ((ok = true ∧ T = t) ↔ hostB t.data.toList = true) := by
  obtain ⟨T, ok, hr⟩ : ∃ T ok, hostR t.data.toList = (T, ok) := ⟨_, _, rfl⟩
  refine ⟨T, ok, hr, ?_⟩
  constructor
  · rintro ⟨rfl, rfl⟩; exact (hostR_yes hr).1
  · intro h
    rw [host_again h] at hr
    obtain ⟨h1, h2⟩ := Prod.mk.inj hr
    exact ⟨h2.symm, by rw [← h1]⟩

def fldsB (fs : List Fd) : Bool := fs.all fun f => fdB f && !ownB f.1.data.toList
theorem flds_at {fs : List Fd} {f : Fd} (hf : f ∈ fs) (h : fdB f = false ∨ ownB f.1.data.toList = true) : fldsB fs = false := by
  rw [Bool.eq_false_iff]; intro e
  unfold fldsB at e
  rw [List.all_eq_true] at e
  have := e f hf
  rcases h with h | h <;> simp [h] at this
theorem flds_snoc {fs : List Fd} {f : Fd} (h0 : fldsB fs = true) (h1 : fdB f = true) (h2 : ownB f.1.data.toList = false) : fldsB (fs ++ [f]) = true := by
  unfold fldsB at *
  rw [List.all_append, h0]
  simp [h1, h2]

set_option maxRecDepth 100000 in
set_option maxHeartbeats 6400000 in
theorem spec_hedok (h : Hd) (v : Value) (w : World) (hv : FRow w v h.fs) (hn : h.fs.length ≤ 2000000) (hok : FOk h.fs 2000000)
    (b1 : h.verb.size ≤ 1048576) (b2 : h.target.size ≤ 1048576) (b3 : h.host.size ≤ 1048576) (b4 : h.body.size ≤ 1048576) :
    Calls Tryz.prog 30 #[.agg #[.string h.verb, .string h.target, .string h.host, v, .string h.body]] w fun e w' => e = .returned (.bool (hedB h)) ∧ Below w.heap.size w w' := by
  have hW := fun W hV => spec_write h v W hV hn (fun f hf => ⟨Nat.le_trans (hok f hf).1 (by decide), Nat.le_trans (hok f hf).2 (by decide)⟩) (by omega) (by omega) (by omega) (by omega)
  have hno : ∀ P : Prop, (HOk h → P) → ¬ P → hedB h = false := fun P hp hn => hed_no fun hk => hn (hp hk)
  have hyes : ∀ H : HOk h, hedB h = true := fun H => hedB_iff.2 H
  have hlen : (hedT h).length = (headT h).length + h.body.size := by rw [size_len]; simp [hedT]
  have hU := fun W => spec_canon h.target W b2
  have hH := fun W => spec_host h.host W b3
  have hV := fun W => l4_verb h.verb W
  have hB := fun W => l4_body h.body W (by unfold maxLen; omega)
  obtain ⟨T, okT, hT, hTT⟩ := can_parts h.target
  obtain ⟨S, okS, hS, hSS⟩ := host_parts h.host
  rw [hT] at hU
  rw [hS] at hH
  clear hT hS
  dsimp only at hH
  have hv2 := hv
  obtain ⟨a, c, rfl, h1, h2, h3⟩ := hv
  unfold maxLen at h2
  have H3 := Lib.hid h3; clear h3
  have HNo := Lib.hid hno; clear hno
  have HYes := Lib.hid hyes; clear hyes
  have HW := Lib.hid hW; clear hW
  have HV2 := Lib.hid hv2; clear hv2
  have HTT := Lib.hid hTT; clear hTT
  have HSS := Lib.hid hSS; clear hSS
  have HFOk := Lib.hid hok; clear hok
  go_enter Tryz.func30, Tryz.ntmps30
  go_wp2_with fail
  generalize hO : Obj.cells #[.string h.verb, .string h.target, .string h.host, .slice a h.fs.length c, .string h.body] 40 = O
  have q0 : (w.alloc O).cell? ⟨w.heap.size, 0, none⟩ = some (.string h.verb) := by rw [← hO, World.cell?_alloc_at _ _ _ _ rfl]; rfl
  have q1 : (w.alloc O).cell? ⟨w.heap.size, 1, none⟩ = some (.string h.target) := by rw [← hO, World.cell?_alloc_at _ _ _ _ rfl]; rfl
  have q2 : (w.alloc O).cell? ⟨w.heap.size, 2, none⟩ = some (.string h.host) := by rw [← hO, World.cell?_alloc_at _ _ _ _ rfl]; rfl
  have q3 : (w.alloc O).cell? ⟨w.heap.size, 3, none⟩ = some (.slice a h.fs.length c) := by rw [← hO, World.cell?_alloc_at _ _ _ _ rfl]; rfl
  have q4 : (w.alloc O).cell? ⟨w.heap.size, 4, none⟩ = some (.string h.body) := by rw [← hO, World.cell?_alloc_at _ _ _ _ rfl]; rfl
  have hsz : (w.alloc O).heap.size = w.heap.size + 1 := by simp
  have hbA : Below w.heap.size w (w.alloc O) := (Below.refl _ _).alloc (Nat.le_refl _) O
  clear hO
  generalize (w.alloc O) = wA at *
  have hbr : Below (w.heap.size + 1) wA wA := Below.refl _ _
  refine (hU _).mono ?_
  rintro e w1 ⟨rfl, hb1⟩
  replace hbr := hbr.trans (hb1.mono (by omega))
  have r2 := (hbr.cell (p := ⟨w.heap.size, 2, none⟩) (by simp)).trans q2
  go_wp2_with fail
  refine (hH _).mono ?_
  rintro e w2 ⟨rfl, hb2⟩
  replace hbr := hbr.trans (hb2.mono (by have := hbr.size; omega))
  have s0 := (hbr.cell (p := ⟨w.heap.size, 0, none⟩) (by simp)).trans q0
  have s1 := (hbr.cell (p := ⟨w.heap.size, 1, none⟩) (by simp)).trans q1
  have s2 := (hbr.cell (p := ⟨w.heap.size, 2, none⟩) (by simp)).trans q2
  have s3 := (hbr.cell (p := ⟨w.heap.size, 3, none⟩) (by simp)).trans q3
  have s4 := (hbr.cell (p := ⟨w.heap.size, 4, none⟩) (by simp)).trans q4
  have hbw := hbA.trans (hbr.mono (Nat.le_succ _))
  have hw2 : w.heap.size + 1 ≤ w2.heap.size := by have := hbr.size; omega
  have HQ0 := Lib.hid q0; have HQ1 := Lib.hid q1; have HQ2 := Lib.hid q2
  clear q0 q1 q2 r2 hb1 hb2 hU hH
  have HR := Lib.hid hbr; clear hbr
  have HBW := Lib.hid hbw; clear hbw
  go_wp2_with fail
  refine (hV _).mono ?_
  rintro e w3 ⟨rfl, rfl⟩
  cases hvb : verbB h.verb.data.toList
  · have HF := Lib.hid (HNo.out _ (fun hk => hk.verb) (by rw [hvb]; decide))
    clear hvb
    go_wp2
    go_ret
    rw [HF.out]; exact ⟨rfl, HBW.out⟩
  have HVb := Lib.hid hvb; clear hvb
  cases okT
  · have HF := Lib.hid (HNo.out _ (fun hk => HTT.out.2 hk.target) (by simp))
    go_wp2
    go_ret
    rw [HF.out]; exact ⟨rfl, HBW.out⟩
  by_cases ht : ¬ T = h.target
  · have se := str_ne ht
    have HF := Lib.hid (HNo.out _ (fun hk => HTT.out.2 hk.target) (fun e => ht e.2))
    clear ht
    go_wp2
    go_ret
    rw [HF.out]; exact ⟨rfl, HBW.out⟩
  rw [Classical.not_not] at ht
  have HTg := HTT.out.1 ⟨rfl, ht⟩
  have se1 := str_same h.target
  subst ht
  clear HTT
  have HTg := Lib.hid HTg
  cases okS
  · have HF := Lib.hid (HNo.out _ (fun hk => HSS.out.2 hk.host) (by simp))
    go_wp2
    go_ret
    rw [HF.out]; exact ⟨rfl, HBW.out⟩
  by_cases hs : ¬ S = h.host
  · have se := str_ne hs
    have HF := Lib.hid (HNo.out _ (fun hk => HSS.out.2 hk.host) (fun e => hs e.2))
    clear hs
    go_wp2
    go_ret
    rw [HF.out]; exact ⟨rfl, HBW.out⟩
  rw [Classical.not_not] at hs
  have HHt := HSS.out.1 ⟨rfl, hs⟩
  have se2 := str_same h.host
  subst hs
  clear HSS
  have HHt := Lib.hid HHt
  by_cases hm : ¬ h.fs.length ≤ 6
  · have HF := Lib.hid (HNo.out _ (fun hk => hk.many) hm)
    go_wp2
    go_ret
    rw [HF.out]; exact ⟨rfl, HBW.out⟩
  rw [Classical.not_not] at hm
  clear se1 se2
  have se1 := str_same h.target
  have se2 := str_same h.host
  go_wp2_with fail
  refine (hB _).mono ?_
  rintro e w3 ⟨rfl, rfl⟩
  cases hbb : bodyB h.body.data.toList
  · have HF := Lib.hid (HNo.out _ (fun hk => hk.body) (by rw [hbb]; decide))
    clear hbb
    go_wp2
    go_ret
    rw [HF.out]; exact ⟨rfl, HBW.out⟩
  have HBb := Lib.hid hbb; clear hbb
  by_cases hb0 : h.body.data.toList = []
  · have he : (h.body.toList == []) = true := by rw [Lib.toList_data, hb0]; rfl
    have HPut : Hid (h.body.data.toList = [] ∨ h.verb.data.toList = bPut) := Lib.hid (.inl hb0)
    clear hb0
    go_wp2_with fail
    go_loopw [7] (fun i wr => ∃ k : Nat, k ≤ h.fs.length ∧ i = .int .i64 k ∧ fldsB (h.fs.take k) = true ∧ Below (w.heap.size + 1) wA wr) (fun i _ => h.fs.length - (intOf i).toNat)
    case atStart => exact ⟨0, Nat.zero_le _, rfl, rfl, HR.out⟩
    case round =>
      obtain ⟨k, hk, rfl, hall, hbr⟩ := hrel
      have q0' := HQ0.out; have q1' := HQ1.out; have q2' := HQ2.out
      have t0 := (hbr.cell (p := ⟨w.heap.size, 0, none⟩) (by simp)).trans q0'
      have t1 := (hbr.cell (p := ⟨w.heap.size, 1, none⟩) (by simp)).trans q1'
      have t2 := (hbr.cell (p := ⟨w.heap.size, 2, none⟩) (by simp)).trans q2'
      have t3 := (hbr.cell (p := ⟨w.heap.size, 3, none⟩) (by simp)).trans q3
      have t4 := (hbr.cell (p := ⟨w.heap.size, 4, none⟩) (by simp)).trans q4
      clear q0' q1' q2'
      have hbw := hbA.trans (hbr.mono (Nat.le_succ _))
      have hwr : w.heap.size + 1 ≤ wr.heap.size := by have := hbr.size; omega
      have HA := Lib.hid hall; clear hall
      by_cases hlt : k < h.fs.length
      · obtain ⟨b1, o1, rfl, hb1, c1, c2⟩ := H3.out k h.fs[k] (List.getElem?_eq_getElem hlt)
        have k1 := (hbw.cell (p := ⟨b1, o1 + k * 2, none⟩) hb1).trans c1
        have k2 := (hbw.cell (p := ⟨b1, o1 + k * 2 + 1, none⟩) hb1).trans c2
        have hmem : h.fs[k] ∈ h.fs := List.getElem_mem hlt
        have hok := HFOk.out h.fs[k] hmem
        have hsn : h.fs.take (k + 1) = h.fs.take k ++ [h.fs[k]] := by rw [List.take_add_one, List.getElem?_eq_getElem hlt]; rfl
        have HSn := Lib.hid hsn; clear hsn
        clear c1 c2
        generalize h.fs[k] = f at *
        have HMem := Lib.hid hmem; clear hmem
        obtain ⟨nm, vl⟩ := f
        dsimp only at k1 k2 hok
        have hF := fun W => spec_ok nm vl W (by unfold maxLen; omega) (by unfold maxLen; omega)
        have hOwn := fun W => l4_own nm W
        cases hfd : fdB (nm, vl)
        · have HF := Lib.hid (HNo.out _ (fun hk => (hk.fs _ HMem.out).1) (by rw [hfd]; decide))
          rw [hfd] at hF
          clear hfd
          go_wp2_with fail
          refine (hF _).mono ?_
          rintro e w3 ⟨rfl, hb3⟩
          go_wp2
          go_ret
          rw [HF.out]; exact ⟨rfl, hbw.trans (hb3.mono (by omega))⟩
        · rw [hfd] at hF
          have HFd := Lib.hid hfd; clear hfd
          go_wp2_with fail
          refine (hF _).mono ?_
          rintro e w3 ⟨rfl, hb3⟩
          have m1 := (hb3.cell (p := ⟨b1, o1 + k * 2, none⟩) (by show b1 < wr.heap.size; omega)).trans k1
          have u3 := (hb3.cell (p := ⟨w.heap.size, 3, none⟩) (by simp; omega)).trans t3
          go_wp2_with fail
          refine (hOwn _).mono ?_
          rintro e w4 ⟨rfl, rfl⟩
          cases how : ownB nm.data.toList
          · have HO := Lib.hid (flds_snoc HA.out HFd.out how)
            rw [← HSn.out] at HO
            clear how
            go_wp2
            go_roundw
            case rel => exact ⟨k + 1, by omega, by go_num, HO.out, hbr.trans (hb3.mono (by omega))⟩
            case measure => simp [intOf]; omega
          · have HF := Lib.hid (HNo.out _ (fun hk => (hk.fs _ HMem.out).2) (by rw [how]; decide))
            clear how
            go_wp2
            go_ret
            rw [HF.out]; exact ⟨rfl, hbw.trans (hb3.mono (by omega))⟩
      · have hkn : k = h.fs.length := by omega
        subst hkn
        have hfl := HA.out
        rw [List.take_length] at hfl
        have hFR := HV2.out.below (Nat.le_refl _) hbw
        have hWr := HW.out wr hFR
        have hTs : (ByteArray.mk (hedT h).toArray).size = (headT h).length + h.body.size := by rw [← hlen, size_len]
        have hbase : hedB h = decide ((headT h).length ≤ 300) := by
          by_cases h3 : (headT h).length ≤ 300
          · rw [decide_eq_true h3]
            refine HYes.out ⟨HVb.out, HTg.out, HHt.out, hm, HBb.out, HPut.out, fun f hf => ?_, h3⟩
            unfold fldsB at hfl
            rw [List.all_eq_true] at hfl
            have := hfl f hf
            simpa using this
          · rw [decide_eq_false h3]
            exact HNo.out _ (fun hk => hk.len) h3
        have HBs := Lib.hid hbase
        clear hbase hfl
        generalize ByteArray.mk (hedT h).toArray = full at *
        have hS0 : wr.cell? ⟨w.heap.size, 0, none⟩ = some (.string h.verb) ∧ wr.cell? ⟨w.heap.size, 1, none⟩ = some (.string h.target) ∧ wr.cell? ⟨w.heap.size, 2, none⟩ = some (.string h.host) ∧ wr.cell? ⟨w.heap.size, 3, none⟩ = some (.slice a h.fs.length c) ∧ wr.cell? ⟨w.heap.size, 4, none⟩ = some (.string h.body) ∧ HedS w h.fs (.slice a h.fs.length c) wr := ⟨t0, t1, t2, t3, t4, hFR, below_toH hbw, by omega⟩
        have hC : ∀ W, (W.cell? ⟨w.heap.size, 0, none⟩ = some (.string h.verb) ∧ W.cell? ⟨w.heap.size, 1, none⟩ = some (.string h.target) ∧ W.cell? ⟨w.heap.size, 2, none⟩ = some (.string h.host) ∧ W.cell? ⟨w.heap.size, 3, none⟩ = some (.slice a h.fs.length c) ∧ W.cell? ⟨w.heap.size, 4, none⟩ = some (.string h.body) ∧ HedS w h.fs (.slice a h.fs.length c) W) →
            Calls Tryz.prog 76 #[.agg #[.string h.verb, .string h.target, .string h.host, .slice a h.fs.length c, .string h.body]] W fun e w' => e = .returned (.string full) ∧
              (w'.cell? ⟨w.heap.size, 0, none⟩ = some (.string h.verb) ∧ w'.cell? ⟨w.heap.size, 1, none⟩ = some (.string h.target) ∧ w'.cell? ⟨w.heap.size, 2, none⟩ = some (.string h.host) ∧ w'.cell? ⟨w.heap.size, 3, none⟩ = some (.slice a h.fs.length c) ∧ w'.cell? ⟨w.heap.size, 4, none⟩ = some (.string h.body) ∧ HedS w h.fs (.slice a h.fs.length c) w') := fun W hS =>
          (HW.out W hS.2.2.2.2.2.1).mono fun e w' he => ⟨he.1, (he.2.cell (p := ⟨w.heap.size, 0, none⟩) hS.2.2.2.2.2.2.2).trans hS.1, (he.2.cell (p := ⟨w.heap.size, 1, none⟩) hS.2.2.2.2.2.2.2).trans hS.2.1, (he.2.cell (p := ⟨w.heap.size, 2, none⟩) hS.2.2.2.2.2.2.2).trans hS.2.2.1, (he.2.cell (p := ⟨w.heap.size, 3, none⟩) hS.2.2.2.2.2.2.2).trans hS.2.2.2.1, (he.2.cell (p := ⟨w.heap.size, 4, none⟩) hS.2.2.2.2.2.2.2).trans hS.2.2.2.2.1, hS.2.2.2.2.2.next he.2⟩
        clear t0 t1 t2 t3 t4 hFR
        clear hWr
        have hd64 : (headT h).length ≤ 4000000 := by have := head_len h b4; omega
        have e64 : IntKind.i64.wrap ((full.size : Int) - (h.body.size : Int)) = ((headT h).length : Int) := by
          have e : (full.size : Int) - (h.body.size : Int) = ((headT h).length : Int) := by rw [hTs]; omega
          rw [e, IntKind.wrap_i64]; omega
        have E64 := Lib.hid e64; clear e64
        go_wp2_with fail
        clear hV hB hm se1 se2 he hlen hTs HW HV2 HFOk H3 HNo HYes hbA hbr hbw HA q3 q4 s0 s1 s2 s3 s4 HQ0 HQ1 HQ2 HR HBW HVb HTg HHt HBb HPut b1 b2 b3 b4 h1 h2 hn hd64
        go_region_held3 (fun W => W.cell? ⟨w.heap.size, 0, none⟩ = some (.string h.verb) ∧ W.cell? ⟨w.heap.size, 1, none⟩ = some (.string h.target) ∧ W.cell? ⟨w.heap.size, 2, none⟩ = some (.string h.host) ∧ W.cell? ⟨w.heap.size, 3, none⟩ = some (.slice a h.fs.length c) ∧ W.cell? ⟨w.heap.size, 4, none⟩ = some (.string h.body) ∧ HedS w h.fs (.slice a h.fs.length c) W)
          (first | exact hS1 | exact hS0) (first | (go_at_call 76; refine (hC _ ?_).mono ?_; (first | exact hS1 | exact hS0); rintro e w3 ⟨rfl, hS1⟩))
        have hend := hS1.2.2.2.2.2.2.1.out
        clear hC hS0 hS1
        go_wp2
        go_ret
        rw [HBs.out, E64.out]
        have e3 : decide (((headT h).length : Int) ≤ 300) = decide ((headT h).length ≤ 300) := by rw [decide_eq_decide]; omega
        exact ⟨congrArg (fun b => Ending.returned (Value.bool b)) e3, hend⟩
  · have he : (h.body.toList == []) = false := by rw [Lib.toList_data]; simpa using hb0
    by_cases hp : h.verb.data.toList = bPut
    · have hx : (h.verb.toList == [112, 117, 116]) = true := by rw [Lib.toList_data, hp]; rfl
      have HPut : Hid (h.body.data.toList = [] ∨ h.verb.data.toList = bPut) := Lib.hid (.inr hp)
      clear hb0 hp
      go_wp2_with fail
      go_loopw [7] (fun i wr => ∃ k : Nat, k ≤ h.fs.length ∧ i = .int .i64 k ∧ fldsB (h.fs.take k) = true ∧ Below (w.heap.size + 1) wA wr) (fun i _ => h.fs.length - (intOf i).toNat)
      case atStart => exact ⟨0, Nat.zero_le _, rfl, rfl, HR.out⟩
      case round =>
        obtain ⟨k, hk, rfl, hall, hbr⟩ := hrel
        have q0' := HQ0.out; have q1' := HQ1.out; have q2' := HQ2.out
        have t0 := (hbr.cell (p := ⟨w.heap.size, 0, none⟩) (by simp)).trans q0'
        have t1 := (hbr.cell (p := ⟨w.heap.size, 1, none⟩) (by simp)).trans q1'
        have t2 := (hbr.cell (p := ⟨w.heap.size, 2, none⟩) (by simp)).trans q2'
        have t3 := (hbr.cell (p := ⟨w.heap.size, 3, none⟩) (by simp)).trans q3
        have t4 := (hbr.cell (p := ⟨w.heap.size, 4, none⟩) (by simp)).trans q4
        clear q0' q1' q2'
        have hbw := hbA.trans (hbr.mono (Nat.le_succ _))
        have hwr : w.heap.size + 1 ≤ wr.heap.size := by have := hbr.size; omega
        have HA := Lib.hid hall; clear hall
        by_cases hlt : k < h.fs.length
        · obtain ⟨b1, o1, rfl, hb1, c1, c2⟩ := H3.out k h.fs[k] (List.getElem?_eq_getElem hlt)
          have k1 := (hbw.cell (p := ⟨b1, o1 + k * 2, none⟩) hb1).trans c1
          have k2 := (hbw.cell (p := ⟨b1, o1 + k * 2 + 1, none⟩) hb1).trans c2
          have hmem : h.fs[k] ∈ h.fs := List.getElem_mem hlt
          have hok := HFOk.out h.fs[k] hmem
          have hsn : h.fs.take (k + 1) = h.fs.take k ++ [h.fs[k]] := by rw [List.take_add_one, List.getElem?_eq_getElem hlt]; rfl
          have HSn := Lib.hid hsn; clear hsn
          clear c1 c2
          generalize h.fs[k] = f at *
          have HMem := Lib.hid hmem; clear hmem
          obtain ⟨nm, vl⟩ := f
          dsimp only at k1 k2 hok
          have hF := fun W => spec_ok nm vl W (by unfold maxLen; omega) (by unfold maxLen; omega)
          have hOwn := fun W => l4_own nm W
          cases hfd : fdB (nm, vl)
          · have HF := Lib.hid (HNo.out _ (fun hk => (hk.fs _ HMem.out).1) (by rw [hfd]; decide))
            rw [hfd] at hF
            clear hfd
            go_wp2_with fail
            refine (hF _).mono ?_
            rintro e w3 ⟨rfl, hb3⟩
            go_wp2
            go_ret
            rw [HF.out]; exact ⟨rfl, hbw.trans (hb3.mono (by omega))⟩
          · rw [hfd] at hF
            have HFd := Lib.hid hfd; clear hfd
            go_wp2_with fail
            refine (hF _).mono ?_
            rintro e w3 ⟨rfl, hb3⟩
            have m1 := (hb3.cell (p := ⟨b1, o1 + k * 2, none⟩) (by show b1 < wr.heap.size; omega)).trans k1
            have u3 := (hb3.cell (p := ⟨w.heap.size, 3, none⟩) (by simp; omega)).trans t3
            go_wp2_with fail
            refine (hOwn _).mono ?_
            rintro e w4 ⟨rfl, rfl⟩
            cases how : ownB nm.data.toList
            · have HO := Lib.hid (flds_snoc HA.out HFd.out how)
              rw [← HSn.out] at HO
              clear how
              go_wp2
              go_roundw
              case rel => exact ⟨k + 1, by omega, by go_num, HO.out, hbr.trans (hb3.mono (by omega))⟩
              case measure => simp [intOf]; omega
            · have HF := Lib.hid (HNo.out _ (fun hk => (hk.fs _ HMem.out).2) (by rw [how]; decide))
              clear how
              go_wp2
              go_ret
              rw [HF.out]; exact ⟨rfl, hbw.trans (hb3.mono (by omega))⟩
        · have hkn : k = h.fs.length := by omega
          subst hkn
          have hfl := HA.out
          rw [List.take_length] at hfl
          have hFR := HV2.out.below (Nat.le_refl _) hbw
          have hWr := HW.out wr hFR
          have hTs : (ByteArray.mk (hedT h).toArray).size = (headT h).length + h.body.size := by rw [← hlen, size_len]
          have hbase : hedB h = decide ((headT h).length ≤ 300) := by
            by_cases h3 : (headT h).length ≤ 300
            · rw [decide_eq_true h3]
              refine HYes.out ⟨HVb.out, HTg.out, HHt.out, hm, HBb.out, HPut.out, fun f hf => ?_, h3⟩
              unfold fldsB at hfl
              rw [List.all_eq_true] at hfl
              have := hfl f hf
              simpa using this
            · rw [decide_eq_false h3]
              exact HNo.out _ (fun hk => hk.len) h3
          have HBs := Lib.hid hbase
          clear hbase hfl
          generalize ByteArray.mk (hedT h).toArray = full at *
          have hS0 : wr.cell? ⟨w.heap.size, 0, none⟩ = some (.string h.verb) ∧ wr.cell? ⟨w.heap.size, 1, none⟩ = some (.string h.target) ∧ wr.cell? ⟨w.heap.size, 2, none⟩ = some (.string h.host) ∧ wr.cell? ⟨w.heap.size, 3, none⟩ = some (.slice a h.fs.length c) ∧ wr.cell? ⟨w.heap.size, 4, none⟩ = some (.string h.body) ∧ HedS w h.fs (.slice a h.fs.length c) wr := ⟨t0, t1, t2, t3, t4, hFR, below_toH hbw, by omega⟩
          have hC : ∀ W, (W.cell? ⟨w.heap.size, 0, none⟩ = some (.string h.verb) ∧ W.cell? ⟨w.heap.size, 1, none⟩ = some (.string h.target) ∧ W.cell? ⟨w.heap.size, 2, none⟩ = some (.string h.host) ∧ W.cell? ⟨w.heap.size, 3, none⟩ = some (.slice a h.fs.length c) ∧ W.cell? ⟨w.heap.size, 4, none⟩ = some (.string h.body) ∧ HedS w h.fs (.slice a h.fs.length c) W) →
              Calls Tryz.prog 76 #[.agg #[.string h.verb, .string h.target, .string h.host, .slice a h.fs.length c, .string h.body]] W fun e w' => e = .returned (.string full) ∧
                (w'.cell? ⟨w.heap.size, 0, none⟩ = some (.string h.verb) ∧ w'.cell? ⟨w.heap.size, 1, none⟩ = some (.string h.target) ∧ w'.cell? ⟨w.heap.size, 2, none⟩ = some (.string h.host) ∧ w'.cell? ⟨w.heap.size, 3, none⟩ = some (.slice a h.fs.length c) ∧ w'.cell? ⟨w.heap.size, 4, none⟩ = some (.string h.body) ∧ HedS w h.fs (.slice a h.fs.length c) w') := fun W hS =>
            (HW.out W hS.2.2.2.2.2.1).mono fun e w' he => ⟨he.1, (he.2.cell (p := ⟨w.heap.size, 0, none⟩) hS.2.2.2.2.2.2.2).trans hS.1, (he.2.cell (p := ⟨w.heap.size, 1, none⟩) hS.2.2.2.2.2.2.2).trans hS.2.1, (he.2.cell (p := ⟨w.heap.size, 2, none⟩) hS.2.2.2.2.2.2.2).trans hS.2.2.1, (he.2.cell (p := ⟨w.heap.size, 3, none⟩) hS.2.2.2.2.2.2.2).trans hS.2.2.2.1, (he.2.cell (p := ⟨w.heap.size, 4, none⟩) hS.2.2.2.2.2.2.2).trans hS.2.2.2.2.1, hS.2.2.2.2.2.next he.2⟩
          clear t0 t1 t2 t3 t4 hFR
          clear hWr
          have hd64 : (headT h).length ≤ 4000000 := by have := head_len h b4; omega
          have e64 : IntKind.i64.wrap ((full.size : Int) - (h.body.size : Int)) = ((headT h).length : Int) := by
            have e : (full.size : Int) - (h.body.size : Int) = ((headT h).length : Int) := by rw [hTs]; omega
            rw [e, IntKind.wrap_i64]; omega
          have E64 := Lib.hid e64; clear e64
          go_wp2_with fail
          clear hV hB hm se1 se2 he hlen hTs HW HV2 HFOk H3 HNo HYes hbA hbr hbw HA q3 q4 s0 s1 s2 s3 s4 HQ0 HQ1 HQ2 HR HBW HVb HTg HHt HBb HPut b1 b2 b3 b4 h1 h2 hn hd64
          go_region_held3 (fun W => W.cell? ⟨w.heap.size, 0, none⟩ = some (.string h.verb) ∧ W.cell? ⟨w.heap.size, 1, none⟩ = some (.string h.target) ∧ W.cell? ⟨w.heap.size, 2, none⟩ = some (.string h.host) ∧ W.cell? ⟨w.heap.size, 3, none⟩ = some (.slice a h.fs.length c) ∧ W.cell? ⟨w.heap.size, 4, none⟩ = some (.string h.body) ∧ HedS w h.fs (.slice a h.fs.length c) W)
            (first | exact hS1 | exact hS0) (first | (go_at_call 76; refine (hC _ ?_).mono ?_; (first | exact hS1 | exact hS0); rintro e w3 ⟨rfl, hS1⟩))
          have hend := hS1.2.2.2.2.2.2.1.out
          clear hC hS0 hS1
          go_wp2
          go_ret
          rw [HBs.out, E64.out]
          have e3 : decide (((headT h).length : Int) ≤ 300) = decide ((headT h).length ≤ 300) := by rw [decide_eq_decide]; omega
          exact ⟨congrArg (fun b => Ending.returned (Value.bool b)) e3, hend⟩
    · have hx : (h.verb.toList == [112, 117, 116]) = false := by rw [Lib.toList_data]; simpa [bPut] using hp
      have HF := Lib.hid (HNo.out _ (fun hk => hk.put) (fun e => e.elim hb0 hp))
      clear hb0 hp
      go_wp2
      go_ret
      rw [HF.out]; exact ⟨rfl, HBW.out⟩
end Go.Proofs.YtncegikmpapldaaGreatDoor

-- from XHedV
/- Walks: a request, written, by the specification. -/
namespace Go.Proofs.YtncegikmpapldaaGreatDoor
open Go.RowKit

end Go.Proofs.YtncegikmpapldaaGreatDoor

-- from XHedF
/- Walks: a request's lists of fields, by the specification. -/
namespace Go.Proofs.YtncegikmpapldaaGreatDoor
open Go.RowKit

/-- 'append(out, x)' of one element of two cells. -/
theorem wpList_append2 {P : Program} (w : World) {ops : Array Oper} {rest : List Oper} {o : Oper} {a : Act} {Q : Exit → Act → World → Prop} (hgd : o.guard = none) (s x : Operand) (t : TypeId)
    (ho : o.op = .call { callee := .builtin .append, args := #[s, x], argTypes := #[t, t] })
    (base : Nat) (e : TypeId) (i : TypeInfo) (z : Value) (bytes : Nat) (ht : P.underlying t = some (.slice e)) (hi : P.info? e = some i) (hz : i.zero = some z)
    (hsize : i.size = 2) (hby : i.bytes = bytes) (hzs : z.cells.size = 2)
    (v : Value) (n : Nat) (xs : List Value) (hs : a.eval s = v) (hown : w.ownsRow base e 2 v n xs) (u1 u2 : ByteArray) (t' : TypeId) (H : Nat) (hH : w.heap.size = H)
    (hx : a.eval x = .slice (some ⟨H, 0, none⟩) 1 1)
    (h63 : n + 1 ≤ maxLen) (hbytes : (n + 1) * bytes ≤ 140737488355328) (hbase : base ≤ w.heap.size)
    (h : ∀ v' w', w'.ownsRow base e 2 v' (n + 1) (xs ++ [.string u1, .string u2]) → Below base w w' → w.heap.size < w'.heap.size → wpList P ops Q rest (a.put o.dst v') w') : wpList P ops Q (o :: rest) a (w.alloc (.cells #[.string u1, .string u2] t')) := by
  subst hH
  refine wpList_append_own (w.alloc (.cells #[.string u1, .string u2] t')) hgd s x t ho base e i z 2 bytes ht hi hz hsize hby hzs (by decide) v n xs hs (hown.alloc _) ⟨w.heap.size, 0, none⟩ 1 1 [.string u1, .string u2] hx rfl (pair_new w u1 u2 t') ?_ h63 hbytes (by simp; omega) ?_
  · intro y hy; simp at hy; rcases hy with rfl | rfl <;> rfl
  · intro v' w' ho' hg _
    refine h v' w' ho' ?_ ?_
    · refine ((Below.refl base w).alloc hbase _).grown hg (by simp; omega) ?_
      intro k hk
      exact (hown.lt k hk).1
    · have := hg.size; simp at this; omega

theorem frow_own {w : World} {B : Nat} {T : TypeId} {v : Value} {fs : List Fd} (hB : 0 < B) (h : w.ownsRow B T 2 v fs.length (fcells fs)) : FRow w v fs := (frow_of_own (g := 0) h hB).row

theorem others_snoc (fs : List Fd) (f : Fd) : othersL (fs ++ [f]) = if ownB f.1.data.toList = true then othersL fs else othersL fs ++ [f] := by
  unfold othersL
  rw [List.filter_append]
  by_cases h : ownB f.1.data.toList = true
  · simp [h]
  · simp [h]
theorem others_len (fs : List Fd) : (othersL fs).length ≤ fs.length := List.length_filter_le ..

end Go.Proofs.YtncegikmpapldaaGreatDoor

-- from XHedG
/- Walks: a request's fields, read, by the specification. -/
namespace Go.Proofs.YtncegikmpapldaaGreatDoor
open Go.RowKit

/-- A slice that reads as a list of lines. -/
def SRow (w : World) (v : Value) (ls : List (List UInt8)) : Prop :=
  ∃ a c, v = .slice a ls.length c ∧ ls.length ≤ c ∧ c ≤ maxLen ∧ ∀ j l, ls[j]? = some l → ∃ b o, a = some ⟨b, o, none⟩ ∧ b < w.heap.size ∧ w.cell? ⟨b, o + j, none⟩ = some (.string ⟨l.toArray⟩)
theorem SRow.below {w w' : World} {v : Value} {ls : List (List UInt8)} (h : SRow w v ls) {B : Nat} (hB : w.heap.size ≤ B) (hb : Below B w w') : SRow w' v ls := by
  obtain ⟨a, c, rfl, h1, h2, h3⟩ := h
  refine ⟨a, c, rfl, h1, h2, fun j l hj => ?_⟩
  obtain ⟨b, o, rfl, hlt, c1⟩ := h3 j l hj
  exact ⟨b, o, rfl, Nat.lt_of_lt_of_le hlt hb.size, (hb.cell (p := ⟨b, o + j, none⟩) (Nat.lt_of_lt_of_le hlt hB)).trans c1⟩

theorem rdR_false {l : List UInt8} (h : rdB l = false) : rdR l = ((⟨#[]⟩, ⟨#[]⟩), false) := by simp [rdR, h]
theorem rdR_true {l : List UInt8} (h : rdB l = true) : rdR l = (rdF l, true) := by simp [rdR, h]

end Go.Proofs.YtncegikmpapldaaGreatDoor

-- from XHedZ
/- Walks: how long a body is, by the specification. -/
namespace Go.Proofs.YtncegikmpapldaaGreatDoor
open Go.RowKit

def sizeV (o : Option Nat) : Value := .int .i64 (match o with | none => -1 | some n => (n : Int))

end Go.Proofs.YtncegikmpapldaaGreatDoor

-- from XHedX
/- Walks: a request's target and first line, by the specification. -/
namespace Go.Proofs.YtncegikmpapldaaGreatDoor
open Go.RowKit

theorem cut_b (s : ByteArray) (c : UInt8) (W : World) (hs : s.size ≤ maxLen) :
    Calls Tryz.prog 83 #[.string s, .int .u8 c.toNat] W fun e w' => e = .returned (.tuple #[.string ⟨(cutL s.data.toList c).1.toArray⟩, .string ⟨(cutL s.data.toList c).2.1.toArray⟩, .bool (cutL s.data.toList c).2.2]) ∧ Below W.heap.size W w' :=
  (spec_cut s c W hs).mono fun _ _ ⟨he, _, hn⟩ => ⟨he, hn ▸ below_drewN (Below.refl _ _)⟩

def optV (o : Option (List UInt8 × List UInt8)) (e : Ending) : Prop := ∃ p n : ByteArray, e = .returned (.tuple #[.string p, .string n, .bool o.isSome]) ∧ ∀ q, o = some q → p = ⟨q.1.toArray⟩ ∧ n = ⟨q.2.toArray⟩

end Go.Proofs.YtncegikmpapldaaGreatDoor

-- from XHedS
/- A request's five cells, as a result's variable. -/
namespace Go.Proofs.YtncegikmpapldaaGreatDoor
open Go.RowKit

theorem five_facts {w' : World} {g : Nat} {x0 x1 x2 x3 x4 : Value} {T : TypeId} (h : w'.heap[g]? = some (.cells #[x0, x1, x2, x3, x4] T (0, 0))) :
    w'.cell? ⟨g, 0, none⟩ = some x0 ∧ w'.cell? ⟨g, 1, none⟩ = some x1 ∧ w'.cell? ⟨g, 2, none⟩ = some x2 ∧ w'.cell? ⟨g, 3, none⟩ = some x3 ∧ w'.cell? ⟨g, 4, none⟩ = some x4 ∧
    w'.frozen? ⟨g, 0, none⟩ = false ∧ w'.frozen? ⟨g, 1, none⟩ = false ∧ w'.frozen? ⟨g, 2, none⟩ = false ∧ w'.frozen? ⟨g, 3, none⟩ = false ∧ w'.frozen? ⟨g, 4, none⟩ = false := by
  refine ⟨?_, ?_, ?_, ?_, ?_, ?_, ?_, ?_, ?_, ?_⟩ <;> simp [World.cell?, World.frozen?, h]
def set5 (w : World) (g : Nat) (a b c d e : Value) : World := ((((w.setCell ⟨g, 0, none⟩ a).setCell ⟨g, 1, none⟩ b).setCell ⟨g, 2, none⟩ c).setCell ⟨g, 3, none⟩ d).setCell ⟨g, 4, none⟩ e
theorem five_set {w' : World} {g : Nat} {x0 x1 x2 x3 x4 : Value} {T : TypeId} (h : w'.heap[g]? = some (.cells #[x0, x1, x2, x3, x4] T (0, 0))) (a b c d e : Value) :
    (set5 w' g a b c d e).heap[g]? = some (.cells #[a, b, c, d, e] T (0, 0)) := by
  have h1 := heap_setCell_same w' g 0 _ _ a h
  have h2 := heap_setCell_same _ g 1 _ _ b h1
  have h3 := heap_setCell_same _ g 2 _ _ c h2
  have h4 := heap_setCell_same _ g 3 _ _ d h3
  have h5 := heap_setCell_same _ g 4 _ _ e h4
  unfold set5
  rw [h5]; rfl
theorem below_setk {w w3 : World} {b k : Nat} {x : Value} (h : Below b w w3) : Below b w (w3.setCell ⟨b, k, none⟩ x) :=
  ⟨h.os, h.tape, h.output, by simpa using h.size, fun j hj => (heap_setCell_other w3 ⟨b, k, none⟩ j _ (by simp; omega)).trans (h.block j hj)⟩
theorem below_set5 {w w3 : World} {g : Nat} {a b c d e : Value} (h : Below g w w3) : Below g w (set5 w3 g a b c d e) := below_setk (below_setk (below_setk (below_setk (below_setk h))))
theorem load5 {w : World} {g : Nat} {a b c d e : Value} {T : TypeId} (h : w.heap[g]? = some (.cells #[a, b, c, d, e] T (0, 0))) :
    (loadVar 40 ⟨g, 0, none⟩).run Tryz.prog w = .ok (.agg #[a, b, c, d, e]) w := by
  obtain ⟨t0, t1, t2, t3, t4, _⟩ := five_facts h
  exact load_hed w g _ _ _ _ _ t0 t1 t2 t3 t4
end Go.Proofs.YtncegikmpapldaaGreatDoor

-- from XHedY
/- Walks: a request's first line, by the specification. -/
namespace Go.Proofs.YtncegikmpapldaaGreatDoor
open Go.RowKit

def firstV (o : Option (List UInt8 × List UInt8 × List UInt8)) (e : Ending) : Prop := ∃ a p n : ByteArray, e = .returned (.tuple #[.agg #[.string a, .string p, .string n, .slice none 0 0, .string ⟨#[]⟩], .bool o.isSome]) ∧ ∀ q, o = some q → a = ⟨q.1.toArray⟩ ∧ p = ⟨q.2.1.toArray⟩ ∧ n = ⟨q.2.2.toArray⟩

end Go.Proofs.YtncegikmpapldaaGreatDoor

-- from XHedN
/- Walks: a request's lines, by the specification. -/
namespace Go.Proofs.YtncegikmpapldaaGreatDoor
open Go.RowKit

theorem cut_whole10 {l : List UInt8} (h : (cutL l 10).2.2 = false) : (cutL l 10).1 = l := by
  induction l with
  | nil => rfl
  | cons b l ih =>
    by_cases hb : b = 10
    · subst hb; rw [cutL_hit] at h; cases h
    · rw [cutL_cons hb] at h ⊢
      simp only at h ⊢
      rw [ih h]
theorem lines_big (f : Nat) (r : List UInt8) (u : Nat) (h : 300 < u) : linesL f r u = ([], u, false) := by
  cases f with
  | zero => rfl
  | succ f =>
    show (if 300 < u then _ else _) = _
    rw [if_pos h]
theorem lines_no {f : Nat} {r : List UInt8} {u : Nat} (h : ¬ 300 < u) (hc : (cutL r 10).2.2 = false) : linesL (f + 1) r u = ([], u + r.length, false) := by
  show (if 300 < u then _ else _) = _
  rw [if_neg h, if_pos hc]
theorem lines_end {f : Nat} {r : List UInt8} {u : Nat} (h : ¬ 300 < u) (hc : (cutL r 10).2.2 = true) (he : (cutL r 10).1 = []) : linesL (f + 1) r u = ([], u + 1, true) := by
  show (if 300 < u then _ else _) = _
  rw [if_neg h, if_neg (by rw [hc]; decide), if_pos he]
theorem lines_on {f : Nat} {r : List UInt8} {u : Nat} (h : ¬ 300 < u) (hc : (cutL r 10).2.2 = true) (he : (cutL r 10).1 ≠ []) :
    linesL (f + 1) r u = ((cutL r 10).1 :: (linesL f (cutL r 10).2.1 (u + (cutL r 10).1.length + 1)).1, (linesL f (cutL r 10).2.1 (u + (cutL r 10).1.length + 1)).2) := by
  show (if 300 < u then _ else _) = _
  rw [if_neg h, if_neg (by rw [hc]; decide), if_neg he]

/-- What a loop over the lines carries. -/
def LinesRel (w : World) (s : ByteArray) (L : List (List UInt8) × Nat × Bool) (o r x : Value) (wr : World) : Prop :=
  ∃ (f u : Nat) (ls : List (List UInt8)) (rest : List UInt8), r = .string ⟨rest.toArray⟩ ∧ x = .int .i64 (u : Nat) ∧ rest.length ≤ s.size ∧ u ≤ 300 + s.size + 1 ∧ 302 ≤ f + u ∧ ls.length ≤ u ∧ (u ≤ 300 → 2 ≤ f) ∧
    L = (ls ++ (linesL f rest u).1, (linesL f rest u).2) ∧ wr.ownsRow w.heap.size 9 1 o ls.length (ls.map strV) ∧ Below w.heap.size w wr

end Go.Proofs.YtncegikmpapldaaGreatDoor

-- from XHedQ
/- Walks: a request of its lines, by the specification. -/
namespace Go.Proofs.YtncegikmpapldaaGreatDoor
open Go.RowKit

/-- What a request's value is. -/
def hedV (a b c : ByteArray) (v : Value) : Value := .agg #[.string a, .string b, .string c, v, .string ⟨#[]⟩]
theorem whole_cons (l : List UInt8) (ls : List (List UInt8)) : wholeL (l :: ls) = match firstL l, fieldsL ls with
    | some (verb, place, named), some fs => match oneOf (allTo fs ⟨bHost.toArray⟩ fs.length) with
      | (value, true) =>
        if hostB (hostC value.data.toList) = true ∧ (named = [] ∨ named = hostC value.data.toList) ∧ (othersL fs).length ≤ 6 then
          (sizeL verb fs).map fun n => (⟨⟨verb.toArray⟩, ⟨place.toArray⟩, ⟨(hostC value.data.toList).toArray⟩, othersL fs, ⟨#[]⟩⟩, n)
        else none
      | _ => none
    | _, _ => none := rfl

def WholePost (w : World) (o : Option (Hd × Nat)) (e : Ending) (w' : World) : Prop :=
  (∃ a b c sa sn sc, e = .returned (.tuple #[hedV a b c (.slice sa sn sc), sizeV (o.map (·.2))]) ∧ (∀ h n, o = some (h, n) → a = h.verb ∧ b = h.target ∧ c = h.host ∧ w'.ownsRow w.heap.size 50 2 (.slice sa sn sc) h.fs.length (fcells h.fs))) ∧ Below w.heap.size w w'

theorem fields_ok {ls : List (List UInt8)} {fs : List Fd} (h : fieldsL ls = some fs) : fs.length ≤ 8 ∧ FOk fs 30 := by
  unfold fieldsL at h
  split at h
  · rename_i hc
    have := Option.some.inj h
    subst this
    refine ⟨by rw [List.length_map]; exact hc.1, fun f hf => ?_⟩
    obtain ⟨l, hl, rfl⟩ := List.mem_map.1 hf
    have hr := (List.all_eq_true.1 hc.2) l hl
    unfold rdB at hr
    rw [Bool.and_eq_true] at hr
    have := fdB_len (a := (rdF l).1) (b := (rdF l).2) hr.2
    omega
  · cases h

theorem oneOf_size {fs : List Fd} {s : ByteArray} {K : Nat} (h : FOk fs K) : (oneOf (allTo fs s fs.length)).1.size ≤ K := by
  have hall : ∀ x ∈ allTo fs s fs.length, x.size ≤ K := fun x hx => by
    rw [all_filter] at hx
    obtain ⟨f, hf, rfl⟩ := List.mem_map.1 hx
    exact (h f (List.mem_filter.1 hf).1).2
  generalize allTo fs s fs.length = l at *
  match l with
  | [] => exact Nat.zero_le _
  | [x] => exact hall x (List.mem_cons_self ..)
  | x :: y :: l => exact Nat.zero_le _
theorem whole_no1 {l : List UInt8} {ls : List (List UInt8)} {fs : List Fd} (hfs : fieldsL ls = some fs) (h : (oneOf (allTo fs ⟨bHost.toArray⟩ fs.length)).2 = false) : wholeL (l :: ls) = none := by
  rw [whole_cons, hfs]
  cases firstL l with
  | none => rfl
  | some t =>
    dsimp only
    rcases hq : oneOf (allTo fs ⟨bHost.toArray⟩ fs.length) with ⟨a, b⟩
    rw [hq] at h
    dsimp only at h
    subst h
    rfl
theorem whole_cond {l : List UInt8} {ls : List (List UInt8)} {fs : List Fd} {t : List UInt8 × List UInt8 × List UInt8} {value : ByteArray} (hfi : firstL l = some t) (hfs : fieldsL ls = some fs) (h : oneOf (allTo fs ⟨bHost.toArray⟩ fs.length) = (value, true)) :
    wholeL (l :: ls) = if hostB (hostC value.data.toList) = true ∧ (t.2.2 = [] ∨ t.2.2 = hostC value.data.toList) ∧ (othersL fs).length ≤ 6 then
          (sizeL t.1 fs).map fun n => (⟨⟨t.1.toArray⟩, ⟨t.2.1.toArray⟩, ⟨(hostC value.data.toList).toArray⟩, othersL fs, ⟨#[]⟩⟩, n)
        else none := by
  rw [whole_cons, hfs, hfi]
  dsimp only
  rw [h]

/-- What stays of the two requests' cells while the body's length is reckoned. -/
def WhG (w __W0 : World) (bh : Nat) (a b c : ByteArray) (v u : Value) (n : Nat) (xs : List Value) (fs : List Fd) (W : World) : Prop :=
  W.heap[w.heap.size]? = some (.cells #[.string ⟨#[]⟩, .string ⟨#[]⟩, .string ⟨#[]⟩, .slice none 0 0, .string ⟨#[]⟩] 40 (0, 0)) ∧
  W.heap[bh]? = some (.cells #[.string a, .string b, .string c, v, .string ⟨#[]⟩] 40 (0, 0)) ∧
  W.ownsRow (w.heap.size + 1) 50 2 v n xs ∧ FRow W u fs ∧ BelowH w.heap.size w W ∧ w.heap.size < bh ∧ bh < W.heap.size
theorem WhG.next {w W0 W W' : World} {bh : Nat} {a b c : ByteArray} {v u : Value} {n : Nat} {xs : List Value} {fs : List Fd} (h : WhG w W0 bh a b c v u n xs fs W) (hb : Below W.heap.size W W') : WhG w W0 bh a b c v u n xs fs W' := by
  obtain ⟨h1, h2, h3, h4, h5, h6, h7⟩ := h
  exact ⟨(hb.block _ (by omega)).trans h1, (hb.block _ h7).trans h2, own_below h3 hb, h4.below (Nat.le_refl _) hb, below_toH (h5.out.trans (hb.mono h5.out.size)), h6, Nat.lt_of_lt_of_le h7 hb.size⟩
def WhC (bh : Nat) (a b c : ByteArray) (v : Value) (W : World) : Prop :=
  W.cell? ⟨bh, 0, none⟩ = some (.string a) ∧ W.cell? ⟨bh, 1, none⟩ = some (.string b) ∧ W.cell? ⟨bh, 2, none⟩ = some (.string c) ∧ W.cell? ⟨bh, 3, none⟩ = some v ∧ W.cell? ⟨bh, 4, none⟩ = some (.string ⟨#[]⟩)
theorem WhG.cells {w W0 W : World} {bh : Nat} {a b c : ByteArray} {v u : Value} {n : Nat} {xs : List Value} {fs : List Fd} (h : WhG w W0 bh a b c v u n xs fs W) : WhC bh a b c v W := by
  obtain ⟨q0, q1, q2, q3, q4, _⟩ := five_facts h.2.1
  exact ⟨q0, q1, q2, q3, q4⟩
theorem set5_other {w : World} {g k : Nat} {a b c d e : Value} (hk : k ≠ g) : (set5 w g a b c d e).heap[k]? = w.heap[k]? := by
  unfold set5
  rw [heap_setCell_other _ ⟨g, 4, none⟩ k _ (by simpa using hk), heap_setCell_other _ ⟨g, 3, none⟩ k _ (by simpa using hk), heap_setCell_other _ ⟨g, 2, none⟩ k _ (by simpa using hk), heap_setCell_other _ ⟨g, 1, none⟩ k _ (by simpa using hk), heap_setCell_other _ ⟨g, 0, none⟩ k _ (by simpa using hk)]
/-- What is known once the length is reckoned. -/
def WhE (w : World) (bh : Nat) (a b c : ByteArray) (v : Value) (n : Nat) (xs : List Value) (W : World) : Prop :=
  (W.cell? ⟨w.heap.size, 0, none⟩ = some (.string ⟨#[]⟩) ∧ W.cell? ⟨w.heap.size, 1, none⟩ = some (.string ⟨#[]⟩) ∧ W.cell? ⟨w.heap.size, 2, none⟩ = some (.string ⟨#[]⟩) ∧ W.cell? ⟨w.heap.size, 3, none⟩ = some (.slice none 0 0) ∧ W.cell? ⟨w.heap.size, 4, none⟩ = some (.string ⟨#[]⟩) ∧
   W.frozen? ⟨w.heap.size, 0, none⟩ = false ∧ W.frozen? ⟨w.heap.size, 1, none⟩ = false ∧ W.frozen? ⟨w.heap.size, 2, none⟩ = false ∧ W.frozen? ⟨w.heap.size, 3, none⟩ = false ∧ W.frozen? ⟨w.heap.size, 4, none⟩ = false) ∧
  WhC bh a b c v (set5 W w.heap.size (.string a) (.string b) (.string c) v (.string ⟨#[]⟩)) ∧
  (set5 W w.heap.size (.string a) (.string b) (.string c) v (.string ⟨#[]⟩)).heap[w.heap.size]? = some (.cells #[.string a, .string b, .string c, v, .string ⟨#[]⟩] 40 (0, 0)) ∧
  (set5 W w.heap.size (.string a) (.string b) (.string c) v (.string ⟨#[]⟩)).ownsRow w.heap.size 50 2 v n xs ∧
  Below w.heap.size w (set5 W w.heap.size (.string a) (.string b) (.string c) v (.string ⟨#[]⟩))
theorem WhG.finish {w W0 W : World} {bh : Nat} {a b c : ByteArray} {v u : Value} {n : Nat} {xs : List Value} {fs : List Fd} (h : WhG w W0 bh a b c v u n xs fs W) : WhE w bh a b c v n xs W := by
  obtain ⟨h1, h2, h3, h4, h5, h6, h7⟩ := h
  refine ⟨five_facts h1, ?_, five_set h1 _ _ _ _ _, ?_, below_set5 h5.out⟩
  · obtain ⟨q0, q1, q2, q3, q4, _⟩ := five_facts ((set5_other (g := w.heap.size) (a := .string a) (b := .string b) (c := .string c) (d := v) (e := .string ⟨#[]⟩) (Nat.ne_of_gt h6)).trans h2)
    exact ⟨q0, q1, q2, q3, q4⟩
  · refine ⟨h3.1, ?_⟩
    rcases h3.2 with hh | ⟨g, cap, cur, hv, hB, hh, rest⟩
    · exact .inl hh
    · exact .inr ⟨g, cap, cur, hv, by omega, (set5_other (by omega)).trans hh, rest⟩

theorem own_len2 {w : World} {B : Nat} {e : TypeId} {size : Nat} {v : Value} {n : Nat} {xs : List Value} (h : w.ownsRow B e size v n xs) : ∃ a c, v = .slice a n c := by
  rcases h.2 with ⟨h, h0⟩ | ⟨g, cap, cur, h, _⟩
  · exact ⟨none, 0, by rw [h, h0]⟩
  · exact ⟨_, _, h⟩
theorem own_setk {w : World} {B : Nat} {e : TypeId} {size : Nat} {v : Value} {n : Nat} {xs : List Value} (h : w.ownsRow B e size v n xs) {b k : Nat} (hb : b < B) (x : Value) : (w.setCell ⟨b, k, none⟩ x).ownsRow B e size v n xs := by
  refine ⟨h.1, ?_⟩
  rcases h.2 with h | ⟨g, cap, cur, hv, hB, hh, rest⟩
  · exact .inl h
  · exact .inr ⟨g, cap, cur, hv, hB, (heap_setCell_other w ⟨b, k, none⟩ g _ (by simp; omega)).trans hh, rest⟩
theorem below_setB {w w3 : World} {B b k : Nat} {x : Value} (h : Below B w w3) (hb : B ≤ b) : Below B w (w3.setCell ⟨b, k, none⟩ x) :=
  ⟨h.os, h.tape, h.output, by simpa using h.size, fun j hj => (heap_setCell_other w3 ⟨b, k, none⟩ j _ (by simp; omega)).trans (h.block j hj)⟩

end Go.Proofs.YtncegikmpapldaaGreatDoor

