import Derived.Test.YtbhnjnoblkfckabGreatDoorGA03
import Derived.Test.YtbhnjnoblkfckabGreatDoorGA04
import Derived.Test.YtbhnjnoblkfckabGreatDoorGA02
-- from XHedP
/- Pure laws on requests: their texts, and what is read of a text. -/
namespace Go.Proofs.YtbhnjnoblkfckabGreatDoor

/-! ### Lines -/
theorem joinL_cons (l : List UInt8) (ls : List (List UInt8)) : joinL (l :: ls) = l ++ 10 :: joinL ls := by simp [joinL]
theorem joinL_app (a b : List (List UInt8)) : joinL (a ++ b) = joinL a ++ joinL b := by simp [joinL]
theorem joinL_len (l : List UInt8) (ls : List (List UInt8)) : (joinL (l :: ls)).length = l.length + 1 + (joinL ls).length := by rw [joinL_cons]; simp; omega

theorem lines_mk : ∀ (ls : List (List UInt8)) (f : Nat) (t : List UInt8) (used : Nat), ls.length < f → used + (joinL ls).length ≤ 300 → (∀ l ∈ ls, l ≠ [] ∧ (10 : UInt8) ∉ l) →
    linesL f (joinL ls ++ 10 :: t) used = (ls, used + (joinL ls).length + 1, true) := by
  intro ls
  induction ls with
  | nil =>
    intro f t used hf hu _
    match f, hf with
    | f + 1, _ =>
      have hj : joinL [] = [] := rfl
      rw [hj] at hu ⊢
      have hc : cutL ([] ++ 10 :: t) 10 = ([], t, true) := cutL_yes [] t 10 (by simp)
      unfold linesL
      rw [hc, if_neg (by simp at hu; omega), if_neg (by simp), if_pos rfl]
      simp
  | cons l ls ih =>
    intro f t used hf hu hl
    match f, hf with
    | f + 1, hf =>
      obtain ⟨h1, h2⟩ := hl l (List.mem_cons_self ..)
      rw [joinL_len] at hu
      have hc : cutL (joinL (l :: ls) ++ 10 :: t) 10 = (l, joinL ls ++ 10 :: t, true) := by
        rw [joinL_cons, List.append_assoc, List.cons_append]; exact cutL_yes l _ 10 h2
      unfold linesL
      rw [hc, if_neg (by omega), if_neg (by simp), if_neg h1]
      simp only
      rw [ih f t (used + l.length + 1) (by simp at hf; omega) (by omega) (fun x hx => hl x (List.mem_cons_of_mem _ hx)), joinL_len]
      simp only [Prod.mk.injEq, and_true, true_and]
      omega

/-! ### The bytes of what is read -/
theorem up_bytes (n : Nat) (hn : n < 256) : ∀ b ∈ putC n, b ≠ 10 ∧ b ≠ 32 := by
  have h : ∀ n : Fin 256, ∀ b ∈ putC n.val, b ≠ 10 ∧ b ≠ 32 := by decide +kernel
  exact h ⟨n, hn⟩
theorem lit_bytes {asks : Bool} {c : UInt8} (h : okLit asks c = true) : c ≠ 10 ∧ c ≠ 32 := by
  have hh : ∀ a : Bool, ∀ n : Fin 256, okLit a (UInt8.ofNat n.val) = true → UInt8.ofNat n.val ≠ 10 ∧ UInt8.ofNat n.val ≠ 32 := by decide +kernel
  have e : UInt8.ofNat c.toNat = c := by simp
  have := hh asks ⟨c.toNat, c.toNat_lt⟩
  simp only [e] at this
  exact this h

theorem plain_bytes {asks : Bool} {l r : List UInt8} (h : plainL asks l = some r) : ∀ b ∈ r, b ≠ 10 ∧ b ≠ 32 := by
  refine plain_ind (M := fun _ r => ∀ b ∈ r, b ≠ 10 ∧ b ≠ 32) (by simp) ?_ ?_ h
  · intro c l r hc _ _ ih b hb
    rcases List.mem_cons.1 hb with rfl | hb
    · exact lit_bytes hc
    · exact ih b hb
  · intro c l r n hn _ _ ih b hb
    rcases List.mem_append.1 hb with hb | hb
    · exact up_bytes n (codeL_lt hn) b hb
    · exact ih b hb
theorem canon_bytes {l c : List UInt8} (h : canonL l = some c) : (∃ r, c = 47 :: r) ∧ ∀ b ∈ c, b ≠ 10 ∧ b ≠ 32 := by
  obtain ⟨_, l', o, _, h1, _, h3⟩ := canon_iff h
  rcases h3 with ⟨_, rfl⟩ | ⟨_, m, hm, rfl⟩
  · refine ⟨⟨_, rfl⟩, fun b hb => ?_⟩
    rcases List.mem_cons.1 hb with rfl | hb
    · decide
    · exact plain_bytes h1 b hb
  · refine ⟨⟨_, rfl⟩, fun b hb => ?_⟩
    rcases List.mem_cons.1 hb with rfl | hb
    · decide
    · rcases List.mem_append.1 hb with hb | hb
      · exact plain_bytes h1 b hb
      · rcases List.mem_cons.1 hb with rfl | hb
        · decide
        · exact plain_bytes hm b hb
theorem verb_cases {l : List UInt8} (h : verbB l = true) : l = bGet ∨ l = bPut ∨ l = bPurge := by
  simpa [verbB, or_assoc] using h
theorem verb_bytes {l : List UInt8} (h : verbB l = true) : l ≠ [] ∧ (10 : UInt8) ∉ l ∧ (32 : UInt8) ∉ l := by
  rcases verb_cases h with rfl | rfl | rfl <;> decide

/-! ### Fields of a request's own -/
theorem drop_none {p : UInt8 → Bool} {l : List UInt8} (h : ∀ b ∈ l, p b = false) : l.dropWhile p = l := by
  cases l with
  | nil => rfl
  | cons b l => rw [List.dropWhile_cons, h b (List.mem_cons_self ..)]; rfl
theorem trim_none {l : List UInt8} (h : (32 : UInt8) ∉ l) : Lib.trimB l 32 = l := by
  have hp : ∀ b ∈ l, (b == 32) = false := fun b hb => by
    simp only [beq_eq_false_iff_ne]; rintro rfl; exact h hb
  unfold Lib.trimB Lib.trimLeftB Lib.trimRightB
  rw [drop_none (fun b hb => hp b (List.mem_reverse.1 hb)), List.reverse_reverse, drop_none hp]
theorem small_print (c : UInt8) (h : isSmall c = true) : printC c = true := by
  have hh : ∀ n : Fin 256, isSmall (UInt8.ofNat n.val) = true → printC (UInt8.ofNat n.val) = true := by decide +kernel
  have e : UInt8.ofNat c.toNat = c := by simp
  have := hh ⟨c.toNat, c.toNat_lt⟩
  simp only [e] at this
  exact this h
theorem host_val {l : List UInt8} (h : hostB l = true) : valB l = true := by
  refine valB_yes (by have := host_len h; omega) ?_ (trim_none (host_not h).2.1)
  unfold printB
  rw [List.all_eq_true]
  intro b hb
  rcases host_bytes h hb with rfl | hs
  · decide
  · exact small_print b hs
theorem dig_val (n : Nat) (hn : n ≤ 20) : valB (Lib.decDigits n) = true ∧ (10 : UInt8) ∉ Lib.decDigits n := by
  have h : ∀ n : Fin 21, valB (Lib.decDigits n.val) = true ∧ (10 : UInt8) ∉ Lib.decDigits n.val := by decide +kernel
  exact h ⟨n, by omega⟩
theorem own_read {n v : List UInt8} (hn : tokB n = true) (hv : valB v = true) : rdR (n ++ 58 :: 32 :: v) = ((⟨n.toArray⟩, ⟨v.toArray⟩), true) := by
  have hf : fdB (⟨n.toArray⟩, ⟨v.toArray⟩) = true := by simp [fdB, hn, hv]
  have hs := tok_smalls hn
  obtain ⟨_, h2⟩ := fd_parts hf
  refine read_of hf (by simpa using low_small hs) (by simpa using colon_small hs) ?_
  rw [trim_left]
  simpa using h2

theorem rd_pair {l : List UInt8} {f : ByteArray × ByteArray} (h : rdR l = (f, true)) : rdB l = true ∧ rdF l = f := by
  unfold rdR at h
  by_cases hb : rdB l = true
  · rw [if_pos hb] at h
    injection h with h1 _
    exact ⟨hb, h1⟩
  · rw [if_neg hb] at h
    injection h with _ h2
    cases h2

theorem all_filter (fs : List Fd) (s : ByteArray) : allTo fs s fs.length = (fs.filter fun f => f.1 = s).map (·.2) := by
  have h : ∀ k, k ≤ fs.length → allTo fs s k = ((fs.take k).filter fun f => f.1 = s).map (·.2) := by
    intro k
    induction k with
    | zero => intro _; rfl
    | succ k ih =>
      intro hk
      have hg : fs[k]? = some fs[k] := List.getElem?_eq_getElem (by omega)
      rw [allTo_at s hg, ih (by omega), List.take_add_one, hg, List.filter_append, List.map_append]
      by_cases he : fs[k].1 = s
      · rw [if_pos he]
        have : ([fs[k]].filter fun f => decide (f.1 = s)) = [fs[k]] := by rw [List.filter_cons_of_pos (by simpa using he)]; rfl
        rw [Option.toList_some, this]; rfl
      · rw [if_neg he]
        have : ([fs[k]].filter fun f => decide (f.1 = s)) = [] := by rw [List.filter_cons_of_neg (by simpa using he)]; rfl
        rw [Option.toList_some, this]; simp
  rw [h fs.length (Nat.le_refl _), List.take_length]
end Go.Proofs.YtbhnjnoblkfckabGreatDoor

-- from XHedR
/- Pure laws on requests: a request's text is read as it. -/
namespace Go.Proofs.YtbhnjnoblkfckabGreatDoor

structure HOk (h : Hd) : Prop where
  verb : verbB h.verb.data.toList = true
  target : canonL h.target.data.toList = some h.target.data.toList
  host : hostB h.host.data.toList = true
  many : h.fs.length ≤ 6
  body : bodyB h.body.data.toList = true
  put : h.body.data.toList = [] ∨ h.verb.data.toList = bPut
  fs : ∀ f ∈ h.fs, fdB f = true ∧ ownB f.1.data.toList = false
  len : (headT h).length ≤ 300
theorem hedB_iff {h : Hd} : hedB h = true ↔ HOk h := by
  unfold hedB
  simp only [Bool.and_eq_true, Bool.or_eq_true, decide_eq_true_eq, List.all_eq_true, beq_iff_eq, Bool.not_eq_true']
  constructor
  · rintro ⟨⟨⟨⟨⟨⟨⟨h1, h2⟩, h3⟩, h4⟩, h5⟩, h6⟩, h7⟩, h8⟩
    exact ⟨h1, h2, h3, h4, h5, h6, h7, h8⟩
  · rintro ⟨h1, h2, h3, h4, h5, h6, h7, h8⟩
    exact ⟨⟨⟨⟨⟨⟨⟨h1, h2⟩, h3⟩, h4⟩, h5⟩, h6⟩, h7⟩, h8⟩

/-- The field that tells the body's length. -/
def lenFs (b : List UInt8) : List (ByteArray × ByteArray) := if b = [] then [] else [(⟨bLength.toArray⟩, ⟨(Lib.decDigits b.length).toArray⟩)]
/-- All fields of a request's text. -/
def textFs (h : Hd) : List (ByteArray × ByteArray) := (⟨bHost.toArray⟩, h.host) :: (h.fs ++ lenFs h.body.data.toList)

theorem print_not10 {l : List UInt8} (h : printB l = true) : (10 : UInt8) ∉ l := fun hb => by
  unfold printB at h
  exact absurd (List.all_eq_true.1 h 10 hb) (by decide)
theorem body_len {h : Hd} (hk : HOk h) : h.body.data.toList.length ≤ 20 ∧ printB h.body.data.toList = true := by
  have := hk.body
  simpa [bodyB] using this

theorem fd_line {f : ByteArray × ByteArray} (hf : fdB f = true) : (fdT f).data.toList ≠ [] ∧ (10 : UInt8) ∉ (fdT f).data.toList ∧ rdB (fdT f).data.toList = true ∧ rdF (fdT f).data.toList = f := by
  obtain ⟨n, v⟩ := f
  obtain ⟨h1, h2⟩ := rd_pair (read_text hf)
  refine ⟨?_, ?_, h1, h2⟩
  · rw [fdT_list hf]; simp
  · rw [fdT_list hf]
    have hs := tok_smalls (fd_parts hf).1
    have hv : printB v.data.toList = true := by
      simp only [fdB, valB, Bool.and_eq_true] at hf
      exact hf.2.1.2
    intro hb
    rcases List.mem_append.1 hb with hb | hb
    · exact (hsmall_lt 10 (smalls_mem hs hb)).2.2.1 rfl
    · rcases List.mem_cons.1 hb with hb | hb
      · exact absurd hb (by decide)
      · rcases List.mem_cons.1 hb with hb | hb
        · exact absurd hb (by decide)
        · exact print_not10 hv hb

theorem own_line {n v : List UInt8} (hn : tokB n = true) (hv : valB v = true) : n ++ 58 :: 32 :: v ≠ [] ∧ (10 : UInt8) ∉ (n ++ 58 :: 32 :: v) ∧ rdB (n ++ 58 :: 32 :: v) = true ∧ rdF (n ++ 58 :: 32 :: v) = (⟨n.toArray⟩, ⟨v.toArray⟩) := by
  obtain ⟨h1, h2⟩ := rd_pair (own_read hn hv)
  refine ⟨by simp, ?_, h1, h2⟩
  have hs := tok_smalls hn
  have hp : printB v = true := by
    simp only [valB, Bool.and_eq_true] at hv
    exact hv.1.2
  intro hb
  rcases List.mem_append.1 hb with hb | hb
  · exact (hsmall_lt 10 (smalls_mem hs hb)).2.2.1 rfl
  · rcases List.mem_cons.1 hb with hb | hb
    · exact absurd hb (by decide)
    · rcases List.mem_cons.1 hb with hb | hb
      · exact absurd hb (by decide)
      · exact print_not10 hp hb

theorem len_line {h : Hd} (hk : HOk h) : (∀ l ∈ lenLines h.body.data.toList, l ≠ [] ∧ (10 : UInt8) ∉ l ∧ rdB l = true) ∧ (lenLines h.body.data.toList).map rdF = lenFs h.body.data.toList := by
  unfold lenLines lenFs
  by_cases hb : h.body.data.toList = []
  · rw [if_pos hb, if_pos hb]; simp
  · rw [if_neg hb, if_neg hb]
    obtain ⟨h1, h2, h3, h4⟩ := own_line (n := bLength) (by decide) (dig_val _ (body_len hk).1).1
    refine ⟨fun l hl => ?_, by rw [List.map_cons, h4]; rfl⟩
    have : l = bLength ++ 58 :: 32 :: Lib.decDigits h.body.data.toList.length := by simpa using hl
    rw [this]; exact ⟨h1, h2, h3⟩
/-- The lines behind the first one, and what they say. -/
def tailLines (h : Hd) : List (List UInt8) := (bHost ++ 58 :: 32 :: h.host.data.toList) :: ((h.fs.map fun f => (fdT f).data.toList) ++ lenLines h.body.data.toList)
theorem tail_lines {h : Hd} (hk : HOk h) : (∀ l ∈ tailLines h, l ≠ [] ∧ (10 : UInt8) ∉ l ∧ rdB l = true) ∧ (tailLines h).map rdF = textFs h := by
  obtain ⟨h1, h2, h3, h4⟩ := own_line (n := bHost) (by decide) (host_val hk.host)
  obtain ⟨k1, k2⟩ := len_line hk
  constructor
  · intro l hl
    unfold tailLines at hl
    rcases List.mem_cons.1 hl with rfl | hl
    · exact ⟨h1, h2, h3⟩
    · rcases List.mem_append.1 hl with hl | hl
      · obtain ⟨f, hf, rfl⟩ := List.mem_map.1 hl
        obtain ⟨g1, g2, g3, _⟩ := fd_line (hk.fs f hf).1
        exact ⟨g1, g2, g3⟩
      · exact k1 l hl
  · unfold tailLines textFs
    rw [List.map_cons, h4, ba_mk, List.map_append, k2, List.map_map]
    congr 2
    conv => rhs; rw [← List.map_id h.fs]
    exact List.map_congr_left fun f hf => (fd_line (hk.fs f hf).1).2.2.2

theorem lenLines_len (b : List UInt8) : (lenLines b).length ≤ 1 := by unfold lenLines; split <;> simp
theorem tail_len {h : Hd} (hk : HOk h) : (tailLines h).length ≤ 8 := by
  have := lenLines_len h.body.data.toList
  have := hk.many
  simp [tailLines]; omega
theorem fields_text {h : Hd} (hk : HOk h) : fieldsL (tailLines h) = some (textFs h) := by
  obtain ⟨h1, h2⟩ := tail_lines hk
  unfold fieldsL
  rw [if_pos ⟨tail_len hk, List.all_eq_true.2 fun l hl => (h1 l hl).2.2⟩, h2]
theorem first_text {h : Hd} (hk : HOk h) : firstL (h.verb.data.toList ++ 32 :: h.target.data.toList) = some (h.verb.data.toList, h.target.data.toList, []) := by
  obtain ⟨⟨r, hr⟩, _⟩ := canon_bytes hk.target
  have hc := cutL_yes h.verb.data.toList h.target.data.toList 32 (verb_bytes hk.verb).2.2
  have ht : targetL h.target.data.toList = some (h.target.data.toList, []) := by
    unfold targetL
    rw [if_neg (by rw [hr]; simp [bHttp, List.isPrefixOf]), hk.target]; rfl
  unfold firstL
  rw [hc, if_pos ⟨rfl, hk.verb⟩]
  simp only
  rw [ht]; rfl

theorem name_ne {a : ByteArray} {l : List UInt8} (h : a.data.toList ≠ l) : ¬ a = ⟨l.toArray⟩ := by
  rintro rfl; exact h (by simp)
theorem not_own {l : List UInt8} (h : ownB l = false) : l ≠ bHost ∧ l ≠ bLength ∧ l ≠ bTransfer := by
  simpa [ownB, and_assoc] using h
theorem filter_none {fs : List Fd} {s : ByteArray} (h : ∀ f ∈ fs, ¬ f.1 = s) : (fs.filter fun f => f.1 = s) = [] := by
  rw [List.filter_eq_nil_iff]
  intro f hf
  simpa using h f hf
theorem filter_own {h : Hd} (hk : HOk h) (l : List UInt8) (hl : l = bHost ∨ l = bLength ∨ l = bTransfer) : (h.fs.filter fun f => f.1 = (⟨l.toArray⟩ : ByteArray)) = [] := by
  refine filter_none fun f hf => name_ne ?_
  obtain ⟨n1, n2, n3⟩ := not_own (hk.fs f hf).2
  rcases hl with rfl | rfl | rfl
  · exact n1
  · exact n2
  · exact n3
theorem mk_inj {a b : List UInt8} : ((⟨a.toArray⟩ : ByteArray) = ⟨b.toArray⟩) ↔ a = b := by
  constructor
  · intro h
    have := congrArg (fun x : ByteArray => x.data.toList) h
    simpa using this
  · rintro rfl; rfl
theorem host_text {h : Hd} (hk : HOk h) : allTo (textFs h) ⟨bHost.toArray⟩ (textFs h).length = [h.host] := by
  rw [all_filter]
  have hl : ((lenFs h.body.data.toList).filter fun f => f.1 = (⟨bHost.toArray⟩ : ByteArray)) = [] := by
    refine filter_none fun f hf => ?_
    unfold lenFs at hf
    split at hf
    · cases hf
    · have : f = (⟨bLength.toArray⟩, ⟨(Lib.decDigits h.body.data.toList.length).toArray⟩) := by simpa using hf
      subst this
      rw [mk_inj]; decide
  unfold textFs
  rw [List.filter_cons_of_pos (by simp), List.filter_append, filter_own hk _ (.inl rfl), hl]; rfl
theorem transfer_text {h : Hd} (hk : HOk h) : allTo (textFs h) ⟨bTransfer.toArray⟩ (textFs h).length = [] := by
  rw [all_filter]
  have hl : ((lenFs h.body.data.toList).filter fun f => f.1 = (⟨bTransfer.toArray⟩ : ByteArray)) = [] := by
    refine filter_none fun f hf => ?_
    unfold lenFs at hf
    split at hf
    · cases hf
    · have : f = (⟨bLength.toArray⟩, ⟨(Lib.decDigits h.body.data.toList.length).toArray⟩) := by simpa using hf
      subst this
      rw [mk_inj]; decide
  unfold textFs
  rw [List.filter_cons_of_neg (by simp only [decide_eq_true_eq]; rw [mk_inj]; decide), List.filter_append, filter_own hk _ (.inr (.inr rfl)), hl]; rfl
theorem length_text {h : Hd} (hk : HOk h) : allTo (textFs h) ⟨bLength.toArray⟩ (textFs h).length = (lenFs h.body.data.toList).map (·.2) := by
  rw [all_filter]
  have hl : ((lenFs h.body.data.toList).filter fun f => f.1 = (⟨bLength.toArray⟩ : ByteArray)) = lenFs h.body.data.toList := by
    unfold lenFs
    split
    · rfl
    · simp
  unfold textFs
  rw [List.filter_cons_of_neg (by simp only [decide_eq_true_eq]; rw [mk_inj]; decide), List.filter_append, filter_own hk _ (.inr (.inl rfl)), hl]; rfl
theorem others_text {h : Hd} (hk : HOk h) : othersL (textFs h) = h.fs := by
  have h1 : othersL h.fs = h.fs := by
    unfold othersL
    rw [List.filter_eq_self]
    intro f hf
    simp [(hk.fs f hf).2]
  have h2 : othersL (lenFs h.body.data.toList) = [] := by
    unfold othersL
    rw [List.filter_eq_nil_iff]
    intro f hf
    unfold lenFs at hf
    split at hf
    · cases hf
    · have : f = (⟨bLength.toArray⟩, ⟨(Lib.decDigits h.body.data.toList.length).toArray⟩) := by simpa using hf
      subst this
      simp [show ownB bLength = true from by decide]
  have e : othersL (textFs h) = othersL h.fs ++ othersL (lenFs h.body.data.toList) := by
    unfold othersL textFs
    rw [List.filter_cons_of_neg (by simp [show ownB bHost = true from by decide]), List.filter_append]
  rw [e, h1, h2, List.append_nil]
theorem size_text {h : Hd} (hk : HOk h) : sizeL h.verb.data.toList (textFs h) = some h.body.data.toList.length := by
  unfold sizeL
  rw [transfer_text hk, length_text hk, if_neg (by simp)]
  unfold lenFs
  by_cases hb : h.body.data.toList = []
  · rw [if_pos hb, hb]; rfl
  · rw [if_neg hb]
    have hn := numR_dec h.body.data.toList.length (by have := (body_len hk).1; omega)
    simp only [List.map_cons, List.map_nil]
    rw [hn, if_pos ⟨rfl, (body_len hk).1, .inr (hk.put.resolve_left hb)⟩]

theorem whole_text {h : Hd} (hk : HOk h) : wholeL (hedLines h) = some (⟨h.verb, h.target, h.host, h.fs, ⟨#[]⟩⟩, h.body.data.toList.length) := by
  have e1 : hedLines h = (h.verb.data.toList ++ 32 :: h.target.data.toList) :: tailLines h := rfl
  rw [e1]
  unfold wholeL
  simp only [first_text hk, fields_text hk, host_text hk, oneOf]
  rw [host_id hk.host, if_pos ⟨hk.host, .inl trivial, by rw [others_text hk]; exact hk.many⟩, size_text hk, others_text hk]
  simp only [Option.map_some, ba_mk]

theorem hed_lines {h : Hd} (hk : HOk h) : (∀ l ∈ hedLines h, l ≠ [] ∧ (10 : UInt8) ∉ l) ∧ (hedLines h).length ≤ 9 := by
  have e1 : hedLines h = (h.verb.data.toList ++ 32 :: h.target.data.toList) :: tailLines h := rfl
  rw [e1]
  refine ⟨fun l hl => ?_, by have := tail_len hk; simp; omega⟩
  rcases List.mem_cons.1 hl with rfl | hl
  · refine ⟨by simp, fun hb => ?_⟩
    rcases List.mem_append.1 hb with hb | hb
    · exact (verb_bytes hk.verb).2.1 hb
    · rcases List.mem_cons.1 hb with hb | hb
      · exact absurd hb (by decide)
      · exact ((canon_bytes hk.target).2 10 hb).1 rfl
  · obtain ⟨h1, h2, _⟩ := (tail_lines hk).1 l hl
    exact ⟨h1, h2⟩

/-- A request's text is read as it, whatever stands behind it. -/
theorem read_write {h : Hd} (hb : hedB h = true) (t : List UInt8) : readL (hedT h ++ t) = (h, (hedT h).length, 1) := by
  have hk := hedB_iff.1 hb
  obtain ⟨h1, h2⟩ := hed_lines hk
  have hlen := hk.len
  have hT : (headT h).length = (joinL (hedLines h)).length + 1 := by simp [headT]
  have e0 : hedT h ++ t = joinL (hedLines h) ++ 10 :: (h.body.data.toList ++ t) := by simp [hedT, headT]
  have hl := lines_mk (hedLines h) 302 (h.body.data.toList ++ t) 0 (by omega) (by omega) h1
  have hd : (hedT h ++ t).drop (headT h).length = h.body.data.toList ++ t := by
    unfold hedT
    rw [List.append_assoc, List.drop_left]
  unfold readL
  rw [e0, hl]
  simp only [Nat.zero_add]
  rw [← hT, if_neg (by omega), if_neg (by simp), whole_text hk]
  simp only
  rw [← e0, hd, List.take_left, ba_mk, if_neg (by simp [hedT]), if_pos hb]
  simp [hedT]
end Go.Proofs.YtbhnjnoblkfckabGreatDoor

-- from XHedW
/- Walks: a request's text, and whether a request is ok, by the specification. -/
namespace Go.Proofs.YtbhnjnoblkfckabGreatDoor
open Go.RowKit

/-- The lines ahead of a request's fields. -/
def preL (h : Hd) : List UInt8 := h.verb.data.toList ++ 32 :: h.target.data.toList ++ [10] ++ bHost ++ 58 :: 32 :: h.host.data.toList ++ [10]
def fsL (fs : List Fd) : List UInt8 := joinL (fs.map fun f => (fdT f).data.toList)
theorem fsL_snoc (fs : List Fd) (f : Fd) : fsL (fs ++ [f]) = fsL fs ++ ((fdT f).data.toList ++ [10]) := by simp [fsL, joinL]
theorem fdT_len (f : Fd) : (fdT f).size ≤ 44 := by
  obtain ⟨a, b⟩ := f
  unfold fdT
  by_cases h : fdB (a, b) = true
  · rw [if_pos h]
    have := fdB_len h
    simp only [ByteArray.size_append]
    have e : (ByteArray.mk #[58, 32]).size = 2 := rfl
    omega
  · rw [if_neg h]; decide
theorem hedT_pre (h : Hd) : hedT h = preL h ++ fsL h.fs ++ (joinL (lenLines h.body.data.toList) ++ 10 :: h.body.data.toList) := by
  simp [hedT, headT, hedLines, preL, fsL, joinL]

set_option maxHeartbeats 1600000 in
theorem spec_write (h : Hd) (v : Value) (w : World) (hv : FRow w v h.fs) (hn : h.fs.length ≤ 2000000) (hok : FOk h.fs maxLen)
    (b1 : h.verb.size ≤ 2000000) (b2 : h.target.size ≤ 2000000) (b3 : h.host.size ≤ 2000000) (b4 : h.body.size ≤ 2000000) :
    Calls Tryz.prog 91 #[.agg #[.string h.verb, .string h.target, .string h.host, v, .string h.body]] w fun e w' => e = .returned (.string ⟨(hedT h).toArray⟩) ∧ Below w.heap.size w w' := by
  have he := hedT_pre h
  have hp : (preL h).length = h.verb.size + h.target.size + h.host.size + 9 := by
    rw [size_len, size_len, size_len]; simp only [preL, bHost, List.length_append, List.length_cons, List.length_nil]; omega
  have hpre : preL h = h.verb.data.toList ++ 32 :: h.target.data.toList ++ [10] ++ bHost ++ 58 :: 32 :: h.host.data.toList ++ [10] := rfl
  have hll : lenLines h.body.data.toList = if h.body.data.toList = [] then [] else [bLength ++ 58 :: 32 :: Lib.decDigits h.body.data.toList.length] := rfl
  obtain ⟨verb, target, host, fs, body⟩ := h
  dsimp only at *
  generalize preL ⟨verb, target, host, fs, body⟩ = pre at *
  generalize hedT ⟨verb, target, host, fs, body⟩ = full at *
  obtain ⟨a, c, rfl, h1, h2, h3⟩ := hv
  unfold maxLen at h2
  have H3 := Lib.hid h3; clear h3
  have HE := Lib.hid he; clear he
  have HPre := Lib.hid hpre; clear hpre
  have HL := Lib.hid hll; clear hll
  have HOk := Lib.hid hok; clear hok
  go_enter Tryz.func91, Tryz.ntmps91
  go_wp2_with fail
  generalize hO : Obj.cells #[.string verb, .string target, .string host, .slice a fs.length c, .string body] 32 = O
  have q3 : (w.alloc O).cell? ⟨w.heap.size, 3, none⟩ = some (.slice a fs.length c) := by rw [← hO, World.cell?_alloc_at _ _ _ _ rfl]; rfl
  have q4 : (w.alloc O).cell? ⟨w.heap.size, 4, none⟩ = some (.string body) := by rw [← hO, World.cell?_alloc_at _ _ _ _ rfl]; rfl
  have hsz : (w.alloc O).heap.size = w.heap.size + 1 := by simp
  have hbA : Below w.heap.size w (w.alloc O) := (Below.refl _ _).alloc (Nat.le_refl _) O
  clear hO
  obtain ⟨X0, hX0⟩ : ∃ X0, X0 = verb ++ { data := #[32] } ++ target ++ { data := #[10, 104, 111, 115, 116, 58, 32] } ++ host ++ { data := #[10] } := ⟨_, rfl⟩
  rw [← hX0]
  have hX : X0.data.toList = pre := by rw [HPre.out, hX0]; simp [bHost]
  have hXs : X0.size ≤ 8000000 := by rw [size_len, hX]; omega
  have HX := Lib.hid hX; clear hX hX0
  generalize (w.alloc O) = wA at *
  go_loopw [3, 4] (fun x i wr => ∃ (k : Nat) (X : ByteArray), k ≤ fs.length ∧ i = .int .i64 k ∧ x = .string X ∧ X.data.toList = pre ++ fsL (fs.take k) ∧ X.size ≤ 8000000 + 45 * k ∧ Below (w.heap.size + 1) wA wr) (fun _ i _ => fs.length - (intOf i).toNat)
  case atStart => exact ⟨0, X0, Nat.zero_le _, rfl, rfl, by rw [HX.out]; simp [fsL, joinL], hXs, Below.refl _ _⟩
  case round =>
    obtain ⟨k, X, hk, rfl, rfl, hXk, hXsz, hbr⟩ := hrel
    have r3 := (hbr.cell (p := ⟨w.heap.size, 3, none⟩) (by simp)).trans q3
    have r4 := (hbr.cell (p := ⟨w.heap.size, 4, none⟩) (by simp)).trans q4
    have HXk := Lib.hid hXk; clear hXk
    have hbw := hbA.trans (hbr.mono (Nat.le_succ _))
    have hwr : w.heap.size + 1 ≤ wr.heap.size := by have := hbr.size; omega
    by_cases hlt : k < fs.length
    · obtain ⟨b1, o1, rfl, hb1, c1, c2⟩ := H3.out k fs[k] (List.getElem?_eq_getElem hlt)
      have k1 := (hbw.cell (p := ⟨b1, o1 + k * 2, none⟩) hb1).trans c1
      have k2 := (hbw.cell (p := ⟨b1, o1 + k * 2 + 1, none⟩) hb1).trans c2
      have hok := HOk.out fs[k] (List.getElem_mem hlt)
      have hsn : fs.take (k + 1) = fs.take k ++ [fs[k]] := by rw [List.take_add_one, List.getElem?_eq_getElem hlt]; rfl
      have HSn := Lib.hid hsn; clear hsn
      clear c1 c2
      generalize fs[k] = f at *
      obtain ⟨nm, vl⟩ := f
      dsimp only at k1 k2 hok
      have hT := fun W => spec_text nm vl W hok.1 hok.2
      have hTl := fdT_len (nm, vl)
      generalize hF : fdT (nm, vl) = F at *
      have HF := Lib.hid hF; clear hF
      go_wp2_with fail
      refine (hT _).mono ?_
      rintro e w2 ⟨rfl, hb2⟩
      go_wp2
      go_roundw
      case rel =>
        refine ⟨k + 1, _, by omega, by go_num, rfl, ?_, ?_, hbr.trans (hb2.mono hwr)⟩
        · rw [HSn.out, fsL_snoc, HF.out]; simp [HXk.out]
        · simp only [ByteArray.size_append]; have e : (ByteArray.mk #[10]).size = 1 := rfl; omega
      case measure => simp [intOf]; omega
    · have hkn : k = fs.length := by omega
      subst hkn
      rw [List.take_length] at HXk
      by_cases hb : body.data.toList = []
      · have he : (body.toList == []) = true := by rw [Lib.toList_data, hb]; rfl
        have hl := HL.out
        rw [if_pos hb] at hl
        have HB := Lib.hid hb; have HL2 := Lib.hid hl
        clear hb hl
        go_wp2
        go_ret
        refine ⟨congrArg (fun s => Ending.returned (Value.string s)) ?_, hbw⟩
        rw [HE.out, HL2.out]
        refine str_inj2 ?_
        simp [HXk.out, joinL]
      · have he : (body.toList == []) = false := by rw [Lib.toList_data]; simpa using hb
        have hl := HL.out
        rw [if_neg hb] at hl
        have HB := Lib.hid hb; have HL2 := Lib.hid hl
        have hbs : body.data.toList.length = body.size := (size_len body).symm
        rw [hbs] at HL2
        have hP := fun W => plain_any body.size W (by omega)
        have hdl := dec_len_le 7 body.size (by omega)
        have hds : (ByteArray.mk (Lib.decDigits body.size).toArray).size ≤ 8 := by rw [size_len]; simpa using hdl
        unfold strV at hP
        clear hb hl hbs hdl
        have hdd : (ByteArray.mk (Lib.decDigits body.size).toArray).data.toList = Lib.decDigits body.size := by simp
        have HDD := Lib.hid hdd; clear hdd
        generalize (ByteArray.mk (Lib.decDigits body.size).toArray) = D at *
        go_wp2_with fail
        refine (hP _).mono ?_
        rintro e w2 ⟨rfl, hb2⟩
        have s4 := (hb2.cell (p := ⟨w.heap.size, 4, none⟩) (by simp; omega)).trans r4
        go_wp2
        go_ret
        refine ⟨congrArg (fun s => Ending.returned (Value.string s)) ?_, hbw.trans (hb2.mono hbw.size)⟩
        rw [HE.out, HL2.out]
        refine str_inj2 ?_
        simp [HXk.out, HDD.out, joinL, bLength]
end Go.Proofs.YtbhnjnoblkfckabGreatDoor

-- from XSSteps
/- Places: the model's check on the parts of a path; the model whole. -/
namespace Go.Proofs.YtbhnjnoblkfckabGreatDoor
open Go.RowKit

theorem segs_last (p : List UInt8) : segsOk [p] = !isDots p := rfl
theorem segs_more (p q : List UInt8) (r : List (List UInt8)) : segsOk (p :: q :: r) = (!isDots p && !p.isEmpty && segsOk (q :: r)) := rfl

set_option maxHeartbeats 1600000 in
theorem l2_steps (s : ByteArray) (w : World) (hs : s.size ≤ 1048576) :
    Calls Tryz.prog 114 #[.string s] w fun e w' => e = .returned (.bool (segsOk (partsL s.data.toList 47).tail)) ∧ Below w.heap.size w w' := by
  have c1 := fun W => spec_parts s 47 W hs
  obtain ⟨R, hR⟩ : ∃ R, R = segsOk (partsL s.data.toList 47).tail := ⟨_, rfl⟩
  rw [← hR]
  have hne := partsL_ne s.data.toList 47
  have hplen : (partsL s.data.toList 47).length ≤ s.data.toList.length + 1 := partsL_len _ _
  rw [← size_len] at hplen
  generalize partsL s.data.toList 47 = ps at *
  have HR0 := Lib.hid (show R = segsOk (ps.drop 1) by rw [hR]; simp)
  have h1 : 1 ≤ ps.length := by cases ps with
    | nil => exact absurd rfl hne
    | cons a l => simp
  clear hR hne
  go_enter Tryz.func114, Tryz.ntmps114
  go_wp2_with fail
  refine (c1 _).mono ?_
  rintro e w1 ⟨v, rfl, hown, hb1⟩
  clear c1
  obtain ⟨g, cap, rfl⟩ := own_form hown (by omega)
  have hmax := own_max hown
  have HC : ∀ j (hj : j < ps.length), w1.cell? ⟨g, j, none⟩ = some (.string ⟨(ps[j]).toArray⟩) := fun j hj => own_cell hown (u := strV ps[j]) (by simp [hj])
  have HH := Lib.hid HC
  clear hown HC
  go_wp2_with fail
  go_loop [4] (fun i => ∃ k : Nat, 1 ≤ k ∧ k ≤ ps.length ∧ i = .int .i64 k ∧ Hid (R = segsOk (ps.drop k))) (fun i => ps.length - (intOf i).toNat)
  case atStart => exact ⟨1, Nat.le_refl _, h1, rfl, HR0⟩
  case round =>
    clear HR0
    obtain ⟨k, hk1, hk, rfl, HR⟩ := hrel
    by_cases hlt : k < ps.length
    · have hc := HH.out k hlt
      rw [List.drop_eq_getElem_cons hlt] at HR
      generalize ps[k] = p at *
      obtain ⟨q, hq⟩ : ∃ q : ByteArray, q = ⟨p.toArray⟩ := ⟨_, rfl⟩
      have hqp : q.toList = p := by rw [hq, Lib.toList_data]
      rw [← hq] at hc
      clear hq
      cases b1 : (q.toList == [46]) with
      | true =>
        have hf : R = false := by
          rw [HR.out]
          have : isDots p = true := by unfold isDots; rw [← hqp, b1]; rfl
          cases h : ps.drop (k + 1) with
          | nil => rw [segs_last, this]; rfl
          | cons a r => rw [segs_more, this]; rfl
        clear HR hqp
        go_wp2
        go_ret
        exact ⟨rfl, hb1⟩
      | false =>
        cases b2 : (q.toList == [46, 46]) with
        | true =>
          have hf : R = false := by
            rw [HR.out]
            have : isDots p = true := by unfold isDots; rw [← hqp, b2]; simp
            cases h : ps.drop (k + 1) with
            | nil => rw [segs_last, this]; rfl
            | cons a r => rw [segs_more, this]; rfl
          clear HR hqp
          go_wp2
          go_ret
          exact ⟨rfl, hb1⟩
        | false =>
          have hd : isDots p = false := by unfold isDots; rw [← hqp, b1, b2]; rfl
          cases b3 : (q.toList == []) with
          | true =>
            have he : p = [] := by rw [← hqp]; simpa using b3
            by_cases hl : k + 1 < ps.length
            · have hf : R = false := by
                rw [HR.out, List.drop_eq_getElem_cons hl, segs_more, he]; rfl
              clear HR hqp hd he
              go_wp2
              go_ret
              exact ⟨rfl, hb1⟩
            · have hn : R = segsOk (ps.drop (k + 1)) := by
                rw [HR.out, List.drop_of_length_le (by omega), segs_last, hd]; rfl
              have HN := Lib.hid hn
              clear HR hqp hd he hn
              go_wp2
              go_round
              case rel => exact ⟨k + 1, by omega, by omega, by go_num, HN⟩
              case measure => simp [intOf]; omega
          | false =>
            have hn : R = segsOk (ps.drop (k + 1)) := by
              rw [HR.out]
              have hne : p.isEmpty = false := by rw [← hqp]; cases h : q.toList with
                | nil => rw [h] at b3; cases b3
                | cons a r => rfl
              cases h : ps.drop (k + 1) with
              | nil => rw [segs_last, hd]; rfl
              | cons a r => rw [segs_more, hd, hne]; rfl
            have HN := Lib.hid hn
            clear HR hqp hd hn
            go_wp2
            go_round
            case rel => exact ⟨k + 1, by omega, by omega, by go_num, HN⟩
            case measure => simp [intOf]; omega
    · have hf : R = true := by rw [HR.out, List.drop_of_length_le (by omega)]; rfl
      clear HR
      go_wp2
      go_ret
      exact ⟨rfl, hb1⟩

theorem plainL_empty {asks : Bool} {l : List UInt8} (h : plainL asks l = some []) : l = [] := by
  cases l with
  | nil => rfl
  | cons c l =>
    cases hc : codeL (c :: l) with
    | none =>
      rw [plainL_lit hc] at h
      split at h
      · obtain ⟨m, hm, he⟩ := Option.map_eq_some_iff.1 h; cases he
      · cases h
    | some k =>
      rw [plainL_code hc] at h
      split at h
      · cases h
      · obtain ⟨m, hm, he⟩ := Option.map_eq_some_iff.1 h
        have := (putC_len k).2
        have h2 := congrArg List.length he
        simp at h2; rw [h2.1] at this; simp at this

def canV (o : Option (List UInt8)) : Value := .tuple #[strV (o.getD []), .bool o.isSome]
theorem canonL_len {l r : List UInt8} (h : canonL l = some r) : l.length ≤ 40 ∧ 0 < l.length := by
  unfold canonL at h
  split at h
  · cases h
  · omega

theorem rootR_cons (c : UInt8) (l : List UInt8) : rootR (c :: l) = if c = 47 then resP [47] 1 l else none := rfl
theorem one_sz (c : UInt8) : (ByteArray.mk #[c]).size = 1 := rfl

set_option maxHeartbeats 1600000 in
theorem spec_canon (s : ByteArray) (w : World) (hs : s.size ≤ 1048576) :
    Calls Tryz.prog 67 #[.string s] w fun e w' => e = .returned (canV (canonL s.data.toList)) ∧ Below w.heap.size w w' := by
  obtain ⟨R, hR⟩ : ∃ R, R = canonL s.data.toList := ⟨_, rfl⟩
  rw [← hR]
  have hbad : R = none → canV R = .tuple #[.string ⟨#[]⟩, .bool false] := fun h => by rw [h]; rfl
  unfold canonL at hR
  rw [← size_len] at hR
  by_cases h0 : s.size = 0
  · rw [if_pos (.inl h0)] at hR
    rw [hbad hR]
    clear hbad hR hs
    have hz : ((s.size : Int) == 0) = true := by rw [h0]; rfl
    clear h0
    go_enter Tryz.func67, Tryz.ntmps67
    go_wp2
    go_ret2
    exact ⟨rfl, Below.refl _ _⟩
  · have hz : ((s.size : Int) == 0) = false := beq_eq_false_iff_ne.2 (by omega)
    by_cases h40 : 40 < s.size
    · rw [if_pos (.inr h40)] at hR
      rw [hbad hR]
      clear hbad hR h0
      go_enter Tryz.func67, Tryz.ntmps67
      go_wp2
      go_ret2
      exact ⟨rfl, Below.refl _ _⟩
    · rw [if_neg (by omega)] at hR
      have hd := drop_at s 0 (by omega)
      rw [List.drop_zero] at hd
      rw [hd] at hR
      have e1 := u8_eqk s[0] 47
      simp only [UInt8.reduceToNat, Int.cast_ofNat_Int] at e1
      by_cases hc : s[0] = 47
      · have c1 := fun W => spec_cut s 63 W (by unfold maxLen; omega)
        rw [hd, hc, cutL_cons (by decide)] at c1
        rw [rootR_cons, if_pos hc] at hR
        unfold resP at hR
        have hlen : (s.data.toList.drop (0 + 1)).length ≤ 40 := by rw [List.length_drop, ← size_len]; omega
        have hcl := cutL_len (s.data.toList.drop (0 + 1)) 63
        generalize s.data.toList.drop (0 + 1) = l at *
        generalize cutL l 63 = q at *
        obtain ⟨p, q, asks⟩ := q
        simp only at hR c1 hcl
        have hsz1 : (ByteArray.mk (47 :: p).toArray).size ≤ 1048576 := by rw [size_len]; simp; omega
        have hsz2 : (ByteArray.mk q.toArray).size ≤ 1048576 := by rw [size_len]; simp; omega
        have c2 := fun W => l2_plain ⟨(47 :: p).toArray⟩ false W hsz1
        have c3 := fun W => l2_plain ⟨q.toArray⟩ true W hsz2
        simp only at c2 c3
        rw [plainL_lit (codeL_ne (by decide)), show okLit false 47 = true from by decide, if_pos rfl] at c2
        have hh : ((s[0].toNat : Int) != 47) = false := by rw [hc]; rfl
        have h01 : (0 : Int) < s.size := by omega
        clear e1 hd hc
        cases hp : plainL false p with
        | none =>
          rw [hp] at hR c2
          rw [hbad hR]
          simp only [Option.map_none, Option.getD_none] at c2
          clear hR hp c3 hbad
          go_enter Tryz.func67, Tryz.ntmps67
          go_wp2_with fail
          refine (c1 _).mono ?_
          rintro e w1 ⟨rfl, n1, rfl⟩
          go_wp2_with fail
          refine (c2 _).mono ?_
          rintro e w2 ⟨rfl, hb2⟩
          clear c1 c2
          unfold strV
          go_wp2
          go_ret2
          exact ⟨rfl, below_drewN_left hb2⟩
        | some o =>
          rw [hp] at hR c2
          simp only [Option.map_some, Option.getD_some] at c2
          have hol := plainL_len hp
          have hsz3 : (ByteArray.mk (47 :: o).toArray).size ≤ 50 := by rw [size_len]; simp; omega
          have c4 := fun W => l2_steps ⟨(47 :: o).toArray⟩ W (by omega)
          simp only at c4
          have hpt : (partsL (47 :: o) 47).tail = partsL o 47 := by rw [show (47 :: o : List UInt8) = [] ++ 47 :: o from rfl, partsL_app _ _ (by simp)]; rfl
          rw [hpt] at c4
          have hnil : ((ByteArray.mk (47 :: o).toArray).toList == ([] : List UInt8)) = false := by rw [toList_mk]; rfl
          simp only [show List.drop 1 [(47 : UInt8)] = [] from rfl, List.nil_append] at hR
          cases hsg : segsOk (partsL o 47) with
          | false =>
            rw [hsg] at hR c4
            rw [hbad (by simpa using hR)]
            unfold strV at c2
            clear hR hp c3 hbad hpt hsg
            generalize ByteArray.mk (47 :: o).toArray = os at *
            go_enter Tryz.func67, Tryz.ntmps67
            go_wp2_with fail
            refine (c1 _).mono ?_
            rintro e w1 ⟨rfl, n1, rfl⟩
            go_wp2_with fail
            refine (c2 _).mono ?_
            rintro e w2 ⟨rfl, hb2⟩
            go_wp2_with fail
            refine (c4 _).mono ?_
            rintro e w3 ⟨rfl, hb3⟩
            clear c1 c2 c4
            go_wp2
            go_ret2
            exact ⟨rfl, (below_drewN_left hb2).trans (hb3.mono (by have := hb2.size; simpa using this))⟩
          | true =>
            rw [hsg] at hR c4
            simp only [if_true] at hR
            unfold strV at c2
            cases asks with
            | false =>
              simp only [Bool.false_eq_true, if_false] at hR
              have hR' : canV R = .tuple #[.string ⟨(47 :: o).toArray⟩, .bool true] := by rw [hR]; rfl
              rw [hR']
              clear hR hp c3 hbad hpt hsg hR'
              generalize ByteArray.mk (47 :: o).toArray = os at *
              go_enter Tryz.func67, Tryz.ntmps67
              go_wp2_with fail
              refine (c1 _).mono ?_
              rintro e w1 ⟨rfl, n1, rfl⟩
              go_wp2_with fail
              refine (c2 _).mono ?_
              rintro e w2 ⟨rfl, hb2⟩
              go_wp2_with fail
              refine (c4 _).mono ?_
              rintro e w3 ⟨rfl, hb3⟩
              have hb4 := (below_drewN_left hb2).trans (hb3.mono (by have := hb2.size; simpa using this))
              clear hb2 hb3 c1 c2 c4
              go_wp2
              go_ret2
              exact ⟨rfl, hb4⟩
            | true =>
              simp only [if_true] at hR
              cases hq : plainL true q with
              | none =>
                rw [hq] at hR c3
                rw [hbad (by simpa using hR)]
                have hqn : ((ByteArray.mk q.toArray).toList == ([] : List UInt8)) = false := by
                  rw [toList_mk]
                  cases q with
                  | nil => rw [plainL_nil] at hq; cases hq
                  | cons a b => rfl
                simp only [Option.getD_none] at c3
                unfold strV at c3
                clear hR hp hq hbad hpt hsg
                generalize ByteArray.mk (47 :: o).toArray = os at *
                generalize ByteArray.mk q.toArray = qs at *
                go_enter Tryz.func67, Tryz.ntmps67
                go_wp2_with fail
                refine (c1 _).mono ?_
                rintro e w1 ⟨rfl, n1, rfl⟩
                go_wp2_with fail
                refine (c2 _).mono ?_
                rintro e w2 ⟨rfl, hb2⟩
                go_wp2_with fail
                refine (c4 _).mono ?_
                rintro e w3 ⟨rfl, hb3⟩
                have hb4 := (below_drewN_left hb2).trans (hb3.mono (by have := hb2.size; simpa using this))
                clear hb2 hb3 c1 c2 c4
                go_wp2_with fail
                refine (c3 _).mono ?_
                rintro e w4 ⟨rfl, hb5⟩
                clear c3
                go_wp2
                go_ret2
                exact ⟨rfl, hb4.trans (hb5.mono hb4.size)⟩
              | some m =>
                rw [hq] at hR c3
                have hml := plainL_len hq
                have hR' : canV R = .tuple #[.string ((⟨(47 :: o).toArray⟩ ++ ⟨#[63]⟩ : ByteArray) ++ ⟨m.toArray⟩), .bool true] := by
                  rw [hR, show (⟨#[63]⟩ : ByteArray) = ⟨[63].toArray⟩ from rfl, cat_mk, cat_mk]; simp [canV]
                rw [hR']
                have hm0 : m = [] → q = [] := fun h => plainL_empty (h ▸ hq)
                simp only [Option.getD_some] at c3
                unfold strV at c3
                have hszm : (ByteArray.mk m.toArray).size ≤ 40 := by rw [size_len]; simp; omega
                have hz1 := one_sz 63
                cases m with
                | nil =>
                  obtain rfl := hm0 rfl
                  clear hR hp hq hbad hpt hsg hR' hm0
                  generalize ByteArray.mk (47 :: o).toArray = os at *
                  go_enter Tryz.func67, Tryz.ntmps67
                  go_wp2_with fail
                  refine (c1 _).mono ?_
                  rintro e w1 ⟨rfl, n1, rfl⟩
                  go_wp2_with fail
                  refine (c2 _).mono ?_
                  rintro e w2 ⟨rfl, hb2⟩
                  go_wp2_with fail
                  refine (c4 _).mono ?_
                  rintro e w3 ⟨rfl, hb3⟩
                  have hb4 := (below_drewN_left hb2).trans (hb3.mono (by have := hb2.size; simpa using this))
                  clear hb2 hb3 c1 c2 c4
                  go_wp2_with fail
                  refine (c3 _).mono ?_
                  rintro e w4 ⟨rfl, hb5⟩
                  clear c3
                  go_wp2
                  go_ret2
                  exact ⟨rfl, hb4.trans (hb5.mono hb4.size)⟩
                | cons ma mb =>
                  have hmn : ((ByteArray.mk (ma :: mb).toArray).toList == ([] : List UInt8)) = false := by rw [toList_mk]; rfl
                  clear hR hp hq hbad hpt hsg hR' hm0
                  generalize ByteArray.mk (47 :: o).toArray = os at *
                  generalize ByteArray.mk (ma :: mb).toArray = ms at *
                  generalize ByteArray.mk q.toArray = qs at *
                  go_enter Tryz.func67, Tryz.ntmps67
                  go_wp2_with fail
                  refine (c1 _).mono ?_
                  rintro e w1 ⟨rfl, n1, rfl⟩
                  go_wp2_with fail
                  refine (c2 _).mono ?_
                  rintro e w2 ⟨rfl, hb2⟩
                  go_wp2_with fail
                  refine (c4 _).mono ?_
                  rintro e w3 ⟨rfl, hb3⟩
                  have hb4 := (below_drewN_left hb2).trans (hb3.mono (by have := hb2.size; simpa using this))
                  clear hb2 hb3 c1 c2 c4
                  go_wp2_with fail
                  refine (c3 _).mono ?_
                  rintro e w4 ⟨rfl, hb5⟩
                  clear c3
                  go_wp2
                  go_ret2
                  exact ⟨rfl, hb4.trans (hb5.mono hb4.size)⟩
      · rw [rootR_cons, if_neg hc] at hR
        rw [hbad hR]
        have hh : ((s[0].toNat : Int) != 47) = true := by
          have e2 : (s[0] == 47) = false := by simpa using hc
          rw [e2] at e1
          simp only [bne, e1, Bool.not_false]
        have h01 : (0 : Int) < s.size := by omega
        clear hR hbad hd e1 hc
        go_enter Tryz.func67, Tryz.ntmps67
        go_wp2
        go_ret2
        exact ⟨rfl, Below.refl _ _⟩
end Go.Proofs.YtbhnjnoblkfckabGreatDoor

-- from XHedL
/- A request's cells, read at once. -/
namespace Go.Proofs.YtbhnjnoblkfckabGreatDoor
open Go.RowKit

theorem Tryz.infoHed : (Tryz.prog.info? 32).map (fun i => (i.size, i.bytes)) = some (5, 88) := by kernel_rfl
theorem load_hed (w : World) (b : Nat) (v0 v1 v2 v3 v4 : Value) (t0 : w.cell? ⟨b, 0, none⟩ = some v0) (t1 : w.cell? ⟨b, 1, none⟩ = some v1) (t2 : w.cell? ⟨b, 2, none⟩ = some v2) (t3 : w.cell? ⟨b, 3, none⟩ = some v3) (t4 : w.cell? ⟨b, 4, none⟩ = some v4) :
    (loadVar 32 ⟨b, 0, none⟩).run Tryz.prog w = .ok (.agg #[v0, v1, v2, v3, v4]) w := by
  have hl := run_loadCells_list (P := Tryz.prog) w ⟨b, 0, none⟩ [v0, v1, v2, v3, v4] (fun j v hv => by
    match j with
    | 0 => simpa [Addr.add] using (by simpa using hv : v0 = v) ▸ t0
    | 1 => simpa [Addr.add] using (by simpa using hv : v1 = v) ▸ t1
    | 2 => simpa [Addr.add] using (by simpa using hv : v2 = v) ▸ t2
    | 3 => simpa [Addr.add] using (by simpa using hv : v3 = v) ▸ t3
    | 4 => simpa [Addr.add] using (by simpa using hv : v4 = v) ▸ t4
    | j + 5 => simp at hv)
  have hag : (isAgg 32).run Tryz.prog w = .ok true w := by
    simp [isAgg, run_underlying Tryz.underlying32]
  obtain ⟨i, hi, hs⟩ := Option.map_eq_some_iff.1 Tryz.infoHed
  have hz : i.size = 5 := by injection hs
  simp only [List.length_cons, List.length_nil] at hl
  simp [loadVar, Sem.run_bind, hag, sizeOf, typeInfo, hi, hz, hl]

theorem fsL_len (fs : List Fd) : (fsL fs).length ≤ 45 * fs.length := by
  induction fs with
  | nil => simp [fsL, joinL]
  | cons f fs ih =>
    have e : fsL (f :: fs) = (fdT f).data.toList ++ 10 :: fsL fs := by simp [fsL, joinL]
    have := fdT_len f
    rw [size_len] at this
    rw [e]
    simp only [List.length_append, List.length_cons]
    omega
theorem head_len (h : Hd) (hb : h.body.size ≤ 1048576) : (headT h).length ≤ h.verb.size + h.target.size + h.host.size + 45 * h.fs.length + 100 := by
  have e : (hedT h).length = (headT h).length + h.body.data.toList.length := by simp [hedT]
  have hp : (preL h).length = h.verb.size + h.target.size + h.host.size + 9 := by
    rw [size_len, size_len, size_len]; simp only [preL, bHost, List.length_append, List.length_cons, List.length_nil]; omega
  have hf := fsL_len h.fs
  have hl : (joinL (lenLines h.body.data.toList)).length ≤ 20 := by
    unfold lenLines
    split
    · simp [joinL]
    · have := dec_len_le 7 h.body.data.toList.length (by rw [← size_len]; omega)
      simp only [joinL, List.flatMap_cons, List.flatMap_nil, List.length_append, List.length_cons, List.length_nil, bLength]
      omega
  have e2 := congrArg List.length (hedT_pre h)
  simp only [List.length_append, List.length_cons] at e2
  omega

/-- As Below, whatever was drawn. -/
def BelowH (B : Nat) (w w' : World) : Prop := Below B w { w' with drawn := w.drawn }
theorem below_toH {B : Nat} {w w' : World} (h : Below B w w') : BelowH B w w' := ⟨h.os, h.tape, h.output, h.size, h.block⟩
theorem BelowH.out {B : Nat} {w w' : World} (h : BelowH B w w') : Below B w w' := ⟨h.os, h.tape, h.output, h.size, h.block⟩
/-- What stays of a request's cells. -/
def HedS (w : World) (fs : List Fd) (v : Value) (W : World) : Prop := FRow W v fs ∧ BelowH w.heap.size w W ∧ w.heap.size < W.heap.size
theorem HedS.next {w W W' : World} {fs : List Fd} {v : Value} (h : HedS w fs v W) (hb : Below W.heap.size W W') : HedS w fs v W' :=
  ⟨h.1.below (Nat.le_refl _) hb, below_toH (h.2.1.out.trans (hb.mono h.2.1.out.size)), Nat.lt_of_lt_of_le h.2.2 hb.size⟩
end Go.Proofs.YtbhnjnoblkfckabGreatDoor

