import Derived.Test.YtbhnjnoblkfckaaGreatDoorGZ05
import Derived.Test.YtbhnjnoblkfckaaGreatDoorGZ03
import Derived.Test.YtbhnjnoblkfckaaGreatDoorGZ04
import Derived.Test.YtbhnjnoblkfckaaGreatDoorGZ00
-- from XCanP
/- Places: what holds of the plainest form, of what is meant, and of paths; on lists of bytes. -/
namespace Go.Proofs.YtbhnjnoblkfckaaGreatDoor
open Go.RowKit

theorem hexV_hexU (k : Nat) (hk : k < 16) : hexV (hexU k) = some k := by
  have h : ∀ k : Fin 16, hexV (hexU k.val) = some k.val := by decide
  exact h ⟨k, hk⟩
theorem freeB_ne37 {c : UInt8} (h : freeB c = true) : c ≠ 37 := by rintro rfl; revert h; decide
theorem okLit_ne37 {asks : Bool} {c : UInt8} (h : okLit asks c = true) : c ≠ 37 := by rintro rfl; rw [okLit_37] at h; cases h
theorem okLit_free {asks : Bool} {c : UInt8} (h : freeB c = true) : okLit asks c = true := by unfold okLit; rw [h]; simp
theorem okLit_ne63 {asks : Bool} {c : UInt8} (h : okLit asks c = true) : c ≠ 63 := by rintro rfl; revert h; cases asks <;> decide

/-- A byte as it stands in the plainest form. -/
def encB (b : UInt8) : List UInt8 := if (freeB b || b == 47 || b == 61 || b == 38 || b == 63) = true then [b] else upperL b.toNat
theorem encB_lit {asks : Bool} {c : UInt8} (h : okLit asks c = true) : encB c = [c] := by
  unfold encB
  rw [if_pos]
  unfold okLit at h
  cases hf : freeB c with
  | true => rfl
  | false =>
    rw [hf] at h
    simp only [Bool.false_or] at h ⊢
    cases asks
    · simp_all
    · simp at h ⊢
      rcases h with h | h <;> simp [h]
theorem encB_63 : encB 63 = [63] := by decide
theorem encB_code {n : Nat} (hn : n < 256) (hd : doubtB n = false) : encB (UInt8.ofNat n) = putC n := by
  have h : ∀ n : Fin 256, doubtB n.val = false → encB (UInt8.ofNat n.val) = putC n.val := by decide +kernel
  exact h ⟨n, hn⟩ hd
theorem encB_means (b : UInt8) (l : List UInt8) : meansL (encB b ++ l) = b :: meansL l := by
  unfold encB
  split
  · rename_i h
    have hne : b ≠ 37 := by rintro rfl; revert h; decide
    rw [List.singleton_append, meansL_none (codeL_ne hne)]
  · have hb := b.toNat_lt
    have h1 := hexV_hexU (b.toNat / 16) (by omega)
    have h2 := hexV_hexU (b.toNat % 16) (by omega)
    have hc : codeL (upperL b.toNat ++ l) = some (b.toNat / 16 * 16 + b.toNat % 16) := codeL_37_some h1 h2
    have e : b.toNat / 16 * 16 + b.toNat % 16 = b.toNat := by omega
    rw [e] at hc
    unfold upperL at hc ⊢
    rw [List.cons_append] at hc ⊢
    rw [meansL_some hc]
    simp
theorem means_enc (m : List UInt8) : meansL (m.flatMap encB) = m := by
  induction m with
  | nil => rw [List.flatMap_nil, meansL_nil]
  | cons b m ih => rw [List.flatMap_cons, encB_means, ih]

theorem plain_ind {asks : Bool} {M : List UInt8 → List UInt8 → Prop} (h0 : M [] []) (h1 : ∀ c l r, okLit asks c = true → codeL (c :: l) = none → plainL asks l = some r → M l r → M (c :: l) (c :: r))
    (h2 : ∀ c l r n, codeL (c :: l) = some n → doubtB n = false → plainL asks (l.drop 2) = some r → M (l.drop 2) r → M (c :: l) (putC n ++ r)) : ∀ {l r : List UInt8}, plainL asks l = some r → M l r := by
  intro l r h
  induction hl : l.length using Nat.strongRecOn generalizing l r with
  | _ n ih =>
    subst hl
    match l with
    | [] => rw [plainL_nil] at h; obtain rfl := Option.some.inj h; exact h0
    | c :: l =>
      cases hc : codeL (c :: l) with
      | none =>
        rw [plainL_lit hc] at h
        split at h
        · rename_i ho
          obtain ⟨m, hm, rfl⟩ := Option.map_eq_some_iff.1 h
          exact h1 c l m ho hc hm (ih l.length (by simp) hm rfl)
        · cases h
      | some k =>
        rw [plainL_code hc] at h
        split at h
        · cases h
        · rename_i hd
          obtain ⟨m, hm, rfl⟩ := Option.map_eq_some_iff.1 h
          exact h2 c l m k hc (by simpa using hd) hm (ih (l.drop 2).length (by simp; omega) hm rfl)

theorem plain_enc {asks : Bool} {l r : List UInt8} (h : plainL asks l = some r) : r = (meansL l).flatMap encB := by
  refine plain_ind (M := fun l r => r = (meansL l).flatMap encB) ?_ ?_ ?_ h
  · rw [meansL_nil]; rfl
  · intro c l r ho hc _ ih
    rw [meansL_none hc, List.flatMap_cons, encB_lit ho, ← ih]; rfl
  · intro c l r n hc hd _ ih
    rw [meansL_some hc, List.flatMap_cons, encB_code (codeL_lt hc) hd, ← ih]
theorem putC_no63 {n : Nat} (hn : n < 256) (hd : doubtB n = false) : 63 ∉ putC n := by
  have h : ∀ n : Fin 256, doubtB n.val = false → 63 ∉ putC n.val := by decide +kernel
  exact h ⟨n, hn⟩ hd
theorem plain_no63 {asks : Bool} {l r : List UInt8} (h : plainL asks l = some r) : 63 ∉ r := by
  refine plain_ind (M := fun _ r => 63 ∉ r) (by simp) ?_ ?_ h
  · intro c l r ho _ _ ih
    simp only [List.mem_cons, not_or]
    exact ⟨fun e => okLit_ne63 ho e.symm, ih⟩
  · intro c l r n hc hd _ ih
    simp only [List.mem_append, not_or]
    exact ⟨putC_no63 (codeL_lt hc) hd, ih⟩
theorem plain_idem {asks : Bool} {l r : List UInt8} (h : plainL asks l = some r) : plainL asks r = some r := by
  refine plain_ind (M := fun _ r => plainL asks r = some r) (plainL_nil asks) ?_ ?_ h
  · intro c l r ho _ _ ih
    rw [plainL_lit (codeL_ne (okLit_ne37 ho)), if_pos ho, ih]; rfl
  · intro c l r n hc hd _ ih
    have hn := codeL_lt hc
    unfold putC
    split
    · rename_i hf
      rw [List.singleton_append, plainL_lit (codeL_ne (freeB_ne37 hf)), if_pos (okLit_free hf), ih]; rfl
    · rename_i hf
      have h1 := hexV_hexU (n / 16) (by omega)
      have h2 := hexV_hexU (n % 16) (by omega)
      have hcc : codeL (upperL n ++ r) = some (n / 16 * 16 + n % 16) := codeL_37_some h1 h2
      have e : n / 16 * 16 + n % 16 = n := by omega
      rw [e] at hcc
      have hp : putC n = upperL n := if_neg hf
      have hu : upperL n ++ r = 37 :: ([hexU (n / 16), hexU (n % 16)] ++ r) := rfl
      rw [hu] at hcc ⊢
      rw [plainL_code hcc, hd, hp]
      have hdr : List.drop 2 ([hexU (n / 16), hexU (n % 16)] ++ r) = r := rfl
      rw [hdr, ih]; rfl

/-- What it is to have a plainest form. -/
theorem canon_iff {l c : List UInt8} (h : canonL l = some c) : l.length ≤ 40 ∧ ∃ l' o, l = 47 :: l' ∧ plainL false (cutL l' 63).1 = some o ∧ segsOk (partsL o 47) = true ∧
    (((cutL l' 63).2.2 = false ∧ c = 47 :: o) ∨ ((cutL l' 63).2.2 = true ∧ ∃ m, plainL true (cutL l' 63).2.1 = some m ∧ c = 47 :: (o ++ 63 :: m))) := by
  unfold canonL at h
  split at h
  · cases h
  · rename_i hl
    refine ⟨by omega, ?_⟩
    match l, h with
    | d :: l', h =>
      unfold rootR at h
      simp only at h
      split at h
      · rename_i hd
        subst hd
        unfold resP at h
        split at h
        · cases h
        · rename_i o ho
          refine ⟨l', o, rfl, ho, ?_⟩
          have e1 : List.drop 1 [(47 : UInt8)] = [] := rfl
          rw [e1, List.nil_append] at h
          split at h
          · rename_i hs
            refine ⟨hs, ?_⟩
            split at h
            · rename_i ha
              obtain ⟨m, hm, rfl⟩ := Option.map_eq_some_iff.1 h
              exact .inr ⟨ha, m, hm, by simp⟩
            · rename_i ha
              have := Option.some.inj h
              exact .inl ⟨by simpa using ha, by rw [← this]; rfl⟩
          · cases h
      · cases h
theorem canon_mk {o : List UInt8} (h1 : 63 ∉ o) (h2 : plainL false o = some o) (h3 : segsOk (partsL o 47) = true) (h4 : (47 :: o).length ≤ 40) : canonL (47 :: o) = some (47 :: o) := by
  unfold canonL
  rw [if_neg (by simp at h4 ⊢; omega)]
  show (if (47 : UInt8) = 47 then resP [47] 1 o else none) = _
  rw [if_pos rfl]
  unfold resP
  rw [cutL_no _ _ h1]
  simp only [h2]
  have e1 : List.drop 1 [(47 : UInt8)] = [] := rfl
  rw [e1, List.nil_append, if_pos h3]; rfl
theorem canon_mk2 {o m : List UInt8} (h1 : 63 ∉ o) (h2 : plainL false o = some o) (h3 : segsOk (partsL o 47) = true) (hm : plainL true m = some m) (h4 : (47 :: (o ++ 63 :: m)).length ≤ 40) : canonL (47 :: (o ++ 63 :: m)) = some (47 :: (o ++ 63 :: m)) := by
  unfold canonL
  rw [if_neg (by simp at h4 ⊢; omega)]
  show (if (47 : UInt8) = 47 then resP [47] 1 (o ++ 63 :: m) else none) = _
  rw [if_pos rfl]
  unfold resP
  rw [cutL_yes _ _ _ h1]
  simp only [h2]
  have e1 : List.drop 1 [(47 : UInt8)] = [] := rfl
  rw [e1, List.nil_append, if_pos h3, hm]; rfl

theorem cutL_join {l : List UInt8} (h : (cutL l 63).2.2 = true) : l = (cutL l 63).1 ++ 63 :: (cutL l 63).2.1 := by
  induction l with
  | nil => cases h
  | cons b l ih =>
    by_cases hb : b = 63
    · subst hb; rw [cutL_hit]; rfl
    · rw [cutL_cons hb] at h ⊢
      simp only at h ⊢
      rw [List.cons_append, ← ih h]
theorem cutL_whole {l : List UInt8} (h : (cutL l 63).2.2 = false) : (cutL l 63).1 = l := by
  induction l with
  | nil => rfl
  | cons b l ih =>
    by_cases hb : b = 63
    · subst hb; rw [cutL_hit] at h; cases h
    · rw [cutL_cons hb] at h ⊢
      simp only at h ⊢
      rw [ih h]
theorem cutL_no63 (l : List UInt8) : 63 ∉ (cutL l 63).1 := by
  induction l with
  | nil => simp [cutL]
  | cons b l ih =>
    by_cases hb : b = 63
    · subst hb; rw [cutL_hit]; simp
    · rw [cutL_cons hb]
      simp only [List.mem_cons, not_or]
      exact ⟨fun e => hb e.symm, ih⟩
theorem pathL_idem (l : List UInt8) : pathL (pathL l) = pathL l := by
  unfold pathL; rw [cutL_no _ _ (cutL_no63 l)]

theorem codeL_app63 (c : UInt8) (p q : List UInt8) : codeL (c :: (p ++ 63 :: q)) = codeL (c :: p) := by
  by_cases hc : c = 37
  · subst hc
    match p with
    | [] => rw [List.nil_append, codeL_37_none (by decide)]; rfl
    | [a] => rw [List.singleton_append, codeL_37_none2 (by decide)]; rfl
    | a :: b :: p => rfl
  · rw [codeL_ne hc, codeL_ne hc]
theorem means_app63 (p q : List UInt8) : meansL (p ++ 63 :: q) = meansL p ++ 63 :: meansL q := by
  induction hl : p.length using Nat.strongRecOn generalizing p with
  | _ n ih =>
    subst hl
    match p with
    | [] => rw [List.nil_append, meansL_none (codeL_ne (by decide)), meansL_nil]; rfl
    | c :: p =>
      rw [List.cons_append]
      cases hc : codeL (c :: p) with
      | none => rw [meansL_none (by rw [codeL_app63]; exact hc), meansL_none hc, ih p.length (by simp) p rfl]; rfl
      | some n =>
        have h3 : 2 ≤ p.length := by
          rcases Nat.lt_or_ge (c :: p).length 3 with h | h
          · rw [codeL_short h] at hc; cases hc
          · simpa using h
        rw [meansL_some (by rw [codeL_app63]; exact hc), meansL_some hc, List.drop_append_of_le_length h3, ih (p.drop 2).length (by simp; omega) _ rfl]; rfl

theorem canon_enc {l c : List UInt8} (h : canonL l = some c) : c = (meansL l).flatMap encB := by
  obtain ⟨_, l', o, rfl, h1, _, h3⟩ := canon_iff h
  have e := plain_enc h1
  have e47 : encB 47 = [47] := by decide
  rw [meansL_none (codeL_ne (by decide)), List.flatMap_cons, e47]
  rcases h3 with ⟨ha, rfl⟩ | ⟨ha, m, hm, rfl⟩
  · rw [cutL_whole ha] at e
    rw [← e]; rfl
  · have em := plain_enc hm
    conv => rhs; rw [cutL_join ha]
    rw [means_app63, List.flatMap_append, List.flatMap_cons, encB_63, ← e, ← em]; rfl
theorem canon_means {l c : List UInt8} (h : canonL l = some c) : meansL c = meansL l := by
  rw [canon_enc h, means_enc]
theorem canon_same {l l2 c c2 : List UInt8} (h : canonL l = some c) (h2 : canonL l2 = some c2) : (meansL l == meansL l2) = (c == c2) := by
  rw [Bool.eq_iff_iff, beq_iff_eq, beq_iff_eq]
  constructor
  · intro e; rw [canon_enc h, canon_enc h2, e]
  · intro e; rw [← canon_means h, ← canon_means h2, e]

/-- What the plainest form is like. -/
theorem canon_form {l c : List UInt8} (h : canonL l = some c) : c.length ≤ l.length ∧ c.length ≤ 40 ∧ canonL c = some c ∧ ∃ o, pathL c = 47 :: o ∧ 63 ∉ (47 :: o : List UInt8) ∧ segsOk (partsL o 47) = true ∧ plainL false o = some o ∧ canonL (47 :: o) = some (47 :: o) ∧
    ((47 :: o : List UInt8).length = 40 ∨ canonL (47 :: o ++ [63]) = some (47 :: o ++ [63])) := by
  obtain ⟨hl, l', o, rfl, h1, hs, h3⟩ := canon_iff h
  have n63 := plain_no63 h1
  have hid := plain_idem h1
  have hol := plainL_len h1
  have n63' : 63 ∉ (47 :: o : List UInt8) := by simp only [List.mem_cons, not_or]; exact ⟨by decide, n63⟩
  have hcl := cutL_len l' 63
  have hle : (47 :: o : List UInt8).length ≤ 40 := by simp at hl ⊢; omega
  have hq : (47 :: o : List UInt8).length = 40 ∨ canonL (47 :: o ++ [63]) = some (47 :: o ++ [63]) := by
    rcases Nat.lt_or_ge (47 :: o : List UInt8).length 40 with h | h
    · exact .inr (canon_mk2 n63 hid hs (plainL_nil true) (by simp at h ⊢; omega))
    · exact .inl (by omega)
  rcases h3 with ⟨ha, rfl⟩ | ⟨ha, m, hm, rfl⟩
  · refine ⟨by simp; omega, hle, canon_mk n63 hid hs hle, o, ?_, n63', hs, hid, canon_mk n63 hid hs hle, hq⟩
    unfold pathL; rw [cutL_no _ _ n63']
  · have hml := plainL_len hm
    have hj := congrArg List.length (cutL_join ha)
    have hlen : (47 :: (o ++ 63 :: m) : List UInt8).length ≤ (47 :: l' : List UInt8).length := by
      simp at hj ⊢; omega
    refine ⟨hlen, by omega, canon_mk2 n63 hid hs (plain_idem hm) (by omega), o, ?_, n63', hs, hid, canon_mk n63 hid hs hle, hq⟩
    unfold pathL
    rw [← List.cons_append, cutL_yes _ _ _ n63']

theorem under_self (s : List UInt8) : underB (pathL s) s = true := by unfold underB; simp
theorem under_path (t s : List UInt8) : underB t (pathL s) = underB t s := by unfold underB; rw [pathL_idem]
theorem pre_iff {h l : List UInt8} : preB h l = true ↔ h <+: l := by unfold preB; exact List.isPrefixOf_iff_prefix
theorem inTop_pre (t : List UInt8) : t <+: inTop t := by
  unfold inTop; split
  · exact List.prefix_rfl
  · exact List.prefix_append _ _
theorem under_iff {t s : List UInt8} : underB t s = true ↔ pathL s = t ∨ inTop t <+: pathL s := by
  unfold underB; rw [Bool.or_eq_true, beq_iff_eq, pre_iff]
theorem under_trans {t m l : List UInt8} (h1 : underB t m = true) (h2 : underB (pathL m) l = true) : underB t l = true := by
  rw [under_iff] at h1 h2 ⊢
  rcases h1 with h1 | h1
  · rw [h1] at h2; exact h2
  · rcases h2 with h2 | h2
    · rw [h2]; exact .inr h1
    · exact .inr ((h1.trans (inTop_pre _)).trans h2)
theorem under_least {l c : List UInt8} (h : canonL l = some c) : underB [47] c = true := by
  obtain ⟨_, _, _, o, hp, _⟩ := canon_form h
  rw [under_iff, hp]
  exact .inr ⟨o, rfl⟩
end Go.Proofs.YtbhnjnoblkfckaaGreatDoor

-- from XHedP
/- Pure laws on requests: their texts, and what is read of a text. -/
namespace Go.Proofs.YtbhnjnoblkfckaaGreatDoor

/-! ### Lines -/
theorem joinL_cons (l : List UInt8) (ls : List (List UInt8)) : joinL (l :: ls) = l ++ 10 :: joinL ls := by simp [joinL]
theorem joinL_app (a b : List (List UInt8)) : joinL (a ++ b) = joinL a ++ joinL b := by simp [joinL]
theorem joinL_len (l : List UInt8) (ls : List (List UInt8)) : (joinL (l :: ls)).length = l.length + 1 + (joinL ls).length := by rw [joinL_cons]; simp; omega

theorem lines_mk : ∀ (ls : List (List UInt8)) (f : Nat) (t : List UInt8) (used : Nat), ls.length < f → used + (joinL ls).length ≤ 300 → (∀ l ∈ ls, l ≠ [] ∧ (10 : UInt8) ∉ l) →
    linesL f (joinL ls ++ 10 :: t) used = (ls, used + (joinL ls).length + 1, true) := by
  intro ls
  induction ls with
  | nil =>
    intro f t used hf hu _
    match f, hf with
    | f + 1, _ =>
      have hj : joinL [] = [] := rfl
      rw [hj] at hu ⊢
      have hc : cutL ([] ++ 10 :: t) 10 = ([], t, true) := cutL_yes [] t 10 (by simp)
      unfold linesL
      rw [hc, if_neg (by simp at hu; omega), if_neg (by simp), if_pos rfl]
      simp
  | cons l ls ih =>
    intro f t used hf hu hl
    match f, hf with
    | f + 1, hf =>
      obtain ⟨h1, h2⟩ := hl l (List.mem_cons_self ..)
      rw [joinL_len] at hu
      have hc : cutL (joinL (l :: ls) ++ 10 :: t) 10 = (l, joinL ls ++ 10 :: t, true) := by
        rw [joinL_cons, List.append_assoc, List.cons_append]; exact cutL_yes l _ 10 h2
      unfold linesL
      rw [hc, if_neg (by omega), if_neg (by simp), if_neg h1]
      simp only
      rw [ih f t (used + l.length + 1) (by simp at hf; omega) (by omega) (fun x hx => hl x (List.mem_cons_of_mem _ hx)), joinL_len]
      simp only [Prod.mk.injEq, and_true, true_and]
      omega

/-! ### The bytes of what is read -/
theorem up_bytes (n : Nat) (hn : n < 256) : ∀ b ∈ putC n, b ≠ 10 ∧ b ≠ 32 := by
  have h : ∀ n : Fin 256, ∀ b ∈ putC n.val, b ≠ 10 ∧ b ≠ 32 := by decide +kernel
  exact h ⟨n, hn⟩
theorem lit_bytes {asks : Bool} {c : UInt8} (h : okLit asks c = true) : c ≠ 10 ∧ c ≠ 32 := by
  have hh : ∀ a : Bool, ∀ n : Fin 256, okLit a (UInt8.ofNat n.val) = true → UInt8.ofNat n.val ≠ 10 ∧ UInt8.ofNat n.val ≠ 32 := by decide +kernel
  have e : UInt8.ofNat c.toNat = c := by simp
  have := hh asks ⟨c.toNat, c.toNat_lt⟩
  simp only [e] at this
  exact this h

theorem plain_bytes {asks : Bool} {l r : List UInt8} (h : plainL asks l = some r) : ∀ b ∈ r, b ≠ 10 ∧ b ≠ 32 := by
  refine plain_ind (M := fun _ r => ∀ b ∈ r, b ≠ 10 ∧ b ≠ 32) (by simp) ?_ ?_ h
  · intro c l r hc _ _ ih b hb
    rcases List.mem_cons.1 hb with rfl | hb
    · exact lit_bytes hc
    · exact ih b hb
  · intro c l r n hn _ _ ih b hb
    rcases List.mem_append.1 hb with hb | hb
    · exact up_bytes n (codeL_lt hn) b hb
    · exact ih b hb
theorem canon_bytes {l c : List UInt8} (h : canonL l = some c) : (∃ r, c = 47 :: r) ∧ ∀ b ∈ c, b ≠ 10 ∧ b ≠ 32 := by
  obtain ⟨_, l', o, _, h1, _, h3⟩ := canon_iff h
  rcases h3 with ⟨_, rfl⟩ | ⟨_, m, hm, rfl⟩
  · refine ⟨⟨_, rfl⟩, fun b hb => ?_⟩
    rcases List.mem_cons.1 hb with rfl | hb
    · decide
    · exact plain_bytes h1 b hb
  · refine ⟨⟨_, rfl⟩, fun b hb => ?_⟩
    rcases List.mem_cons.1 hb with rfl | hb
    · decide
    · rcases List.mem_append.1 hb with hb | hb
      · exact plain_bytes h1 b hb
      · rcases List.mem_cons.1 hb with rfl | hb
        · decide
        · exact plain_bytes hm b hb
theorem verb_cases {l : List UInt8} (h : verbB l = true) : l = bGet ∨ l = bPut ∨ l = bPurge := by
  simpa [verbB, or_assoc] using h
theorem verb_bytes {l : List UInt8} (h : verbB l = true) : l ≠ [] ∧ (10 : UInt8) ∉ l ∧ (32 : UInt8) ∉ l := by
  rcases verb_cases h with rfl | rfl | rfl <;> decide

/-! ### Fields of a request's own -/
theorem drop_none {p : UInt8 → Bool} {l : List UInt8} (h : ∀ b ∈ l, p b = false) : l.dropWhile p = l := by
  cases l with
  | nil => rfl
  | cons b l => rw [List.dropWhile_cons, h b (List.mem_cons_self ..)]; rfl
theorem trim_none {l : List UInt8} (h : (32 : UInt8) ∉ l) : Lib.trimB l 32 = l := by
  have hp : ∀ b ∈ l, (b == 32) = false := fun b hb => by
    simp only [beq_eq_false_iff_ne]; rintro rfl; exact h hb
  unfold Lib.trimB Lib.trimLeftB Lib.trimRightB
  rw [drop_none (fun b hb => hp b (List.mem_reverse.1 hb)), List.reverse_reverse, drop_none hp]
theorem small_print (c : UInt8) (h : isSmall c = true) : printC c = true := by
  have hh : ∀ n : Fin 256, isSmall (UInt8.ofNat n.val) = true → printC (UInt8.ofNat n.val) = true := by decide +kernel
  have e : UInt8.ofNat c.toNat = c := by simp
  have := hh ⟨c.toNat, c.toNat_lt⟩
  simp only [e] at this
  exact this h
theorem host_val {l : List UInt8} (h : hostB l = true) : valB l = true := by
  refine valB_yes (by have := host_len h; omega) ?_ (trim_none (host_not h).2.1)
  unfold printB
  rw [List.all_eq_true]
  intro b hb
  rcases host_bytes h hb with rfl | hs
  · decide
  · exact small_print b hs
theorem dig_val (n : Nat) (hn : n ≤ 20) : valB (Lib.decDigits n) = true ∧ (10 : UInt8) ∉ Lib.decDigits n := by
  have h : ∀ n : Fin 21, valB (Lib.decDigits n.val) = true ∧ (10 : UInt8) ∉ Lib.decDigits n.val := by decide +kernel
  exact h ⟨n, by omega⟩
theorem own_read {n v : List UInt8} (hn : tokB n = true) (hv : valB v = true) : rdR (n ++ 58 :: 32 :: v) = ((⟨n.toArray⟩, ⟨v.toArray⟩), true) := by
  have hf : fdB (⟨n.toArray⟩, ⟨v.toArray⟩) = true := by simp [fdB, hn, hv]
  have hs := tok_smalls hn
  obtain ⟨_, h2⟩ := fd_parts hf
  refine read_of hf (by simpa using low_small hs) (by simpa using colon_small hs) ?_
  rw [trim_left]
  simpa using h2

theorem rd_pair {l : List UInt8} {f : ByteArray × ByteArray} (h : rdR l = (f, true)) : rdB l = true ∧ rdF l = f := by
  unfold rdR at h
  by_cases hb : rdB l = true
  · rw [if_pos hb] at h
    injection h with h1 _
    exact ⟨hb, h1⟩
  · rw [if_neg hb] at h
    injection h with _ h2
    cases h2

theorem all_filter (fs : List Fd) (s : ByteArray) : allTo fs s fs.length = (fs.filter fun f => f.1 = s).map (·.2) := by
  have h : ∀ k, k ≤ fs.length → allTo fs s k = ((fs.take k).filter fun f => f.1 = s).map (·.2) := by
    intro k
    induction k with
    | zero => intro _; rfl
    | succ k ih =>
      intro hk
      have hg : fs[k]? = some fs[k] := List.getElem?_eq_getElem (by omega)
      rw [allTo_at s hg, ih (by omega), List.take_add_one, hg, List.filter_append, List.map_append]
      by_cases he : fs[k].1 = s
      · rw [if_pos he]
        have : ([fs[k]].filter fun f => decide (f.1 = s)) = [fs[k]] := by rw [List.filter_cons_of_pos (by simpa using he)]; rfl
        rw [Option.toList_some, this]; rfl
      · rw [if_neg he]
        have : ([fs[k]].filter fun f => decide (f.1 = s)) = [] := by rw [List.filter_cons_of_neg (by simpa using he)]; rfl
        rw [Option.toList_some, this]; simp
  rw [h fs.length (Nat.le_refl _), List.take_length]
end Go.Proofs.YtbhnjnoblkfckaaGreatDoor

-- from XHedR
/- Pure laws on requests: a request's text is read as it. -/
namespace Go.Proofs.YtbhnjnoblkfckaaGreatDoor

structure HOk (h : Hd) : Prop where
  verb : verbB h.verb.data.toList = true
  target : canonL h.target.data.toList = some h.target.data.toList
  host : hostB h.host.data.toList = true
  many : h.fs.length ≤ 6
  body : bodyB h.body.data.toList = true
  put : h.body.data.toList = [] ∨ h.verb.data.toList = bPut
  fs : ∀ f ∈ h.fs, fdB f = true ∧ ownB f.1.data.toList = false
  len : (headT h).length ≤ 300
theorem hedB_iff {h : Hd} : hedB h = true ↔ HOk h := by
  unfold hedB
  simp only [Bool.and_eq_true, Bool.or_eq_true, decide_eq_true_eq, List.all_eq_true, beq_iff_eq, Bool.not_eq_true']
  constructor
  · rintro ⟨⟨⟨⟨⟨⟨⟨h1, h2⟩, h3⟩, h4⟩, h5⟩, h6⟩, h7⟩, h8⟩
    exact ⟨h1, h2, h3, h4, h5, h6, h7, h8⟩
  · rintro ⟨h1, h2, h3, h4, h5, h6, h7, h8⟩
    exact ⟨⟨⟨⟨⟨⟨⟨h1, h2⟩, h3⟩, h4⟩, h5⟩, h6⟩, h7⟩, h8⟩

/-- The field that tells the body's length. -/
def lenFs (b : List UInt8) : List (ByteArray × ByteArray) := if b = [] then [] else [(⟨bLength.toArray⟩, ⟨(Lib.decDigits b.length).toArray⟩)]
/-- All fields of a request's text. -/
def textFs (h : Hd) : List (ByteArray × ByteArray) := (⟨bHost.toArray⟩, h.host) :: (h.fs ++ lenFs h.body.data.toList)

theorem print_not10 {l : List UInt8} (h : printB l = true) : (10 : UInt8) ∉ l := fun hb => by
  unfold printB at h
  exact absurd (List.all_eq_true.1 h 10 hb) (by decide)
theorem body_len {h : Hd} (hk : HOk h) : h.body.data.toList.length ≤ 20 ∧ printB h.body.data.toList = true := by
  have := hk.body
  simpa [bodyB] using this

theorem fd_line {f : ByteArray × ByteArray} (hf : fdB f = true) : (fdT f).data.toList ≠ [] ∧ (10 : UInt8) ∉ (fdT f).data.toList ∧ rdB (fdT f).data.toList = true ∧ rdF (fdT f).data.toList = f := by
  obtain ⟨n, v⟩ := f
  obtain ⟨h1, h2⟩ := rd_pair (read_text hf)
  refine ⟨?_, ?_, h1, h2⟩
  · rw [fdT_list hf]; simp
  · rw [fdT_list hf]
    have hs := tok_smalls (fd_parts hf).1
    have hv : printB v.data.toList = true := by
      simp only [fdB, valB, Bool.and_eq_true] at hf
      exact hf.2.1.2
    intro hb
    rcases List.mem_append.1 hb with hb | hb
    · exact (hsmall_lt 10 (smalls_mem hs hb)).2.2.1 rfl
    · rcases List.mem_cons.1 hb with hb | hb
      · exact absurd hb (by decide)
      · rcases List.mem_cons.1 hb with hb | hb
        · exact absurd hb (by decide)
        · exact print_not10 hv hb

theorem own_line {n v : List UInt8} (hn : tokB n = true) (hv : valB v = true) : n ++ 58 :: 32 :: v ≠ [] ∧ (10 : UInt8) ∉ (n ++ 58 :: 32 :: v) ∧ rdB (n ++ 58 :: 32 :: v) = true ∧ rdF (n ++ 58 :: 32 :: v) = (⟨n.toArray⟩, ⟨v.toArray⟩) := by
  obtain ⟨h1, h2⟩ := rd_pair (own_read hn hv)
  refine ⟨by simp, ?_, h1, h2⟩
  have hs := tok_smalls hn
  have hp : printB v = true := by
    simp only [valB, Bool.and_eq_true] at hv
    exact hv.1.2
  intro hb
  rcases List.mem_append.1 hb with hb | hb
  · exact (hsmall_lt 10 (smalls_mem hs hb)).2.2.1 rfl
  · rcases List.mem_cons.1 hb with hb | hb
    · exact absurd hb (by decide)
    · rcases List.mem_cons.1 hb with hb | hb
      · exact absurd hb (by decide)
      · exact print_not10 hp hb

theorem len_line {h : Hd} (hk : HOk h) : (∀ l ∈ lenLines h.body.data.toList, l ≠ [] ∧ (10 : UInt8) ∉ l ∧ rdB l = true) ∧ (lenLines h.body.data.toList).map rdF = lenFs h.body.data.toList := by
  unfold lenLines lenFs
  by_cases hb : h.body.data.toList = []
  · rw [if_pos hb, if_pos hb]; simp
  · rw [if_neg hb, if_neg hb]
    obtain ⟨h1, h2, h3, h4⟩ := own_line (n := bLength) (by decide) (dig_val _ (body_len hk).1).1
    refine ⟨fun l hl => ?_, by rw [List.map_cons, h4]; rfl⟩
    have : l = bLength ++ 58 :: 32 :: Lib.decDigits h.body.data.toList.length := by simpa using hl
    rw [this]; exact ⟨h1, h2, h3⟩
/-- The lines behind the first one, and what they say. -/
def tailLines (h : Hd) : List (List UInt8) := (bHost ++ 58 :: 32 :: h.host.data.toList) :: ((h.fs.map fun f => (fdT f).data.toList) ++ lenLines h.body.data.toList)
theorem tail_lines {h : Hd} (hk : HOk h) : (∀ l ∈ tailLines h, l ≠ [] ∧ (10 : UInt8) ∉ l ∧ rdB l = true) ∧ (tailLines h).map rdF = textFs h := by
  obtain ⟨h1, h2, h3, h4⟩ := own_line (n := bHost) (by decide) (host_val hk.host)
  obtain ⟨k1, k2⟩ := len_line hk
  constructor
  · intro l hl
    unfold tailLines at hl
    rcases List.mem_cons.1 hl with rfl | hl
    · exact ⟨h1, h2, h3⟩
    · rcases List.mem_append.1 hl with hl | hl
      · obtain ⟨f, hf, rfl⟩ := List.mem_map.1 hl
        obtain ⟨g1, g2, g3, _⟩ := fd_line (hk.fs f hf).1
        exact ⟨g1, g2, g3⟩
      · exact k1 l hl
  · unfold tailLines textFs
    rw [List.map_cons, h4, ba_mk, List.map_append, k2, List.map_map]
    congr 2
    conv => rhs; rw [← List.map_id h.fs]
    exact List.map_congr_left fun f hf => (fd_line (hk.fs f hf).1).2.2.2

theorem lenLines_len (b : List UInt8) : (lenLines b).length ≤ 1 := by unfold lenLines; split <;> simp
theorem tail_len {h : Hd} (hk : HOk h) : (tailLines h).length ≤ 8 := by
  have := lenLines_len h.body.data.toList
  have := hk.many
  simp [tailLines]; omega
theorem fields_text {h : Hd} (hk : HOk h) : fieldsL (tailLines h) = some (textFs h) := by
  obtain ⟨h1, h2⟩ := tail_lines hk
  unfold fieldsL
  rw [if_pos ⟨tail_len hk, List.all_eq_true.2 fun l hl => (h1 l hl).2.2⟩, h2]
theorem first_text {h : Hd} (hk : HOk h) : firstL (h.verb.data.toList ++ 32 :: h.target.data.toList) = some (h.verb.data.toList, h.target.data.toList, []) := by
  obtain ⟨⟨r, hr⟩, _⟩ := canon_bytes hk.target
  have hc := cutL_yes h.verb.data.toList h.target.data.toList 32 (verb_bytes hk.verb).2.2
  have ht : targetL h.target.data.toList = some (h.target.data.toList, []) := by
    unfold targetL
    rw [if_neg (by rw [hr]; simp [bHttp, List.isPrefixOf]), hk.target]; rfl
  unfold firstL
  rw [hc, if_pos ⟨rfl, hk.verb⟩]
  simp only
  rw [ht]; rfl

theorem name_ne {a : ByteArray} {l : List UInt8} (h : a.data.toList ≠ l) : ¬ a = ⟨l.toArray⟩ := by
  rintro rfl; exact h (by simp)
theorem not_own {l : List UInt8} (h : ownB l = false) : l ≠ bHost ∧ l ≠ bLength ∧ l ≠ bTransfer := by
  simpa [ownB, and_assoc] using h
theorem filter_none {fs : List Fd} {s : ByteArray} (h : ∀ f ∈ fs, ¬ f.1 = s) : (fs.filter fun f => f.1 = s) = [] := by
  rw [List.filter_eq_nil_iff]
  intro f hf
  simpa using h f hf
theorem filter_own {h : Hd} (hk : HOk h) (l : List UInt8) (hl : l = bHost ∨ l = bLength ∨ l = bTransfer) : (h.fs.filter fun f => f.1 = (⟨l.toArray⟩ : ByteArray)) = [] := by
  refine filter_none fun f hf => name_ne ?_
  obtain ⟨n1, n2, n3⟩ := not_own (hk.fs f hf).2
  rcases hl with rfl | rfl | rfl
  · exact n1
  · exact n2
  · exact n3
theorem mk_inj {a b : List UInt8} : ((⟨a.toArray⟩ : ByteArray) = ⟨b.toArray⟩) ↔ a = b := by
  constructor
  · intro h
    have := congrArg (fun x : ByteArray => x.data.toList) h
    simpa using this
  · rintro rfl; rfl
theorem host_text {h : Hd} (hk : HOk h) : allTo (textFs h) ⟨bHost.toArray⟩ (textFs h).length = [h.host] := by
  rw [all_filter]
  have hl : ((lenFs h.body.data.toList).filter fun f => f.1 = (⟨bHost.toArray⟩ : ByteArray)) = [] := by
    refine filter_none fun f hf => ?_
    unfold lenFs at hf
    split at hf
    · cases hf
    · have : f = (⟨bLength.toArray⟩, ⟨(Lib.decDigits h.body.data.toList.length).toArray⟩) := by simpa using hf
      subst this
      rw [mk_inj]; decide
  unfold textFs
  rw [List.filter_cons_of_pos (by simp), List.filter_append, filter_own hk _ (.inl rfl), hl]; rfl
theorem transfer_text {h : Hd} (hk : HOk h) : allTo (textFs h) ⟨bTransfer.toArray⟩ (textFs h).length = [] := by
  rw [all_filter]
  have hl : ((lenFs h.body.data.toList).filter fun f => f.1 = (⟨bTransfer.toArray⟩ : ByteArray)) = [] := by
    refine filter_none fun f hf => ?_
    unfold lenFs at hf
    split at hf
    · cases hf
    · have : f = (⟨bLength.toArray⟩, ⟨(Lib.decDigits h.body.data.toList.length).toArray⟩) := by simpa using hf
      subst this
      rw [mk_inj]; decide
  unfold textFs
  rw [List.filter_cons_of_neg (by simp only [decide_eq_true_eq]; rw [mk_inj]; decide), List.filter_append, filter_own hk _ (.inr (.inr rfl)), hl]; rfl
theorem length_text {h : Hd} (hk : HOk h) : allTo (textFs h) ⟨bLength.toArray⟩ (textFs h).length = (lenFs h.body.data.toList).map (·.2) := by
  rw [all_filter]
  have hl : ((lenFs h.body.data.toList).filter fun f => f.1 = (⟨bLength.toArray⟩ : ByteArray)) = lenFs h.body.data.toList := by
    unfold lenFs
    split
    · rfl
    · simp
  unfold textFs
  rw [List.filter_cons_of_neg (by simp only [decide_eq_true_eq]; rw [mk_inj]; decide), List.filter_append, filter_own hk _ (.inr (.inl rfl)), hl]; rfl
theorem others_text {h : Hd} (hk : HOk h) : othersL (textFs h) = h.fs := by
  have h1 : othersL h.fs = h.fs := by
    unfold othersL
    rw [List.filter_eq_self]
    intro f hf
    simp [(hk.fs f hf).2]
  have h2 : othersL (lenFs h.body.data.toList) = [] := by
    unfold othersL
    rw [List.filter_eq_nil_iff]
    intro f hf
    unfold lenFs at hf
    split at hf
    · cases hf
    · have : f = (⟨bLength.toArray⟩, ⟨(Lib.decDigits h.body.data.toList.length).toArray⟩) := by simpa using hf
      subst this
      simp [show ownB bLength = true from by decide]
  have e : othersL (textFs h) = othersL h.fs ++ othersL (lenFs h.body.data.toList) := by
    unfold othersL textFs
    rw [List.filter_cons_of_neg (by simp [show ownB bHost = true from by decide]), List.filter_append]
  rw [e, h1, h2, List.append_nil]
theorem size_text {h : Hd} (hk : HOk h) : sizeL h.verb.data.toList (textFs h) = some h.body.data.toList.length := by
  unfold sizeL
  rw [transfer_text hk, length_text hk, if_neg (by simp)]
  unfold lenFs
  by_cases hb : h.body.data.toList = []
  · rw [if_pos hb, hb]; rfl
  · rw [if_neg hb]
    have hn := numR_dec h.body.data.toList.length (by have := (body_len hk).1; omega)
    simp only [List.map_cons, List.map_nil]
    rw [hn, if_pos ⟨rfl, (body_len hk).1, .inr (hk.put.resolve_left hb)⟩]

theorem whole_text {h : Hd} (hk : HOk h) : wholeL (hedLines h) = some (⟨h.verb, h.target, h.host, h.fs, ⟨#[]⟩⟩, h.body.data.toList.length) := by
  have e1 : hedLines h = (h.verb.data.toList ++ 32 :: h.target.data.toList) :: tailLines h := rfl
  rw [e1]
  unfold wholeL
  simp only [first_text hk, fields_text hk, host_text hk, oneOf]
  rw [host_id hk.host, if_pos ⟨hk.host, .inl trivial, by rw [others_text hk]; exact hk.many⟩, size_text hk, others_text hk]
  simp only [Option.map_some, ba_mk]

theorem hed_lines {h : Hd} (hk : HOk h) : (∀ l ∈ hedLines h, l ≠ [] ∧ (10 : UInt8) ∉ l) ∧ (hedLines h).length ≤ 9 := by
  have e1 : hedLines h = (h.verb.data.toList ++ 32 :: h.target.data.toList) :: tailLines h := rfl
  rw [e1]
  refine ⟨fun l hl => ?_, by have := tail_len hk; simp; omega⟩
  rcases List.mem_cons.1 hl with rfl | hl
  · refine ⟨by simp, fun hb => ?_⟩
    rcases List.mem_append.1 hb with hb | hb
    · exact (verb_bytes hk.verb).2.1 hb
    · rcases List.mem_cons.1 hb with hb | hb
      · exact absurd hb (by decide)
      · exact ((canon_bytes hk.target).2 10 hb).1 rfl
  · obtain ⟨h1, h2, _⟩ := (tail_lines hk).1 l hl
    exact ⟨h1, h2⟩

/-- A request's text is read as it, whatever stands behind it. -/
theorem read_write {h : Hd} (hb : hedB h = true) (t : List UInt8) : readL (hedT h ++ t) = (h, (hedT h).length, 1) := by
  have hk := hedB_iff.1 hb
  obtain ⟨h1, h2⟩ := hed_lines hk
  have hlen := hk.len
  have hT : (headT h).length = (joinL (hedLines h)).length + 1 := by simp [headT]
  have e0 : hedT h ++ t = joinL (hedLines h) ++ 10 :: (h.body.data.toList ++ t) := by simp [hedT, headT]
  have hl := lines_mk (hedLines h) 302 (h.body.data.toList ++ t) 0 (by omega) (by omega) h1
  have hd : (hedT h ++ t).drop (headT h).length = h.body.data.toList ++ t := by
    unfold hedT
    rw [List.append_assoc, List.drop_left]
  unfold readL
  rw [e0, hl]
  simp only [Nat.zero_add]
  rw [← hT, if_neg (by omega), if_neg (by simp), whole_text hk]
  simp only
  rw [← e0, hd, List.take_left, ba_mk, if_neg (by simp [hedT]), if_pos hb]
  simp [hedT]
end Go.Proofs.YtbhnjnoblkfckaaGreatDoor

-- from XHedW
/- Walks: a request's text, and whether a request is ok, by the specification. -/
namespace Go.Proofs.YtbhnjnoblkfckaaGreatDoor
open Go.RowKit

/-- The lines ahead of a request's fields. -/
def preL (h : Hd) : List UInt8 := h.verb.data.toList ++ 32 :: h.target.data.toList ++ [10] ++ bHost ++ 58 :: 32 :: h.host.data.toList ++ [10]
def fsL (fs : List Fd) : List UInt8 := joinL (fs.map fun f => (fdT f).data.toList)
theorem fsL_snoc (fs : List Fd) (f : Fd) : fsL (fs ++ [f]) = fsL fs ++ ((fdT f).data.toList ++ [10]) := by simp [fsL, joinL]
theorem fdT_len (f : Fd) : (fdT f).size ≤ 44 := by
  obtain ⟨a, b⟩ := f
  unfold fdT
  by_cases h : fdB (a, b) = true
  · rw [if_pos h]
    have := fdB_len h
    simp only [ByteArray.size_append]
    have e : (ByteArray.mk #[58, 32]).size = 2 := rfl
    omega
  · rw [if_neg h]; decide
theorem hedT_pre (h : Hd) : hedT h = preL h ++ fsL h.fs ++ (joinL (lenLines h.body.data.toList) ++ 10 :: h.body.data.toList) := by
  simp [hedT, headT, hedLines, preL, fsL, joinL]

end Go.Proofs.YtbhnjnoblkfckaaGreatDoor

-- from XSSteps
/- Places: the model's check on the parts of a path; the model whole. -/
namespace Go.Proofs.YtbhnjnoblkfckaaGreatDoor
open Go.RowKit

theorem segs_last (p : List UInt8) : segsOk [p] = !isDots p := rfl
theorem segs_more (p q : List UInt8) (r : List (List UInt8)) : segsOk (p :: q :: r) = (!isDots p && !p.isEmpty && segsOk (q :: r)) := rfl

set_option maxHeartbeats 1600000 in
theorem l2_steps (s : ByteArray) (w : World) (hs : s.size ≤ 1048576) :
    Calls Tryz.prog 68 #[.string s] w fun e w' => e = .returned (.bool (segsOk (partsL s.data.toList 47).tail)) ∧ Below w.heap.size w w' := by
  have c1 := fun W => spec_parts s 47 W hs
  obtain ⟨R, hR⟩ : ∃ R, R = segsOk (partsL s.data.toList 47).tail := ⟨_, rfl⟩
  rw [← hR]
  have hne := partsL_ne s.data.toList 47
  have hplen : (partsL s.data.toList 47).length ≤ s.data.toList.length + 1 := partsL_len _ _
  rw [← size_len] at hplen
  generalize partsL s.data.toList 47 = ps at *
  have HR0 := Lib.hid (show R = segsOk (ps.drop 1) by rw [hR]; simp)
  have h1 : 1 ≤ ps.length := by cases ps with
    | nil => exact absurd rfl hne
    | cons a l => simp
  clear hR hne
  go_enter Tryz.func68, Tryz.ntmps68
  go_wp2_with fail
  refine (c1 _).mono ?_
  rintro e w1 ⟨v, rfl, hown, hb1⟩
  clear c1
  obtain ⟨g, cap, rfl⟩ := own_form hown (by omega)
  have hmax := own_max hown
  have HC : ∀ j (hj : j < ps.length), w1.cell? ⟨g, j, none⟩ = some (.string ⟨(ps[j]).toArray⟩) := fun j hj => own_cell hown (u := strV ps[j]) (by simp [hj])
  have HH := Lib.hid HC
  clear hown HC
  go_wp2_with fail
  go_loop [4] (fun i => ∃ k : Nat, 1 ≤ k ∧ k ≤ ps.length ∧ i = .int .i64 k ∧ Hid (R = segsOk (ps.drop k))) (fun i => ps.length - (intOf i).toNat)
  case atStart => exact ⟨1, Nat.le_refl _, h1, rfl, HR0⟩
  case round =>
    clear HR0
    obtain ⟨k, hk1, hk, rfl, HR⟩ := hrel
    by_cases hlt : k < ps.length
    · have hc := HH.out k hlt
      rw [List.drop_eq_getElem_cons hlt] at HR
      generalize ps[k] = p at *
      obtain ⟨q, hq⟩ : ∃ q : ByteArray, q = ⟨p.toArray⟩ := ⟨_, rfl⟩
      have hqp : q.toList = p := by rw [hq, Lib.toList_data]
      rw [← hq] at hc
      clear hq
      cases b1 : (q.toList == [46]) with
      | true =>
        have hf : R = false := by
          rw [HR.out]
          have : isDots p = true := by unfold isDots; rw [← hqp, b1]; rfl
          cases h : ps.drop (k + 1) with
          | nil => rw [segs_last, this]; rfl
          | cons a r => rw [segs_more, this]; rfl
        clear HR hqp
        go_wp2
        go_ret
        exact ⟨rfl, hb1⟩
      | false =>
        cases b2 : (q.toList == [46, 46]) with
        | true =>
          have hf : R = false := by
            rw [HR.out]
            have : isDots p = true := by unfold isDots; rw [← hqp, b2]; simp
            cases h : ps.drop (k + 1) with
            | nil => rw [segs_last, this]; rfl
            | cons a r => rw [segs_more, this]; rfl
          clear HR hqp
          go_wp2
          go_ret
          exact ⟨rfl, hb1⟩
        | false =>
          have hd : isDots p = false := by unfold isDots; rw [← hqp, b1, b2]; rfl
          cases b3 : (q.toList == []) with
          | true =>
            have he : p = [] := by rw [← hqp]; simpa using b3
            by_cases hl : k + 1 < ps.length
            · have hf : R = false := by
                rw [HR.out, List.drop_eq_getElem_cons hl, segs_more, he]; rfl
              clear HR hqp hd he
              go_wp2
              go_ret
              exact ⟨rfl, hb1⟩
            · have hn : R = segsOk (ps.drop (k + 1)) := by
                rw [HR.out, List.drop_of_length_le (by omega), segs_last, hd]; rfl
              have HN := Lib.hid hn
              clear HR hqp hd he hn
              go_wp2
              go_round
              case rel => exact ⟨k + 1, by omega, by omega, by go_num, HN⟩
              case measure => simp [intOf]; omega
          | false =>
            have hn : R = segsOk (ps.drop (k + 1)) := by
              rw [HR.out]
              have hne : p.isEmpty = false := by rw [← hqp]; cases h : q.toList with
                | nil => rw [h] at b3; cases b3
                | cons a r => rfl
              cases h : ps.drop (k + 1) with
              | nil => rw [segs_last, hd]; rfl
              | cons a r => rw [segs_more, hd, hne]; rfl
            have HN := Lib.hid hn
            clear HR hqp hd hn
            go_wp2
            go_round
            case rel => exact ⟨k + 1, by omega, by omega, by go_num, HN⟩
            case measure => simp [intOf]; omega
    · have hf : R = true := by rw [HR.out, List.drop_of_length_le (by omega)]; rfl
      clear HR
      go_wp2
      go_ret
      exact ⟨rfl, hb1⟩

theorem plainL_empty {asks : Bool} {l : List UInt8} (h : plainL asks l = some []) : l = [] := by
  cases l with
  | nil => rfl
  | cons c l =>
    cases hc : codeL (c :: l) with
    | none =>
      rw [plainL_lit hc] at h
      split at h
      · obtain ⟨m, hm, he⟩ := Option.map_eq_some_iff.1 h; cases he
      · cases h
    | some k =>
      rw [plainL_code hc] at h
      split at h
      · cases h
      · obtain ⟨m, hm, he⟩ := Option.map_eq_some_iff.1 h
        have := (putC_len k).2
        have h2 := congrArg List.length he
        simp at h2; rw [h2.1] at this; simp at this

def canV (o : Option (List UInt8)) : Value := .tuple #[strV (o.getD []), .bool o.isSome]
theorem canonL_len {l r : List UInt8} (h : canonL l = some r) : l.length ≤ 40 ∧ 0 < l.length := by
  unfold canonL at h
  split at h
  · cases h
  · omega

theorem rootR_cons (c : UInt8) (l : List UInt8) : rootR (c :: l) = if c = 47 then resP [47] 1 l else none := rfl
theorem one_sz (c : UInt8) : (ByteArray.mk #[c]).size = 1 := rfl

set_option maxHeartbeats 1600000 in
theorem spec_canon (s : ByteArray) (w : World) (hs : s.size ≤ 1048576) :
    Calls Tryz.prog 31 #[.string s] w fun e w' => e = .returned (canV (canonL s.data.toList)) ∧ Below w.heap.size w w' := by
  obtain ⟨R, hR⟩ : ∃ R, R = canonL s.data.toList := ⟨_, rfl⟩
  rw [← hR]
  have hbad : R = none → canV R = .tuple #[.string ⟨#[]⟩, .bool false] := fun h => by rw [h]; rfl
  unfold canonL at hR
  rw [← size_len] at hR
  by_cases h0 : s.size = 0
  · rw [if_pos (.inl h0)] at hR
    rw [hbad hR]
    clear hbad hR hs
    have hz : ((s.size : Int) == 0) = true := by rw [h0]; rfl
    clear h0
    go_enter Tryz.func31, Tryz.ntmps31
    go_wp2
    go_ret2
    exact ⟨rfl, Below.refl _ _⟩
  · have hz : ((s.size : Int) == 0) = false := beq_eq_false_iff_ne.2 (by omega)
    by_cases h40 : 40 < s.size
    · rw [if_pos (.inr h40)] at hR
      rw [hbad hR]
      clear hbad hR h0
      go_enter Tryz.func31, Tryz.ntmps31
      go_wp2
      go_ret2
      exact ⟨rfl, Below.refl _ _⟩
    · rw [if_neg (by omega)] at hR
      have hd := drop_at s 0 (by omega)
      rw [List.drop_zero] at hd
      rw [hd] at hR
      have e1 := u8_eqk s[0] 47
      simp only [UInt8.reduceToNat, Int.cast_ofNat_Int] at e1
      by_cases hc : s[0] = 47
      · have c1 := fun W => spec_cut s 63 W (by unfold maxLen; omega)
        rw [hd, hc, cutL_cons (by decide)] at c1
        rw [rootR_cons, if_pos hc] at hR
        unfold resP at hR
        have hlen : (s.data.toList.drop (0 + 1)).length ≤ 40 := by rw [List.length_drop, ← size_len]; omega
        have hcl := cutL_len (s.data.toList.drop (0 + 1)) 63
        generalize s.data.toList.drop (0 + 1) = l at *
        generalize cutL l 63 = q at *
        obtain ⟨p, q, asks⟩ := q
        simp only at hR c1 hcl
        have hsz1 : (ByteArray.mk (47 :: p).toArray).size ≤ 1048576 := by rw [size_len]; simp; omega
        have hsz2 : (ByteArray.mk q.toArray).size ≤ 1048576 := by rw [size_len]; simp; omega
        have c2 := fun W => l2_plain ⟨(47 :: p).toArray⟩ false W hsz1
        have c3 := fun W => l2_plain ⟨q.toArray⟩ true W hsz2
        simp only at c2 c3
        rw [plainL_lit (codeL_ne (by decide)), show okLit false 47 = true from by decide, if_pos rfl] at c2
        have hh : ((s[0].toNat : Int) != 47) = false := by rw [hc]; rfl
        have h01 : (0 : Int) < s.size := by omega
        clear e1 hd hc
        cases hp : plainL false p with
        | none =>
          rw [hp] at hR c2
          rw [hbad hR]
          simp only [Option.map_none, Option.getD_none] at c2
          clear hR hp c3 hbad
          go_enter Tryz.func31, Tryz.ntmps31
          go_wp2_with fail
          refine (c1 _).mono ?_
          rintro e w1 ⟨rfl, n1, rfl⟩
          go_wp2_with fail
          refine (c2 _).mono ?_
          rintro e w2 ⟨rfl, hb2⟩
          clear c1 c2
          unfold strV
          go_wp2
          go_ret2
          exact ⟨rfl, below_drewN_left hb2⟩
        | some o =>
          rw [hp] at hR c2
          simp only [Option.map_some, Option.getD_some] at c2
          have hol := plainL_len hp
          have hsz3 : (ByteArray.mk (47 :: o).toArray).size ≤ 50 := by rw [size_len]; simp; omega
          have c4 := fun W => l2_steps ⟨(47 :: o).toArray⟩ W (by omega)
          simp only at c4
          have hpt : (partsL (47 :: o) 47).tail = partsL o 47 := by rw [show (47 :: o : List UInt8) = [] ++ 47 :: o from rfl, partsL_app _ _ (by simp)]; rfl
          rw [hpt] at c4
          have hnil : ((ByteArray.mk (47 :: o).toArray).toList == ([] : List UInt8)) = false := by rw [toList_mk]; rfl
          simp only [show List.drop 1 [(47 : UInt8)] = [] from rfl, List.nil_append] at hR
          cases hsg : segsOk (partsL o 47) with
          | false =>
            rw [hsg] at hR c4
            rw [hbad (by simpa using hR)]
            unfold strV at c2
            clear hR hp c3 hbad hpt hsg
            generalize ByteArray.mk (47 :: o).toArray = os at *
            go_enter Tryz.func31, Tryz.ntmps31
            go_wp2_with fail
            refine (c1 _).mono ?_
            rintro e w1 ⟨rfl, n1, rfl⟩
            go_wp2_with fail
            refine (c2 _).mono ?_
            rintro e w2 ⟨rfl, hb2⟩
            go_wp2_with fail
            refine (c4 _).mono ?_
            rintro e w3 ⟨rfl, hb3⟩
            clear c1 c2 c4
            go_wp2
            go_ret2
            exact ⟨rfl, (below_drewN_left hb2).trans (hb3.mono (by have := hb2.size; simpa using this))⟩
          | true =>
            rw [hsg] at hR c4
            simp only [if_true] at hR
            unfold strV at c2
            cases asks with
            | false =>
              simp only [Bool.false_eq_true, if_false] at hR
              have hR' : canV R = .tuple #[.string ⟨(47 :: o).toArray⟩, .bool true] := by rw [hR]; rfl
              rw [hR']
              clear hR hp c3 hbad hpt hsg hR'
              generalize ByteArray.mk (47 :: o).toArray = os at *
              go_enter Tryz.func31, Tryz.ntmps31
              go_wp2_with fail
              refine (c1 _).mono ?_
              rintro e w1 ⟨rfl, n1, rfl⟩
              go_wp2_with fail
              refine (c2 _).mono ?_
              rintro e w2 ⟨rfl, hb2⟩
              go_wp2_with fail
              refine (c4 _).mono ?_
              rintro e w3 ⟨rfl, hb3⟩
              have hb4 := (below_drewN_left hb2).trans (hb3.mono (by have := hb2.size; simpa using this))
              clear hb2 hb3 c1 c2 c4
              go_wp2
              go_ret2
              exact ⟨rfl, hb4⟩
            | true =>
              simp only [if_true] at hR
              cases hq : plainL true q with
              | none =>
                rw [hq] at hR c3
                rw [hbad (by simpa using hR)]
                have hqn : ((ByteArray.mk q.toArray).toList == ([] : List UInt8)) = false := by
                  rw [toList_mk]
                  cases q with
                  | nil => rw [plainL_nil] at hq; cases hq
                  | cons a b => rfl
                simp only [Option.getD_none] at c3
                unfold strV at c3
                clear hR hp hq hbad hpt hsg
                generalize ByteArray.mk (47 :: o).toArray = os at *
                generalize ByteArray.mk q.toArray = qs at *
                go_enter Tryz.func31, Tryz.ntmps31
                go_wp2_with fail
                refine (c1 _).mono ?_
                rintro e w1 ⟨rfl, n1, rfl⟩
                go_wp2_with fail
                refine (c2 _).mono ?_
                rintro e w2 ⟨rfl, hb2⟩
                go_wp2_with fail
                refine (c4 _).mono ?_
                rintro e w3 ⟨rfl, hb3⟩
                have hb4 := (below_drewN_left hb2).trans (hb3.mono (by have := hb2.size; simpa using this))
                clear hb2 hb3 c1 c2 c4
                go_wp2_with fail
                refine (c3 _).mono ?_
                rintro e w4 ⟨rfl, hb5⟩
                clear c3
                go_wp2
                go_ret2
                exact ⟨rfl, hb4.trans (hb5.mono hb4.size)⟩
              | some m =>
                rw [hq] at hR c3
                have hml := plainL_len hq
                have hR' : canV R = .tuple #[.string ((⟨(47 :: o).toArray⟩ ++ ⟨#[63]⟩ : ByteArray) ++ ⟨m.toArray⟩), .bool true] := by
                  rw [hR, show (⟨#[63]⟩ : ByteArray) = ⟨[63].toArray⟩ from rfl, cat_mk, cat_mk]; simp [canV]
                rw [hR']
                have hm0 : m = [] → q = [] := fun h => plainL_empty (h ▸ hq)
                simp only [Option.getD_some] at c3
                unfold strV at c3
                have hszm : (ByteArray.mk m.toArray).size ≤ 40 := by rw [size_len]; simp; omega
                have hz1 := one_sz 63
                cases m with
                | nil =>
                  obtain rfl := hm0 rfl
                  clear hR hp hq hbad hpt hsg hR' hm0
                  generalize ByteArray.mk (47 :: o).toArray = os at *
                  go_enter Tryz.func31, Tryz.ntmps31
                  go_wp2_with fail
                  refine (c1 _).mono ?_
                  rintro e w1 ⟨rfl, n1, rfl⟩
                  go_wp2_with fail
                  refine (c2 _).mono ?_
                  rintro e w2 ⟨rfl, hb2⟩
                  go_wp2_with fail
                  refine (c4 _).mono ?_
                  rintro e w3 ⟨rfl, hb3⟩
                  have hb4 := (below_drewN_left hb2).trans (hb3.mono (by have := hb2.size; simpa using this))
                  clear hb2 hb3 c1 c2 c4
                  go_wp2_with fail
                  refine (c3 _).mono ?_
                  rintro e w4 ⟨rfl, hb5⟩
                  clear c3
                  go_wp2
                  go_ret2
                  exact ⟨rfl, hb4.trans (hb5.mono hb4.size)⟩
                | cons ma mb =>
                  have hmn : ((ByteArray.mk (ma :: mb).toArray).toList == ([] : List UInt8)) = false := by rw [toList_mk]; rfl
                  clear hR hp hq hbad hpt hsg hR' hm0
                  generalize ByteArray.mk (47 :: o).toArray = os at *
                  generalize ByteArray.mk (ma :: mb).toArray = ms at *
                  generalize ByteArray.mk q.toArray = qs at *
                  go_enter Tryz.func31, Tryz.ntmps31
                  go_wp2_with fail
                  refine (c1 _).mono ?_
                  rintro e w1 ⟨rfl, n1, rfl⟩
                  go_wp2_with fail
                  refine (c2 _).mono ?_
                  rintro e w2 ⟨rfl, hb2⟩
                  go_wp2_with fail
                  refine (c4 _).mono ?_
                  rintro e w3 ⟨rfl, hb3⟩
                  have hb4 := (below_drewN_left hb2).trans (hb3.mono (by have := hb2.size; simpa using this))
                  clear hb2 hb3 c1 c2 c4
                  go_wp2_with fail
                  refine (c3 _).mono ?_
                  rintro e w4 ⟨rfl, hb5⟩
                  clear c3
                  go_wp2
                  go_ret2
                  exact ⟨rfl, hb4.trans (hb5.mono hb4.size)⟩
      · rw [rootR_cons, if_neg hc] at hR
        rw [hbad hR]
        have hh : ((s[0].toNat : Int) != 47) = true := by
          have e2 : (s[0] == 47) = false := by simpa using hc
          rw [e2] at e1
          simp only [bne, e1, Bool.not_false]
        have h01 : (0 : Int) < s.size := by omega
        clear hR hbad hd e1 hc
        go_enter Tryz.func31, Tryz.ntmps31
        go_wp2
        go_ret2
        exact ⟨rfl, Below.refl _ _⟩
end Go.Proofs.YtbhnjnoblkfckaaGreatDoor

