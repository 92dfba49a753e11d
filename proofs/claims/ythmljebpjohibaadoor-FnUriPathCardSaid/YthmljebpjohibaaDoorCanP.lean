/- Places: what holds of the plainest form, of what is meant, and of paths; on lists of bytes. -/
import Derived.Test.YthmljebpjohibaaDoorSCanon
import Derived.Test.YthmljebpjohibaaDoorUnder
namespace Go.Proofs.YthmljebpjohibaaDoor
open Go.RowKit

theorem hexV_hexU (k : Nat) (hk : k < 16) : hexV (hexU k) = some k := by
  have h : ∀ k : Fin 16, hexV (hexU k.val) = some k.val := by decide
  exact h ⟨k, hk⟩
theorem freeB_ne37 {c : UInt8} (h : freeB c = true) : c ≠ 37 := by rintro rfl; revert h; decide
theorem okLit_ne37 {asks : Bool} {c : UInt8} (h : okLit asks c = true) : c ≠ 37 := by rintro rfl; rw [okLit_37] at h; cases h
theorem okLit_free {asks : Bool} {c : UInt8} (h : freeB c = true) : okLit asks c = true := by unfold okLit; rw [h]; simp
theorem okLit_ne63 {asks : Bool} {c : UInt8} (h : okLit asks c = true) : c ≠ 63 := by rintro rfl; revert h; cases asks <;> decide

/-- A byte as it stands in the plainest form. -/
def encB (b : UInt8) : List UInt8 := if (freeB b || b == 47 || b == 61 || b == 38 || b == 63) = true then [b] else upperL b.toNat
theorem encB_lit {asks : Bool} {c : UInt8} (h : okLit asks c = true) : encB c = [c] := by
  unfold encB
  rw [if_pos]
  unfold okLit at h
  cases hf : freeB c with
  | true => rfl
  | false =>
    rw [hf] at h
    simp only [Bool.false_or] at h ⊢
    cases asks
    · simp_all
    · simp at h ⊢
      rcases h with h | h <;> simp [h]
theorem encB_63 : encB 63 = [63] := by decide
theorem encB_code {n : Nat} (hn : n < 256) (hd : doubtB n = false) : encB (UInt8.ofNat n) = putC n := by
  have h : ∀ n : Fin 256, doubtB n.val = false → encB (UInt8.ofNat n.val) = putC n.val := by decide +kernel
  exact h ⟨n, hn⟩ hd
theorem encB_means (b : UInt8) (l : List UInt8) : meansL (encB b ++ l) = b :: meansL l := by
  unfold encB
  split
  · rename_i h
    have hne : b ≠ 37 := by rintro rfl; revert h; decide
    rw [List.singleton_append, meansL_none (codeL_ne hne)]
  · have hb := b.toNat_lt
    have h1 := hexV_hexU (b.toNat / 16) (by omega)
    have h2 := hexV_hexU (b.toNat % 16) (by omega)
    have hc : codeL (upperL b.toNat ++ l) = some (b.toNat / 16 * 16 + b.toNat % 16) := codeL_37_some h1 h2
    have e : b.toNat / 16 * 16 + b.toNat % 16 = b.toNat := by omega
    rw [e] at hc
    unfold upperL at hc ⊢
    rw [List.cons_append] at hc ⊢
    rw [meansL_some hc]
    simp
theorem means_enc (m : List UInt8) : meansL (m.flatMap encB) = m := by
  induction m with
  | nil => rw [List.flatMap_nil, meansL_nil]
  | cons b m ih => rw [List.flatMap_cons, encB_means, ih]

theorem plain_ind {asks : Bool} {M : List UInt8 → List UInt8 → Prop} (h0 : M [] []) (h1 : ∀ c l r, okLit asks c = true → codeL (c :: l) = none → plainL asks l = some r → M l r → M (c :: l) (c :: r))
    (h2 : ∀ c l r n, codeL (c :: l) = some n → doubtB n = false → plainL asks (l.drop 2) = some r → M (l.drop 2) r → M (c :: l) (putC n ++ r)) : ∀ {l r : List UInt8}, plainL asks l = some r → M l r := by
  intro l r h
  induction hl : l.length using Nat.strongRecOn generalizing l r with
  | _ n ih =>
    subst hl
    match l with
    | [] => rw [plainL_nil] at h; obtain rfl := Option.some.inj h; exact h0
    | c :: l =>
      cases hc : codeL (c :: l) with
      | none =>
        rw [plainL_lit hc] at h
        split at h
        · rename_i ho
          obtain ⟨m, hm, rfl⟩ := Option.map_eq_some_iff.1 h
          exact h1 c l m ho hc hm (ih l.length (by simp) hm rfl)
        · cases h
      | some k =>
        rw [plainL_code hc] at h
        split at h
        · cases h
        · rename_i hd
          obtain ⟨m, hm, rfl⟩ := Option.map_eq_some_iff.1 h
          exact h2 c l m k hc (by simpa using hd) hm (ih (l.drop 2).length (by simp; omega) hm rfl)

theorem plain_enc {asks : Bool} {l r : List UInt8} (h : plainL asks l = some r) : r = (meansL l).flatMap encB := by
  refine plain_ind (M := fun l r => r = (meansL l).flatMap encB) ?_ ?_ ?_ h
  · rw [meansL_nil]; rfl
  · intro c l r ho hc _ ih
    rw [meansL_none hc, List.flatMap_cons, encB_lit ho, ← ih]; rfl
  · intro c l r n hc hd _ ih
    rw [meansL_some hc, List.flatMap_cons, encB_code (codeL_lt hc) hd, ← ih]
theorem putC_no63 {n : Nat} (hn : n < 256) (hd : doubtB n = false) : 63 ∉ putC n := by
  have h : ∀ n : Fin 256, doubtB n.val = false → 63 ∉ putC n.val := by decide +kernel
  exact h ⟨n, hn⟩ hd
theorem plain_no63 {asks : Bool} {l r : List UInt8} (h : plainL asks l = some r) : 63 ∉ r := by
  refine plain_ind (M := fun _ r => 63 ∉ r) (by simp) ?_ ?_ h
  · intro c l r ho _ _ ih
    simp only [List.mem_cons, not_or]
    exact ⟨fun e => okLit_ne63 ho e.symm, ih⟩
  · intro c l r n hc hd _ ih
    simp only [List.mem_append, not_or]
    exact ⟨putC_no63 (codeL_lt hc) hd, ih⟩
theorem plain_idem {asks : Bool} {l r : List UInt8} (h : plainL asks l = some r) : plainL asks r = some r := by
  refine plain_ind (M := fun _ r => plainL asks r = some r) (plainL_nil asks) ?_ ?_ h
  · intro c l r ho _ _ ih
    rw [plainL_lit (codeL_ne (okLit_ne37 ho)), if_pos ho, ih]; rfl
  · intro c l r n hc hd _ ih
    have hn := codeL_lt hc
    unfold putC
    split
    · rename_i hf
      rw [List.singleton_append, plainL_lit (codeL_ne (freeB_ne37 hf)), if_pos (okLit_free hf), ih]; rfl
    · rename_i hf
      have h1 := hexV_hexU (n / 16) (by omega)
      have h2 := hexV_hexU (n % 16) (by omega)
      have hcc : codeL (upperL n ++ r) = some (n / 16 * 16 + n % 16) := codeL_37_some h1 h2
      have e : n / 16 * 16 + n % 16 = n := by omega
      rw [e] at hcc
      have hp : putC n = upperL n := if_neg hf
      have hu : upperL n ++ r = 37 :: ([hexU (n / 16), hexU (n % 16)] ++ r) := rfl
      rw [hu] at hcc ⊢
      rw [plainL_code hcc, hd, hp]
      have hdr : List.drop 2 ([hexU (n / 16), hexU (n % 16)] ++ r) = r := rfl
      rw [hdr, ih]; rfl

/-- What it is to have a plainest form. -/
theorem canon_iff {l c : List UInt8} (h : canonL l = some c) : l.length ≤ 40 ∧ ∃ l' o, l = 47 :: l' ∧ plainL false (cutL l' 63).1 = some o ∧ segsOk (partsL o 47) = true ∧
    (((cutL l' 63).2.2 = false ∧ c = 47 :: o) ∨ ((cutL l' 63).2.2 = true ∧ ∃ m, plainL true (cutL l' 63).2.1 = some m ∧ c = 47 :: (o ++ 63 :: m))) := by
  unfold canonL at h
  split at h
  · cases h
  · rename_i hl
    refine ⟨by omega, ?_⟩
    match l, h with
    | d :: l', h =>
      unfold rootR at h
      simp only at h
      split at h
      · rename_i hd
        subst hd
        unfold resP at h
        split at h
        · cases h
        · rename_i o ho
          refine ⟨l', o, rfl, ho, ?_⟩
          have e1 : List.drop 1 [(47 : UInt8)] = [] := rfl
          rw [e1, List.nil_append] at h
          split at h
          · rename_i hs
            refine ⟨hs, ?_⟩
            split at h
            · rename_i ha
              obtain ⟨m, hm, rfl⟩ := Option.map_eq_some_iff.1 h
              exact .inr ⟨ha, m, hm, by simp⟩
            · rename_i ha
              have := Option.some.inj h
              exact .inl ⟨by simpa using ha, by rw [← this]; rfl⟩
          · cases h
      · cases h
theorem canon_mk {o : List UInt8} (h1 : 63 ∉ o) (h2 : plainL false o = some o) (h3 : segsOk (partsL o 47) = true) (h4 : (47 :: o).length ≤ 40) : canonL (47 :: o) = some (47 :: o) := by
  unfold canonL
  rw [if_neg (by simp at h4 ⊢; omega)]
  show (if (47 : UInt8) = 47 then resP [47] 1 o else none) = _
  rw [if_pos rfl]
  unfold resP
  rw [cutL_no _ _ h1]
  simp only [h2]
  have e1 : List.drop 1 [(47 : UInt8)] = [] := rfl
  rw [e1, List.nil_append, if_pos h3]; rfl
theorem canon_mk2 {o m : List UInt8} (h1 : 63 ∉ o) (h2 : plainL false o = some o) (h3 : segsOk (partsL o 47) = true) (hm : plainL true m = some m) (h4 : (47 :: (o ++ 63 :: m)).length ≤ 40) : canonL (47 :: (o ++ 63 :: m)) = some (47 :: (o ++ 63 :: m)) := by
  unfold canonL
  rw [if_neg (by simp at h4 ⊢; omega)]
  show (if (47 : UInt8) = 47 then resP [47] 1 (o ++ 63 :: m) else none) = _
  rw [if_pos rfl]
  unfold resP
  rw [cutL_yes _ _ _ h1]
  simp only [h2]
  have e1 : List.drop 1 [(47 : UInt8)] = [] := rfl
  rw [e1, List.nil_append, if_pos h3, hm]; rfl

theorem cutL_join {l : List UInt8} (h : (cutL l 63).2.2 = true) : l = (cutL l 63).1 ++ 63 :: (cutL l 63).2.1 := by
  induction l with
  | nil => cases h
  | cons b l ih =>
    by_cases hb : b = 63
    · subst hb; rw [cutL_hit]; rfl
    · rw [cutL_cons hb] at h ⊢
      simp only at h ⊢
      rw [List.cons_append, ← ih h]
theorem cutL_whole {l : List UInt8} (h : (cutL l 63).2.2 = false) : (cutL l 63).1 = l := by
  induction l with
  | nil => rfl
  | cons b l ih =>
    by_cases hb : b = 63
    · subst hb; rw [cutL_hit] at h; cases h
    · rw [cutL_cons hb] at h ⊢
      simp only at h ⊢
      rw [ih h]
theorem cutL_no63 (l : List UInt8) : 63 ∉ (cutL l 63).1 := by
  induction l with
  | nil => simp [cutL]
  | cons b l ih =>
    by_cases hb : b = 63
    · subst hb; rw [cutL_hit]; simp
    · rw [cutL_cons hb]
      simp only [List.mem_cons, not_or]
      exact ⟨fun e => hb e.symm, ih⟩
theorem pathL_idem (l : List UInt8) : pathL (pathL l) = pathL l := by
  unfold pathL; rw [cutL_no _ _ (cutL_no63 l)]

theorem codeL_app63 (c : UInt8) (p q : List UInt8) : codeL (c :: (p ++ 63 :: q)) = codeL (c :: p) := by
  by_cases hc : c = 37
  · subst hc
    match p with
    | [] => rw [List.nil_append, codeL_37_none (by decide)]; rfl
    | [a] => rw [List.singleton_append, codeL_37_none2 (by decide)]; rfl
    | a :: b :: p => rfl
  · rw [codeL_ne hc, codeL_ne hc]
theorem means_app63 (p q : List UInt8) : meansL (p ++ 63 :: q) = meansL p ++ 63 :: meansL q := by
  induction hl : p.length using Nat.strongRecOn generalizing p with
  | _ n ih =>
    subst hl
    match p with
    | [] => rw [List.nil_append, meansL_none (codeL_ne (by decide)), meansL_nil]; rfl
    | c :: p =>
      rw [List.cons_append]
      cases hc : codeL (c :: p) with
      | none => rw [meansL_none (by rw [codeL_app63]; exact hc), meansL_none hc, ih p.length (by simp) p rfl]; rfl
      | some n =>
        have h3 : 2 ≤ p.length := by
          rcases Nat.lt_or_ge (c :: p).length 3 with h | h
          · rw [codeL_short h] at hc; cases hc
          · simpa using h
        rw [meansL_some (by rw [codeL_app63]; exact hc), meansL_some hc, List.drop_append_of_le_length h3, ih (p.drop 2).length (by simp; omega) _ rfl]; rfl

theorem canon_enc {l c : List UInt8} (h : canonL l = some c) : c = (meansL l).flatMap encB := by
  obtain ⟨_, l', o, rfl, h1, _, h3⟩ := canon_iff h
  have e := plain_enc h1
  have e47 : encB 47 = [47] := by decide
  rw [meansL_none (codeL_ne (by decide)), List.flatMap_cons, e47]
  rcases h3 with ⟨ha, rfl⟩ | ⟨ha, m, hm, rfl⟩
  · rw [cutL_whole ha] at e
    rw [← e]; rfl
  · have em := plain_enc hm
    conv => rhs; rw [cutL_join ha]
    rw [means_app63, List.flatMap_append, List.flatMap_cons, encB_63, ← e, ← em]; rfl
theorem canon_means {l c : List UInt8} (h : canonL l = some c) : meansL c = meansL l := by
  rw [canon_enc h, means_enc]
theorem canon_same {l l2 c c2 : List UInt8} (h : canonL l = some c) (h2 : canonL l2 = some c2) : (meansL l == meansL l2) = (c == c2) := by
  rw [Bool.eq_iff_iff, beq_iff_eq, beq_iff_eq]
  constructor
  · intro e; rw [canon_enc h, canon_enc h2, e]
  · intro e; rw [← canon_means h, ← canon_means h2, e]

/-- What the plainest form is like. -/
theorem canon_form {l c : List UInt8} (h : canonL l = some c) : c.length ≤ l.length ∧ c.length ≤ 40 ∧ canonL c = some c ∧ ∃ o, pathL c = 47 :: o ∧ 63 ∉ (47 :: o : List UInt8) ∧ segsOk (partsL o 47) = true ∧ plainL false o = some o ∧ canonL (47 :: o) = some (47 :: o) ∧
    ((47 :: o : List UInt8).length = 40 ∨ canonL (47 :: o ++ [63]) = some (47 :: o ++ [63])) := by
  obtain ⟨hl, l', o, rfl, h1, hs, h3⟩ := canon_iff h
  have n63 := plain_no63 h1
  have hid := plain_idem h1
  have hol := plainL_len h1
  have n63' : 63 ∉ (47 :: o : List UInt8) := by simp only [List.mem_cons, not_or]; exact ⟨by decide, n63⟩
  have hcl := cutL_len l' 63
  have hle : (47 :: o : List UInt8).length ≤ 40 := by simp at hl ⊢; omega
  have hq : (47 :: o : List UInt8).length = 40 ∨ canonL (47 :: o ++ [63]) = some (47 :: o ++ [63]) := by
    rcases Nat.lt_or_ge (47 :: o : List UInt8).length 40 with h | h
    · exact .inr (canon_mk2 n63 hid hs (plainL_nil true) (by simp at h ⊢; omega))
    · exact .inl (by omega)
  rcases h3 with ⟨ha, rfl⟩ | ⟨ha, m, hm, rfl⟩
  · refine ⟨by simp; omega, hle, canon_mk n63 hid hs hle, o, ?_, n63', hs, hid, canon_mk n63 hid hs hle, hq⟩
    unfold pathL; rw [cutL_no _ _ n63']
  · have hml := plainL_len hm
    have hj := congrArg List.length (cutL_join ha)
    have hlen : (47 :: (o ++ 63 :: m) : List UInt8).length ≤ (47 :: l' : List UInt8).length := by
      simp at hj ⊢; omega
    refine ⟨hlen, by omega, canon_mk2 n63 hid hs (plain_idem hm) (by omega), o, ?_, n63', hs, hid, canon_mk n63 hid hs hle, hq⟩
    unfold pathL
    rw [← List.cons_append, cutL_yes _ _ _ n63']

theorem under_self (s : List UInt8) : underB (pathL s) s = true := by unfold underB; simp
theorem under_path (t s : List UInt8) : underB t (pathL s) = underB t s := by unfold underB; rw [pathL_idem]
theorem pre_iff {h l : List UInt8} : preB h l = true ↔ h <+: l := by unfold preB; exact List.isPrefixOf_iff_prefix
theorem inTop_pre (t : List UInt8) : t <+: inTop t := by
  unfold inTop; split
  · exact List.prefix_rfl
  · exact List.prefix_append _ _
theorem under_iff {t s : List UInt8} : underB t s = true ↔ pathL s = t ∨ inTop t <+: pathL s := by
  unfold underB; rw [Bool.or_eq_true, beq_iff_eq, pre_iff]
theorem under_trans {t m l : List UInt8} (h1 : underB t m = true) (h2 : underB (pathL m) l = true) : underB t l = true := by
  rw [under_iff] at h1 h2 ⊢
  rcases h1 with h1 | h1
  · rw [h1] at h2; exact h2
  · rcases h2 with h2 | h2
    · rw [h2]; exact .inr h1
    · exact .inr ((h1.trans (inTop_pre _)).trans h2)
theorem under_least {l c : List UInt8} (h : canonL l = some c) : underB [47] c = true := by
  obtain ⟨_, _, _, o, hp, _⟩ := canon_form h
  rw [under_iff, hp]
  exact .inr ⟨o, rfl⟩
end Go.Proofs.YthmljebpjohibaaDoor
