/- Walks: what somebody would take, read, by the program and by the specification. -/
import Derived.Test.YtlfcamapjeldjaaGreatDoorCodT
import Derived.Test.YtlfcamapjeldjaaGreatDoorWant
namespace Go.Proofs.YtlfcamapjeldjaaGreatDoor
open Go.RowKit Go.Maps

/-- What the reading of all things returns: whether it is right, and a row of its own. -/
def PRet (B : Nat) (l : List UInt8) (e : Ending) (w' : World) : Prop := ∃ v ws, e = .returned (.tuple #[v, .bool (codParse l).isSome]) ∧ ws = (codParse l).getD [] ∧ w'.ownsRow B 52 2 v ws.length (wcells ws)
theorem own_base {w : World} {B B' : Nat} {T : TypeId} {size n : Nat} {v : Value} {xs : List Value} (h : w.ownsRow B T size v n xs) (hB : B' ≤ B) : w.ownsRow B' T size v n xs := by
  rcases h with ⟨h1, h2 | ⟨g, cap, cur, h2, h3, h4⟩⟩
  · exact ⟨h1, .inl h2⟩
  · exact ⟨h1, .inr ⟨g, cap, cur, h2, Nat.le_trans hB h3, h4⟩⟩
theorem pair_newI (w : World) (s t : Int) (T : TypeId) : ∀ (j : Nat) u, [Value.int .i64 s, .int .i64 t][j]? = some u → (w.alloc (.cells #[.int .i64 s, .int .i64 t] T)).cell? ((⟨w.heap.size, 0, none⟩ : Addr).add j) = some u := by
  intro j u hu
  match j, hu with
  | 0, hu => exact (World.cell?_alloc_at _ _ _ _ rfl).trans (by simpa using hu)
  | 1, hu => exact (World.cell?_alloc_at _ _ _ _ rfl).trans (by simpa using hu)
  | j + 2, hu => simp at hu
theorem parts_le6 {c : UInt8} : ∀ {l p : List UInt8}, p ∈ partsL l c → p.length ≤ l.length := by
  intro l
  induction l with
  | nil => intro p h; have : p = [] := by simpa [partsL] using h
           subst this; simp
  | cons b l ih =>
    intro p h
    unfold partsL at h
    split at h
    · rcases List.mem_cons.1 h with rfl | h
      · simp
      · have := ih h; simp; omega
    · have hne := partsL_ne l c
      cases hq : partsL l c with
      | nil => exact absurd hq hne
      | cons q qs =>
        rw [hq] at h
        rcases List.mem_cons.1 h with rfl | h
        · have := ih (p := q) (by rw [hq]; exact List.mem_cons_self ..)
          simp; omega
        · have := ih (p := p) (by rw [hq]; exact List.mem_cons_of_mem _ h)
          simp; omega

set_option maxRecDepth 100000 in
set_option maxHeartbeats 3200000 in
theorem impl_codparse (s : ByteArray) (w : World) (hs : s.size ≤ 1048576) (hd : Cds w) (hc : Cls w) (he : Errs w) :
    Calls Tryz.prog 10 #[.string s] w fun e w' => PRet w.heap.size s.data.toList e w' ∧ Below w.heap.size w w' := by
  obtain ⟨i0, hi, hz0, hz1, hz2⟩ := info_parts Tryz.infoWt
  have hP := impl_parts s 44 w hs
  have hsl := size_len s
  have hdef := Eq.refl (codParse s.data.toList)
  conv at hdef => rhs; unfold codParse
  have hple := fun p (h : p ∈ partsL s.data.toList 44) => parts_le6 h
  generalize partsL s.data.toList 44 = ps at *
  have HX : Hid (∀ W, Below w.heap.size w W → Cds W ∧ Cls W ∧ Errs W) := Lib.hid fun W hW => ⟨hd.below hW (Nat.le_refl _), hc.below hW (Nat.le_refl _), he.below hW (Nat.le_refl _)⟩
  have HW1 : Hid (∀ (p : List UInt8) W, p.length ≤ 1048576 → Below w.heap.size w W → Calls Tryz.prog 26 #[.string ⟨p.toArray⟩] W fun e w' => ORet p e ∧ Below W.heap.size W w') := Lib.hid fun p W hp hW => by
    obtain ⟨k1, k2, k3⟩ := HX.out W hW
    exact read_want ⟨p.toArray⟩ W (by rw [size_len]; exact hp) k1 k2 k3
  clear hd hc he HX
  have HP := Lib.hid hP; have HPL := Lib.hid hple; have HD := Lib.hid hdef; have HI := Lib.hid hi
  clear hP hple hdef hi
  go_enter Tryz.func10, Tryz.ntmps10
  go_wp2_with fail
  refine HP.out.mono ?_
  rintro e w1 ⟨pv, rfl, hpo, hb1⟩
  have hrd := Rd1.of_own hpo
  have hplt : ∀ b, pv.ownBlock = some b → b < w1.heap.size := fun b hb => (hpo.lt b hb).2
  clear hpo
  obtain ⟨pa, pc, rfl, HR⟩ : ∃ pa pc, pv = .slice pa ps.length pc ∧ Hid (∀ W, Below w1.heap.size w1 W → ∀ k p, ps[k]? = some p → ∃ b o, pa = some ⟨b, o, none⟩ ∧ W.cell? ⟨b, o + k, none⟩ = some (.string ⟨p.toArray⟩)) := by
    rcases hrd with ⟨rfl, hn⟩ | ⟨b, o, c, rfl, _, _, h3⟩
    · have : ps = [] := List.map_eq_nil_iff.1 hn
      subst this
      exact ⟨none, 0, rfl, Lib.hid fun W hW k p hk => by simp at hk⟩
    · refine ⟨_, c, by rw [List.length_map], Lib.hid fun W hW k p hk => ⟨b, o, rfl, ?_⟩⟩
      have hb : b < w1.heap.size := hplt b rfl
      exact (hW.cell (p := ⟨b, o + k, none⟩) hb).trans (h3 k _ (by rw [List.getElem?_map, hk]; rfl))
  clear hrd hplt
  have hs1 := hb1.size
  have HB1 := Lib.hid hb1
  clear hb1
  by_cases h5 : 5 < ps.length
  · have hno := HD.out
    rw [if_neg (by omega)] at hno
    have HN := Lib.hid hno
    clear hno
    have h5' : 5 < (ps.length : Int) := by omega
    go_wp2
    go_ret2
    refine ⟨⟨_, [], by rw [HN.out]; rfl, by rw [HN.out]; rfl, rfl, .inl ⟨rfl, rfl⟩⟩, HB1.out⟩
  have h5' : ¬ 5 < (ps.length : Int) := by omega
  have HO0 : Hid (w1.ownsRow w1.heap.size 52 2 (.slice none 0 0) 0 []) := Lib.hid ⟨rfl, .inl ⟨rfl, rfl⟩⟩
  have HBB : Hid (Below w1.heap.size w1 w1) := Lib.hid (Below.refl _ _)
  go_wp2
  go_loopw [5, 17] (fun o i wr => ∃ (k : Nat) (ws : List Wt), k ≤ ps.length ∧ i = .int .i64 k ∧ wr.ownsRow w1.heap.size 52 2 o ws.length (wcells ws) ∧ Hid (codAll (ps.take k) = some ws) ∧ ws.length = k ∧ Below w1.heap.size w1 wr) (fun _ i _ => ps.length - (intOf i).toNat)
  case atStart => exact ⟨0, [], Nat.zero_le _, rfl, HO0.out, Lib.hid rfl, rfl, HBB.out⟩
  case round =>
    obtain ⟨k, ws, hk, rfl, hown, hall, hwl, hb⟩ := hrel
    have hsr := hb.size
    by_cases hlt : k < ps.length
    · have hpk := List.getElem?_eq_getElem hlt
      have hmem : ps[k] ∈ ps := List.getElem_mem hlt
      obtain ⟨p, hp⟩ : ∃ p, p = ps[k] := ⟨_, rfl⟩
      rw [← hp] at hpk hmem
      obtain ⟨b, o, rfl, hcell⟩ := HR.out wr hb k p hpk
      have hpl : p.length ≤ 1048576 := by have := HPL.out p hmem; omega
      have hcall := HW1.out p wr hpl (HB1.out.trans (hb.mono hs1))
      have hst : codAll (ps.take (k + 1)) = match codOne p with | some b => some (ws ++ [b]) | _ => none := by
        rw [List.take_add_one, hpk]
        show codAll (ps.take k ++ [p]) = _
        rw [codAll_snoc, hall.out]
        cases codOne p <;> rfl
      have hbad : codOne p = none → codParse s.data.toList = none := fun h => by
        rw [HD.out, if_pos (by omega), codAll_bad hpk h]
      have HST := Lib.hid hst; have HBAD := Lib.hid hbad; have HC := Lib.hid hcall
      clear hpk hmem hp hpl hst hbad hcall
      go_wp2_with fail
      refine HC.out.mono ?_
      rintro e w2 ⟨⟨c, q, rfl, hx⟩, hb2⟩
      have hown2 := own_below hown hb2
      have hb02 := hb.trans (hb2.mono hsr)
      have hs2 := hb02.size
      obtain ⟨w3, hw3⟩ : ∃ w3, w3 = w2.alloc (.cells #[.int .i64 c, .int .i64 q] 52) := ⟨_, rfl⟩
      have hs3 : w3.heap.size = w2.heap.size + 1 := by rw [hw3]; simp
      have hX3 : w3.heap[w2.heap.size]? = some (.cells #[.int .i64 c, .int .i64 q] 52 (0, 0)) := by rw [hw3]; exact heap_alloc_new w2 _
      have hb03 : Below w1.heap.size w1 w3 := by rw [hw3]; exact hb02.alloc hs2 _
      have hown3 := hown2.alloc (.cells #[.int .i64 c, .int .i64 q] 52)
      rw [← hw3] at hown3
      have HX2 := Lib.hid hx
      have HB3 := Lib.hid hb03; have HO3 := Lib.hid hown3
      obtain ⟨t0, t1, _, _⟩ := wt_facts hX3
      have u0 := t0
      have u1 := t1
      rw [hw3] at u0 u1
      have HW3 := Lib.hid hw3
      have hvl := hown.lt
      clear hown hown2 hb hb2 hb02 hb03 hown3 hx hw3 hX3 hcell
      cases hone : codOne p with
      | none =>
        have HN := Lib.hid (HBAD.out hone)
        simp only [Option.isSome_none]
        clear hone
        go_wp2
        rw [← HW3.out]
        go_ret2
        exact ⟨⟨_, [], by rw [HN.out]; rfl, by rw [HN.out]; rfl, rfl, .inl ⟨rfl, rfl⟩⟩, HB1.out.trans (HB3.out.mono hs1)⟩
      | some x =>
        have hxe := HX2.out x hone
        subst hxe
        have hal := HST.out
        rw [hone] at hal
        have HAL := Lib.hid hal
        simp only [Option.isSome_some]
        clear hone hal u0 u1
        have hs13 : w1.heap.size ≤ w3.heap.size := by omega
        go_wp2_with (at_builtin; rw [← HW3.out]; go_must (refine wpList_append_own _ rfl _ _ 31 (by rfl) w1.heap.size 52 i0 _ 2 16 Tryz.underlying31 HI.out hz0 hz1 hz2 (by rfl) (by decide) _ ws.length (wcells ws) (by rfl) (HO3.out.alloc _) ⟨w2.heap.size + 1, 0, none⟩ 1 1 [.int .i64 c, .int .i64 q] (by rfl) (by rfl) (by rw [← hs3]; exact pair_newI w3 c q _) (by intro x hx; simp at hx; rcases hx with rfl | rfl <;> rfl) (by unfold maxLen; omega) (by omega) (by simp; omega) ?_); intro v4 w4 ho4 hg4 _)
        have hb4 : Below w1.heap.size w1 w4 := (HB3.out.alloc hs13 _).grown hg4 (by simp; omega) (fun k hk => (hvl k hk).1)
        clear hg4
        go_roundw
        case rel => exact ⟨k + 1, ws ++ [(c, q)], by omega, by go_num, by rw [wcells_app, List.length_append]; exact ho4, HAL, by rw [List.length_append, hwl]; rfl, hb4⟩
        case measure => simp [intOf]; omega
    · have hkn : k = ps.length := by omega
      have hall2 := hall.out
      rw [hkn, List.take_length] at hall2
      have hfin : codParse s.data.toList = some ws := by rw [HD.out, if_pos (by omega), hall2]
      have HN := Lib.hid hfin
      have HO := Lib.hid (own_base hown hs1)
      have HBF := Lib.hid (HB1.out.trans (hb.mono hs1))
      clear hall2 hfin hown hb hall
      go_wp2
      go_ret2
      exact ⟨⟨_, ws, by rw [HN.out]; rfl, by rw [HN.out]; rfl, HO.out⟩, HBF.out⟩

set_option maxRecDepth 100000 in
set_option maxHeartbeats 3200000 in
theorem spec_codparse (s : ByteArray) (w : World) (hs : s.size ≤ 1048576) :
    Calls Tryz.prog 11 #[.string s] w fun e w' => PRet w.heap.size s.data.toList e w' ∧ Below w.heap.size w w' := by
  obtain ⟨i0, hi, hz0, hz1, hz2⟩ := info_parts Tryz.infoWt
  have hP := spec_parts s 44 w hs
  have hsl := size_len s
  have hdef := Eq.refl (codParse s.data.toList)
  conv at hdef => rhs; unfold codParse
  have hple := fun p (h : p ∈ partsL s.data.toList 44) => parts_le6 h
  generalize partsL s.data.toList 44 = ps at *
  have HW1 : Hid (∀ (p : List UInt8) W, p.length ≤ 1048576 → Below w.heap.size w W → Calls Tryz.prog 28 #[.string ⟨p.toArray⟩] W fun e w' => ORet p e ∧ Below W.heap.size W w') := Lib.hid fun p W hp hW => spec_one6 ⟨p.toArray⟩ W (by rw [size_len]; exact hp)
  have HP := Lib.hid hP; have HPL := Lib.hid hple; have HD := Lib.hid hdef; have HI := Lib.hid hi
  clear hP hple hdef hi
  go_enter Tryz.func11, Tryz.ntmps11
  go_wp2_with fail
  refine HP.out.mono ?_
  rintro e w1 ⟨pv, rfl, hpo, hb1⟩
  have hrd := Rd1.of_own hpo
  have hplt : ∀ b, pv.ownBlock = some b → b < w1.heap.size := fun b hb => (hpo.lt b hb).2
  clear hpo
  obtain ⟨pa, pc, rfl, HR⟩ : ∃ pa pc, pv = .slice pa ps.length pc ∧ Hid (∀ W, Below w1.heap.size w1 W → ∀ k p, ps[k]? = some p → ∃ b o, pa = some ⟨b, o, none⟩ ∧ W.cell? ⟨b, o + k, none⟩ = some (.string ⟨p.toArray⟩)) := by
    rcases hrd with ⟨rfl, hn⟩ | ⟨b, o, c, rfl, _, _, h3⟩
    · have : ps = [] := List.map_eq_nil_iff.1 hn
      subst this
      exact ⟨none, 0, rfl, Lib.hid fun W hW k p hk => by simp at hk⟩
    · refine ⟨_, c, by rw [List.length_map], Lib.hid fun W hW k p hk => ⟨b, o, rfl, ?_⟩⟩
      have hb : b < w1.heap.size := hplt b rfl
      exact (hW.cell (p := ⟨b, o + k, none⟩) hb).trans (h3 k _ (by rw [List.getElem?_map, hk]; rfl))
  clear hrd hplt
  have hs1 := hb1.size
  have HB1 := Lib.hid hb1
  clear hb1
  by_cases h5 : 5 < ps.length
  · have hno := HD.out
    rw [if_neg (by omega)] at hno
    have HN := Lib.hid hno
    clear hno
    have h5' : 5 < (ps.length : Int) := by omega
    have HO : Hid ((w1.alloc (.cells #[] 52)).ownsRow w1.heap.size 52 2 (.slice (some ⟨w1.heap.size, 0, none⟩) 0 0) 0 []) := Lib.hid (World.ownsRow_made w1 #[] 0 (Nat.le_refl _) (by decide) rfl)
    go_wp2
    go_ret2
    exact ⟨⟨_, [], by rw [HN.out]; rfl, by rw [HN.out]; rfl, own_base HO.out hs1⟩, HB1.out.alloc hs1 _⟩
  have h5' : ¬ 5 < (ps.length : Int) := by omega
  have HO0 : Hid ((w1.alloc (.cells #[] 52)).ownsRow w1.heap.size 52 2 (.slice (some ⟨w1.heap.size, 0, none⟩) 0 0) 0 []) := Lib.hid (World.ownsRow_made w1 #[] 0 (Nat.le_refl _) (by decide) rfl)
  have HBB : Hid (Below w1.heap.size w1 (w1.alloc (.cells #[] 52))) := Lib.hid ((Below.refl _ _).alloc (Nat.le_refl _) _)
  go_wp2
  go_loopw [5, 6] (fun o i wr => ∃ (k : Nat) (ws : List Wt), k ≤ ps.length ∧ i = .int .i64 k ∧ wr.ownsRow w1.heap.size 52 2 o ws.length (wcells ws) ∧ Hid (codAll (ps.take k) = some ws) ∧ ws.length = k ∧ Below w1.heap.size w1 wr) (fun _ i _ => ps.length - (intOf i).toNat)
  case atStart => exact ⟨0, [], Nat.zero_le _, rfl, HO0.out, Lib.hid rfl, rfl, HBB.out⟩
  case round =>
    obtain ⟨k, ws, hk, rfl, hown, hall, hwl, hb⟩ := hrel
    have hsr := hb.size
    by_cases hlt : k < ps.length
    · have hpk := List.getElem?_eq_getElem hlt
      have hmem : ps[k] ∈ ps := List.getElem_mem hlt
      obtain ⟨p, hp⟩ : ∃ p, p = ps[k] := ⟨_, rfl⟩
      rw [← hp] at hpk hmem
      obtain ⟨b, o, rfl, hcell⟩ := HR.out wr hb k p hpk
      have hpl : p.length ≤ 1048576 := by have := HPL.out p hmem; omega
      have hcall := HW1.out p wr hpl (HB1.out.trans (hb.mono hs1))
      have hst : codAll (ps.take (k + 1)) = match codOne p with | some b => some (ws ++ [b]) | _ => none := by
        rw [List.take_add_one, hpk]
        show codAll (ps.take k ++ [p]) = _
        rw [codAll_snoc, hall.out]
        cases codOne p <;> rfl
      have hbad : codOne p = none → codParse s.data.toList = none := fun h => by
        rw [HD.out, if_pos (by omega), codAll_bad hpk h]
      have HST := Lib.hid hst; have HBAD := Lib.hid hbad; have HC := Lib.hid hcall
      clear hpk hmem hp hpl hst hbad hcall
      go_wp2_with fail
      refine HC.out.mono ?_
      rintro e w2 ⟨⟨c, q, rfl, hx⟩, hb2⟩
      have hown2 := own_below hown hb2
      have hb02 := hb.trans (hb2.mono hsr)
      have hs2 := hb02.size
      obtain ⟨w3, hw3⟩ : ∃ w3, w3 = w2.alloc (.cells #[.int .i64 c, .int .i64 q] 52) := ⟨_, rfl⟩
      have hs3 : w3.heap.size = w2.heap.size + 1 := by rw [hw3]; simp
      have hX3 : w3.heap[w2.heap.size]? = some (.cells #[.int .i64 c, .int .i64 q] 52 (0, 0)) := by rw [hw3]; exact heap_alloc_new w2 _
      have hb03 : Below w1.heap.size w1 w3 := by rw [hw3]; exact hb02.alloc hs2 _
      have hown3 := hown2.alloc (.cells #[.int .i64 c, .int .i64 q] 52)
      rw [← hw3] at hown3
      have HX2 := Lib.hid hx
      have HB3 := Lib.hid hb03; have HO3 := Lib.hid hown3
      obtain ⟨t0, t1, _, _⟩ := wt_facts hX3
      have u0 := t0
      have u1 := t1
      rw [hw3] at u0 u1
      have HW3 := Lib.hid hw3
      have hvl := hown.lt
      clear hown hown2 hb hb2 hb02 hb03 hown3 hx hw3 hX3 hcell
      cases hone : codOne p with
      | none =>
        have HN := Lib.hid (HBAD.out hone)
        simp only [Option.isSome_none]
        clear hone
        have HOn : Hid ((w3.alloc (.cells #[] 52)).ownsRow (w2.heap.size + 1) 52 2 (.slice (some ⟨w2.heap.size + 1, 0, none⟩) 0 0) 0 []) := Lib.hid (by rw [← hs3]; exact World.ownsRow_made w3 #[] 0 (Nat.le_refl _) (by decide) rfl)
        have HS3 : Hid (w.heap.size ≤ w3.heap.size) := Lib.hid (by have := HB3.out.size; omega)
        go_wp2
        rw [← HW3.out]
        go_ret2
        exact ⟨⟨_, [], by rw [HN.out]; rfl, by rw [HN.out]; rfl, own_base HOn.out (by rw [← hs3]; exact HS3.out)⟩, (HB1.out.trans (HB3.out.mono hs1)).alloc HS3.out _⟩
      | some x =>
        have hxe := HX2.out x hone
        subst hxe
        have hal := HST.out
        rw [hone] at hal
        have HAL := Lib.hid hal
        simp only [Option.isSome_some]
        clear hone hal u0 u1
        have hs13 : w1.heap.size ≤ w3.heap.size := by omega
        go_wp2_with (at_builtin; rw [← HW3.out]; go_must (refine wpList_append_own _ rfl _ _ 31 (by rfl) w1.heap.size 52 i0 _ 2 16 Tryz.underlying31 HI.out hz0 hz1 hz2 (by rfl) (by decide) _ ws.length (wcells ws) (by rfl) (HO3.out.alloc _) ⟨w2.heap.size + 1, 0, none⟩ 1 1 [.int .i64 c, .int .i64 q] (by rfl) (by rfl) (by rw [← hs3]; exact pair_newI w3 c q _) (by intro x hx; simp at hx; rcases hx with rfl | rfl <;> rfl) (by unfold maxLen; omega) (by omega) (by simp; omega) ?_); intro v4 w4 ho4 hg4 _)
        have hb4 : Below w1.heap.size w1 w4 := (HB3.out.alloc hs13 _).grown hg4 (by simp; omega) (fun k hk => (hvl k hk).1)
        clear hg4
        go_roundw
        case rel => exact ⟨k + 1, ws ++ [(c, q)], by omega, by go_num, by rw [wcells_app, List.length_append]; exact ho4, HAL, by rw [List.length_append, hwl]; rfl, hb4⟩
        case measure => simp [intOf]; omega
    · have hkn : k = ps.length := by omega
      have hall2 := hall.out
      rw [hkn, List.take_length] at hall2
      have hfin : codParse s.data.toList = some ws := by rw [HD.out, if_pos (by omega), hall2]
      have HN := Lib.hid hfin
      have HO := Lib.hid (own_base hown hs1)
      have HBF := Lib.hid (HB1.out.trans (hb.mono hs1))
      clear hall2 hfin hown hb hall
      go_wp2
      go_ret2
      exact ⟨⟨_, ws, by rw [HN.out]; rfl, by rw [HN.out]; rfl, HO.out⟩, HBF.out⟩
end Go.Proofs.YtlfcamapjeldjaaGreatDoor
