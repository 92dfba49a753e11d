/- Places: the model's check on the parts of a path; the model whole. -/
import Derived.Test.YthmljebpjohibaaDoorSCanon
import Derived.Test.YthmljebpjohibaaDoorOwn2
namespace Go.Proofs.YthmljebpjohibaaDoor
open Go.RowKit

theorem segs_last (p : List UInt8) : segsOk [p] = !isDots p := rfl
theorem segs_more (p q : List UInt8) (r : List (List UInt8)) : segsOk (p :: q :: r) = (!isDots p && !p.isEmpty && segsOk (q :: r)) := rfl

set_option maxHeartbeats 1600000 in
theorem l2_steps (s : ByteArray) (w : World) (hs : s.size ≤ 1048576) :
    Calls Tryd.prog 38 #[.string s] w fun e w' => e = .returned (.bool (segsOk (partsL s.data.toList 47).tail)) ∧ Below w.heap.size w w' := by
  have c1 := fun W => spec_parts s 47 W hs
  obtain ⟨R, hR⟩ : ∃ R, R = segsOk (partsL s.data.toList 47).tail := ⟨_, rfl⟩
  rw [← hR]
  have hne := partsL_ne s.data.toList 47
  have hplen : (partsL s.data.toList 47).length ≤ s.data.toList.length + 1 := partsL_len _ _
  rw [← size_len] at hplen
  generalize partsL s.data.toList 47 = ps at *
  have HR0 := Lib.hid (show R = segsOk (ps.drop 1) by rw [hR]; simp)
  have h1 : 1 ≤ ps.length := by cases ps with
    | nil => exact absurd rfl hne
    | cons a l => simp
  clear hR hne
  go_enter Tryd.func38, Tryd.ntmps38
  go_wp2_with fail
  refine (c1 _).mono ?_
  rintro e w1 ⟨v, rfl, hown, hb1⟩
  clear c1
  obtain ⟨g, cap, rfl⟩ := own_form hown (by omega)
  have hmax := own_max hown
  have HC : ∀ j (hj : j < ps.length), w1.cell? ⟨g, j, none⟩ = some (.string ⟨(ps[j]).toArray⟩) := fun j hj => own_cell hown (u := strV ps[j]) (by simp [hj])
  have HH := Lib.hid HC
  clear hown HC
  go_wp2_with fail
  go_loop [4] (fun i => ∃ k : Nat, 1 ≤ k ∧ k ≤ ps.length ∧ i = .int .i64 k ∧ Hid (R = segsOk (ps.drop k))) (fun i => ps.length - (intOf i).toNat)
  case atStart => exact ⟨1, Nat.le_refl _, h1, rfl, HR0⟩
  case round =>
    clear HR0
    obtain ⟨k, hk1, hk, rfl, HR⟩ := hrel
    by_cases hlt : k < ps.length
    · have hc := HH.out k hlt
      rw [List.drop_eq_getElem_cons hlt] at HR
      generalize ps[k] = p at *
      obtain ⟨q, hq⟩ : ∃ q : ByteArray, q = ⟨p.toArray⟩ := ⟨_, rfl⟩
      have hqp : q.toList = p := by rw [hq, Lib.toList_data]
      rw [← hq] at hc
      clear hq
      cases b1 : (q.toList == [46]) with
      | true =>
        have hf : R = false := by
          rw [HR.out]
          have : isDots p = true := by unfold isDots; rw [← hqp, b1]; rfl
          cases h : ps.drop (k + 1) with
          | nil => rw [segs_last, this]; rfl
          | cons a r => rw [segs_more, this]; rfl
        clear HR hqp
        go_wp2
        go_ret
        exact ⟨rfl, hb1⟩
      | false =>
        cases b2 : (q.toList == [46, 46]) with
        | true =>
          have hf : R = false := by
            rw [HR.out]
            have : isDots p = true := by unfold isDots; rw [← hqp, b2]; simp
            cases h : ps.drop (k + 1) with
            | nil => rw [segs_last, this]; rfl
            | cons a r => rw [segs_more, this]; rfl
          clear HR hqp
          go_wp2
          go_ret
          exact ⟨rfl, hb1⟩
        | false =>
          have hd : isDots p = false := by unfold isDots; rw [← hqp, b1, b2]; rfl
          cases b3 : (q.toList == []) with
          | true =>
            have he : p = [] := by rw [← hqp]; simpa using b3
            by_cases hl : k + 1 < ps.length
            · have hf : R = false := by
                rw [HR.out, List.drop_eq_getElem_cons hl, segs_more, he]; rfl
              clear HR hqp hd he
              go_wp2
              go_ret
              exact ⟨rfl, hb1⟩
            · have hn : R = segsOk (ps.drop (k + 1)) := by
                rw [HR.out, List.drop_of_length_le (by omega), segs_last, hd]; rfl
              have HN := Lib.hid hn
              clear HR hqp hd he hn
              go_wp2
              go_round
              case rel => exact ⟨k + 1, by omega, by omega, by go_num, HN⟩
              case measure => simp [intOf]; omega
          | false =>
            have hn : R = segsOk (ps.drop (k + 1)) := by
              rw [HR.out]
              have hne : p.isEmpty = false := by rw [← hqp]; cases h : q.toList with
                | nil => rw [h] at b3; cases b3
                | cons a r => rfl
              cases h : ps.drop (k + 1) with
              | nil => rw [segs_last, hd]; rfl
              | cons a r => rw [segs_more, hd, hne]; rfl
            have HN := Lib.hid hn
            clear HR hqp hd hn
            go_wp2
            go_round
            case rel => exact ⟨k + 1, by omega, by omega, by go_num, HN⟩
            case measure => simp [intOf]; omega
    · have hf : R = true := by rw [HR.out, List.drop_of_length_le (by omega)]; rfl
      clear HR
      go_wp2
      go_ret
      exact ⟨rfl, hb1⟩

theorem plainL_empty {asks : Bool} {l : List UInt8} (h : plainL asks l = some []) : l = [] := by
  cases l with
  | nil => rfl
  | cons c l =>
    cases hc : codeL (c :: l) with
    | none =>
      rw [plainL_lit hc] at h
      split at h
      · obtain ⟨m, hm, he⟩ := Option.map_eq_some_iff.1 h; cases he
      · cases h
    | some k =>
      rw [plainL_code hc] at h
      split at h
      · cases h
      · obtain ⟨m, hm, he⟩ := Option.map_eq_some_iff.1 h
        have := (putC_len k).2
        have h2 := congrArg List.length he
        simp at h2; rw [h2.1] at this; simp at this

def canV (o : Option (List UInt8)) : Value := .tuple #[strV (o.getD []), .bool o.isSome]
theorem canonL_len {l r : List UInt8} (h : canonL l = some r) : l.length ≤ 40 ∧ 0 < l.length := by
  unfold canonL at h
  split at h
  · cases h
  · omega

theorem rootR_cons (c : UInt8) (l : List UInt8) : rootR (c :: l) = if c = 47 then resP [47] 1 l else none := rfl
theorem one_sz (c : UInt8) : (ByteArray.mk #[c]).size = 1 := rfl

set_option maxHeartbeats 1600000 in
theorem spec_canon (s : ByteArray) (w : World) (hs : s.size ≤ 1048576) :
    Calls Tryd.prog 16 #[.string s] w fun e w' => e = .returned (canV (canonL s.data.toList)) ∧ Below w.heap.size w w' := by
  obtain ⟨R, hR⟩ : ∃ R, R = canonL s.data.toList := ⟨_, rfl⟩
  rw [← hR]
  have hbad : R = none → canV R = .tuple #[.string ⟨#[]⟩, .bool false] := fun h => by rw [h]; rfl
  unfold canonL at hR
  rw [← size_len] at hR
  by_cases h0 : s.size = 0
  · rw [if_pos (.inl h0)] at hR
    rw [hbad hR]
    clear hbad hR hs
    have hz : ((s.size : Int) == 0) = true := by rw [h0]; rfl
    clear h0
    go_enter Tryd.func16, Tryd.ntmps16
    go_wp2
    go_ret2
    exact ⟨rfl, Below.refl _ _⟩
  · have hz : ((s.size : Int) == 0) = false := beq_eq_false_iff_ne.2 (by omega)
    by_cases h40 : 40 < s.size
    · rw [if_pos (.inr h40)] at hR
      rw [hbad hR]
      clear hbad hR h0
      go_enter Tryd.func16, Tryd.ntmps16
      go_wp2
      go_ret2
      exact ⟨rfl, Below.refl _ _⟩
    · rw [if_neg (by omega)] at hR
      have hd := drop_at s 0 (by omega)
      rw [List.drop_zero] at hd
      rw [hd] at hR
      have e1 := u8_eqk s[0] 47
      simp only [UInt8.reduceToNat, Int.cast_ofNat_Int] at e1
      by_cases hc : s[0] = 47
      · have c1 := fun W => spec_cut s 63 W (by unfold maxLen; omega)
        rw [hd, hc, cutL_cons (by decide)] at c1
        rw [rootR_cons, if_pos hc] at hR
        unfold resP at hR
        have hlen : (s.data.toList.drop (0 + 1)).length ≤ 40 := by rw [List.length_drop, ← size_len]; omega
        have hcl := cutL_len (s.data.toList.drop (0 + 1)) 63
        generalize s.data.toList.drop (0 + 1) = l at *
        generalize cutL l 63 = q at *
        obtain ⟨p, q, asks⟩ := q
        simp only at hR c1 hcl
        have hsz1 : (ByteArray.mk (47 :: p).toArray).size ≤ 1048576 := by rw [size_len]; simp; omega
        have hsz2 : (ByteArray.mk q.toArray).size ≤ 1048576 := by rw [size_len]; simp; omega
        have c2 := fun W => l2_plain ⟨(47 :: p).toArray⟩ false W hsz1
        have c3 := fun W => l2_plain ⟨q.toArray⟩ true W hsz2
        simp only at c2 c3
        rw [plainL_lit (codeL_ne (by decide)), show okLit false 47 = true from by decide, if_pos rfl] at c2
        have hh : ((s[0].toNat : Int) != 47) = false := by rw [hc]; rfl
        have h01 : (0 : Int) < s.size := by omega
        clear e1 hd hc
        cases hp : plainL false p with
        | none =>
          rw [hp] at hR c2
          rw [hbad hR]
          simp only [Option.map_none, Option.getD_none] at c2
          clear hR hp c3 hbad
          go_enter Tryd.func16, Tryd.ntmps16
          go_wp2_with fail
          refine (c1 _).mono ?_
          rintro e w1 ⟨rfl, n1, rfl⟩
          go_wp2_with fail
          refine (c2 _).mono ?_
          rintro e w2 ⟨rfl, hb2⟩
          clear c1 c2
          unfold strV
          go_wp2
          go_ret2
          exact ⟨rfl, below_drewN_left hb2⟩
        | some o =>
          rw [hp] at hR c2
          simp only [Option.map_some, Option.getD_some] at c2
          have hol := plainL_len hp
          have hsz3 : (ByteArray.mk (47 :: o).toArray).size ≤ 50 := by rw [size_len]; simp; omega
          have c4 := fun W => l2_steps ⟨(47 :: o).toArray⟩ W (by omega)
          simp only at c4
          have hpt : (partsL (47 :: o) 47).tail = partsL o 47 := by rw [show (47 :: o : List UInt8) = [] ++ 47 :: o from rfl, partsL_app _ _ (by simp)]; rfl
          rw [hpt] at c4
          have hnil : ((ByteArray.mk (47 :: o).toArray).toList == ([] : List UInt8)) = false := by rw [toList_mk]; rfl
          simp only [show List.drop 1 [(47 : UInt8)] = [] from rfl, List.nil_append] at hR
          cases hsg : segsOk (partsL o 47) with
          | false =>
            rw [hsg] at hR c4
            rw [hbad (by simpa using hR)]
            unfold strV at c2
            clear hR hp c3 hbad hpt hsg
            generalize ByteArray.mk (47 :: o).toArray = os at *
            go_enter Tryd.func16, Tryd.ntmps16
            go_wp2_with fail
            refine (c1 _).mono ?_
            rintro e w1 ⟨rfl, n1, rfl⟩
            go_wp2_with fail
            refine (c2 _).mono ?_
            rintro e w2 ⟨rfl, hb2⟩
            go_wp2_with fail
            refine (c4 _).mono ?_
            rintro e w3 ⟨rfl, hb3⟩
            clear c1 c2 c4
            go_wp2
            go_ret2
            exact ⟨rfl, (below_drewN_left hb2).trans (hb3.mono (by have := hb2.size; simpa using this))⟩
          | true =>
            rw [hsg] at hR c4
            simp only [if_true] at hR
            unfold strV at c2
            cases asks with
            | false =>
              simp only [Bool.false_eq_true, if_false] at hR
              have hR' : canV R = .tuple #[.string ⟨(47 :: o).toArray⟩, .bool true] := by rw [hR]; rfl
              rw [hR']
              clear hR hp c3 hbad hpt hsg hR'
              generalize ByteArray.mk (47 :: o).toArray = os at *
              go_enter Tryd.func16, Tryd.ntmps16
              go_wp2_with fail
              refine (c1 _).mono ?_
              rintro e w1 ⟨rfl, n1, rfl⟩
              go_wp2_with fail
              refine (c2 _).mono ?_
              rintro e w2 ⟨rfl, hb2⟩
              go_wp2_with fail
              refine (c4 _).mono ?_
              rintro e w3 ⟨rfl, hb3⟩
              have hb4 := (below_drewN_left hb2).trans (hb3.mono (by have := hb2.size; simpa using this))
              clear hb2 hb3 c1 c2 c4
              go_wp2
              go_ret2
              exact ⟨rfl, hb4⟩
            | true =>
              simp only [if_true] at hR
              cases hq : plainL true q with
              | none =>
                rw [hq] at hR c3
                rw [hbad (by simpa using hR)]
                have hqn : ((ByteArray.mk q.toArray).toList == ([] : List UInt8)) = false := by
                  rw [toList_mk]
                  cases q with
                  | nil => rw [plainL_nil] at hq; cases hq
                  | cons a b => rfl
                simp only [Option.getD_none] at c3
                unfold strV at c3
                clear hR hp hq hbad hpt hsg
                generalize ByteArray.mk (47 :: o).toArray = os at *
                generalize ByteArray.mk q.toArray = qs at *
                go_enter Tryd.func16, Tryd.ntmps16
                go_wp2_with fail
                refine (c1 _).mono ?_
                rintro e w1 ⟨rfl, n1, rfl⟩
                go_wp2_with fail
                refine (c2 _).mono ?_
                rintro e w2 ⟨rfl, hb2⟩
                go_wp2_with fail
                refine (c4 _).mono ?_
                rintro e w3 ⟨rfl, hb3⟩
                have hb4 := (below_drewN_left hb2).trans (hb3.mono (by have := hb2.size; simpa using this))
                clear hb2 hb3 c1 c2 c4
                go_wp2_with fail
                refine (c3 _).mono ?_
                rintro e w4 ⟨rfl, hb5⟩
                clear c3
                go_wp2
                go_ret2
                exact ⟨rfl, hb4.trans (hb5.mono hb4.size)⟩
              | some m =>
                rw [hq] at hR c3
                have hml := plainL_len hq
                have hR' : canV R = .tuple #[.string ((⟨(47 :: o).toArray⟩ ++ ⟨#[63]⟩ : ByteArray) ++ ⟨m.toArray⟩), .bool true] := by
                  rw [hR, show (⟨#[63]⟩ : ByteArray) = ⟨[63].toArray⟩ from rfl, cat_mk, cat_mk]; simp [canV]
                rw [hR']
                have hm0 : m = [] → q = [] := fun h => plainL_empty (h ▸ hq)
                simp only [Option.getD_some] at c3
                unfold strV at c3
                have hszm : (ByteArray.mk m.toArray).size ≤ 40 := by rw [size_len]; simp; omega
                have hz1 := one_sz 63
                cases m with
                | nil =>
                  obtain rfl := hm0 rfl
                  clear hR hp hq hbad hpt hsg hR' hm0
                  generalize ByteArray.mk (47 :: o).toArray = os at *
                  go_enter Tryd.func16, Tryd.ntmps16
                  go_wp2_with fail
                  refine (c1 _).mono ?_
                  rintro e w1 ⟨rfl, n1, rfl⟩
                  go_wp2_with fail
                  refine (c2 _).mono ?_
                  rintro e w2 ⟨rfl, hb2⟩
                  go_wp2_with fail
                  refine (c4 _).mono ?_
                  rintro e w3 ⟨rfl, hb3⟩
                  have hb4 := (below_drewN_left hb2).trans (hb3.mono (by have := hb2.size; simpa using this))
                  clear hb2 hb3 c1 c2 c4
                  go_wp2_with fail
                  refine (c3 _).mono ?_
                  rintro e w4 ⟨rfl, hb5⟩
                  clear c3
                  go_wp2
                  go_ret2
                  exact ⟨rfl, hb4.trans (hb5.mono hb4.size)⟩
                | cons ma mb =>
                  have hmn : ((ByteArray.mk (ma :: mb).toArray).toList == ([] : List UInt8)) = false := by rw [toList_mk]; rfl
                  clear hR hp hq hbad hpt hsg hR' hm0
                  generalize ByteArray.mk (47 :: o).toArray = os at *
                  generalize ByteArray.mk (ma :: mb).toArray = ms at *
                  generalize ByteArray.mk q.toArray = qs at *
                  go_enter Tryd.func16, Tryd.ntmps16
                  go_wp2_with fail
                  refine (c1 _).mono ?_
                  rintro e w1 ⟨rfl, n1, rfl⟩
                  go_wp2_with fail
                  refine (c2 _).mono ?_
                  rintro e w2 ⟨rfl, hb2⟩
                  go_wp2_with fail
                  refine (c4 _).mono ?_
                  rintro e w3 ⟨rfl, hb3⟩
                  have hb4 := (below_drewN_left hb2).trans (hb3.mono (by have := hb2.size; simpa using this))
                  clear hb2 hb3 c1 c2 c4
                  go_wp2_with fail
                  refine (c3 _).mono ?_
                  rintro e w4 ⟨rfl, hb5⟩
                  clear c3
                  go_wp2
                  go_ret2
                  exact ⟨rfl, hb4.trans (hb5.mono hb4.size)⟩
      · rw [rootR_cons, if_neg hc] at hR
        rw [hbad hR]
        have hh : ((s[0].toNat : Int) != 47) = true := by
          have e2 : (s[0] == 47) = false := by simpa using hc
          rw [e2] at e1
          simp only [bne, e1, Bool.not_false]
        have h01 : (0 : Int) < s.size := by omega
        clear hR hbad hd e1 hc
        go_enter Tryd.func16, Tryd.ntmps16
        go_wp2
        go_ret2
        exact ⟨rfl, Below.refl _ _⟩
end Go.Proofs.YthmljebpjohibaaDoor
