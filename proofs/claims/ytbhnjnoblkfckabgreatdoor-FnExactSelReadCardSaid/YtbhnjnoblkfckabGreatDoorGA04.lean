import Derived.Test.YtbhnjnoblkfckabGreatDoorGA01
import Derived.Test.YtbhnjnoblkfckabGreatDoorGA02
-- from XFPure
/- Pure laws on fields: their texts are read as them, whatever the letters of the name and the spaces around the value. -/
namespace Go.Proofs.YtbhnjnoblkfckabGreatDoor

theorem small_lt (c : UInt8) (h : isSmall c = true) : c ≠ 58 ∧ c ≠ 32 ∧ isGreat c = false := by
  have hh : ∀ n : Fin 256, isSmall (UInt8.ofNat n.val) = true → UInt8.ofNat n.val ≠ 58 ∧ UInt8.ofNat n.val ≠ 32 ∧ isGreat (UInt8.ofNat n.val) = false := by decide +kernel
  have e : UInt8.ofNat c.toNat = c := by simp
  have := hh ⟨c.toNat, c.toNat_lt⟩
  simp only [e] at this
  exact this h

theorem tok_smalls {l : List UInt8} (h : tokB l = true) : smalls l = true := by
  simp only [tokB, Bool.and_eq_true] at h
  exact h.2
theorem smalls_mem {l : List UInt8} (h : smalls l = true) {c : UInt8} (hc : c ∈ l) : isSmall c = true := by
  unfold smalls at h
  rw [List.all_eq_true] at h
  exact h c hc
theorem low_small {l : List UInt8} (h : smalls l = true) : lowL l = l := by
  unfold lowL
  conv => rhs; rw [← List.map_id l]
  refine List.map_congr_left fun c hc => ?_
  unfold lowB
  rw [if_neg (by rw [(small_lt c (smalls_mem h hc)).2.2]; decide)]; rfl
theorem colon_small {l : List UInt8} (h : smalls l = true) : (58 : UInt8) ∉ l := fun hc => (small_lt 58 (smalls_mem h hc)).1 rfl

/-- A name's letters, great. -/
def upB (c : UInt8) : UInt8 := if 97 ≤ c.toNat ∧ c.toNat ≤ 122 then c - 32 else c
def upL (l : List UInt8) : List UInt8 := l.map upB
theorem up_small (c : UInt8) (h : isSmall c = true) : lowB (upB c) = c ∧ upB c ≠ 58 := by
  have hh : ∀ n : Fin 256, isSmall (UInt8.ofNat n.val) = true → lowB (upB (UInt8.ofNat n.val)) = UInt8.ofNat n.val ∧ upB (UInt8.ofNat n.val) ≠ 58 := by decide +kernel
  have e : UInt8.ofNat c.toNat = c := by simp
  have := hh ⟨c.toNat, c.toNat_lt⟩
  simp only [e] at this
  exact this h
theorem low_up {l : List UInt8} (h : smalls l = true) : lowL (upL l) = l := by
  unfold lowL upL
  rw [List.map_map]
  conv => rhs; rw [← List.map_id l]
  exact List.map_congr_left fun c hc => (up_small c (smalls_mem h hc)).1
theorem colon_up {l : List UInt8} (h : smalls l = true) : (58 : UInt8) ∉ upL l := fun hc => by
  obtain ⟨c, hc1, hc2⟩ := List.mem_map.1 hc
  exact (up_small c (smalls_mem h hc1)).2 hc2

theorem trim_left (l : List UInt8) : Lib.trimB (32 :: l) 32 = Lib.trimB l 32 := by
  unfold Lib.trimB Lib.trimLeftB Lib.trimRightB
  rw [List.reverse_cons, List.dropWhile_append]
  split
  · rename_i h
    have : l.reverse.dropWhile (· == 32) = [] := by simpa using h
    rw [this]; rfl
  · rw [List.reverse_append]; rfl
theorem trim_right (l : List UInt8) : Lib.trimB (l ++ [32]) 32 = Lib.trimB l 32 := by
  unfold Lib.trimB Lib.trimLeftB Lib.trimRightB
  rw [List.reverse_append]; rfl

theorem fd_parts {n v : ByteArray} (h : fdB (n, v) = true) : tokB n.data.toList = true ∧ Lib.trimB v.data.toList 32 = v.data.toList := by
  simp only [fdB, valB, Bool.and_eq_true, decide_eq_true_eq] at h
  exact ⟨h.1, h.2.2⟩
theorem ba_mk (s : ByteArray) : (⟨s.data.toList.toArray⟩ : ByteArray) = s := by simp

/-- Whatever stands as the name's letters, and around the value. -/
theorem read_of {n v : ByteArray} (h : fdB (n, v) = true) {l x : List UInt8} (hl : lowL l = n.data.toList) (hc : (58 : UInt8) ∉ l) (hx : Lib.trimB x 32 = v.data.toList) : rdR (l ++ 58 :: x) = ((n, v), true) := by
  have hcut := cutL_yes l x 58 hc
  have hF : rdF (l ++ 58 :: x) = (n, v) := by
    unfold rdF
    rw [hcut]
    simp only
    rw [hl, hx, ba_mk, ba_mk]
  refine (rd_yes (by rw [hcut]) (by rw [hF]; exact h)).trans ?_
  rw [hF]

theorem fdT_list {n v : ByteArray} (h : fdB (n, v) = true) : (fdT (n, v)).data.toList = n.data.toList ++ 58 :: (32 :: v.data.toList) := by
  unfold fdT
  rw [if_pos h]
  simp
theorem read_text {n v : ByteArray} (h : fdB (n, v) = true) : rdR (fdT (n, v)).data.toList = ((n, v), true) := by
  obtain ⟨h1, h2⟩ := fd_parts h
  have hs := tok_smalls h1
  rw [fdT_list h]
  exact read_of h (low_small hs) (colon_small hs) (by rw [trim_left, h2])
theorem read_great {n v : ByteArray} (h : fdB (n, v) = true) : rdR (upL n.data.toList ++ [58, 32, 32, 32] ++ v.data.toList ++ [32, 32]) = ((n, v), true) := by
  obtain ⟨h1, h2⟩ := fd_parts h
  have hs := tok_smalls h1
  have e : upL n.data.toList ++ [58, 32, 32, 32] ++ v.data.toList ++ [32, 32] = upL n.data.toList ++ 58 :: (32 :: 32 :: 32 :: (v.data.toList ++ [32] ++ [32])) := by simp
  rw [e]
  exact read_of h (low_up hs) (colon_up hs) (by rw [trim_left, trim_left, trim_left, trim_right, trim_right, h2])

/-- What is read is a field. -/
theorem read_ok {l : List UInt8} {f : ByteArray × ByteArray} (h : rdR l = (f, true)) : fdB f = true := by
  unfold rdR at h
  by_cases hb : rdB l = true
  · rw [if_pos hb] at h
    injection h with h1 _
    unfold rdB at hb
    rw [Bool.and_eq_true] at hb
    rw [← h1]; exact hb.2
  · rw [if_neg hb] at h
    injection h with _ h2
    cases h2
theorem read_false {l : List UInt8} {f : ByteArray × ByteArray} (h : rdR l = (f, false)) : f = (⟨#[]⟩, ⟨#[]⟩) := by
  unfold rdR at h
  by_cases hb : rdB l = true
  · rw [if_pos hb] at h
    injection h with _ h2
    cases h2
  · rw [if_neg hb] at h
    injection h with h1 _
    exact h1.symm
/-- A space ahead of the name makes it none. -/
theorem read_space (l : List UInt8) : rdR (32 :: l) = ((⟨#[]⟩, ⟨#[]⟩), false) := by
  have hcut : cutL (32 :: l) 58 = (32 :: (cutL l 58).1, (cutL l 58).2.1, (cutL l 58).2.2) := by
    show (if (32 : UInt8) = 58 then _ else _) = _
    rw [if_neg (by decide)]
  refine rd_bad ?_
  unfold rdF
  rw [hcut]
  simp only
  have : tokB (ByteArray.mk (lowL (32 :: (cutL l 58).1)).toArray).data.toList = false := by
    have e : (ByteArray.mk (lowL (32 :: (cutL l 58).1)).toArray).data.toList = 32 :: lowL (cutL l 58).1 := by
      simp [lowL, show lowB 32 = 32 from by decide]
    rw [e]
    have hs : smalls (32 :: lowL (cutL l 58).1) = false := by
      unfold smalls
      rw [List.all_cons, show isSmall 32 = false from by decide]; rfl
    simp [tokB, hs]
  simp [fdB, this]
end Go.Proofs.YtbhnjnoblkfckabGreatDoor

-- from XSCan
/- Places: walks of the helpers that write a place in its plainest form. -/
namespace Go.Proofs.YtbhnjnoblkfckabGreatDoor
open Go.RowKit

theorem freeB_small {c : UInt8} (h : isSmall c = true) : freeB c = true := by unfold freeB; rw [h]; rfl
theorem freeB_great {c : UInt8} (h : isGreat c = true) : freeB c = true := by unfold freeB; rw [h]; simp
theorem freeB_no {c : UInt8} (h : isSmall c = false) (h2 : isGreat c = false) : freeB c = (decide (c.toNat = 95) || decide (c.toNat = 126) || decide (c.toNat = 46)) := by
  unfold freeB; rw [h, h2]
  have e (k : UInt8) : (c == k) = decide (c.toNat = k.toNat) := by
    rw [Bool.eq_iff_iff, beq_iff_eq, decide_eq_true_iff]
    exact ⟨fun h => by rw [h], fun h => UInt8.toNat_inj.mp h⟩
  rw [e 95, e 126, e 46]; rfl

set_option maxHeartbeats 800000 in
theorem l2_free (c : UInt8) (w : World) :
    Calls Tryz.prog 180 #[.int .u8 c.toNat] w fun e w' => e = .returned (.bool (freeB c)) ∧ w = w' := by
  have c1 := fun W => l1_small c W
  have hc := c.toNat_lt
  cases hs : isSmall c with
  | true =>
    rw [freeB_small hs]
    rw [hs] at c1
    clear hs
    go_enter Tryz.func180, Tryz.ntmps180
    go_wp2_with fail
    refine (c1 _).mono ?_
    rintro e w' ⟨rfl, rfl⟩
    go_wp2
    go_ret
    exact ⟨rfl, rfl⟩
  | false =>
    rw [hs] at c1
    cases hg : isGreat c with
    | true =>
      rw [freeB_great hg]
      unfold isGreat at hg
      have h1 : 65 ≤ c.toNat ∧ c.toNat ≤ 90 := by simpa using hg
      obtain ⟨h1, h2⟩ := h1
      clear hs hg
      generalize c.toNat = n at *
      go_enter Tryz.func180, Tryz.ntmps180
      go_wp2_with fail
      refine (c1 _).mono ?_
      rintro e w' ⟨rfl, rfl⟩
      go_wp2
      go_ret
      exact ⟨rfl, rfl⟩
    | false =>
      rw [freeB_no hs hg]
      unfold isGreat at hg
      have h1 : c.toNat < 65 ∨ 90 < c.toNat := by
        rcases Nat.lt_or_ge c.toNat 65 with h | h
        · exact .inl h
        · rcases Nat.lt_or_ge 90 c.toNat with h2 | h2
          · exact .inr h2
          · simp [h, h2] at hg
      clear hs hg
      generalize c.toNat = n at *
      have hr : n < 46 ∨ n = 46 ∨ (47 ≤ n ∧ n ≤ 64) ∨ (91 ≤ n ∧ n ≤ 94) ∨ n = 95 ∨ (96 ≤ n ∧ n ≤ 125) ∨ n = 126 ∨ 127 ≤ n := by omega
      clear h1
      rcases hr with hr | rfl | ⟨h1, h2⟩ | ⟨h1, h2⟩ | rfl | ⟨h1, h2⟩ | rfl | hr
      all_goals go_enter Tryz.func180, Tryz.ntmps180
      all_goals go_wp2_with fail
      all_goals refine (c1 _).mono ?_
      all_goals rintro e w' ⟨rfl, rfl⟩
      all_goals clear c1
      all_goals go_wp2
      all_goals go_ret
      all_goals (refine ⟨congrArg (fun b => Ending.returned (Value.bool b)) ?_, rfl⟩)
      all_goals (show (_ : Bool) = _)
      all_goals first | rfl | (rw [Bool.eq_iff_iff]; simp; done) | (rw [Bool.eq_iff_iff]; simp; omega)

set_option maxHeartbeats 800000 in
theorem impl_free (c : UInt8) (w : World) (h : Cls w) :
    Calls Tryz.prog 223 #[.int .u8 c.toNat] w fun e w' => e = .returned (.bool (freeB c)) ∧ w = w' := by
  have c1 := class_of c w h
  rw [clsOf_eq] at c1
  have hc := c.toNat_lt
  clear h
  cases hs : isSmall c with
  | true =>
    rw [freeB_small hs]
    rw [hs] at c1
    simp only [if_true] at c1
    clear hs
    go_enter Tryz.func223, Tryz.ntmps223
    go_wp2_with fail
    refine c1.mono ?_
    rintro e w' ⟨rfl, rfl⟩
    go_wp2
    go_ret
    exact ⟨rfl, rfl⟩
  | false =>
    rw [hs] at c1
    simp only [Bool.false_eq_true, if_false] at c1
    cases hg : isGreat c with
    | true =>
      rw [freeB_great hg]
      rw [hg] at c1
      simp only [if_true] at c1
      clear hs hg
      go_enter Tryz.func223, Tryz.ntmps223
      go_wp2_with fail
      refine c1.mono ?_
      rintro e w' ⟨rfl, rfl⟩
      go_wp2
      go_ret
      exact ⟨rfl, rfl⟩
    | false =>
      rw [freeB_no hs hg]
      rw [hg] at c1
      simp only [Bool.false_eq_true, if_false] at c1
      clear hs hg
      generalize c.toNat = n at *
      have hr : n < 46 ∨ n = 46 ∨ (47 ≤ n ∧ n ≤ 94) ∨ n = 95 ∨ (96 ≤ n ∧ n ≤ 125) ∨ n = 126 ∨ 127 ≤ n := by omega
      rcases hr with hr | rfl | ⟨h1, h2⟩ | rfl | ⟨h1, h2⟩ | rfl | hr
      all_goals go_enter Tryz.func223, Tryz.ntmps223
      all_goals go_wp2_with fail
      all_goals refine c1.mono ?_
      all_goals rintro e w' ⟨rfl, rfl⟩
      all_goals clear c1
      all_goals go_wp2
      all_goals go_ret
      all_goals (refine ⟨congrArg (fun b => Ending.returned (Value.bool b)) ?_, rfl⟩)
      all_goals (show (_ : Bool) = _)
      all_goals first | rfl | (rw [Bool.eq_iff_iff]; simp; done) | (rw [Bool.eq_iff_iff]; simp; omega)

theorem doubt_no {n : Nat} (h1 : n ≠ 46) (h2 : n ≠ 47) (h3 : n ≠ 63) (h4 : n ≠ 37) (h5 : n ≠ 38) (h6 : n ≠ 61) : doubtB n = false := by
  unfold doubtB; simp [h1, h2, h3, h4, h5, h6]

set_option maxHeartbeats 800000 in
theorem l2_doubt (n : Nat) (hn : n < 256) (w : World) :
    Calls Tryz.prog 179 #[.int .i64 n] w fun e w' => e = .returned (.bool (doubtB n)) ∧ w = w' := by
  by_cases h1 : n = 46
  · subst h1
    go_enter Tryz.func179, Tryz.ntmps179
    go_wp2
    go_ret
    exact ⟨rfl, rfl⟩
  · by_cases h2 : n = 47
    · subst h2
      go_enter Tryz.func179, Tryz.ntmps179
      go_wp2
      go_ret
      exact ⟨rfl, rfl⟩
    · by_cases h3 : n = 63
      · subst h3
        go_enter Tryz.func179, Tryz.ntmps179
        go_wp2
        go_ret
        exact ⟨rfl, rfl⟩
      · by_cases h4 : n = 37
        · subst h4
          go_enter Tryz.func179, Tryz.ntmps179
          go_wp2
          go_ret
          exact ⟨rfl, rfl⟩
        · by_cases h5 : n = 38
          · subst h5
            go_enter Tryz.func179, Tryz.ntmps179
            go_wp2
            go_ret
            exact ⟨rfl, rfl⟩
          · by_cases h6 : n = 61
            · subst h6
              go_enter Tryz.func179, Tryz.ntmps179
              go_wp2
              go_ret
              exact ⟨rfl, rfl⟩
            · rw [doubt_no h1 h2 h3 h4 h5 h6]
              have q (k : Nat) (h : n ≠ k) : ((n : Int) == (k : Int)) = false := beq_eq_false_iff_ne.2 (by omega)
              have q1 := q _ h1; have q2 := q _ h2; have q3 := q _ h3; have q4 := q _ h4; have q5 := q _ h5; have q6 := q _ h6
              simp only [Int.cast_ofNat_Int] at q1 q2 q3 q4 q5 q6
              clear q h1 h2 h3 h4 h5 h6
              go_enter Tryz.func179, Tryz.ntmps179
              go_wp2
              go_ret
              exact ⟨rfl, rfl⟩

end Go.Proofs.YtbhnjnoblkfckabGreatDoor

-- from XUpper
/- Places: a code in great digits. -/
namespace Go.Proofs.YtbhnjnoblkfckabGreatDoor
open Go.RowKit

/-- The digits of a code. -/
def digs : ByteArray := ⟨#[48, 49, 50, 51, 52, 53, 54, 55, 56, 57, 65, 66, 67, 68, 69, 70]⟩
theorem digs_at (k : Nat) (h : k < 16) (h2 : k < digs.size) : digs[k] = hexU k := by
  have e : ∀ k : Fin 16, digs.data[k.val]? = some (hexU k.val) := by decide
  have h3 := e ⟨k, h⟩
  have h4 : digs.data[k]? = some (digs.data[k]'h2) := Array.getElem?_eq_getElem h2
  rw [h4] at h3
  exact Option.some.inj h3

/-- 'string([]byte{x, y})': the two new bytes as a text. -/
theorem run_conv2 {P : Program} (src dst e e' : TypeId) (hs : P.underlying src = some (.slice e)) (he : P.underlying e = some (.int .u8)) (hd : P.underlying dst = some .string)
    (w : World) (x y : UInt8) :
    (convert src dst (.slice (some ⟨w.heap.size, 0, none⟩) 2 2)).run P (w.alloc (.cells #[.int .u8 (x.toNat : Int), .int .u8 (y.toNat : Int)] e')).drew = .ok (.string ⟨#[x, y]⟩) (w.alloc (.cells #[.int .u8 (x.toNat : Int), .int .u8 (y.toNat : Int)] e')).drew := by
  have := run_convert_bytes_back (P := P) (w.alloc (.cells #[.int .u8 (x.toNat : Int), .int .u8 (y.toNat : Int)] e')).drew src dst e ⟨w.heap.size, 0, none⟩ 2 [x, y] hs he hd (fun j hj => by
    have : j = 0 ∨ j = 1 := by simp at hj; omega
    rcases this with rfl | rfl
    · rw [show ((⟨w.heap.size, 0, none⟩ : Addr).add 0) = ⟨w.heap.size, 0, none⟩ from rfl]
      exact (World.cell?_alloc_at _ _ _ _ rfl).trans rfl
    · rw [show ((⟨w.heap.size, 0, none⟩ : Addr).add 1) = ⟨w.heap.size, 1, none⟩ from rfl]
      exact (World.cell?_alloc_at _ _ _ _ rfl).trans rfl)
  simpa using this

set_option maxRecDepth 100000 in
set_option maxHeartbeats 800000 in
theorem l2_upper (n : Nat) (hn : n < 256) (w : World) :
    Calls Tryz.prog 181 #[.int .i64 n] w fun e w' => e = .returned (strV (upperL n)) ∧ Below w.heap.size w w' := by
  have t1 : (n : Int).tmod 16 = (n : Int) % 16 := Int.tmod_eq_emod_of_nonneg (by omega)
  have z1 : (n : Int) / 16 < 16 := by omega
  have z2 : (n : Int) % 16 < 16 := by omega
  have z3 : IntKind.i64.wrap ((n : Int) / 16) = (n : Int) / 16 := by rw [IntKind.wrap_i64]; omega
  have z4 : IntKind.i64.wrap ((n : Int) % 16) = (n : Int) % 16 := by rw [IntKind.wrap_i64]; omega
  have hcv := fun W x y => run_conv2 (P := Tryz.prog) 37 9 5 5 Tryz.underlying37 Tryz.underlying5 Tryz.underlying9 W x y
  go_enter Tryz.func181, Tryz.ntmps181
  go_wp2_with fail
  go_region_with (fail)
  all_goals go_wp2
  all_goals go_ret
  all_goals (refine ⟨?_, below_drewN (n := 1) ((Below.refl w.heap.size w).alloc (Nat.le_refl _) _)⟩)
  all_goals (
    have q1 := digs_at (n / 16) (by omega) (by simp [digs, ByteArray.size]; omega)
    have q2 := digs_at (n % 16) (by omega) (by simp [digs, ByteArray.size]; omega)
    unfold strV upperL
    rw [← q1, ← q2]
    rfl)
end Go.Proofs.YtbhnjnoblkfckabGreatDoor

-- from XSPlain
/- Places: walks of the model's plainest form: a step, a path or what is asked, the parts of a path. -/
namespace Go.Proofs.YtbhnjnoblkfckabGreatDoor
open Go.RowKit

theorem u8_eqk (c k : UInt8) : ((c.toNat : Int) == (k.toNat : Int)) = (c == k) := by
  rw [Bool.eq_iff_iff, beq_iff_eq, beq_iff_eq]
  exact ⟨fun h => UInt8.toNat_inj.mp (by omega), fun h => by rw [h]⟩
theorem ofNat_toNat {n : Nat} (h : n < 256) : (UInt8.ofNat n).toNat = n := by simp; omega
theorem codeI_some {l : List UInt8} {n : Nat} (h : codeL l = some n) : codeI l = n := by unfold codeI; rw [h]
theorem codeI_none {l : List UInt8} (h : codeL l = none) : codeI l = -1 := by unfold codeI; rw [h]

set_option maxHeartbeats 800000 in
theorem step_doubt (s : ByteArray) (k n : Nat) (asks : Bool) (hk : k < s.size) (w : World) (hs : s.size ≤ 1048576) (hc : codeL (s.data.toList.drop k) = some n) (hd : doubtB n = true) :
    Calls Tryz.prog 150 #[.string s, .int .i64 k, .bool asks] w fun e w' => e = .returned (.tuple #[.string ⟨#[]⟩, .int .i64 0]) ∧ w = w' := by
  have hn := codeL_lt hc
  have c1 := fun W => l2_code s k hk W (by unfold maxLen; omega)
  rw [codeI_some hc] at c1
  have c2 := fun W => l2_doubt n hn W
  rw [hd] at c2
  clear hc hd
  go_enter Tryz.func150, Tryz.ntmps150
  go_wp2_with fail
  refine (c1 _).mono ?_
  rintro e w' ⟨rfl, rfl⟩
  go_wp2_with fail
  refine (c2 _).mono ?_
  rintro e w' ⟨rfl, rfl⟩
  go_wp2
  go_ret2
  exact ⟨rfl, rfl⟩

set_option maxHeartbeats 800000 in
theorem step_code (s : ByteArray) (k n : Nat) (asks : Bool) (hk : k < s.size) (w : World) (hs : s.size ≤ 1048576) (hc : codeL (s.data.toList.drop k) = some n) (hd : doubtB n = false) :
    Calls Tryz.prog 150 #[.string s, .int .i64 k, .bool asks] w fun e w' => e = .returned (.tuple #[strV (putC n), .int .i64 3]) ∧ Below w.heap.size w w' := by
  have hn := codeL_lt hc
  have c1 := fun W => l2_code s k hk W (by unfold maxLen; omega)
  rw [codeI_some hc] at c1
  have c2 := fun W => l2_doubt n hn W
  rw [hd] at c2
  have c3 := fun W => l2_free (UInt8.ofNat n) W
  rw [ofNat_toNat hn] at c3
  have hw := wrap_u8 n hn
  clear hc hd
  unfold putC
  cases hf : freeB (UInt8.ofNat n) with
  | true =>
    rw [if_pos rfl]
    rw [hf] at c3
    clear hf
    have hcv := fun W => run_conv1 (P := Tryz.prog) 37 9 5 5 Tryz.underlying37 Tryz.underlying5 Tryz.underlying9 W (n : Int) (by omega) (by omega)
    go_enter Tryz.func150, Tryz.ntmps150
    go_wp2_with fail
    refine (c1 _).mono ?_
    rintro e w' ⟨rfl, rfl⟩
    go_wp2_with fail
    refine (c2 _).mono ?_
    rintro e w' ⟨rfl, rfl⟩
    go_wp2_with fail
    refine (c3 _).mono ?_
    rintro e w' ⟨rfl, rfl⟩
    clear c1 c2 c3
    go_wp2
    go_ret2
    exact ⟨rfl, (Below.refl _ _).alloc (Nat.le_refl _) _⟩
  | false =>
    rw [if_neg (by decide)]
    rw [hf] at c3
    have c4 := fun W => l2_upper n hn W
    generalize upperL n = u at c4
    clear hf
    go_enter Tryz.func150, Tryz.ntmps150
    go_wp2_with fail
    refine (c1 _).mono ?_
    rintro e w' ⟨rfl, rfl⟩
    go_wp2_with fail
    refine (c2 _).mono ?_
    rintro e w' ⟨rfl, rfl⟩
    go_wp2_with fail
    refine (c3 _).mono ?_
    rintro e w' ⟨rfl, rfl⟩
    go_wp2_with fail
    refine (c4 _).mono ?_
    rintro e w' ⟨rfl, hb⟩
    clear c1 c2 c3 c4
    go_wp2
    go_ret2
    exact ⟨rfl, hb⟩

theorem ext_oneP (s : ByteArray) (k : Nat) (h : k < s.size) : s.extract k (k + 1) = ⟨#[s[k]]⟩ := by
  apply ByteArray.ext
  apply Array.toList_inj.mp
  rw [ByteArray.data_extract, Array.toList_extract, List.extract_eq_take_drop, drop_at s k h]
  simp

set_option maxHeartbeats 3200000 in
theorem step_lit (s : ByteArray) (k : Nat) (asks : Bool) (hk : k < s.size) (w : World) (hs : s.size ≤ 1048576) (hc : codeL (s.data.toList.drop k) = none) :
    Calls Tryz.prog 150 #[.string s, .int .i64 k, .bool asks] w fun e w' => e = .returned (.tuple #[strV (if okLit asks s[k] = true then [s[k]] else []), .int .i64 (if okLit asks s[k] = true then 1 else 0)]) ∧ w = w' := by
  have c1 := fun W => l2_code s k hk W (by unfold maxLen; omega)
  rw [codeI_none hc] at c1
  have c2 := fun W => l2_free s[k] W
  have hx := ext_oneP s k hk
  have e1 := u8_eqk s[k] 47
  have e2 := u8_eqk s[k] 61
  have e3 := u8_eqk s[k] 38
  simp only [UInt8.reduceToNat, Int.cast_ofNat_Int] at e1 e2 e3
  have hsz : (s.extract k (k + 1)).size ≤ 1 := by simp; omega
  unfold okLit
  clear hc
  cases hf : freeB s[k] with
  | true =>
    rw [hf] at c2
    simp only [Bool.true_or, if_true]
    clear e1 e2 e3 hf
    cases asks
    all_goals go_enter Tryz.func150, Tryz.ntmps150
    all_goals go_wp2_with fail
    all_goals refine (c1 _).mono ?_
    all_goals rintro e w' ⟨rfl, rfl⟩
    all_goals go_wp2_with fail
    all_goals refine (c2 _).mono ?_
    all_goals rintro e w' ⟨rfl, rfl⟩
    all_goals clear c1 c2
    all_goals go_wp2
    all_goals go_ret2
    all_goals exact ⟨rfl, rfl⟩
  | false =>
    rw [hf] at c2
    clear hf
    generalize (s[k] == 47) = b1 at *
    generalize (s[k] == 61) = b2 at *
    generalize (s[k] == 38) = b3 at *
    cases asks
    · simp only [Bool.false_or, Bool.not_false, Bool.and_true, Bool.false_and, Bool.or_false]
      clear e2 e3
      cases b1
      all_goals simp only [if_true, Bool.false_eq_true, if_false]
      all_goals go_enter Tryz.func150, Tryz.ntmps150
      all_goals go_wp2_with fail
      all_goals refine (c1 _).mono ?_
      all_goals rintro e w' ⟨rfl, rfl⟩
      all_goals go_wp2_with fail
      all_goals refine (c2 _).mono ?_
      all_goals rintro e w' ⟨rfl, rfl⟩
      all_goals clear c1 c2
      all_goals go_wp2
      all_goals go_ret2
      all_goals exact ⟨rfl, rfl⟩
    · simp only [Bool.false_or, Bool.not_true, Bool.and_false, Bool.true_and]
      cases b1
      all_goals cases b2
      all_goals cases b3
      all_goals simp only [Bool.or_true, Bool.or_false, if_true, Bool.false_eq_true, if_false]
      all_goals go_enter Tryz.func150, Tryz.ntmps150
      all_goals go_wp2_with fail
      all_goals refine (c1 _).mono ?_
      all_goals rintro e w' ⟨rfl, rfl⟩
      all_goals go_wp2_with fail
      all_goals refine (c2 _).mono ?_
      all_goals rintro e w' ⟨rfl, rfl⟩
      all_goals clear c1 c2
      all_goals go_wp2
      all_goals go_ret2
      all_goals exact ⟨rfl, rfl⟩
end Go.Proofs.YtbhnjnoblkfckabGreatDoor

-- from XSCanon
/- Places: the model's plainest form, whole. -/
namespace Go.Proofs.YtbhnjnoblkfckabGreatDoor
open Go.RowKit

theorem putC_len (n : Nat) : (putC n).length ≤ 3 ∧ 0 < (putC n).length := by unfold putC; split <;> simp [upperL]
theorem plainL_len {asks : Bool} {l r : List UInt8} (h : plainL asks l = some r) : r.length ≤ l.length := by
  induction hl : l.length using Nat.strongRecOn generalizing l r with
  | _ n ih =>
    subst hl
    match l with
    | [] => rw [plainL_nil] at h; obtain rfl := Option.some.inj h; simp
    | c :: l =>
      cases hc : codeL (c :: l) with
      | none =>
        rw [plainL_lit hc] at h
        split at h
        · obtain ⟨m, hm, rfl⟩ := Option.map_eq_some_iff.1 h
          have := ih l.length (by simp) hm rfl; simp; omega
        · cases h
      | some k =>
        have h3 : 3 ≤ (c :: l).length := by
          rcases Nat.lt_or_ge (c :: l).length 3 with h | h
          · rw [codeL_short h] at hc; cases hc
          · exact h
        rw [plainL_code hc] at h
        split at h
        · cases h
        · obtain ⟨m, hm, rfl⟩ := Option.map_eq_some_iff.1 h
          have := ih (l.drop 2).length (by simp; omega) hm rfl
          have := (putC_len k).1
          simp at *; omega

set_option maxHeartbeats 1600000 in
theorem l2_plain (s : ByteArray) (asks : Bool) (w : World) (hs : s.size ≤ 1048576) :
    Calls Tryz.prog 113 #[.string s, .bool asks] w fun e w' => e = .returned (strV ((plainL asks s.data.toList).getD [])) ∧ Below w.heap.size w w' := by
  obtain ⟨R, hR⟩ : ∃ R, R = plainL asks s.data.toList := ⟨_, rfl⟩
  rw [← hR]
  have HT := Lib.hid hR
  have hR0 := Lib.hid (show R = (plainL asks (s.data.toList.drop 0)).map (([] : List UInt8) ++ ·) by rw [hR]; simp)
  clear hR
  go_enter Tryz.func113, Tryz.ntmps113
  go_wp2_with fail
  go_loopw [5, 6] (fun out i wr => ∃ (k : Nat) (acc : List UInt8), k ≤ s.size ∧ i = .int .i64 k ∧ out = .string ⟨acc.toArray⟩ ∧ acc.length ≤ k ∧ Hid (R = (plainL asks (s.data.toList.drop k)).map (acc ++ ·)) ∧ Below w.heap.size w wr) (fun _ i _ => s.size - (intOf i).toNat)
  case atStart => exact ⟨0, [], Nat.zero_le _, rfl, rfl, Nat.zero_le _, hR0, Below.refl _ _⟩
  case round =>
    clear hR0
    obtain ⟨k, acc, hk, rfl, rfl, hacc, HR, hbel⟩ := hrel
    have hsz : (ByteArray.mk acc.toArray).size ≤ 1048576 := by rw [size_len]; simp; omega
    by_cases hlt : k < s.size
    · have hdr := drop_at s k hlt
      cases hc : codeL (s.data.toList.drop k) with
      | none =>
        have c1 := fun W => step_lit s k asks hlt W hs hc
        rw [hdr] at HR hc
        rw [plainL_lit hc] at HR
        clear hc hdr
        cases ho : okLit asks s[k] with
        | true =>
          rw [ho] at HR c1
          simp only [if_true] at HR c1
          have hx : (ByteArray.mk acc.toArray) ++ ⟨#[s[k]]⟩ = ⟨(acc ++ [s[k]]).toArray⟩ := cat_mk acc [s[k]]
          have hsz1 : (ByteArray.mk #[s[k]]).size = 1 := rfl
          clear ho
          go_wp2_with fail
          refine (c1 _).mono ?_
          rintro e w' ⟨rfl, rfl⟩
          clear c1
          go_wp2
          go_roundw
          case rel => exact ⟨k + 1, acc ++ [s[k]], by omega, by go_num, by first | rfl | exact congrArg Value.string hx, by simp; omega, Lib.hid (by rw [HR.out, Option.map_map]; congr 1; funext m; simp), hbel⟩
          case measure => simp [intOf]; omega
        | false =>
          rw [ho] at HR c1
          simp only [Bool.false_eq_true, if_false] at HR c1
          clear ho
          go_wp2_with fail
          refine (c1 _).mono ?_
          rintro e w' ⟨rfl, rfl⟩
          clear c1
          go_wp2
          go_ret
          refine ⟨?_, hbel⟩
          rw [HR.out]; rfl
      | some n =>
        have h3 : k + 3 ≤ s.size := by
          rcases Nat.lt_or_ge (s.data.toList.drop k).length 3 with h | h
          · rw [codeL_short h] at hc; cases hc
          · rw [List.length_drop] at h; rw [size_len]; omega
        cases hd : doubtB n with
        | true =>
          have c1 := fun W => step_doubt s k n asks hlt W hs hc hd
          rw [hdr] at HR hc
          rw [plainL_code hc, hd] at HR
          clear hc hdr hd
          go_wp2_with fail
          refine (c1 _).mono ?_
          rintro e w' ⟨rfl, rfl⟩
          clear c1
          go_wp2
          go_ret
          refine ⟨?_, hbel⟩
          rw [HR.out]; rfl
        | false =>
          have c1 := fun W => step_code s k n asks hlt W hs hc hd
          rw [hdr] at HR hc
          rw [plainL_code hc, hd, List.drop_drop] at HR
          simp only [Bool.false_eq_true, if_false] at HR
          clear hc hdr hd
          have hx : (ByteArray.mk acc.toArray) ++ ⟨(putC n).toArray⟩ = ⟨(acc ++ putC n).toArray⟩ := cat_mk acc (putC n)
          have hl := (putC_len n).1
          have hsz1 : (ByteArray.mk (putC n).toArray).size ≤ 3 := by rw [size_len]; simpa using hl
          generalize putC n = u at *
          go_wp2_with fail
          refine (c1 _).mono ?_
          rintro e w1 ⟨rfl, hb1⟩
          clear c1
          go_wp2
          go_roundw
          case rel => exact ⟨k + 3, acc ++ u, by omega, by go_num, by first | rfl | exact congrArg Value.string hx, by simp; omega, Lib.hid (by rw [HR.out, Option.map_map]; congr 1; funext m; simp), hbel.trans (hb1.mono hbel.size)⟩
          case measure => simp [intOf]; omega
    · go_wp2
      go_ret
      refine ⟨?_, hbel⟩
      rw [HR.out, drop_end s k (by omega), plainL_nil]
      simp
end Go.Proofs.YtbhnjnoblkfckabGreatDoor

-- from XUnder
/- Places: what lies under a path. -/
namespace Go.Proofs.YtbhnjnoblkfckabGreatDoor
open Go.RowKit

def endsSl (l : List UInt8) : Bool := l.getLast? == some 47
def inTop (top : List UInt8) : List UInt8 := if endsSl top = true then top else top ++ [47]
def preB (h l : List UInt8) : Bool := h.isPrefixOf l
def underB (top l : List UInt8) : Bool := (pathL l == top) || preB (inTop top) (pathL l)

theorem preB_ext (s h : ByteArray) : preB h.data.toList s.data.toList = ((s.extract 0 h.size).toList == h.toList) := by
  unfold preB
  rw [Bool.eq_iff_iff, List.isPrefixOf_iff_prefix, beq_iff_eq, List.prefix_iff_eq_take, ext_take, Lib.toList_data, Lib.toList_data, ← size_len]
  exact ⟨fun e => e.symm, fun e => e.symm⟩
theorem preB_long (s h : ByteArray) (hl : s.size < h.size) : preB h.data.toList s.data.toList = false := by
  cases hb : preB h.data.toList s.data.toList with
  | false => rfl
  | true =>
    unfold preB at hb
    rw [List.isPrefixOf_iff_prefix] at hb
    have := hb.length_le
    rw [size_len, size_len] at hl
    omega

theorem endsSl_at (s : ByteArray) (h : 1 ≤ s.size) : endsSl s.data.toList = (s[s.size - 1] == 47) := by
  unfold endsSl
  have e := at_get s (s.size - 1) (by omega)
  rw [List.getLast?_eq_getElem?, ← size_len, e]; rfl
theorem endsSl_ext (s : ByteArray) (h : 1 ≤ s.size) : endsSl s.data.toList = ((s.extract (s.size - 1) s.size).toList == [47]) := by
  rw [endsSl_at s h, ext_drop, Lib.toList_data]
  simp only
  rw [drop_at s (s.size - 1) (by omega), drop_end s _ (by omega)]
  simp
theorem endsSl_nil (s : ByteArray) (h : s.size = 0) : endsSl s.data.toList = false := by
  rw [size_len] at h
  rw [List.eq_nil_of_length_eq_zero h]; rfl

theorem size_sl (a : ByteArray) : (a ++ ⟨#[47]⟩ : ByteArray).size = a.size + 1 := by rw [ByteArray.size_append]; rfl
theorem inTop_yes {s : ByteArray} (h : endsSl s.data.toList = true) : inTop s.data.toList = s.data.toList := by unfold inTop; rw [if_pos h]
theorem inTop_no {s : ByteArray} (h : endsSl s.data.toList = false) : inTop s.data.toList = (s ++ ⟨#[47]⟩ : ByteArray).data.toList := by unfold inTop; rw [h]; simp
theorem pathL_len (l : List UInt8) : (pathL l).length ≤ l.length := (cutL_len l 63).1

namespace Lw
end Lw
end Go.Proofs.YtbhnjnoblkfckabGreatDoor

-- from XCanP
/- Places: what holds of the plainest form, of what is meant, and of paths; on lists of bytes. -/
namespace Go.Proofs.YtbhnjnoblkfckabGreatDoor
open Go.RowKit

theorem hexV_hexU (k : Nat) (hk : k < 16) : hexV (hexU k) = some k := by
  have h : ∀ k : Fin 16, hexV (hexU k.val) = some k.val := by decide
  exact h ⟨k, hk⟩
theorem freeB_ne37 {c : UInt8} (h : freeB c = true) : c ≠ 37 := by rintro rfl; revert h; decide
theorem okLit_ne37 {asks : Bool} {c : UInt8} (h : okLit asks c = true) : c ≠ 37 := by rintro rfl; rw [okLit_37] at h; cases h
theorem okLit_free {asks : Bool} {c : UInt8} (h : freeB c = true) : okLit asks c = true := by unfold okLit; rw [h]; simp
theorem okLit_ne63 {asks : Bool} {c : UInt8} (h : okLit asks c = true) : c ≠ 63 := by rintro rfl; revert h; cases asks <;> decide

/-- A byte as it stands in the plainest form. -/
def encB (b : UInt8) : List UInt8 := if (freeB b || b == 47 || b == 61 || b == 38 || b == 63) = true then [b] else upperL b.toNat
theorem encB_lit {asks : Bool} {c : UInt8} (h : okLit asks c = true) : encB c = [c] := by
  unfold encB
  rw [if_pos]
  unfold okLit at h
  cases hf : freeB c with
  | true => rfl
  | false =>
    rw [hf] at h
    simp only [Bool.false_or] at h ⊢
    cases asks
    · simp_all
    · simp at h ⊢
      rcases h with h | h <;> simp [h]
theorem encB_63 : encB 63 = [63] := by decide
theorem encB_code {n : Nat} (hn : n < 256) (hd : doubtB n = false) : encB (UInt8.ofNat n) = putC n := by
  have h : ∀ n : Fin 256, doubtB n.val = false → encB (UInt8.ofNat n.val) = putC n.val := by decide +kernel
  exact h ⟨n, hn⟩ hd
theorem encB_means (b : UInt8) (l : List UInt8) : meansL (encB b ++ l) = b :: meansL l := by
  unfold encB
  split
  · rename_i h
    have hne : b ≠ 37 := by rintro rfl; revert h; decide
    rw [List.singleton_append, meansL_none (codeL_ne hne)]
  · have hb := b.toNat_lt
    have h1 := hexV_hexU (b.toNat / 16) (by omega)
    have h2 := hexV_hexU (b.toNat % 16) (by omega)
    have hc : codeL (upperL b.toNat ++ l) = some (b.toNat / 16 * 16 + b.toNat % 16) := codeL_37_some h1 h2
    have e : b.toNat / 16 * 16 + b.toNat % 16 = b.toNat := by omega
    rw [e] at hc
    unfold upperL at hc ⊢
    rw [List.cons_append] at hc ⊢
    rw [meansL_some hc]
    simp
theorem means_enc (m : List UInt8) : meansL (m.flatMap encB) = m := by
  induction m with
  | nil => rw [List.flatMap_nil, meansL_nil]
  | cons b m ih => rw [List.flatMap_cons, encB_means, ih]

theorem plain_ind {asks : Bool} {M : List UInt8 → List UInt8 → Prop} (h0 : M [] []) (h1 : ∀ c l r, okLit asks c = true → codeL (c :: l) = none → plainL asks l = some r → M l r → M (c :: l) (c :: r))
    (h2 : ∀ c l r n, codeL (c :: l) = some n → doubtB n = false → plainL asks (l.drop 2) = some r → M (l.drop 2) r → M (c :: l) (putC n ++ r)) : ∀ {l r : List UInt8}, plainL asks l = some r → M l r := by
  intro l r h
  induction hl : l.length using Nat.strongRecOn generalizing l r with
  | _ n ih =>
    subst hl
    match l with
    | [] => rw [plainL_nil] at h; obtain rfl := Option.some.inj h; exact h0
    | c :: l =>
      cases hc : codeL (c :: l) with
      | none =>
        rw [plainL_lit hc] at h
        split at h
        · rename_i ho
          obtain ⟨m, hm, rfl⟩ := Option.map_eq_some_iff.1 h
          exact h1 c l m ho hc hm (ih l.length (by simp) hm rfl)
        · cases h
      | some k =>
        rw [plainL_code hc] at h
        split at h
        · cases h
        · rename_i hd
          obtain ⟨m, hm, rfl⟩ := Option.map_eq_some_iff.1 h
          exact h2 c l m k hc (by simpa using hd) hm (ih (l.drop 2).length (by simp; omega) hm rfl)

theorem plain_enc {asks : Bool} {l r : List UInt8} (h : plainL asks l = some r) : r = (meansL l).flatMap encB := by
  refine plain_ind (M := fun l r => r = (meansL l).flatMap encB) ?_ ?_ ?_ h
  · rw [meansL_nil]; rfl
  · intro c l r ho hc _ ih
    rw [meansL_none hc, List.flatMap_cons, encB_lit ho, ← ih]; rfl
  · intro c l r n hc hd _ ih
    rw [meansL_some hc, List.flatMap_cons, encB_code (codeL_lt hc) hd, ← ih]
theorem putC_no63 {n : Nat} (hn : n < 256) (hd : doubtB n = false) : 63 ∉ putC n := by
  have h : ∀ n : Fin 256, doubtB n.val = false → 63 ∉ putC n.val := by decide +kernel
  exact h ⟨n, hn⟩ hd
theorem plain_no63 {asks : Bool} {l r : List UInt8} (h : plainL asks l = some r) : 63 ∉ r := by
  refine plain_ind (M := fun _ r => 63 ∉ r) (by simp) ?_ ?_ h
  · intro c l r ho _ _ ih
    simp only [List.mem_cons, not_or]
    exact ⟨fun e => okLit_ne63 ho e.symm, ih⟩
  · intro c l r n hc hd _ ih
    simp only [List.mem_append, not_or]
    exact ⟨putC_no63 (codeL_lt hc) hd, ih⟩
theorem plain_idem {asks : Bool} {l r : List UInt8} (h : plainL asks l = some r) : plainL asks r = some r := by
  refine plain_ind (M := fun _ r => plainL asks r = some r) (plainL_nil asks) ?_ ?_ h
  · intro c l r ho _ _ ih
    rw [plainL_lit (codeL_ne (okLit_ne37 ho)), if_pos ho, ih]; rfl
  · intro c l r n hc hd _ ih
    have hn := codeL_lt hc
    unfold putC
    split
    · rename_i hf
      rw [List.singleton_append, plainL_lit (codeL_ne (freeB_ne37 hf)), if_pos (okLit_free hf), ih]; rfl
    · rename_i hf
      have h1 := hexV_hexU (n / 16) (by omega)
      have h2 := hexV_hexU (n % 16) (by omega)
      have hcc : codeL (upperL n ++ r) = some (n / 16 * 16 + n % 16) := codeL_37_some h1 h2
      have e : n / 16 * 16 + n % 16 = n := by omega
      rw [e] at hcc
      have hp : putC n = upperL n := if_neg hf
      have hu : upperL n ++ r = 37 :: ([hexU (n / 16), hexU (n % 16)] ++ r) := rfl
      rw [hu] at hcc ⊢
      rw [plainL_code hcc, hd, hp]
      have hdr : List.drop 2 ([hexU (n / 16), hexU (n % 16)] ++ r) = r := rfl
      rw [hdr, ih]; rfl

/-- What it is to have a plainest form. -/
theorem canon_iff {l c : List UInt8} (h : canonL l = some c) : l.length ≤ 40 ∧ ∃ l' o, l = 47 :: l' ∧ plainL false (cutL l' 63).1 = some o ∧ segsOk (partsL o 47) = true ∧
    (((cutL l' 63).2.2 = false ∧ c = 47 :: o) ∨ ((cutL l' 63).2.2 = true ∧ ∃ m, plainL true (cutL l' 63).2.1 = some m ∧ c = 47 :: (o ++ 63 :: m))) := by
  unfold canonL at h
  split at h
  · cases h
  · rename_i hl
    refine ⟨by omega, ?_⟩
    match l, h with
    | d :: l', h =>
      unfold rootR at h
      simp only at h
      split at h
      · rename_i hd
        subst hd
        unfold resP at h
        split at h
        · cases h
        · rename_i o ho
          refine ⟨l', o, rfl, ho, ?_⟩
          have e1 : List.drop 1 [(47 : UInt8)] = [] := rfl
          rw [e1, List.nil_append] at h
          split at h
          · rename_i hs
            refine ⟨hs, ?_⟩
            split at h
            · rename_i ha
              obtain ⟨m, hm, rfl⟩ := Option.map_eq_some_iff.1 h
              exact .inr ⟨ha, m, hm, by simp⟩
            · rename_i ha
              have := Option.some.inj h
              exact .inl ⟨by simpa using ha, by rw [← this]; rfl⟩
          · cases h
      · cases h
theorem canon_mk {o : List UInt8} (h1 : 63 ∉ o) (h2 : plainL false o = some o) (h3 : segsOk (partsL o 47) = true) (h4 : (47 :: o).length ≤ 40) : canonL (47 :: o) = some (47 :: o) := by
  unfold canonL
  rw [if_neg (by simp at h4 ⊢; omega)]
  show (if (47 : UInt8) = 47 then resP [47] 1 o else none) = _
  rw [if_pos rfl]
  unfold resP
  rw [cutL_no _ _ h1]
  simp only [h2]
  have e1 : List.drop 1 [(47 : UInt8)] = [] := rfl
  rw [e1, List.nil_append, if_pos h3]; rfl
theorem canon_mk2 {o m : List UInt8} (h1 : 63 ∉ o) (h2 : plainL false o = some o) (h3 : segsOk (partsL o 47) = true) (hm : plainL true m = some m) (h4 : (47 :: (o ++ 63 :: m)).length ≤ 40) : canonL (47 :: (o ++ 63 :: m)) = some (47 :: (o ++ 63 :: m)) := by
  unfold canonL
  rw [if_neg (by simp at h4 ⊢; omega)]
  show (if (47 : UInt8) = 47 then resP [47] 1 (o ++ 63 :: m) else none) = _
  rw [if_pos rfl]
  unfold resP
  rw [cutL_yes _ _ _ h1]
  simp only [h2]
  have e1 : List.drop 1 [(47 : UInt8)] = [] := rfl
  rw [e1, List.nil_append, if_pos h3, hm]; rfl

theorem cutL_join {l : List UInt8} (h : (cutL l 63).2.2 = true) : l = (cutL l 63).1 ++ 63 :: (cutL l 63).2.1 := by
  induction l with
  | nil => cases h
  | cons b l ih =>
    by_cases hb : b = 63
    · subst hb; rw [cutL_hit]; rfl
    · rw [cutL_cons hb] at h ⊢
      simp only at h ⊢
      rw [List.cons_append, ← ih h]
theorem cutL_whole {l : List UInt8} (h : (cutL l 63).2.2 = false) : (cutL l 63).1 = l := by
  induction l with
  | nil => rfl
  | cons b l ih =>
    by_cases hb : b = 63
    · subst hb; rw [cutL_hit] at h; cases h
    · rw [cutL_cons hb] at h ⊢
      simp only at h ⊢
      rw [ih h]
theorem cutL_no63 (l : List UInt8) : 63 ∉ (cutL l 63).1 := by
  induction l with
  | nil => simp [cutL]
  | cons b l ih =>
    by_cases hb : b = 63
    · subst hb; rw [cutL_hit]; simp
    · rw [cutL_cons hb]
      simp only [List.mem_cons, not_or]
      exact ⟨fun e => hb e.symm, ih⟩
theorem pathL_idem (l : List UInt8) : pathL (pathL l) = pathL l := by
  unfold pathL; rw [cutL_no _ _ (cutL_no63 l)]

theorem codeL_app63 (c : UInt8) (p q : List UInt8) : codeL (c :: (p ++ 63 :: q)) = codeL (c :: p) := by
  by_cases hc : c = 37
  · subst hc
    match p with
    | [] => rw [List.nil_append, codeL_37_none (by decide)]; rfl
    | [a] => rw [List.singleton_append, codeL_37_none2 (by decide)]; rfl
    | a :: b :: p => rfl
  · rw [codeL_ne hc, codeL_ne hc]
theorem means_app63 (p q : List UInt8) : meansL (p ++ 63 :: q) = meansL p ++ 63 :: meansL q := by
  induction hl : p.length using Nat.strongRecOn generalizing p with
  | _ n ih =>
    subst hl
    match p with
    | [] => rw [List.nil_append, meansL_none (codeL_ne (by decide)), meansL_nil]; rfl
    | c :: p =>
      rw [List.cons_append]
      cases hc : codeL (c :: p) with
      | none => rw [meansL_none (by rw [codeL_app63]; exact hc), meansL_none hc, ih p.length (by simp) p rfl]; rfl
      | some n =>
        have h3 : 2 ≤ p.length := by
          rcases Nat.lt_or_ge (c :: p).length 3 with h | h
          · rw [codeL_short h] at hc; cases hc
          · simpa using h
        rw [meansL_some (by rw [codeL_app63]; exact hc), meansL_some hc, List.drop_append_of_le_length h3, ih (p.drop 2).length (by simp; omega) _ rfl]; rfl

theorem canon_enc {l c : List UInt8} (h : canonL l = some c) : c = (meansL l).flatMap encB := by
  obtain ⟨_, l', o, rfl, h1, _, h3⟩ := canon_iff h
  have e := plain_enc h1
  have e47 : encB 47 = [47] := by decide
  rw [meansL_none (codeL_ne (by decide)), List.flatMap_cons, e47]
  rcases h3 with ⟨ha, rfl⟩ | ⟨ha, m, hm, rfl⟩
  · rw [cutL_whole ha] at e
    rw [← e]; rfl
  · have em := plain_enc hm
    conv => rhs; rw [cutL_join ha]
    rw [means_app63, List.flatMap_append, List.flatMap_cons, encB_63, ← e, ← em]; rfl
theorem canon_means {l c : List UInt8} (h : canonL l = some c) : meansL c = meansL l := by
  rw [canon_enc h, means_enc]
theorem canon_same {l l2 c c2 : List UInt8} (h : canonL l = some c) (h2 : canonL l2 = some c2) : (meansL l == meansL l2) = (c == c2) := by
  rw [Bool.eq_iff_iff, beq_iff_eq, beq_iff_eq]
  constructor
  · intro e; rw [canon_enc h, canon_enc h2, e]
  · intro e; rw [← canon_means h, ← canon_means h2, e]

/-- What the plainest form is like. -/
theorem canon_form {l c : List UInt8} (h : canonL l = some c) : c.length ≤ l.length ∧ c.length ≤ 40 ∧ canonL c = some c ∧ ∃ o, pathL c = 47 :: o ∧ 63 ∉ (47 :: o : List UInt8) ∧ segsOk (partsL o 47) = true ∧ plainL false o = some o ∧ canonL (47 :: o) = some (47 :: o) ∧
    ((47 :: o : List UInt8).length = 40 ∨ canonL (47 :: o ++ [63]) = some (47 :: o ++ [63])) := by
  obtain ⟨hl, l', o, rfl, h1, hs, h3⟩ := canon_iff h
  have n63 := plain_no63 h1
  have hid := plain_idem h1
  have hol := plainL_len h1
  have n63' : 63 ∉ (47 :: o : List UInt8) := by simp only [List.mem_cons, not_or]; exact ⟨by decide, n63⟩
  have hcl := cutL_len l' 63
  have hle : (47 :: o : List UInt8).length ≤ 40 := by simp at hl ⊢; omega
  have hq : (47 :: o : List UInt8).length = 40 ∨ canonL (47 :: o ++ [63]) = some (47 :: o ++ [63]) := by
    rcases Nat.lt_or_ge (47 :: o : List UInt8).length 40 with h | h
    · exact .inr (canon_mk2 n63 hid hs (plainL_nil true) (by simp at h ⊢; omega))
    · exact .inl (by omega)
  rcases h3 with ⟨ha, rfl⟩ | ⟨ha, m, hm, rfl⟩
  · refine ⟨by simp; omega, hle, canon_mk n63 hid hs hle, o, ?_, n63', hs, hid, canon_mk n63 hid hs hle, hq⟩
    unfold pathL; rw [cutL_no _ _ n63']
  · have hml := plainL_len hm
    have hj := congrArg List.length (cutL_join ha)
    have hlen : (47 :: (o ++ 63 :: m) : List UInt8).length ≤ (47 :: l' : List UInt8).length := by
      simp at hj ⊢; omega
    refine ⟨hlen, by omega, canon_mk2 n63 hid hs (plain_idem hm) (by omega), o, ?_, n63', hs, hid, canon_mk n63 hid hs hle, hq⟩
    unfold pathL
    rw [← List.cons_append, cutL_yes _ _ _ n63']

theorem under_self (s : List UInt8) : underB (pathL s) s = true := by unfold underB; simp
theorem under_path (t s : List UInt8) : underB t (pathL s) = underB t s := by unfold underB; rw [pathL_idem]
theorem pre_iff {h l : List UInt8} : preB h l = true ↔ h <+: l := by unfold preB; exact List.isPrefixOf_iff_prefix
theorem inTop_pre (t : List UInt8) : t <+: inTop t := by
  unfold inTop; split
  · exact List.prefix_rfl
  · exact List.prefix_append _ _
theorem under_iff {t s : List UInt8} : underB t s = true ↔ pathL s = t ∨ inTop t <+: pathL s := by
  unfold underB; rw [Bool.or_eq_true, beq_iff_eq, pre_iff]
theorem under_trans {t m l : List UInt8} (h1 : underB t m = true) (h2 : underB (pathL m) l = true) : underB t l = true := by
  rw [under_iff] at h1 h2 ⊢
  rcases h1 with h1 | h1
  · rw [h1] at h2; exact h2
  · rcases h2 with h2 | h2
    · rw [h2]; exact .inr h1
    · exact .inr ((h1.trans (inTop_pre _)).trans h2)
theorem under_least {l c : List UInt8} (h : canonL l = some c) : underB [47] c = true := by
  obtain ⟨_, _, _, o, hp, _⟩ := canon_form h
  rw [under_iff, hp]
  exact .inr ⟨o, rfl⟩
end Go.Proofs.YtbhnjnoblkfckabGreatDoor

