/- Fields: the values of a name, by the program and by the specification. -/
import Derived.Test.YtncegikmpapldaaGreatDoorFld
namespace Go.Proofs.YtncegikmpapldaaGreatDoor
open Go.RowKit Go.Maps

theorem Tryz.infoStr : (Tryz.prog.info? 9).map (fun i => (i.zero, i.size, i.bytes)) = some (some (.string ⟨#[]⟩), 1, 16) := by kernel_rfl

set_option maxHeartbeats 400000 in
theorem fresh_v (s : ByteArray) (w : World) (hs : s.size ≤ 281474976710656) :
    Calls Tryz.prog 51 #[.string s] w fun e w' => e = .returned (.string s) ∧ Below w.heap.size w w' := by
  go_enter Tryz.func51, Tryz.ntmps51
  go_wp2_with (first | (go_at_call 133; refine (Tryz.stringslite_Clone _ _ hs).mono ?_; rintro e w' ⟨rfl, hb⟩) | go_in)
  go_ret
  exact ⟨rfl, hb⟩

def sV (s : ByteArray) : Value := .string s

theorem own_low {w : World} {B B' : Nat} {e : TypeId} {size : Nat} {v : Value} {n : Nat} {xs : List Value} (h : w.ownsRow B e size v n xs) (hB : B' ≤ B) : w.ownsRow B' e size v n xs := by
  refine ⟨h.1, ?_⟩
  rcases h.2 with h | ⟨g, cap, cur, h, hb, rest⟩
  · exact .inl h
  · exact .inr ⟨g, cap, cur, h, Nat.le_trans hB hb, rest⟩

theorem str_ne {a b : ByteArray} (h : a ≠ b) : (a.toList == b.toList) = false := by
  rw [Lib.toList_data, Lib.toList_data]
  simpa using fun e => h (str_inj e)
theorem str_same (a : ByteArray) : (a.toList == a.toList) = true := by simp

theorem valAt_of {fs : List Fd} {j : Nat} {f : Fd} (h : fs[j]? = some f) : valAt fs (j : Int) = f.2 := by simp [valAt, h]

set_option maxHeartbeats 800000 in
theorem values_of (v : Value) (fs : List Fd) (s : ByteArray) (base b : Nat) (D : DataW Unit) (w : World) (hF : FRow w v fs) (hok : FOk fs 281474976710656) (hg : w.ownsGroups Tryz.prog 9 base 3 .i64 b fs.length D) (hD : Holds D fs fs.length) (hn : fs.length ≤ 2000000) (hs : s.size ≤ maxLen) :
    Calls Tryz.prog 118 #[.agg #[v, .map (some b)], .string s] w fun e w' => ∃ u, e = .returned u ∧ w'.ownsRow w.heap.size 9 1 u (allTo fs s fs.length).length ((allTo fs s fs.length).map sV) ∧ Below w.heap.size w w' := by
  obtain ⟨i0, hi, hz0, hz1, hz2⟩ := info_parts Tryz.infoStr
  obtain ⟨a, c, rfl, h1, h2, h3⟩ := hF
  unfold maxLen at h2
  obtain ⟨u, zs, hlook, hat, hoi, hzl, _⟩ := groups_at hg law9 Tryz.underlying137 zeroInts (by unfold maxLen; omega) (Go.WideMaps.keyOf_string_mk Tryz.underlying9 hs)
  have hblt : b < w.heap.size := by
    obtain ⟨es, clock, hb0, _⟩ := hg
    exact (Array.getElem?_eq_some_iff.1 hb0).1
  rw [hD.2 s] at hat
  have hzs := rowD_inv hoi hat
  have hlt := idx_lt fs s fs.length
  rw [← idx_vals, ← hzs, List.length_map, List.map_map]
  rw [← hzs] at hlt
  have lk1 : ∀ o, (Instr.lookup 137 (.map (some b)) (.string s) false).run Tryz.prog (w.alloc o) = .ok u (w.alloc o) := fun o => hlook _ (Below.heap_alloc w o _ hblt)
  have hu : u = .slice none 0 0 ∧ zs = [] ∨ ∃ g cap, u = .slice (some ⟨g, 0, none⟩) zs.length cap := by
    rcases hoi.1.2 with ⟨e1, e2⟩ | ⟨g, cap, _, e1, _⟩
    · exact .inl ⟨e1, List.eq_nil_of_length_eq_zero e2⟩
    · exact .inr ⟨g, cap, e1⟩
  obtain ⟨ua, ucap, hue⟩ : ∃ ua ucap, u = .slice ua zs.length ucap := by
    rcases hu with ⟨e1, e2⟩ | ⟨g, cap, e1⟩
    · exact ⟨none, 0, by rw [e1, e2]; rfl⟩
    · exact ⟨_, _, e1⟩
  have hcell : ∀ k, k < zs.length → ∃ g, ua = some ⟨g, 0, none⟩ ∧ g < w.heap.size ∧ ∃ j : Nat, ∃ f, zs[k]? = some (j : Int) ∧ fs[j]? = some f ∧ w.cell? ⟨g, k, none⟩ = some (.int .i64 (j : Int)) := fun k hk => by
    rcases hu with ⟨_, e2⟩ | ⟨g, cap, e1⟩
    · rw [e2] at hk; simp at hk
    · rw [hue] at e1
      injection e1 with e1 _ _
      have hg1 : g < w.heap.size := (hoi.1.lt g (by rw [hue, e1]; rfl)).2
      have hm := hlt zs[k] (List.getElem_mem _)
      obtain ⟨j, hj⟩ := Int.eq_ofNat_of_zero_le hm.1
      have hjl : j < fs.length := by omega
      refine ⟨g, e1, hg1, j, fs[j], by rw [List.getElem?_eq_getElem hk, hj], List.getElem?_eq_getElem hjl, ?_⟩
      have hc := hoi.1.cells (g := g) (by rw [hue, e1]; rfl) k (.int .i64 zs[k]) (by simp [List.getElem?_eq_getElem hk])
      have hadd : (⟨g, 0, none⟩ : Addr).add k = ⟨g, k, none⟩ := by unfold Addr.add; split <;> simp_all
      rw [hadd, hj] at hc
      exact hc
  subst hue
  have H3 := Lib.hid h3; have HC := Lib.hid hcell; have HOK := Lib.hid hok
  have hz2k : zs.length ≤ 2000000 := by omega
  clear h3 hcell hlt hu hoi hat hD hg hlook hok hzs hzl
  go_enter Tryz.func118, Tryz.ntmps118
  go_wp2
  go_loopw [5, 13] (fun x i wr => ∃ k : Nat, k ≤ zs.length ∧ i = .int .i64 k ∧ wr.ownsRow (w.heap.size + 1) 9 1 x k ((zs.take k).map (sV ∘ valAt fs)) ∧ Below (w.heap.size + 1) (w.alloc (.cells #[.slice a fs.length c, .map (some b)] 139)) wr) (fun _ i _ => zs.length - (intOf i).toNat)
  case atStart => exact ⟨0, Nat.zero_le _, rfl, World.ownsRow_nil _ _ _ _, Below.refl _ _⟩
  case round =>
    obtain ⟨k, hk, rfl, hown, hnx⟩ := hrel
    by_cases hlt : k < zs.length
    · obtain ⟨g, rfl, hglt, j, f, hzk, hfj, c0⟩ := HC.out k hlt
      obtain ⟨b1, o1, rfl, hb1, c1, c2⟩ := H3.out j f hfj
      have hW : Below w.heap.size w (w.alloc (.cells #[.slice (some ⟨b1, o1, none⟩) fs.length c, .map (some b)] 139)) := (Below.refl _ _).alloc (Nat.le_refl _) _
      have hww : Below w.heap.size w wr := hW.trans (hnx.mono (Nat.le_succ _))
      have r0 := (hnx.block w.heap.size (Nat.lt_succ_self _)).trans (heap_alloc_new w _)
      have k0 : wr.cell? ⟨w.heap.size, 0, none⟩ = some (.slice (some ⟨b1, o1, none⟩) fs.length c) := by simp [World.cell?, r0]
      have k1 := (hww.cell (p := ⟨g, k, none⟩) hglt).trans c0
      have k2 := (hww.cell (p := ⟨b1, o1 + j * 2 + 1, none⟩) hb1).trans c2
      have hjl : j < fs.length := (List.getElem?_eq_some_iff.1 hfj).1
      have hfo := (HOK.out f (List.mem_of_getElem? hfj)).2
      have hv := valAt_of hfj
      have htk : (zs.take (k + 1)).map (sV ∘ valAt fs) = (zs.take k).map (sV ∘ valAt fs) ++ [.string f.2] := by
        rw [List.take_add_one, hzk, List.map_append]; simp [sV, hv]
      obtain ⟨fn, fv⟩ := f
      have HT := Lib.hid htk
      have HX := Lib.hid hnx
      clear c0 c1 c2 hW hww r0 hv htk hzk hfj
      go_wp2_with fail
      refine (fresh_v _ _ hfo).mono ?_
      rintro e w1 ⟨rfl, hb1⟩
      have hown1 := own_below hown hb1
      have hsz := HX.out.size
      simp at hsz
      have hbel1 := HX.out.trans (hb1.mono hsz)
      have hsz1 := hbel1.size
      simp at hsz1
      clear hown hnx
      go_wp2_with (at_builtin; go_must (refine wpList_append1 w1 rfl _ _ 46 rfl (w.heap.size + 1) 9 i0 _ 16 Tryz.underlying46 hi hz0 hz1 hz2 rfl _ _ _ (by rfl) hown1 _ rfl _ (by rfl) (by unfold maxLen; omega) (by omega) (by omega) ?_); intro v' w3 ho3 hb3 hlt3)
      go_roundw
      case rel => exact ⟨k + 1, by omega, by go_num, HT.out ▸ ho3, hbel1.trans hb3⟩
      case measure => simp [intOf]; omega
    · have hkn : k = zs.length := by omega
      subst hkn
      go_wp2
      go_ret
      rw [List.take_of_length_le (Nat.le_refl _)] at hown
      exact ⟨_, rfl, own_low hown (Nat.le_succ _), ((Below.refl _ _).alloc (Nat.le_refl _) _).trans (hnx.mono (Nat.le_succ _))⟩

set_option maxHeartbeats 400000 in
theorem impl_all (v : Value) (fs : List Fd) (s : ByteArray) (w : World) (hF : FRow w v fs) (hok : FOk fs 281474976710656) (hn : fs.length ≤ 2000000) (hs : s.size ≤ maxLen) :
    Calls Tryz.prog 70 #[v, .string s] w fun e w' => ∃ u, e = .returned u ∧ w'.ownsRow w.heap.size 9 1 u (allTo fs s fs.length).length ((allTo fs s fs.length).map sV) ∧ Below w.heap.size w w' := by
  have HF := Lib.hid hF
  obtain ⟨a, c, rfl, h1, h2, h3⟩ := hF
  clear h3
  go_enter Tryz.func70, Tryz.ntmps70
  go_wp2_with fail
  refine (fields_of _ fs _ HF.out (fun f hf => ?_) hn).mono ?_
  · have := hok f hf; unfold maxLen; omega
  rintro e w1 ⟨rfl, D, hg, hD, hb1⟩
  have hF1 := HF.out.below (Nat.le_refl _) hb1
  go_wp2_with fail
  refine (values_of _ fs _ _ _ D _ hF1 hok hg hD hn hs).mono ?_
  rintro e w2 ⟨u, rfl, ho, hb2⟩
  have hbel := hb1.trans (hb2.mono hb1.size)
  have ho2 := own_low ho hb1.size
  clear ho hF1
  go_wp2
  go_ret
  exact ⟨u, rfl, ho2, hbel⟩

set_option maxHeartbeats 800000 in
theorem spec_all (v : Value) (fs : List Fd) (s : ByteArray) (w : World) (hF : FRow w v fs) (hn : fs.length ≤ 2000000) :
    Calls Tryz.prog 134 #[v, .string s] w fun e w' => ∃ u, e = .returned u ∧ w'.ownsRow w.heap.size 9 1 u (allTo fs s fs.length).length ((allTo fs s fs.length).map sV) ∧ Below w.heap.size w w' := by
  obtain ⟨i0, hi, hz0, hz1, hz2⟩ := info_parts Tryz.infoStr
  obtain ⟨a, c, rfl, h1, h2, h3⟩ := hF
  unfold maxLen at h2
  have H3 := Lib.hid h3; clear h3
  go_enter Tryz.func134, Tryz.ntmps134
  go_wp2
  go_loopw [5, 6] (fun x i wr => ∃ k : Nat, k ≤ fs.length ∧ i = .int .i64 k ∧ wr.ownsRow w.heap.size 9 1 x (allTo fs s k).length ((allTo fs s k).map sV) ∧ Below w.heap.size w wr ∧ (allTo fs s k).length ≤ k) (fun _ i _ => fs.length - (intOf i).toNat)
  case atStart => exact ⟨0, Nat.zero_le _, rfl, World.ownsRow_made _ #[] 0 (Nat.le_refl _) (by decide) rfl, (Below.refl _ _).alloc (Nat.le_refl _) _, Nat.le_refl _⟩
  case round =>
    obtain ⟨k, hk, rfl, hown, hnx, hkl⟩ := hrel
    by_cases hlt : k < fs.length
    · obtain ⟨b1, o1, rfl, hb1, c1, c2⟩ := H3.out k fs[k] (List.getElem?_eq_getElem hlt)
      obtain ⟨f, hf⟩ : ∃ f, f = fs[k] := ⟨_, rfl⟩
      rw [← hf] at c1 c2
      have hfk : fs[k]? = some f := by rw [hf]; exact List.getElem?_eq_getElem hlt
      clear hf
      have hat := allTo_at s hfk
      obtain ⟨nm, vl⟩ := f
      have k1 := (hnx.cell (p := ⟨b1, o1 + k * 2, none⟩) hb1).trans c1
      have k2 := (hnx.cell (p := ⟨b1, o1 + k * 2 + 1, none⟩) hb1).trans c2
      clear c1 c2 hfk
      by_cases hs : nm = s
      · rw [if_pos hs] at hat
        have HT := Lib.hid hat; clear hat
        subst hs
        go_wp2_with (at_builtin; go_must (refine wpList_append1 wr rfl _ _ 46 rfl w.heap.size 9 i0 _ 16 Tryz.underlying46 hi hz0 hz1 hz2 rfl _ _ _ (by rfl) hown _ rfl _ (by rfl) (by unfold maxLen; omega) (by omega) hnx.size ?_); intro v' w3 ho3 hb3 hlt3)
        go_roundw
        case rel => refine ⟨k + 1, by omega, by go_num, ?_, hnx.trans hb3, ?_⟩ <;> rw [HT.out]
                    · simpa [sV] using ho3
                    · simp; omega
        case measure => simp [intOf]; omega
      · rw [if_neg hs] at hat
        have HT := Lib.hid hat; clear hat
        have hse := str_ne hs
        have HO := Lib.hid hown
        clear hown hs
        go_wp2
        go_roundw
        case rel => refine ⟨k + 1, by omega, by go_num, ?_, hnx, ?_⟩ <;> rw [HT.out]
                    · exact HO.out
                    · omega
        case measure => simp [intOf]; omega
    · have hkn : k = fs.length := by omega
      subst hkn
      go_wp2
      go_ret
      exact ⟨_, rfl, hown, hnx⟩
end Go.Proofs.YtncegikmpapldaaGreatDoor
