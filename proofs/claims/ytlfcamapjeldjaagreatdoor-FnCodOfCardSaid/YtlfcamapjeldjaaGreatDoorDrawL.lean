/- Walks: the drawing of lists of fields. -/
import Derived.Test.YtlfcamapjeldjaaGreatDoorDrawF
import Derived.Test.YtlfcamapjeldjaaGreatDoorFld
namespace Go.Proofs.YtlfcamapjeldjaaGreatDoor
open Go.RowKit

def fcells (fs : List Fd) : List Value := fs.flatMap fun f => [.string f.1, .string f.2]
theorem fcells_len (fs : List Fd) : (fcells fs).length = fs.length * 2 := by
  induction fs with
  | nil => rfl
  | cons f fs ih => simp only [fcells, List.flatMap_cons, List.length_append, List.length_cons, List.length_nil] at ih ⊢; omega
theorem fcells_app (fs : List Fd) (f : Fd) : fcells (fs ++ [f]) = fcells fs ++ [.string f.1, .string f.2] := by simp [fcells]
theorem fcells_at : ∀ {fs : List Fd} {j : Nat} {f : Fd}, fs[j]? = some f → (fcells fs)[j * 2]? = some (.string f.1) ∧ (fcells fs)[j * 2 + 1]? = some (.string f.2)
  | [], j, f, h => by simp at h
  | a :: fs, 0, f, h => by
    have : a = f := by simpa using h
    subst this
    simp [fcells]
  | a :: fs, j + 1, f, h => by
    have h' : fs[j]? = some f := by simpa using h
    have ih := fcells_at h'
    have e : fcells (a :: fs) = [.string a.1, .string a.2] ++ fcells fs := rfl
    rw [e, List.getElem?_append_right (by simp; omega), List.getElem?_append_right (by simp; omega)]
    simpa [show (j + 1) * 2 - 2 = j * 2 from by omega, show (j + 1) * 2 + 1 - 2 = j * 2 + 1 from by omega] using ih

/-- A list of fields, in no block of the reader's. -/
def FRowA (g : Nat) (w : World) (v : Value) (fs : List Fd) : Prop :=
  ∃ a c, v = .slice a fs.length c ∧ fs.length ≤ c ∧ c ≤ maxLen ∧ ∀ j f, fs[j]? = some f → ∃ b o, a = some ⟨b, o, none⟩ ∧ b < w.heap.size ∧ b ≠ g ∧ w.cell? ⟨b, o + j * 2, none⟩ = some (.string f.1) ∧ w.cell? ⟨b, o + j * 2 + 1, none⟩ = some (.string f.2)
theorem FRowA.row {g : Nat} {w : World} {v : Value} {fs : List Fd} (h : FRowA g w v fs) : FRow w v fs := by
  obtain ⟨a, c, rfl, h1, h2, h3⟩ := h
  refine ⟨a, c, rfl, h1, h2, fun j f hj => ?_⟩
  obtain ⟨b, o, rfl, hb, _, c1, c2⟩ := h3 j f hj
  exact ⟨b, o, rfl, hb, c1, c2⟩
theorem FRowA.keep {g : Nat} {w w' : World} {v : Value} {fs : List Fd} (h : FRowA g w v fs) (hg : w.grownBy w' (some g)) : FRowA g w' v fs := by
  obtain ⟨a, c, rfl, h1, h2, h3⟩ := h
  refine ⟨a, c, rfl, h1, h2, fun j f hj => ?_⟩
  obtain ⟨b, o, rfl, hb, hne, c1, c2⟩ := h3 j f hj
  exact ⟨b, o, rfl, Nat.lt_of_lt_of_le hb hg.size, hne, hg.cell c1 (fun e => hne (by injection e)), hg.cell c2 (fun e => hne (by injection e))⟩
theorem frow_of_own {w : World} {B g : Nat} {T : TypeId} {v : Value} {fs : List Fd} (h : w.ownsRow B T 2 v fs.length (fcells fs)) (hg : g < B) : FRowA g w v fs := by
  rcases h.2 with ⟨rfl, h0⟩ | ⟨b, cap, cur, rfl, hb, hh, hn, hm, _, _⟩
  · have : fs = [] := List.eq_nil_of_length_eq_zero h0
    subst this
    exact ⟨none, 0, rfl, Nat.le_refl _, Nat.zero_le _, fun j f hj => by simp at hj⟩
  · refine ⟨_, cap, rfl, hn, hm, fun j f hj => ⟨b, 0, rfl, (Array.getElem?_eq_some_iff.1 hh).1, by omega, ?_, ?_⟩⟩
    · have := h.cells (g := b) rfl _ _ (fcells_at hj).1
      have hadd : ∀ k, (⟨b, 0, none⟩ : Addr).add k = ⟨b, k, none⟩ := fun k => by unfold Addr.add; split <;> simp_all
      rw [hadd] at this
      rw [Nat.zero_add]; exact this
    · have := h.cells (g := b) rfl _ _ (fcells_at hj).2
      have hadd : ∀ k, (⟨b, 0, none⟩ : Addr).add k = ⟨b, k, none⟩ := fun k => by unfold Addr.add; split <;> simp_all
      rw [hadd] at this
      rw [Nat.zero_add]; exact this

theorem drawn_grown {w0 w w' : World} {B g m : Nat} {row : Option Nat} (h : Drawn w0 w B g m) (hg : w.grownBy w' row) (hlt : g < w0.heap.size) (hrow : ∀ r, row = some r → w0.heap.size ≤ r) : Drawn w0 w' B g m := by
  have hne : ∀ k, k < w0.heap.size → some k ≠ row := fun k hk e => by have := hrow k e.symm; omega
  refine ⟨h.1.keep fun k hk => hg.block k (by have := h.1.lt; omega) (hne k (by omega)), ⟨hg.os.trans h.2.os, hg.tape.trans h.2.tape, hg.output.trans h.2.output, Nat.le_trans h.2.size hg.size, fun k hk hn => ?_⟩⟩
  exact (hg.block k (Nat.lt_of_lt_of_le hk h.2.size) (hne k hk)).trans (h.2.block k hk hn)

theorem Tryz.infoFd : (Tryz.prog.info? 27).map (fun i => (i.zero, i.size, i.bytes)) = some (some (.agg #[.string ⟨#[]⟩, .string ⟨#[]⟩]), 2, 32) := by kernel_rfl

theorem own_drawn {w w' : World} {B g n size : Nat} {e : TypeId} {v : Value} {xs : List Value} (h : w.ownsRow B e size v n xs) (hgB : g < B) (hg : w.grownBy w' (some g)) : w'.ownsRow B e size v n xs := by
  refine h.kept hg ?_
  cases hv : v.ownBlock with
  | none => exact .inl rfl
  | some b => exact .inr fun e => by have := (h.lt b hv).1; cases e; omega

theorem pair_new (w : World) (s t : ByteArray) (T : TypeId) : ∀ (j : Nat) u, [Value.string s, .string t][j]? = some u → (w.alloc (.cells #[.string s, .string t] T)).cell? ((⟨w.heap.size, 0, none⟩ : Addr).add j) = some u := by
  intro j u hu
  match j, hu with
  | 0, hu => exact (World.cell?_alloc_at _ _ _ _ rfl).trans (by simpa using hu)
  | 1, hu => exact (World.cell?_alloc_at _ _ _ _ rfl).trans (by simpa using hu)
  | j + 2, hu => simp at hu

set_option maxRecDepth 100000 in
set_option maxHeartbeats 1600000 in
theorem fields_any (g B m : Nat) (q : Int) (w : World) (hm : m ≤ 600000) (hq : q ≤ 1000000) (hq0 : 0 ≤ q) (h : RdAt w B g m) :
    Calls Tryz.prog 17 #[.pointer (some ⟨g, 0, none⟩), .int .i64 q] w fun e w' => ∃ v fs, e = .returned v ∧ FRowA g w' v fs ∧ FOk fs 40 ∧ fs.length ≤ 4 ∧ Drawn w w' B g (m + 300) := by
  obtain ⟨i0, hi, hz0, hz1, hz2⟩ := info_parts Tryz.infoFd
  have hg := h.lt
  go_enter Tryz.func17, Tryz.ntmps17
  go_wp2_with fail
  refine (pick_lit g 5 5 rfl (by decide) B m _ (by omega) (by decide) (h.alloc _)).mono ?_
  rintro e w1 ⟨r, rfl, hr, -, hd1⟩
  have hD1 := hd1.of_alloc
  have ho1 : w1.ownsRow w.heap.size 27 2 (.slice (some ⟨w.heap.size, 0, none⟩) 0 0) 0 (fcells []) := (World.ownsRow_made w #[] 0 (Nat.le_refl _) (by decide) rfl).kept hd1.2 (.inr (by simp [Value.ownBlock]; omega))
  clear hd1
  go_wp2
  go_loopw [5, 6] (fun o i wr => ∃ (k : Nat) (fs : List Fd), i = .int .i64 k ∧ k + fs.length ≤ 4 ∧ wr.ownsRow w.heap.size 27 2 o fs.length (fcells fs) ∧ FOk fs 40 ∧ Drawn w wr B g (m + 1 + 60 * fs.length)) (fun _ i _ => (intOf i).toNat)
  case atStart => exact ⟨r, [], rfl, by simp; omega, ho1, fun f hf => by simp at hf, hD1⟩
  case round =>
    obtain ⟨k, fs, rfl, hk, hown, hok, hD⟩ := hrel
    by_cases hlt : 0 < k
    · have hrd := hD.1
      have hszr := hD.2.size
      go_wp2_with fail
      refine (field_any g B (m + 1 + 60 * fs.length) q _ (by omega) hq hq0 hrd).mono ?_
      rintro e w2 ⟨s, t, rfl, hs, ht, hd2⟩
      have hown2 := own_drawn hown hg hd2.2
      have hD2 := hD.trans hd2
      have hsz2 := hD2.2.size
      have hlen : fs.length ≤ 4 := by omega
      have hv2 := hown.lt
      have HK := Lib.hid hok
      clear hown hd2 hD hrd hok
      go_wp2_with (at_builtin; go_must (refine wpList_append_lies _ rfl _ _ 23 (by rfl) w.heap.size 27 i0 _ 2 32 Tryz.underlying23 hi hz0 hz1 hz2 (by rfl) (by decide) _ fs.length (fcells fs) (by rfl) (hown2.alloc _) ⟨w2.heap.size, 0, none⟩ 1 1 [.string s, .string t] (by rfl) (by rfl) (pair_new w2 s t _) (by intro x hx; simp at hx; rcases hx with rfl | rfl <;> rfl) (by omega) (by unfold maxLen; omega) (by omega) (by simp; omega) (w2.heap.size + 1) (by simp) ?_); intro g3 cap w3 ho3 hg3 hat3 hlt3)
      have hD3 := drawn_grown (hD2.alloc (.cells #[.string s, .string t] 27)) hg3 hg (fun r hr => (hv2 r hr).1)
      clear hg3 hD2 hown2
      go_roundw
      case rel =>
        refine ⟨k - 1, fs ++ [(s, t)], by go_num, by simp; omega, ?_, ?_, by rw [List.length_append]; exact hD3.mono (by simp; omega)⟩
        · rw [fcells_app, List.length_append]; exact ho3
        · intro f hf
          rcases List.mem_append.1 hf with hf | hf
          · exact HK.out f hf
          · have : f = (s, t) := by simpa using hf
            subst this; exact ⟨hs, ht⟩
      case measure => simp [intOf]; omega
    · have hk0 : k = 0 := by omega
      subst hk0
      go_wp2
      go_ret
      exact ⟨_, fs, rfl, frow_of_own hown hg, hok, by omega, hD.mono (by omega)⟩
end Go.Proofs.YtlfcamapjeldjaaGreatDoor
