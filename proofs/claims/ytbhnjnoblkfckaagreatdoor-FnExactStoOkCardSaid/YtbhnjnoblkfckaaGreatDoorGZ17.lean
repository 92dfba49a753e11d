import Derived.Test.YtbhnjnoblkfckaaGreatDoorGZ15
-- from XStK
/- Walks: links, by the program: all that a test is true for go. -/
namespace Go.Proofs.YtbhnjnoblkfckaaGreatDoor
open Go.RowKit Go.Maps Go.Shelf
attribute [local go_sem] Oper.semAt_some

/-- What is left of links, from the k-th place on, of which some are gone. -/
def keptK (d : Nat → Bool) : Nat → List (Nat × En) → List (Nat × En)
  | _, [] => []
  | k, x :: r => if d k = true then keptK d (k + 1) r else x :: keptK d (k + 1) r
def cntK (d : Nat → Bool) : Nat → List (Nat × En) → Nat
  | _, [] => 0
  | k, _ :: r => (if d k = true then 1 else 0) + cntK d (k + 1) r
theorem keptK_snoc (d : Nat → Bool) (x : Nat × En) : ∀ (A : List (Nat × En)) (k : Nat), keptK d k (A ++ [x]) = keptK d k A ++ (if d (k + A.length) = true then [] else [x])
  | [], k => by simp [keptK]
  | y :: A, k => by
    have ih := keptK_snoc d x A (k + 1)
    have e : k + 1 + A.length = k + (y :: A).length := by simp; omega
    rw [e] at ih
    show (if d k = true then keptK d (k + 1) (A ++ [x]) else y :: keptK d (k + 1) (A ++ [x])) = (if d k = true then keptK d (k + 1) A else y :: keptK d (k + 1) A) ++ _
    rw [ih]
    split <;> simp
theorem cntK_snoc (d : Nat → Bool) (x : Nat × En) : ∀ (A : List (Nat × En)) (k : Nat), cntK d k (A ++ [x]) = cntK d k A + (if d (k + A.length) = true then 1 else 0)
  | [], k => by simp [cntK]
  | y :: A, k => by
    have ih := cntK_snoc d x A (k + 1)
    have e : k + 1 + A.length = k + (y :: A).length := by simp; omega
    rw [e] at ih
    show _ + cntK d (k + 1) (A ++ [x]) = _ + cntK d (k + 1) A + _
    rw [ih]; omega
theorem keptK_sub (d : Nat → Bool) : ∀ (A : List (Nat × En)) (k : Nat), ∀ x ∈ keptK d k A, x ∈ A
  | [], _, x, h => by cases h
  | y :: A, k, x, h => by
    unfold keptK at h
    split at h
    · exact List.mem_cons_of_mem _ (keptK_sub d A (k + 1) x h)
    · rcases List.mem_cons.1 h with rfl | h
      · exact List.mem_cons_self ..
      · exact List.mem_cons_of_mem _ (keptK_sub d A (k + 1) x h)
theorem cntK_le (d : Nat → Bool) : ∀ (A : List (Nat × En)) (k : Nat), cntK d k A ≤ A.length
  | [], _ => Nat.le_refl _
  | _ :: A, k => by
    have := cntK_le d A (k + 1)
    show (if d k = true then 1 else 0) + cntK d (k + 1) A ≤ A.length + 1
    split <;> omega

/-- What holds ahead of round k: w: the world ahead of all; bc, bg, bn, bx: the boxes of the chain, of the test, of the count, and of the iterator's chain. -/
structure RmI (w : World) (c mb B N : Nat) (d : Nat → Bool) (G : Nat → World → Prop) (SG : Nat → Prop) (M : List (Nat × En)) (bc bg bn bx : Nat) (TC TF TI : TypeId) (g : Value) (k : Nat) (W : World) : Prop where
  chn : Chn W c mb B (N + k) (keptK d 0 (M.take k) ++ M.drop k)
  fact : LkFact (M.map (·.1)) bx c k W
  gs : G k W
  hc : Boxed W bc TC (.pointer (some ⟨c, 0, none⟩))
  hg : Boxed W bg TF g
  hn : Boxed W bn TI (.int .i64 (cntK d 0 (M.take k) : Int))
  hx : Boxed W bx TC (.pointer (some ⟨c, 0, none⟩))
  only : Only (fun j => Cs c mb M j ∨ SG j) w W
  le : k ≤ M.length
theorem rmI_own {w : World} {c mb B N : Nat} {d : Nat → Bool} {G : Nat → World → Prop} {SG : Nat → Prop} {M : List (Nat × En)} {bc bg bn bx : Nat} {TC TF TI : TypeId} {g : Value} {B0 : Nat} (hmb : mb < B0) (hw : w.heap.size ≤ B0)
    (hSG : ∀ j, SG j → j < w.heap.size ∧ ¬ Cs c mb M j) (hGk : ∀ k W W', G k W → (∀ j, SG j → W'.heap[j]? = W.heap[j]?) → G k W') :
    OwnFrom B0 (fun k W => RmI w c mb B N d G SG M bc bg bn bx TC TF TI g k W) := by
  intro k X Y row h hg hr
  have hne : ∀ j, j < w.heap.size → some j ≠ row := fun j hj e => by have := (hr j e.symm).1; omega
  have hrc : ∀ r, row = some r → ∃ o : Obj, X.heap[r]? = some o ∧ o.isCells = false := fun r e => (hr r e).2
  refine ⟨chn_turned h.chn hg hmb hr, ⟨fun hk => ?_, fun j b hk hb => ?_⟩, hGk k X Y h.gs (fun j hj => hg.block j (by have := (hSG j hj).1; have := h.only.size; omega) (hne j (hSG j hj).1)), ?_, ?_, ?_, ?_, ?_, h.le⟩
  · obtain ⟨h1, h2⟩ := h.fact.1 hk
    exact ⟨cell_kept h1 hg hrc, cell_kept h2 hg hrc⟩
  · exact cell_kept (h.fact.2 j b hk hb) hg hrc
  · exact boxed_own _ _ (fun _ => _) () X Y row h.hc hg hrc
  · exact boxed_own _ _ (fun _ => _) () X Y row h.hg hg hrc
  · exact boxed_own _ _ (fun _ => _) () X Y row h.hn hg hrc
  · exact boxed_own _ _ (fun _ => _) () X Y row h.hx hg hrc
  · exact ⟨hg.os.trans h.only.os, hg.tape.trans h.only.tape, hg.output.trans h.only.output, Nat.le_trans h.only.size hg.size, fun j hj hn => (hg.block j (by have := h.only.size; omega) (hne j hj)).trans (h.only.block j hj hn)⟩

/-- What holds behind the test at round k. -/
def RmP (w W : World) (c mb B N : Nat) (d : Nat → Bool) (G : Nat → World → Prop) (SG : Nat → Prop) (M : List (Nat × En)) (bc bg bn bx : Nat) (TC TF TI : TypeId) (g : Value) (k : Nat) (x : Nat × En) (w8 : World) : Prop :=
  Chn w8 c mb B (N + k) (keptK d 0 (M.take k) ++ (x.1, x.2) :: M.drop (k + 1)) ∧ (G (k + 1) w8 ∧ Only SG W w8) ∧ (Boxed w8 bg TF g ∧ Boxed w8 bx TC (.pointer (some ⟨c, 0, none⟩)) ∧ Only (fun j => Cs c mb M j ∨ SG j) w w8) ∧
    Boxed w8 bc TC (.pointer (some ⟨c, 0, none⟩)) ∧ Boxed w8 bn TI (.int .i64 (cntK d 0 (M.take k) : Int))
theorem take_more {α : Type} {M : List α} {k : Nat} {x : α} (h : M[k]? = some x) : M.take (k + 1) = M.take k ++ [x] ∧ M.drop k = x :: M.drop (k + 1) ∧ (M.take k).length = k := by
  obtain ⟨hlt, rfl⟩ := List.getElem?_eq_some_iff.1 h
  exact ⟨by rw [List.take_add_one, h]; rfl, List.drop_eq_getElem_cons hlt, by rw [List.length_take]; omega⟩
theorem only_hi {S : Nat → Prop} {w W : World} {b k : Nat} {v : Value} (h : Only S w W) (hb : w.heap.size ≤ b) : Only S w (W.setCell ⟨b, k, none⟩ v) :=
  ⟨h.os, h.tape, h.output, by simpa using h.size, fun j hj hn => (set_other (by omega)).trans (h.block j hj hn)⟩
theorem rm_round {w W W0 : World} {c mb B N : Nat} {d : Nat → Bool} {G : Nat → World → Prop} {SG : Nat → Prop} {M : List (Nat × En)} {TC TF TI : TypeId} {g : Value} {k gf : Nat} {x : Nat × En} {a1 a2 : Value}
    (hx : M[k]? = some x) (hI : RmI w c mb B N d G SG M w.heap.size (w.heap.size + 1) (w.heap.size + 1 + 1) (w.heap.size + 1 + 1 + 1) TC TF TI g k W) (hSG : ∀ j, SG j → j < w.heap.size ∧ ¬ Cs c mb M j) (hGk : ∀ k W W', G k W → (∀ j, SG j → W'.heap[j]? = W.heap[j]?) → G k W')
    (hG : ∀ k x W, M[k]? = some x → G k W → Calls Tryz.prog gf #[.int .i64 (k : Int), enV x.2, a1, a2] W fun e' w' => e' = .returned (.bool (d k)) ∧ G (k + 1) w' ∧ Only SG W w')
    (hLow : ∀ j, Cs c mb M j → j < w.heap.size) (hs0 : W0.heap.size = w.heap.size + 4) (hN : N + k < maxLen) :
    Hid (∀ W7, Below W.heap.size W W7 → (∃ a n t, W7.heap[x.1]? = some (lkO x.2 a n t)) ∧ Boxed W7 (w.heap.size + 1) TF g) ∧
    Hid (∀ W7, Below W.heap.size W W7 → Calls Tryz.prog gf #[.int .i64 (k : Int), enV x.2, a1, a2] W7 fun e' w8 => e' = .returned (.bool (d k)) ∧ RmP w W c mb B N d G SG M w.heap.size (w.heap.size + 1) (w.heap.size + 1 + 1) (w.heap.size + 1 + 1 + 1) TC TF TI g k x w8) ∧
    Hid (∀ w8, RmP w W c mb B N d G SG M w.heap.size (w.heap.size + 1) (w.heap.size + 1 + 1) (w.heap.size + 1 + 1 + 1) TC TF TI g k x w8 → Calls Tryz.prog 70 #[.pointer (some ⟨c, 0, none⟩), .pointer (some ⟨x.1, 0, none⟩)] w8 (RmPost c mb B (N + k) (keptK d 0 (M.take k)) x.1 x.2 (M.drop (k + 1)) w8)) ∧
    (d k = true → Hid (∀ w8 w9 e', RmP w W c mb B N d G SG M w.heap.size (w.heap.size + 1) (w.heap.size + 1 + 1) (w.heap.size + 1 + 1 + 1) TC TF TI g k x w8 → RmPost c mb B (N + k) (keptK d 0 (M.take k)) x.1 x.2 (M.drop (k + 1)) w8 e' w9 →
      Boxed w9 (w.heap.size + 1 + 1) TI (.int .i64 (cntK d 0 (M.take k) : Int)) ∧ KeepsFrom W0.heap.size W (w9.setCell ⟨w.heap.size + 1 + 1, 0, none⟩ (.int .i64 ((cntK d 0 (M.take k) : Int) + 1))) ∧
        RmI w c mb B N d G SG M w.heap.size (w.heap.size + 1) (w.heap.size + 1 + 1) (w.heap.size + 1 + 1 + 1) TC TF TI g (k + 1) (w9.setCell ⟨w.heap.size + 1 + 1, 0, none⟩ (.int .i64 ((cntK d 0 (M.take k) : Int) + 1))))) ∧
    (d k = false → Hid (∀ w8, RmP w W c mb B N d G SG M w.heap.size (w.heap.size + 1) (w.heap.size + 1 + 1) (w.heap.size + 1 + 1 + 1) TC TF TI g k x w8 →
      KeepsFrom W0.heap.size W w8 ∧ RmI w c mb B N d G SG M w.heap.size (w.heap.size + 1) (w.heap.size + 1 + 1) (w.heap.size + 1 + 1 + 1) TC TF TI g (k + 1) w8)) := by
  obtain ⟨ht, hd, hl⟩ := take_more hx
  have hk : k < M.length := (List.getElem?_eq_some_iff.1 hx).1
  have hchn : Chn W c mb B (N + k) (keptK d 0 (M.take k) ++ (x.1, x.2) :: M.drop (k + 1)) := by have := hI.chn; rw [hd] at this; exact this
  have hlink := hchn.link
  have hsub : ∀ j, Cs c mb (keptK d 0 (M.take k) ++ (x.1, x.2) :: M.drop (k + 1)) j → Cs c mb M j := fun j hj => by
    rcases hj with h | h | h
    · exact .inl h
    · exact .inr (.inl h)
    · refine .inr (.inr ?_)
      obtain ⟨y, hy, rfl⟩ := List.mem_map.1 h
      rcases List.mem_append.1 hy with hy | hy
      · exact List.mem_map.2 ⟨y, List.mem_of_mem_take (keptK_sub d _ 0 y hy), rfl⟩
      · rw [← show M.drop k = (x.1, x.2) :: M.drop (k + 1) from hd] at hy
        exact List.mem_map.2 ⟨y, List.mem_of_mem_drop hy, rfl⟩
  have hxc : Cs c mb M x.1 := hsub _ (.inr (.inr (by simp)))
  have hWs := hI.only.size
  have keepBox : ∀ {X Y : World} {b : Nat} {T : TypeId} {v : Value}, Boxed X b T v → w.heap.size ≤ b → Only (fun j => Cs c mb M j ∨ SG j) X Y → Boxed Y b T v := fun hb hlo ho => (ho.block _ hb.lt (fun h => by
    rcases h with h | h
    · have := hLow _ h; omega
    · have := (hSG _ h).1; omega)).trans hb
  have nextOf : ∀ {w8 : World}, Chn w8 c mb B (N + k) (keptK d 0 (M.take k) ++ (x.1, x.2) :: M.drop (k + 1)) → ∀ {w9 : World}, w9.heap[x.1]? = w8.heap[x.1]? → ∀ bx, LkFact (M.map (·.1)) bx c (k + 1) w9 := fun h8 w9 hb bx => by
    refine ⟨fun h => by omega, fun j b hj hb' => ?_⟩
    obtain rfl : j = k := by omega
    have hbx : b = x.1 := by rw [List.getElem?_map, hx] at hb'; simpa using hb'.symm
    subst hbx
    have := (lk_facts (hb.trans h8.link)).2.2.2.1
    rw [this]
    unfold hdB
    rw [List.head?_drop, List.getElem?_map]
  have keeps : ∀ {Y : World}, Only (fun j => j < W0.heap.size) W Y → KeepsFrom W0.heap.size W Y := fun ho => ⟨ho.size, fun j o hj ho' _ => (ho.block j (Array.getElem?_eq_some_iff.1 ho').1 (by omega)).trans ho'⟩
  have hS0 : ∀ j, Cs c mb M j ∨ SG j → j < W0.heap.size := fun j hj => by
    rcases hj with h | h
    · have := hLow _ h; omega
    · have := (hSG _ h).1; omega
  refine ⟨Lib.hid fun W7 h7 => ⟨⟨_, _, _, (h7.block _ (Array.getElem?_eq_some_iff.1 hlink).1).trans hlink⟩, hI.hg.kept (grown_of_below h7 none) (by simp)⟩, Lib.hid fun W7 h7 => ?_, Lib.hid fun w8 h8 => remove_any _ _ _ _ _ _ _ _ _ h8.1 hN, fun hdk => Lib.hid fun w8 w9 e' h8 hp => ?_, fun hdk => Lib.hid fun w8 h8 => ?_⟩
  · refine (hG k x W7 hx (hGk k W W7 hI.gs fun j hj => h7.block j (by have := (hSG j hj).1; omega))).mono ?_
    rintro e' w8 ⟨rfl, hg8, ho8⟩
    have hO : Only SG W w8 := (only_of_below h7).trans ho8
    have hO2 : Only (fun j => Cs c mb M j ∨ SG j) W w8 := hO.mono fun j _ h => .inr h
    refine ⟨rfl, hchn.keep hO fun j hj hc => (hSG j hj).2 (hsub j hc), ⟨hg8, hO⟩, ⟨keepBox hI.hg (by omega) hO2, keepBox hI.hx (by omega) hO2, hI.only.trans hO2⟩, keepBox hI.hc (by omega) hO2, keepBox hI.hn (by omega) hO2⟩
  · obtain ⟨c8, ⟨g8, o8⟩, ⟨bg8, bx8, ow8⟩, bc8, bn8⟩ := h8
    obtain ⟨rfl, c9, b9, o9⟩ := hp
    have o9' : Only (fun j => Cs c mb M j ∨ SG j) w8 w9 := o9.mono fun j _ h => .inl (hsub j h)
    have bn9 := keepBox bn8 (by omega) o9'
    have g9 : G (k + 1) w9 := hGk _ w8 w9 g8 fun j hj => o9.block j (by have := (hSG j hj).1; have := ow8.size; omega) fun h => (hSG j hj).2 (hsub j h)
    have hset : ∀ j, j ≠ w.heap.size + 1 + 1 → (w9.setCell ⟨w.heap.size + 1 + 1, 0, none⟩ (.int .i64 ((cntK d 0 (M.take k) : Int) + 1))).heap[j]? = w9.heap[j]? := fun j hj => set_other hj
    have hne : ∀ j, Cs c mb M j ∨ SG j → j ≠ w.heap.size + 1 + 1 := fun j hj => by
      rcases hj with h | h
      · have := hLow _ h; omega
      · have := (hSG _ h).1; omega
    have hkk : keptK d 0 (M.take (k + 1)) ++ M.drop (k + 1) = keptK d 0 (M.take k) ++ M.drop (k + 1) := by rw [ht, keptK_snoc, hl, Nat.zero_add, if_pos hdk, List.append_nil]
    have hcc : ((cntK d 0 (M.take (k + 1)) : Nat) : Int) = (cntK d 0 (M.take k) : Int) + 1 := by rw [ht, cntK_snoc, hl, Nat.zero_add, if_pos hdk]; rfl
    have oset : ∀ {S : Nat → Prop} {X : World}, S (w.heap.size + 1 + 1) → Only S X w9 → Only S X (w9.setCell ⟨w.heap.size + 1 + 1, 0, none⟩ (.int .i64 ((cntK d 0 (M.take k) : Int) + 1))) := fun hs ho => ho.trans (only_set _ _ _ _ hs)
    refine ⟨bn9, keeps (oset (by omega) ((o8.mono fun j _ h => hS0 j (.inr h)).trans (o9'.mono fun j _ h => hS0 j h))), ?_, nextOf c8 ((hset _ (hne _ (.inl hxc))).trans b9) _, hGk _ w9 _ g9 fun j hj => hset j (hne j (.inr hj)), ?_, ?_, ?_, ?_, only_hi (ow8.trans o9') (by omega), hk⟩
    · rw [hkk]
      refine (c9.keep (S := fun j => j = w.heap.size + 1 + 1) (only_set _ _ _ _ rfl) fun j hj hc => ?_)
      subst hj
      have : Cs c mb M (w.heap.size + 1 + 1) := hsub _ (cs_less hc)
      have := hLow _ this; omega
    · exact (hset _ (by omega)).trans (keepBox bc8 (by omega) o9')
    · exact (hset _ (by omega)).trans (keepBox bg8 (by omega) o9')
    · rw [hcc]; exact bn9.set _
    · exact (hset _ (by omega)).trans (keepBox bx8 (by omega) o9')
  · obtain ⟨c8, ⟨g8, o8⟩, ⟨bg8, bx8, ow8⟩, bc8, bn8⟩ := h8
    have hkk : keptK d 0 (M.take (k + 1)) ++ M.drop (k + 1) = keptK d 0 (M.take k) ++ (x.1, x.2) :: M.drop (k + 1) := by rw [ht, keptK_snoc, hl, Nat.zero_add, if_neg (by rw [hdk]; decide), List.append_assoc]; rfl
    have hcc : cntK d 0 (M.take (k + 1)) = cntK d 0 (M.take k) := by rw [ht, cntK_snoc, hl, Nat.zero_add, if_neg (by rw [hdk]; decide)]; rfl
    exact ⟨keeps (o8.mono fun j _ h => hS0 j (.inr h)), by rw [hkk]; exact c8.mono (by omega), nextOf c8 rfl _, g8, bc8, bg8, by rw [hcc]; exact bn8, bx8, ow8, hk⟩

end Go.Proofs.YtbhnjnoblkfckaaGreatDoor

