/- Two texts that ask for the same, in two forms: what is read of them. -/
import Derived.Test.YtabidoopodbknaaGreatDoorTwD
import Derived.Test.YtabidoopodbknaaGreatDoorGCa
import Derived.Test.YtabidoopodbknaaGreatDoorGRdK
namespace Go.Proofs.YtabidoopodbknaaGreatDoor

theorem tw_cons (f : Fd) (fs : List Fd) (s : ByteArray) : ∀ k, k ≤ fs.length → allTo (f :: fs) s (k + 1) = (if f.1 = s then [f.2] else []) ++ allTo fs s k := by
  intro k
  induction k with
  | zero =>
    intro _
    rw [allTo_at (f := f) s rfl]
    split <;> simp [allTo]
  | succ k ih =>
    intro hk
    have hf := List.getElem?_eq_getElem (show k < fs.length from by omega)
    have hf2 : (f :: fs)[k + 1]? = some fs[k] := by simp
    rw [allTo_at s hf2, allTo_at s hf, ih (by omega)]
    split
    · rw [List.append_assoc]
    · rfl
/-- The values told under 'accept'. -/
def accs (fs : List Fd) : List ByteArray := fs.flatMap fun f => if f.1 = bAccept then [f.2] else []
theorem allTo_accs : ∀ fs : List Fd, allTo fs bAccept fs.length = accs fs
  | [] => rfl
  | f :: fs => by
    rw [List.length_cons, tw_cons _ _ _ _ (Nat.le_refl _), allTo_accs fs]
    rfl
theorem cod_accs {fs gs : List Fd} (h : accs fs = accs gs) : codOfF fs = codOfF gs := by
  unfold codOfF
  rw [allTo_accs, allTo_accs, h]
theorem accs_app (fs gs : List Fd) : accs (fs ++ gs) = accs fs ++ accs gs := by
  unfold accs
  rw [List.flatMap_append]
theorem accs_none {fs : List Fd} (h : ∀ f ∈ fs, f.1 ≠ bAccept) : accs fs = [] := by
  unfold accs
  rw [List.flatMap_eq_nil_iff]
  intro f hf
  rw [if_neg (h f hf)]
theorem accs_map {fs : List Fd} {p : Fd → Fd} (h : ∀ f ∈ fs, (p f).1 = f.1 ∧ (f.1 = bAccept → (p f).2 = f.2)) : accs (fs.map p) = accs fs := by
  induction fs with
  | nil => rfl
  | cons f fs ih =>
    obtain ⟨h1, h2⟩ := h f (List.mem_cons_self ..)
    have e := ih fun g hg => h g (List.mem_cons_of_mem _ hg)
    unfold accs at e ⊢
    rw [List.map_cons, List.flatMap_cons, List.flatMap_cons, e, h1]
    congr 1
    split
    · rename_i h0
      rw [h2 h0]
    · rfl
theorem nl_acc {s : ByteArray} (h : s ∈ twNL) : s ≠ bAccept := (show ∀ s ∈ twNL, s ≠ bAccept from by decide) s h
theorem ba_list (s : ByteArray) : (⟨s.data.toList.toArray⟩ : ByteArray) = s := by cases s; simp
theorem hl_host {s : ByteArray} (h : s ∈ twHL) : hostB s.data.toList = true := (show ∀ s ∈ twHL, hostB s.data.toList = true from by decide) s h
theorem tl_canon {s : ByteArray} (h : s ∈ twTL) : canonL s.data.toList = some s.data.toList ∧ ∃ r, s.data.toList = 47 :: r := by
  have h1 : ∀ s ∈ twTL, canonL s.data.toList = some s.data.toList := by decide +kernel
  exact ⟨h1 s h, (canon_bytes (h1 s h)).1⟩
theorem twF_ex {f : Fd} (h : exQ f.1 f.2) : TwF (lis f) := by
  have h1 : ∀ s ∈ twNL, (58 : UInt8) ∉ s.data.toList ∧ (10 : UInt8) ∉ s.data.toList ∧ lowL s.data.toList = s.data.toList ∧ ownB s.data.toList = false := by decide
  have h2 : ∀ t ∈ twVL, (10 : UInt8) ∉ t.data.toList := by decide
  obtain ⟨k1, k2, k3, k4⟩ := h1 f.1 h.1
  exact ⟨k1, k2, k3, k4, h2 f.2 h.2⟩
theorem one_fs {h : Hd} (hO : HOne h) : ∀ f ∈ h.fs, TwF (lis f) ∧ (f.1 = bAccept → Lib.trimB f.2.data.toList 32 = f.2.data.toList) := by
  have a1 : ∀ a ∈ twAL, (10 : UInt8) ∉ a.data.toList ∧ Lib.trimB a.data.toList 32 = a.data.toList := by decide
  have a2 : ∀ a ∈ twSL, (10 : UInt8) ∉ a.data.toList := by decide
  have n1 : ((58 : UInt8) ∉ ([97, 99, 99, 101, 112, 116] : List UInt8)) ∧ ((10 : UInt8) ∉ ([97, 99, 99, 101, 112, 116] : List UInt8)) ∧ lowL [97, 99, 99, 101, 112, 116] = [97, 99, 99, 101, 112, 116] ∧ ownB [97, 99, 99, 101, 112, 116] = false := by decide
  have n2 : ((58 : UInt8) ∉ ([105, 102, 45, 110, 111, 110, 101] : List UInt8)) ∧ ((10 : UInt8) ∉ ([105, 102, 45, 110, 111, 110, 101] : List UInt8)) ∧ lowL [105, 102, 45, 110, 111, 110, 101] = [105, 102, 45, 110, 111, 110, 101] ∧ ownB [105, 102, 45, 110, 111, 110, 101] = false := by decide
  have n3 : (⟨#[105, 102, 45, 110, 111, 110, 101]⟩ : ByteArray) ≠ bAccept := by decide
  have k : ∀ f : Fd, (f.1 = ⟨#[97, 99, 99, 101, 112, 116]⟩ ∧ f.2 ∈ twAL) ∨ (f.1 = ⟨#[105, 102, 45, 110, 111, 110, 101]⟩ ∧ f.2 ∈ twSL) → TwF (lis f) ∧ (f.1 = bAccept → Lib.trimB f.2.data.toList 32 = f.2.data.toList) := by
    rintro ⟨s, t⟩ (⟨h1, h2⟩ | ⟨h1, h2⟩)
    · simp only at h1 h2
      subst h1
      exact ⟨⟨n1.1, n1.2.1, n1.2.2.1, n1.2.2.2, (a1 t h2).1⟩, fun _ => (a1 t h2).2⟩
    · simp only at h1 h2
      subst h1
      exact ⟨⟨n2.1, n2.2.1, n2.2.2.1, n2.2.2.2, a2 t h2⟩, fun e => absurd e n3⟩
  obtain ⟨a, b, ha, hb, h | h | h | h⟩ := hO.fs <;> rw [h] <;> intro f hf
  · simp at hf
  · obtain rfl : f = (⟨#[97, 99, 99, 101, 112, 116]⟩, a) := by simpa using hf
    exact k _ (.inl ⟨rfl, ha⟩)
  · obtain rfl : f = (⟨#[105, 102, 45, 110, 111, 110, 101]⟩, b) := by simpa using hf
    exact k _ (.inr ⟨rfl, hb⟩)
  · have hf' : f = (⟨#[97, 99, 99, 101, 112, 116]⟩, a) ∨ f = (⟨#[105, 102, 45, 110, 111, 110, 101]⟩, b) := by simpa using hf
    rcases hf' with rfl | rfl
    · exact k _ (.inl ⟨rfl, ha⟩)
    · exact k _ (.inr ⟨rfl, hb⟩)
theorem accs_rev {h : Hd} (hO : HOne h) : accs h.fs.reverse = accs h.fs := by
  have n : (⟨#[105, 102, 45, 110, 111, 110, 101]⟩ : ByteArray) ≠ bAccept := by decide
  obtain ⟨a, b, ha, hb, h | h | h | h⟩ := hO.fs <;> rw [h] <;> simp [accs, n]
theorem wr_read {h : Hd} {g : Hd} {u : Nat} (hr : readL (wrB h).data.toList = (g, u, 1)) : g = h := by
  unfold wrB at hr
  split at hr
  · rename_i hb
    have e := read_write hb []
    rw [List.append_nil] at e
    rw [List.toList_toArray, e] at hr
    injection hr with e1 _
    exact e1.symm
  · exfalso
    have e : (readL ([] : List UInt8)).2.2 ≠ 1 := by decide
    exact e (congrArg (fun x => x.2.2) hr)

/-- Of two texts that are each one request: the same is asked for. -/
theorem twin_law {s t : ByteArray} (hT : TwinR s t) {g k : Hd} {u u' : Nat} (h1 : readL s.data.toList = (g, u, 1)) (h2 : readL t.data.toList = (k, u', 1)) : g.verb = k.verb ∧ g.target = k.target ∧ codOfF g.fs = codOfF k.fs ∧ g.body = k.body := by
  obtain ⟨h, host, ex, hO, hh, hex, _, rfl, ht⟩ := hT
  have hg := wr_read h1
  subst hg
  have hax : accs (ex ++ g.fs.reverse) = accs g.fs := by
    rw [accs_app, accs_none (fun f hf => nl_acc (hex f hf).1), List.nil_append, accs_rev hO]
  rcases ht with rfl | ht
  · have hk := wr_read h2
    subst hk
    exact ⟨rfl, rfl, cod_accs hax.symm, rfl⟩
  · rw [ht] at h2
    obtain ⟨hc, r, hr⟩ := tl_canon hO.target
    have hF : ∀ f ∈ (ex ++ g.fs.reverse).map lis, TwF f := by
      intro f hf
      obtain ⟨x, hx, rfl⟩ := List.mem_map.1 hf
      rcases List.mem_append.1 hx with hx | hx
      · exact twF_ex (hex x hx)
      · exact (one_fs hO x (List.mem_reverse.1 hx)).1
    obtain ⟨e1, e2, e3, e4⟩ := twin_read (hl_host hh) hr hc hF h2
    refine ⟨by rw [e1, hO.verb]; rfl, by rw [e2, ba_list], ?_, by rw [e3, hO.body]⟩
    refine cod_accs ?_
    rw [e4, List.map_map, accs_map, hax]
    intro f hf
    refine ⟨by simp [twFd, lis], fun e => ?_⟩
    rcases List.mem_append.1 hf with hx | hx
    · exact absurd e (nl_acc (hex f hx).1)
    · have := (one_fs hO f (List.mem_reverse.1 hx)).2 e
      show (⟨(Lib.trimB f.2.data.toList 32).toArray⟩ : ByteArray) = f.2
      rw [this, ba_list]
end Go.Proofs.YtabidoopodbknaaGreatDoor
