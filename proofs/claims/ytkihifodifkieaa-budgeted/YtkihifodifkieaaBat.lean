import Derived.Test.YtkihifodifkieaaEng
namespace Go.Proofs.Ytkihifodifkieaa
open Go.RowKit Go.Shelf

-- A ROW OF ELEMENTS OF sz CELLS, of type e
def RowG (e : TypeId) (sz : Nat) (w : World) (v : Value) (n : Nat) (cs : List Value) : Prop :=
  cs.length = n * sz ∧ ((v = .slice none 0 0 ∧ n = 0) ∨
    ∃ g cap sp, v = .slice (some ⟨g, 0, none⟩) n cap ∧ w.heap[g]? = some (.cells (cs ++ sp).toArray e (0, 0)) ∧ (cs ++ sp).length = cap * sz ∧ n ≤ cap ∧ cap ≤ maxLen)
theorem RowG.shape {e : TypeId} {sz : Nat} {w : World} {v : Value} {n : Nat} {cs : List Value} (h : RowG e sz w v n cs) : ∃ a c, v = .slice a n c := by
  rcases h.2 with ⟨rfl, rfl⟩ | ⟨g, cap, sp, rfl, _⟩
  · exact ⟨_, _, rfl⟩
  · exact ⟨_, _, rfl⟩
theorem RowG.lt {e : TypeId} {sz : Nat} {w : World} {v : Value} {n : Nat} {cs : List Value} (h : RowG e sz w v n cs) : ∀ g, v.ownBlock = some g → g < w.heap.size := by
  intro g hg
  rcases h.2 with ⟨rfl, rfl⟩ | ⟨g', cap, sp, rfl, hg', _⟩
  · cases hg
  · cases hg; exact (Array.getElem?_eq_some_iff.1 hg').1
theorem RowG.kept {e : TypeId} {sz : Nat} {w w' : World} {v : Value} {n : Nat} {cs : List Value} (h : RowG e sz w v n cs) (hk : ∀ g, v.ownBlock = some g → w'.heap[g]? = w.heap[g]?) : RowG e sz w' v n cs := by
  refine ⟨h.1, ?_⟩
  rcases h.2 with h | ⟨g, cap, sp, rfl, hg, r⟩
  · exact .inl h
  · exact .inr ⟨g, cap, sp, rfl, (hk g rfl).trans hg, r⟩
theorem RowG.nil (e : TypeId) (sz : Nat) (w : World) : RowG e sz w (.slice none 0 0) 0 [] := ⟨by simp, .inl ⟨rfl, rfl⟩⟩
theorem RowG.cell {e : TypeId} {sz : Nat} {w : World} {g n cap : Nat} {cs : List Value} (h : RowG e sz w (.slice (some ⟨g, 0, none⟩) n cap) n cs) {j : Nat} {v : Value} (hj : cs[j]? = some v) : w.cell? ⟨g, j, none⟩ = some v := by
  rcases h.2 with ⟨h, _⟩ | ⟨g', cap', sp, hv, hg, _⟩
  · cases h
  · cases hv
    have : j < cs.length := (List.getElem?_eq_some_iff.1 hj).1
    simp [World.cell?, hg, List.getElem?_append_left this, hj]

theorem run_appendG {P : Program} (w : World) (t ty e : TypeId) (i : TypeInfo) (z : Value) (sz bytes : Nat) (ht : P.underlying t = some (.slice e)) (hi : P.info? e = some i) (hz : i.zero = some z) (hsize : i.size = sz) (hby : i.bytes = bytes) (hzs : z.cells.size = sz) (hsz : 0 < sz) (hb24 : bytes ≤ 64)
    (v : Value) (n : Nat) (cs : List Value) (hrow : RowG e sz w v n cs) (a : Addr) (c : Nat) (news : List Value) (hl : news.length = sz) (hnews : ∀ j u, news[j]? = some u → w.cell? (a.add j) = some u) (h1 : ∀ u ∈ news, u.oneCell' = true) (hn : n ≤ 1000000) :
    ∃ g cap w', (Builtin.append_ #[t, t] ty #[v, .slice (some a) 1 c]).run P w = .ok (.slice (some ⟨g, 0, none⟩) (n + 1) cap) w' ∧ RowG e sz w' (.slice (some ⟨g, 0, none⟩) (n + 1) cap) (n + 1) (cs ++ news) ∧ w.grownBy w' v.ownBlock ∧ (some g = v.ownBlock ∨ w.heap.size ≤ g) := by
  subst hsize
  subst hby
  have hlen : (cs ++ news).length = (n + 1) * i.size := by rw [List.length_append, hrow.1, hl, Nat.add_mul, Nat.one_mul]
  have hM : (1000001 : Nat) ≤ maxLen := by unfold maxLen; omega
  have hfits : ∀ old, old < n + 1 → Builtin.nextslicecap (n + 1) old * i.bytes ≤ 281474976710656 := fun old ho => growslice_fits ho (by
    calc (n + 1) * i.bytes ≤ 1000001 * 64 := Nat.mul_le_mul (by omega) hb24
      _ ≤ _ := by omega)
  have new : ∀ old (row : Option Nat), RowG e i.size (w.drew.alloc (.cells (cs.toArray ++ news.toArray ++ Builtin.zeroCells z.cells (grownCap w (n + 1) old e - (n + 1))) e)) (.slice (some ⟨w.heap.size, 0, none⟩) (n + 1) (grownCap w (n + 1) old e)) (n + 1) (cs ++ news) ∧
      w.grownBy (w.drew.alloc (.cells (cs.toArray ++ news.toArray ++ Builtin.zeroCells z.cells (grownCap w (n + 1) old e - (n + 1))) e)) row := by
    intro old row
    have hge := grownCap_ge w (n + 1) old e
    refine ⟨⟨hlen, .inr ⟨w.heap.size, _, (Builtin.zeroCells z.cells (grownCap w (n + 1) old e - (n + 1))).toList, rfl, ?_, ?_, hge, grownCap_le_maxLen w _ _ _ (by omega)⟩⟩, grownBy_below ((Below.refl _ w).drew.alloc (Nat.le_refl _) _) _⟩
    · have : (cs ++ news ++ (Builtin.zeroCells z.cells (grownCap w (n + 1) old e - (n + 1))).toList).toArray = cs.toArray ++ news.toArray ++ Builtin.zeroCells z.cells (grownCap w (n + 1) old e - (n + 1)) := by
        apply Array.ext'; simp
      rw [this]
      exact heap_alloc_new w.drew _
    · rw [List.length_append, hlen, Array.length_toList, size_zeroCells, hzs, ← Nat.add_mul]
      congr 1
      omega
  rcases hrow.2 with ⟨rfl, rfl⟩ | ⟨g, cap, sp, rfl, hg, hls, hnc, hcm⟩
  · have hx : cs = [] := List.eq_nil_of_length_eq_zero (by simpa using hrow.1)
    subst hx
    have hr := run_append_nil (P := P) w t ty e i z ht hi hz a 1 c news (by rw [hl, Nat.one_mul]) hnews (by omega) (by omega) (by have := hfits 0 (by omega); rw [nextslicecap_zero (by omega)] at this; simpa using this)
    obtain ⟨h2, h3⟩ := new 0 (Value.ownBlock (.slice none 0 0))
    simp only [Nat.zero_add, List.nil_append, Array.empty_append] at h2 h3
    exact ⟨_, _, _, hr, h2, h3, .inr (Nat.le_refl _)⟩
  · by_cases hroom : n + 1 ≤ cap
    · have hcl : (n + 1) * i.size ≤ cap * i.size := Nat.mul_le_mul_right _ hroom
      rw [List.length_append, hrow.1] at hls
      rw [Nat.add_mul, Nat.one_mul] at hcl
      have hr := run_append_room (P := P) w t ty e i ht hi g n cap _ hg a 1 c news (by rw [hl, Nat.one_mul]) hnews h1 hroom (by rw [List.size_toArray, List.length_append, hrow.1, hl]; omega)
      refine ⟨g, cap, _, hr, ⟨hlen, .inr ⟨g, cap, sp.drop i.size, rfl, ?_, ?_, hroom, hcm⟩⟩, grownBy_setRow' g _, .inl rfl⟩
      · have e1 : List.take (n * i.size) (cs ++ sp).toArray.toList ++ news ++ List.drop (n * i.size + news.length) (cs ++ sp).toArray.toList = cs ++ news ++ sp.drop i.size := by
          show List.take (n * i.size) (cs ++ sp) ++ news ++ List.drop (n * i.size + news.length) (cs ++ sp) = _
          rw [List.take_left' hrow.1, ← hrow.1, drop_past, hl]
        rw [e1]
        exact setRow_heap w g _ _ _ _ hg
      · rw [List.length_append, hlen, List.length_drop, Nat.add_mul, Nat.one_mul]
        omega
    · have hr := run_append_grow (P := P) w t ty e i z ht hi hz ⟨g, 0, none⟩ n cap cs hrow.1 (fun j v hj => by
          rw [Addr.add_lit]
          have : j < cs.length := (List.getElem?_eq_some_iff.1 hj).1
          simp only [World.cell?, hg]
          simp [List.getElem?_append_left this, hj]) a 1 c news (by rw [hl, Nat.one_mul]) hnews (by omega) (by omega) (hfits cap (by omega))
      obtain ⟨h2, h3⟩ := new cap (Value.ownBlock (.slice (some ⟨g, 0, none⟩) n cap))
      exact ⟨_, _, _, hr, h2, h3, .inr (Nat.le_refl _)⟩

end Go.Proofs.Ytkihifodifkieaa
