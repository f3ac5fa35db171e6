import Derived.Test.YtkihifodifkieaaBat
namespace Go.Proofs.Ytkihifodifkieaa
open Go.RowKit Go.Shelf

structure Ud where
  a : Int
  l : Int
  o : Int
def UdOk (u : Ud) : Prop := isPfx u.a u.l = true ∧ (u.o = 0 ∨ okE ⟨u.a, u.l, u.o⟩)
-- A closure that takes a change back: what it has captured.
def CloF (w : World) (bt : Nat) (f : Value) (u : Ud) (G : List Nat) : Prop := ∃ bb bp bo, f = .func (.func 44) #[] #[ptrV bb, ptrV bp, ptrV bo] ∧
  w.heap[bb]? = some (.cells #[ptrV bt] 95 (0, 0)) ∧ w.heap[bp]? = some (.cells #[.int .i64 u.a, .int .i64 u.l] 54 (0, 0)) ∧ w.heap[bo]? = some (.cells #[.int .i64 u.o] 3 (0, 0)) ∧ G = [bb, bp, bo]
def CloS (w : World) (bt : Nat) : List Value → List Ud → List Nat → Prop
  | [], [], G => G = []
  | f :: fs, u :: us, G => ∃ G1 G2, CloF w bt f u G1 ∧ CloS w bt fs us G2 ∧ G = G1 ++ G2
  | _, _, _ => False
theorem CloF.kept {w w' : World} {bt : Nat} {f : Value} {u : Ud} {G : List Nat} (h : CloF w bt f u G) (hk : ∀ k ∈ G, w'.heap[k]? = w.heap[k]?) : CloF w' bt f u G := by
  obtain ⟨bb, bp, bo, h1, h2, h3, h4, rfl⟩ := h
  exact ⟨bb, bp, bo, h1, (hk bb (by simp)).trans h2, (hk bp (by simp)).trans h3, (hk bo (by simp)).trans h4, rfl⟩
theorem CloF.lt {w : World} {bt : Nat} {f : Value} {u : Ud} {G : List Nat} (h : CloF w bt f u G) : ∀ k ∈ G, k < w.heap.size := by
  obtain ⟨bb, bp, bo, h1, h2, h3, h4, rfl⟩ := h
  intro k hk
  simp at hk
  rcases hk with rfl | rfl | rfl
  · exact (Array.getElem?_eq_some_iff.1 h2).1
  · exact (Array.getElem?_eq_some_iff.1 h3).1
  · exact (Array.getElem?_eq_some_iff.1 h4).1
theorem CloS.kept {w w' : World} {bt : Nat} : ∀ {fs : List Value} {us : List Ud} {G : List Nat}, CloS w bt fs us G → (∀ k ∈ G, w'.heap[k]? = w.heap[k]?) → CloS w' bt fs us G
  | [], [], _, h, _ => h
  | _ :: _, _ :: _, _, ⟨G1, G2, h1, h2, rfl⟩, hk => ⟨G1, G2, h1.kept fun k hk' => hk k (by simp [hk']), h2.kept fun k hk' => hk k (by simp [hk']), rfl⟩
theorem CloS.lt {w : World} {bt : Nat} : ∀ {fs : List Value} {us : List Ud} {G : List Nat}, CloS w bt fs us G → ∀ k ∈ G, k < w.heap.size
  | [], [], _, h, k, hk => by rw [show _ = [] from h] at hk; cases hk
  | _ :: _, _ :: _, _, ⟨G1, G2, h1, h2, rfl⟩, k, hk => by
    rcases List.mem_append.1 hk with hk | hk
    · exact h1.lt k hk
    · exact h2.lt k hk
theorem CloS.snoc {w : World} {bt : Nat} {f : Value} {u : Ud} {G1 : List Nat} (hf : CloF w bt f u G1) : ∀ {fs : List Value} {us : List Ud} {G : List Nat}, CloS w bt fs us G → CloS w bt (fs ++ [f]) (us ++ [u]) (G ++ G1)
  | [], [], _, h => by rw [show _ = [] from h]; exact ⟨G1, [], hf, rfl, by simp⟩
  | _ :: _, _ :: _, _, ⟨H1, H2, h1, h2, rfl⟩ => ⟨H1, H2 ++ G1, h1, h2.snoc hf, by simp⟩
theorem CloS.len {w : World} {bt : Nat} : ∀ {fs : List Value} {us : List Ud} {G : List Nat}, CloS w bt fs us G → fs.length = us.length
  | [], [], _, _ => rfl
  | _ :: _, _ :: _, _, ⟨_, _, _, h2, _⟩ => by simp [h2.len]
theorem CloS.one {w : World} {bt : Nat} : ∀ {fs : List Value} {us : List Ud} {G : List Nat}, CloS w bt fs us G → ∀ f ∈ fs, f.oneCell' = true
  | [], [], _, _, f, hf => by cases hf
  | _ :: _, _ :: _, _, ⟨_, _, h1, h2, _⟩, f, hf => by
    rcases List.mem_cons.1 hf with rfl | hf
    · obtain ⟨bb, bp, bo, rfl, _⟩ := h1; rfl
    · exact h2.one f hf

-- THE BATCH: its engine, the closures. G: its blocks.
def BatchF (w : World) (bt : Nat) (e : Value) (us : List Ud) (G : List Nat) : Prop := ∃ v fs Gc, w.heap[bt]? = some (.cells #[e, v] 75 (0, 0)) ∧ RowG 1 1 w v us.length fs ∧ CloS w bt fs us Gc ∧
  bt ∉ Gc ∧ (∀ g, v.ownBlock = some g → g ≠ bt ∧ g ∉ Gc) ∧ G = bt :: (v.ownBlock.toList ++ Gc)
theorem BatchF.kept {w w' : World} {bt : Nat} {e : Value} {us : List Ud} {G : List Nat} (h : BatchF w bt e us G) (hk : ∀ k ∈ G, w'.heap[k]? = w.heap[k]?) : BatchF w' bt e us G := by
  obtain ⟨v, fs, Gc, h1, h2, h3, h4, h5, rfl⟩ := h
  exact ⟨v, fs, Gc, (hk bt (by simp)).trans h1, h2.kept fun g hg => hk g (by simp [hg]), h3.kept fun k hk' => hk k (by simp [hk']), h4, h5, rfl⟩
theorem BatchF.lt {w : World} {bt : Nat} {e : Value} {us : List Ud} {G : List Nat} (h : BatchF w bt e us G) : ∀ k ∈ G, k < w.heap.size := by
  obtain ⟨v, fs, Gc, h1, h2, h3, h4, h5, rfl⟩ := h
  intro k hk
  simp at hk
  rcases hk with rfl | hk | hk
  · exact (Array.getElem?_eq_some_iff.1 h1).1
  · exact h2.lt k hk
  · exact h3.lt k hk
theorem BatchF.later {w w' : World} {bt : Nat} {e : Value} {us : List Ud} {G : List Nat} (h : BatchF w bt e us G) (hB : Below w.heap.size w w') : BatchF w' bt e us G := h.kept fun k hk => hB.block k (h.lt k hk)

def Disj (F G : List Nat) : Prop := ∀ k ∈ F, k ∉ G
theorem Disj.new {w : World} {F F' G : List Nat} (h : Disj F G) (hN : NewF w F F') (hG : ∀ k ∈ G, k < w.heap.size) : Disj F' G := fun k hk hg => by
  rcases hN k hk with h1 | h1
  · exact h k h1 hg
  · have := hG k hg; omega

-- the closure, called
set_option maxHeartbeats 400000 in
theorem undo_any (bt : Nat) (e : Value) (us : List Ud) (G : List Nat) (f : Value) (u : Ud) (G1 : List Nat) (xs : List Ent) (F : List Nat) (w : World) (hb : BatchF w bt e us G) (hc : CloF w bt f u G1) (hE : EngF w e xs F) (hn : UdOk u) (hd : Disj F G) (hd1 : Disj F G1) :
    ∀ bb bp bo, f = .func (.func 44) #[] #[ptrV bb, ptrV bp, ptrV bo] →
    Calls Try.prog 44 #[ptrV bb, ptrV bp, ptrV bo] w fun r w' => (∃ F', EngF w' e (setE xs u.a u.l u.o) F' ∧ NewF w F F') ∧ Only F w w' ∧ r = .returned (.tuple #[]) := by
  intro bb bp bo hf
  obtain ⟨bb', bp', bo', hf', h1, h2, h3, rfl⟩ := hc
  rw [hf'] at hf
  cases hf
  obtain ⟨v, fs, Gc, hbt, _, _, _, _, rfl⟩ := hb
  have c0 : w.cell? ⟨bb, 0, none⟩ = some (ptrV bt) := by simp [World.cell?, h1]
  have c1 : w.cell? ⟨bt, 0, none⟩ = some e := by simp [World.cell?, hbt]
  have c2 : w.cell? ⟨bp, 0, none⟩ = some (.int .i64 u.a) := by simp [World.cell?, h2]
  have c3 : w.cell? ⟨bp, 1, none⟩ = some (.int .i64 u.l) := by simp [World.cell?, h2]
  have c4 : w.cell? ⟨bo, 0, none⟩ = some (.int .i64 u.o) := by simp [World.cell?, h3]
  have l0 := (Array.getElem?_eq_some_iff.1 h1).1
  have l1 := (Array.getElem?_eq_some_iff.1 hbt).1
  have l2 := (Array.getElem?_eq_some_iff.1 h2).1
  have l3 := (Array.getElem?_eq_some_iff.1 h3).1
  have n0 : bb ∉ F := fun h => hd1 _ h (by simp)
  have n1 : bt ∉ F := fun h => hd _ h (by simp)
  have n2 : bp ∉ F := fun h => hd1 _ h (by simp)
  have n3 : bo ∉ F := fun h => hd1 _ h (by simp)
  have hE1 : EngF w.drew e xs F := hE.later (Below.refl _ w).drew
  go_enter Try.func44, Try.ntmps44
  go_wp2
  go_region_held3 (fun w' => w'.cell? ⟨bb, 0, none⟩ = some (ptrV bt) ∧ w'.cell? ⟨bt, 0, none⟩ = some e ∧ w'.cell? ⟨bp, 0, none⟩ = some (.int .i64 u.a) ∧ w'.cell? ⟨bp, 1, none⟩ = some (.int .i64 u.l) ∧ w'.cell? ⟨bo, 0, none⟩ = some (.int .i64 u.o)) (go_keep)
    (first
      | (go_at_call 43; refine (set_any e xs F _ _ _ _ hE1 hn.1 hn.2).mono ?_; rintro _ w2 ⟨hF2, hO, rfl⟩; (have k0 : ∀ o, w2.cell? ⟨bb, o, none⟩ = w.cell? ⟨bb, o, none⟩ := fun o => hO.cell l0 n0); (have k1 : ∀ o, w2.cell? ⟨bt, o, none⟩ = w.cell? ⟨bt, o, none⟩ := fun o => hO.cell l1 n1); (have k2 : ∀ o, w2.cell? ⟨bp, o, none⟩ = w.cell? ⟨bp, o, none⟩ := fun o => hO.cell l2 n2); (have k3 : ∀ o, w2.cell? ⟨bo, o, none⟩ = w.cell? ⟨bo, o, none⟩ := fun o => hO.cell l3 n3)))
  have fin := hide (show (∃ F', EngF w2 e (setE xs u.a u.l u.o) F' ∧ NewF w F F') ∧ Only F w w2 from ⟨hF2, (Only.of_below _ (Below.refl _ w).drew).trans hO (fun x hx => .inl hx)⟩)
  clear hF2 hO k0 k1 k2 k3
  go_wp2
  go_end0
  exact ⟨fin.out.1, fin.out.2, rfl⟩

end Go.Proofs.Ytkihifodifkieaa
