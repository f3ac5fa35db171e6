import Derived.Test.YtkihifodifkieaaTrc
namespace Go.Proofs.Ytkihifodifkieaa
open Go.RowKit Go.Shelf

-- AN ENGINE: the value that the interface holds.
def EngF (w : World) (e : Value) (xs : List Ent) (F : List Nat) : Prop :=
  Sorted xs ∧ (∀ x ∈ xs, okE x) ∧ ∃ T p, e = .iface T (ptrV p) ∧ ((T = 63 ∧ ListF w p xs F) ∨ (T = 65 ∧ TrieF w p xs F) ∨ (T = 67 ∧ RangesF w p xs F))
theorem EngF.lt {w : World} {e : Value} {xs : List Ent} {F : List Nat} (h : EngF w e xs F) : ∀ k ∈ F, k < w.heap.size := by
  obtain ⟨_, _, T, p, _, (⟨_, h⟩ | ⟨_, h⟩ | ⟨_, h⟩)⟩ := h <;> exact h.lt
theorem EngF.cells {w : World} {e : Value} {xs : List Ent} {F : List Nat} (h : EngF w e xs F) : ∀ k ∈ F, ∃ o, w.heap[k]? = some o ∧ o.isCells = true := by
  obtain ⟨_, _, T, p, _, (⟨_, h⟩ | ⟨_, h⟩ | ⟨_, h⟩)⟩ := h <;> exact h.cells
theorem EngF.kept {w w' : World} {e : Value} {xs : List Ent} {F : List Nat} (h : EngF w e xs F) (hk : ∀ k ∈ F, w'.heap[k]? = w.heap[k]?) : EngF w' e xs F := by
  obtain ⟨h1, h2, T, p, h3, (⟨h4, h⟩ | ⟨h4, h⟩ | ⟨h4, h⟩)⟩ := h
  · exact ⟨h1, h2, T, p, h3, .inl ⟨h4, h.kept hk⟩⟩
  · exact ⟨h1, h2, T, p, h3, .inr (.inl ⟨h4, h.kept hk⟩)⟩
  · exact ⟨h1, h2, T, p, h3, .inr (.inr ⟨h4, h.kept hk⟩)⟩
theorem EngF.later {w w' : World} {e : Value} {xs : List Ent} {F : List Nat} (h : EngF w e xs F) (hB : Below w.heap.size w w') : EngF w' e xs F := h.kept fun k hk => hB.block k (h.lt k hk)
theorem EngF.sorted {w : World} {e : Value} {xs : List Ent} {F : List Nat} (h : EngF w e xs F) : Sorted xs := h.1
theorem EngF.ok {w : World} {e : Value} {xs : List Ent} {F : List Nat} (h : EngF w e xs F) : ∀ x ∈ xs, okE x := h.2.1

-- which engine it is, and how many cells routes need there
def kindE (e : Value) : Int := match e with
  | .iface T _ => if T = 63 then 1 else if T = 65 then 2 else 3
  | _ => 0
def needK (k : Int) (xs : List Ent) : Int := if k = 1 then xs.length else if k = 2 then trieN xs else xs.length + (strL xs).length
theorem needK_bd {k : Int} {xs : List Ent} (hs : Sorted xs) (hk : ∀ x ∈ xs, okE x) : 0 ≤ needK k xs ∧ needK k xs ≤ 10000 := by
  have h1 := ok_len hs hk
  have h2 := trieN_bd xs
  have h3 : (strL xs).length ≤ 256 := strN_len xs 256
  unfold needK
  split
  · omega
  · split <;> omega

-- a method of it: the function, and that it is entered
structure Meth (T p : Nat) (s : String) (f : Nat) : Prop where
  m : ∀ w, (method 262 T (ptrV p) s).run Try.prog w = .ok (f, ptrV p) w
  n : ∀ w, (nilAhead 262 T (ptrV p) s).run Try.prog w = .ok (some false) w
  c : ∀ args w, (callFunc f args).run Try.prog w = .ok (.enter f args) w

-- what an engine's methods do
structure EngD (e : Value) (T p fl ft fc : Nat) : Prop where
  eq : e = .iface T (ptrV p)
  ml : Meth T p "Lay" fl
  mt : Meth T p "Take" ft
  mc : Meth T p "Cells" fc
  lay : ∀ w xs F a l n, EngF w e xs F → okE ⟨a, l, n⟩ → Calls Try.prog fl #[ptrV p, rteV a l n] w fun r w' => (∃ F', EngF w' e (putE xs a l n) F' ∧ NewF w F F') ∧ Only F w w' ∧ r = .returned (.int .i64 (orZ (getE xs a l)))
  take : ∀ w xs F a l, EngF w e xs F → isPfx a l = true → Calls Try.prog ft #[ptrV p, pfxV a l] w fun r w' => (∃ F', EngF w' e (delE xs a l) F' ∧ NewF w F F') ∧ Only F w w' ∧ r = .returned (.int .i64 (orZ (getE xs a l)))
  cells : ∀ w xs F, EngF w e xs F → Calls Try.prog fc #[ptrV p] w fun r w' => Below w.heap.size w w' ∧ r = .returned (.int .i64 (needK (kindE e) xs))

theorem ml_l (p : Nat) : Meth 63 p "Lay" 89 := ⟨fun _ => by kernel_rfl, fun _ => by kernel_rfl, fun _ _ => by kernel_rfl⟩
theorem ml_t (p : Nat) : Meth 63 p "Take" 90 := ⟨fun _ => by kernel_rfl, fun _ => by kernel_rfl, fun _ _ => by kernel_rfl⟩
theorem ml_c (p : Nat) : Meth 63 p "Cells" 87 := ⟨fun _ => by kernel_rfl, fun _ => by kernel_rfl, fun _ _ => by kernel_rfl⟩
theorem mt_l (p : Nat) : Meth 65 p "Lay" 104 := ⟨fun _ => by kernel_rfl, fun _ => by kernel_rfl, fun _ _ => by kernel_rfl⟩
theorem mt_t (p : Nat) : Meth 65 p "Take" 105 := ⟨fun _ => by kernel_rfl, fun _ => by kernel_rfl, fun _ _ => by kernel_rfl⟩
theorem mt_c (p : Nat) : Meth 65 p "Cells" 102 := ⟨fun _ => by kernel_rfl, fun _ => by kernel_rfl, fun _ _ => by kernel_rfl⟩
theorem mr_l (p : Nat) : Meth 67 p "Lay" 113 := ⟨fun _ => by kernel_rfl, fun _ => by kernel_rfl, fun _ _ => by kernel_rfl⟩
theorem mr_t (p : Nat) : Meth 67 p "Take" 114 := ⟨fun _ => by kernel_rfl, fun _ => by kernel_rfl, fun _ _ => by kernel_rfl⟩
theorem mr_c (p : Nat) : Meth 67 p "Cells" 111 := ⟨fun _ => by kernel_rfl, fun _ => by kernel_rfl, fun _ _ => by kernel_rfl⟩

-- an engine of a kind stays of its kind
theorem EngF.list {w : World} {p : Nat} {xs : List Ent} {F : List Nat} (h : EngF w (.iface 63 (ptrV p)) xs F) : Sorted xs ∧ (∀ x ∈ xs, okE x) ∧ ListF w p xs F := by
  obtain ⟨h1, h2, T, q, he, h⟩ := h
  cases he
  rcases h with ⟨_, h⟩ | ⟨h3, _⟩ | ⟨h3, _⟩
  · exact ⟨h1, h2, h⟩
  · exact absurd h3 (by decide)
  · exact absurd h3 (by decide)
theorem EngF.trie {w : World} {p : Nat} {xs : List Ent} {F : List Nat} (h : EngF w (.iface 65 (ptrV p)) xs F) : Sorted xs ∧ (∀ x ∈ xs, okE x) ∧ TrieF w p xs F := by
  obtain ⟨h1, h2, T, q, he, h⟩ := h
  cases he
  rcases h with ⟨h3, _⟩ | ⟨_, h⟩ | ⟨h3, _⟩
  · exact absurd h3 (by decide)
  · exact ⟨h1, h2, h⟩
  · exact absurd h3 (by decide)
theorem EngF.ranges {w : World} {p : Nat} {xs : List Ent} {F : List Nat} (h : EngF w (.iface 67 (ptrV p)) xs F) : Sorted xs ∧ (∀ x ∈ xs, okE x) ∧ RangesF w p xs F := by
  obtain ⟨h1, h2, T, q, he, h⟩ := h
  cases he
  rcases h with ⟨h3, _⟩ | ⟨h3, _⟩ | ⟨_, h⟩
  · exact absurd h3 (by decide)
  · exact absurd h3 (by decide)
  · exact ⟨h1, h2, h⟩
theorem EngF.mkL {w : World} {p : Nat} {xs : List Ent} {F : List Nat} (h1 : Sorted xs) (h2 : ∀ x ∈ xs, okE x) (h : ListF w p xs F) : EngF w (.iface 63 (ptrV p)) xs F := ⟨h1, h2, _, _, rfl, .inl ⟨rfl, h⟩⟩
theorem EngF.mkT {w : World} {p : Nat} {xs : List Ent} {F : List Nat} (h1 : Sorted xs) (h2 : ∀ x ∈ xs, okE x) (h : TrieF w p xs F) : EngF w (.iface 65 (ptrV p)) xs F := ⟨h1, h2, _, _, rfl, .inr (.inl ⟨rfl, h⟩)⟩
theorem EngF.mkR {w : World} {p : Nat} {xs : List Ent} {F : List Nat} (h1 : Sorted xs) (h2 : ∀ x ∈ xs, okE x) (h : RangesF w p xs F) : EngF w (.iface 67 (ptrV p)) xs F := ⟨h1, h2, _, _, rfl, .inr (.inr ⟨rfl, h⟩)⟩

theorem engD_list (p : Nat) : EngD (.iface 63 (ptrV p)) 63 p 89 90 87 := by
  refine ⟨rfl, ml_l p, ml_t p, ml_c p, fun w xs F a l n h hr => ?_, fun w xs F a l h _ => ?_, fun w xs F h => ?_⟩
  · obtain ⟨h1, h2, h3⟩ := h.list
    refine (lstLay_any p xs F a l n w h3 h2).mono ?_
    rintro _ w' ⟨⟨F', g1, g2⟩, g3, g4⟩
    exact ⟨⟨F', .mkL (putE_sorted h1) (ok_put h2 hr) g1, g2⟩, g3, g4⟩
  · obtain ⟨h1, h2, h3⟩ := h.list
    refine (lstTake_any p xs F a l w h3).mono ?_
    rintro _ w' ⟨⟨F', g1, g2⟩, g3, g4⟩
    exact ⟨⟨F', .mkL (delE_sorted h1) (ok_del h2) g1, g2⟩, g3, g4⟩
  · obtain ⟨h1, h2, h3⟩ := h.list
    refine (lstCells_any p xs F w h3).mono ?_
    rintro _ w' ⟨rfl, rfl⟩
    exact ⟨Below.refl _ _, rfl⟩
theorem engD_trie (p : Nat) : EngD (.iface 65 (ptrV p)) 65 p 104 105 102 := by
  refine ⟨rfl, mt_l p, mt_t p, mt_c p, fun w xs F a l n h hr => ?_, fun w xs F a l h hp => ?_, fun w xs F h => ?_⟩
  · obtain ⟨h1, h2, h3⟩ := h.trie
    refine (trLay_any p xs F a l n w h3 h1 h2 hr).mono ?_
    rintro _ w' ⟨⟨F', g1, g2⟩, g3, g4⟩
    exact ⟨⟨F', .mkT (putE_sorted h1) (ok_put h2 hr) g1, g2⟩, g3, g4⟩
  · obtain ⟨h1, h2, h3⟩ := h.trie
    refine (trTake_any p xs F a l w h3 h1 h2 hp).mono ?_
    rintro _ w' ⟨⟨F', g1, g2⟩, g3, g4⟩
    exact ⟨⟨F', .mkT (delE_sorted h1) (ok_del h2) g1, g2⟩, g3, g4⟩
  · obtain ⟨h1, h2, h3⟩ := h.trie
    refine (trCells_any p xs F w h3 h1 h2).mono ?_
    rintro _ w' ⟨rfl, rfl⟩
    exact ⟨Below.refl _ _, rfl⟩
theorem engD_ranges (p : Nat) : EngD (.iface 67 (ptrV p)) 67 p 113 114 111 := by
  refine ⟨rfl, mr_l p, mr_t p, mr_c p, fun w xs F a l n h hr => ?_, fun w xs F a l h hp => ?_, fun w xs F h => ?_⟩
  · obtain ⟨h1, h2, h3⟩ := h.ranges
    refine (rgsLay_any p xs F a l n w h3 h2 hr.1).mono ?_
    rintro _ w' ⟨⟨F', g1, g2⟩, g3, g4⟩
    exact ⟨⟨F', .mkR (putE_sorted h1) (ok_put h2 hr) g1, g2⟩, g3, g4⟩
  · obtain ⟨h1, h2, h3⟩ := h.ranges
    refine (rgsTake_any p xs F a l w h3 hp).mono ?_
    rintro _ w' ⟨⟨F', g1, g2⟩, g3, g4⟩
    exact ⟨⟨F', .mkR (delE_sorted h1) (ok_del h2) g1, g2⟩, g3, g4⟩
  · obtain ⟨h1, h2, h3⟩ := h.ranges
    exact rgsCells_any p xs F w h3 h2
theorem EngF.disp {w : World} {e : Value} {xs : List Ent} {F : List Nat} (h : EngF w e xs F) : ∃ T p fl ft fc, EngD e T p fl ft fc := by
  obtain ⟨_, _, T, p, rfl, (⟨rfl, _⟩ | ⟨rfl, _⟩ | ⟨rfl, _⟩)⟩ := h
  · exact ⟨_, _, _, _, _, engD_list p⟩
  · exact ⟨_, _, _, _, _, engD_trie p⟩
  · exact ⟨_, _, _, _, _, engD_ranges p⟩

-- what Set makes of the routes
def setE (xs : List Ent) (a l n : Int) : List Ent := if n = 0 then delE xs a l else putE xs a l n

set_option maxHeartbeats 400000 in
theorem set_take (e : Value) (xs : List Ent) (F : List Nat) (a l : Int) (w : World) (hE : EngF w e xs F) (hp : isPfx a l = true) :
    Calls Try.prog 43 #[e, pfxV a l, .int .i64 0] w fun r w' => (∃ F', EngF w' e (delE xs a l) F' ∧ NewF w F F') ∧ Only F w w' ∧ r = .returned (.int .i64 (orZ (getE xs a l))) := by
  obtain ⟨T, p, fl, ft, fc, D⟩ := hE.disp
  have hB1 : Below w.heap.size w (w.alloc (Obj.cells #[.int .i64 a, .int .i64 l] 54)) := (Below.refl _ w).alloc (Nat.le_refl _) _
  have htk := hide (D.take _ xs F a l (hE.later hB1) hp)
  have mt := D.mt.m
  have ct := D.mt.c
  have eq := D.eq
  have fin := hide (show ∀ w2, (∃ F', EngF w2 e (delE xs a l) F' ∧ NewF (w.alloc (Obj.cells #[.int .i64 a, .int .i64 l] 54)) F F') → Only F (w.alloc (Obj.cells #[.int .i64 a, .int .i64 l] 54)) w2 → (∃ F', EngF w2 e (delE xs a l) F' ∧ NewF w F F') ∧ Only F w w2 from by
    rintro w2 ⟨F', h1, h2⟩ hO
    exact ⟨⟨F', h1, fun k hk => (h2 k hk).imp id (fun h => by have := hB1.size; omega)⟩, (Only.of_below _ hB1).trans hO (fun x hx => .inl hx)⟩)
  clear D hE hB1
  subst eq
  go_enter Try.func43, Try.ntmps43
  go_wp2_with fail
  refine htk.out.mono ?_
  rintro _ w2 ⟨h1, h2, rfl⟩
  have fin2 := hide (fin.out w2 h1 h2)
  clear h1 h2 fin htk mt ct
  go_wp2
  go_ret
  exact ⟨fin2.out.1, fin2.out.2, rfl⟩

set_option maxRecDepth 4000 in
set_option maxHeartbeats 400000 in
theorem set_lay (e : Value) (xs : List Ent) (F : List Nat) (a l n : Int) (w : World) (hE : EngF w e xs F) (hn : okE ⟨a, l, n⟩) :
    Calls Try.prog 43 #[e, pfxV a l, .int .i64 n] w fun r w' => (∃ F', EngF w' e (putE xs a l n) F' ∧ NewF w F F') ∧ Only F w w' ∧ r = .returned (.int .i64 (orZ (getE xs a l))) := by
  obtain ⟨T, p, fl, ft, fc, D⟩ := hE.disp
  have hn0 : (n == 0) = false := by have h : 1 ≤ n := hn.2.1; simp; omega
  have ml := D.ml.m
  have nl := D.ml.n
  have cl := D.ml.c
  have eq := D.eq
  have Hlay := hide (fun W (hW : Below w.heap.size w W) => D.lay W xs F a l n (hE.later hW) hn)
  have hB1 : Below w.heap.size w (w.alloc (Obj.cells #[.int .i64 a, .int .i64 l] 54)).drew := ((Below.refl _ w).alloc (Nat.le_refl _) _).drew
  have hFl := hE.lt
  have hwF : w.heap.size ∉ F := fun h => by have := hFl _ h; omega
  have fin := hide (show ∀ w1 w2, Below w.heap.size w w1 → (∃ F', EngF w2 e (putE xs a l n) F' ∧ NewF w1 F F') → Only F w1 w2 → (∃ F', EngF w2 e (putE xs a l n) F' ∧ NewF w F F') ∧ Only F w w2 from by
    rintro w1 w2 hB1 ⟨F', h1, h2⟩ hO
    exact ⟨⟨F', h1, fun k hk => (h2 k hk).imp id (fun h => by have := hB1.size; omega)⟩, (Only.of_below _ hB1).trans hO (fun x hx => .inl hx)⟩)
  clear D hE hFl
  subst eq
  go_enter Try.func43, Try.ntmps43
  go_wp2
  go_region_held3 (fun w' => w'.cell? ⟨w.heap.size, 0, none⟩ = some (.int .i64 a) ∧ w'.cell? ⟨w.heap.size, 1, none⟩ = some (.int .i64 l)) (go_keep)
    (first
      | (go_at_call 53; refine (route_any _ _ _ _).mono ?_; rintro _ w1 ⟨rfl, hb⟩; have hc := (bcell hb).1; (have hB2 : Below w.heap.size w w1 := hB1.trans (hb.mono (by simp))); (have hz1 : w.heap.size < w1.heap.size := by have := hb.size; simp at this; omega))
      | (refine (Hlay.out _ hB2).mono ?_; rintro _ w2 ⟨hF2, hO, rfl⟩; (have hc2 : ∀ o, w2.cell? ⟨w.heap.size, o, none⟩ = w1.cell? ⟨w.heap.size, o, none⟩ := fun o => hO.cell hz1 hwF)))
  all_goals
    have fin2 := hide (fin.out w1 w2 hB2 hF2 hO)
    clear hF2 hO hB1 hB2 hc hc2 hb fin Hlay
    go_wp2
    go_ret
    exact ⟨fin2.out.1, fin2.out.2, rfl⟩

theorem set_any (e : Value) (xs : List Ent) (F : List Nat) (a l n : Int) (w : World) (hE : EngF w e xs F) (hp : isPfx a l = true) (hn : n = 0 ∨ okE ⟨a, l, n⟩) :
    Calls Try.prog 43 #[e, pfxV a l, .int .i64 n] w fun r w' => (∃ F', EngF w' e (setE xs a l n) F' ∧ NewF w F F') ∧ Only F w w' ∧ r = .returned (.int .i64 (orZ (getE xs a l))) := by
  by_cases h : n = 0
  · subst h
    have := set_take e xs F a l w hE hp
    simpa [setE] using this
  · have := set_lay e xs F a l n w hE (hn.resolve_left h)
    simpa [setE, h] using this

-- a footprint is told by memory
theorem ListF.uniq {w : World} {p : Nat} {xs ys : List Ent} {F G : List Nat} (h : ListF w p xs F) (k : ListF w p ys G) : F = G := by
  obtain ⟨st, Fs, h1, ⟨v, hS, rfl⟩, _, rfl⟩ := h
  obtain ⟨st', Fs', h1', ⟨v', hS', rfl⟩, _, rfl⟩ := k
  rw [h1] at h1'
  cases h1'
  have := hS.1.symm.trans hS'.1
  cases this
  rfl
theorem ptrO_inj {a b : Option Nat} (h : ptrO a = ptrO b) : a = b := by
  cases a with
  | none =>
    cases b with
    | none => rfl
    | some b => cases h
  | some a =>
    cases b with
    | none => cases h
    | some b => cases h; rfl
theorem TrM.uniq {w : World} {B B' : Nat → Option Nat} {v v' : Nat → Int} (h : TrM w B v) (h' : TrM w B' v') (h1 : B 1 = B' 1) : ∀ n c, c < n → 1 ≤ c → B c = B' c := by
  intro n
  induction n with
  | zero => intro c hc; omega
  | succ n ih =>
    intro c hc hc1
    by_cases e1 : c = 1
    · rw [e1]; exact h1
    · have hp := ih (c / 2) (by omega) (by omega)
      cases hb : B (c / 2) with
      | none =>
        have hb' := hp ▸ hb
        have u := h.up (c / 2) (by omega) hb
        have u' := h'.up (c / 2) (by omega) hb'
        rcases (show c = 2 * (c / 2) ∨ c = 2 * (c / 2) + 1 by omega) with e | e
        · rw [e, u.1, u'.1]
        · rw [e, u.2, u'.2]
      | some b =>
        have hb' := hp ▸ hb
        have q := (h.node _ b hb).symm.trans (h'.node _ b hb')
        simp only [Option.some.injEq, Obj.cells.injEq] at q
        have q1 := congrArg Array.toList q.1
        simp at q1
        rcases (show c = 2 * (c / 2) ∨ c = 2 * (c / 2) + 1 by omega) with e | e
        · rw [e]; exact ptrO_inj q1.2.1
        · rw [e]; exact ptrO_inj q1.2.2
theorem TrieF.uniq {w : World} {p : Nat} {xs ys : List Ent} {F G : List Nat} (h : TrieF w p xs F) (k : TrieF w p ys G) : ∀ x, x ∈ F → x ∈ G := by
  obtain ⟨B, h1, h2, _, h4⟩ := h
  obtain ⟨B', k1, k2, _, k4⟩ := k
  intro x hx
  obtain ⟨c, hc⟩ := (h4 x).1 hx
  have := h1.uniq k1 (h2.trans k2.symm) (c + 1) c (by omega) (h1.dom c x hc).1
  exact (k4 x).2 ⟨c, by rw [← this]; exact hc⟩
theorem RangesF.uniq {w : World} {p : Nat} {xs ys : List Ent} {F G : List Nat} (h : RangesF w p xs F) (k : RangesF w p ys G) : F = G := by
  obtain ⟨lp, sp, F1, F2, h1, rfl⟩ := h
  obtain ⟨lp', sp', G1, G2, k1, rfl⟩ := k
  have := h1.blk.symm.trans k1.blk
  cases this
  rw [h1.lst.uniq k1.lst]
  obtain ⟨v, hS, rfl⟩ := h1.str
  obtain ⟨v', hS', rfl⟩ := k1.str
  have := hS.1.symm.trans hS'.1
  cases this
  rfl
theorem EngF.uniq {w : World} {e : Value} {xs ys : List Ent} {F G : List Nat} (h : EngF w e xs F) (k : EngF w e ys G) : ∀ x, x ∈ F → x ∈ G := by
  obtain ⟨_, _, T, p, rfl, (⟨rfl, h⟩ | ⟨rfl, h⟩ | ⟨rfl, h⟩)⟩ := h
  · rw [h.uniq k.list.2.2]; exact fun _ h => h
  · exact h.uniq k.trie.2.2
  · rw [h.uniq k.ranges.2.2]; exact fun _ h => h

end Go.Proofs.Ytkihifodifkieaa
