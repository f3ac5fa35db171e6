import Derived.Test.YtfioeangigicfaaRng
namespace Go.Proofs.Ytfioeangigicfaa
open Go.RowKit Go.Shelf

attribute [local go_sem] Oper.semAt_some

-- the blocks of F are nobody's own and lie as they lay
def Safe (Own : World → Nat → Prop) (F : List Nat) (W W' : World) : Prop := ∀ k ∈ F, ¬ Own W' k ∧ W'.heap[k]? = W.heap[k]?
theorem Safe.soft {Own : World → Nat → Prop} {F : List Nat} {B : Nat} {W W' W'' : World} (h : Safe Own F W W') (hF : ∀ k ∈ F, ∃ o, W.heap[k]? = some o ∧ o.isCells = true) (hs : Soft B W' W'') (hO : ∀ k, Own W'' k → Own W' k) : Safe Own F W W'' := fun k hk => by
  obtain ⟨h1, h2⟩ := h k hk
  obtain ⟨o, ho, hc⟩ := hF k hk
  exact ⟨fun h3 => h1 (hO k h3), (hs.block k o (h2.trans ho) (.inr hc)).trans ho.symm⟩
theorem Safe.own {Own : World → Nat → Prop} {F : List Nat} {W W' W'' : World} (h : Safe Own F W W') (hF : ∀ k ∈ F, ∃ o, W.heap[k]? = some o ∧ o.isCells = true) (hs : KOwn Own W' W'') : Safe Own F W W'' := fun k hk => by
  obtain ⟨h1, h2⟩ := h k hk
  obtain ⟨o, ho, hc⟩ := hF k hk
  obtain ⟨h3, h4⟩ := hs.2 k o (h2.trans ho) hc h1
  exact ⟨h4, h3.trans ho.symm⟩
theorem StoreF.cells {w : World} {st : Nat} {xs : List Ent} {F : List Nat} (h : StoreF w st xs F) : ∀ k ∈ F, ∃ o, w.heap[k]? = some o ∧ o.isCells = true := by
  obtain ⟨v, hS, rfl⟩ := h
  intro k hk
  rcases List.mem_cons.1 hk with rfl | hk
  · exact ⟨_, hS.1, rfl⟩
  · have hk' : v.ownBlock = some k := by simpa using hk
    rcases hS.2.1 with ⟨rfl, _⟩ | ⟨g, cap, sp, rfl, hg, _⟩
    · cases hk'
    · cases hk'; exact ⟨_, hg, rfl⟩

def fromE (xs : List Ent) (b m : Int) : List Ent := xs.filter fun x => !decide (klt x.a x.l b m)
theorem place_from {xs : List Ent} {b m : Int} : ∀ {i : Nat}, Place xs b m i → fromE xs b m = xs.drop i := by
  induction xs with
  | nil => intro i _; simp [fromE]
  | cons x xs ih =>
    intro i h
    cases i with
    | zero =>
      have h3 := h.2.2
      rw [List.drop_zero]
      exact List.filter_eq_self.2 fun y hy => by have := h3 y (by simpa using hy); simp only [this, decide_false, Bool.not_false]
    | succ i =>
      obtain ⟨hk, hp⟩ := h.cons
      rw [List.drop_succ_cons, ← ih hp]
      unfold fromE
      rw [List.filter_cons_of_neg (by simp [hk])]

abbrev encPN {p : Ent → Prop} (x : { x : Ent // p x }) : Array Value := #[pfxV x.1.a x.1.l, .int .i64 x.1.n]

set_option maxHeartbeats 1000000 in
theorem stoFrom1 (p : Ent → Prop) (st bs bk : Nat) (xs : List Ent) (F : List Nat) (b m : Int) (w0 : World) (hS : StoreF w0 st xs F) (hp : ∀ x ∈ xs, p x)
    (hbs : w0.cell? ⟨bs, 0, none⟩ = some (ptrV st)) (hk0 : w0.cell? ⟨bk, 0, none⟩ = some (.int .i64 b)) (hk1 : w0.cell? ⟨bk, 1, none⟩ = some (.int .i64 m)) :
    SeqF 91 #[ptrV bs, ptrV bk] (encPN (p := p)) F (fun ys => ys.map (·.1) = fromE xs b m) (fun pre => pre.map (·.1) <+: fromE xs b m) xs.length w0 := by
  intro l Own J Jx W hW hOF _ hJ hJx hY h0
  have hFc := hS.cells
  have hFl := hS.lt
  obtain ⟨v, hS0, hFv⟩ := hS
  have lbs := World.block_lt_of_cell? w0 _ hbs
  have lbk := World.block_lt_of_cell? w0 _ hk0
  simp only at lbs lbk
  have a0 := (hW.cell (p := ⟨bs, 0, none⟩) lbs).trans hbs
  have a1 := (hW.cell (p := ⟨bk, 0, none⟩) lbk).trans hk0
  have a2 := (hW.cell (p := ⟨bk, 1, none⟩) lbk).trans hk1
  have hSW := hS0.later hW
  refine callsIn_of_wp Try.func91 rfl trivial ?_ rfl
  simp only [Try.ntmps91, List.size_toArray, List.length_cons, List.length_nil, Nat.reduceAdd, Nat.reduceSub, Array.replicate_succ, Array.replicate_zero, List.push_toArray, List.append_toArray, List.nil_append, List.cons_append]
  gi_wp2_with fail
  refine ⟨trivial, (callsIn_wide.2 (find_any st v xs b m _ hSW)).mono ?_⟩
  rintro r w1 ⟨hB, i, hpl, rfl⟩
  have hfr := place_from hpl
  have hi := hpl.1
  have hlim := hS0.2.2.2.2
  have b0 := (hB.cell (p := ⟨bs, 0, none⟩) (by have := hW.size; show bs < _; omega)).trans a0
  have hS1 := hSW.later hB
  have c1 := hS1.c1
  obtain ⟨hJ1, hO1⟩ := hJ _ _ _ h0 (Soft.of_below hB)
  have hsafe : Safe Own F w1 w1 := fun k hk => ⟨fun h => hOF k hk (hO1 k h), rfl⟩
  have hFc1 : ∀ k ∈ F, ∃ o, w1.heap[k]? = some o ∧ o.isCells = true := fun k hk => by
    obtain ⟨o, ho, hc⟩ := hFc k hk
    exact ⟨o, ((hB.block k (by have := hFl k hk; have := hW.size; omega)).trans (hW.block k (hFl k hk))).trans ho, hc⟩
  by_cases hil : i < xs.length
  · obtain ⟨g, cap, hv⟩ : ∃ g cap, v = .slice (some ⟨g, 0, none⟩) xs.length cap := by
      rcases hS1.2.1 with ⟨_, rfl⟩ | ⟨g, cap, sp, rfl, _⟩
      · simp at hil
      · exact ⟨g, cap, rfl⟩
    subst hv
    have hx : EntsAt w1 g xs := RowAt.ents (cap := cap) (n := xs.length) hS1.2.1
    have hgF : g ∈ F := by rw [hFv]; simp [Value.ownBlock]
    clear hFv
    have hnc : xs.length ≤ cap := by
      rcases hS1.2.1 with ⟨h, _⟩ | ⟨g', cap', sp, h, _, _, h2, _⟩
      · cases h
      · cases h; exact h2
    have hcm : cap ≤ 9223372036854775807 := by
      rcases hS1.2.1 with ⟨h, _⟩ | ⟨g', cap', sp, h, _, _, _, h2⟩
      · cases h
      · cases h; unfold maxLen at h2; omega
    have hci : ¬ (cap = i) := by omega
    have i0 : (0 : Int) ≤ (i : Int) := by omega
    have i1 : (i : Int) ≤ (xs.length : Int) := by omega
    have HY := hide hY
    have HX := hide hx
    have HF := hide hFc1
    have HJ := hide hJ
    have HS := hide hsafe
    clear hY hx hS0 hSW hS1 hpl a0 a1 a2 hFc1 hFc hFl hJ hsafe hO1 hOF
    generalize hN : xs.length = N at *
    have HN := hide hN
    clear hN
    gi_wp2
    gi_loopw [21] (fun c wr => ∃ k : Nat, k ≤ N - i ∧ c = .int .i64 k ∧ (∃ ys : List { x : Ent // p x }, ys.map (·.1) = (xs.drop i).take k ∧ J ys wr) ∧ Hid (Safe Own F w1 wr)) (fun c _ => (N - i) - (intOf c).toNat)
    case atStart => exact ⟨0, Nat.zero_le _, rfl, ⟨[], by simp, hJ1⟩, HS⟩
    case round =>
      obtain ⟨k, hk, rfl, ⟨ys, hys, hJs⟩, hKF⟩ := hrel
      by_cases hlt : k < N - i
      · obtain ⟨x0, x1, x2⟩ := HX.out (i + k) (by rw [HN.out]; omega)
        have hxm : xs[i + k]?.getD Ent.z ∈ xs := by
          rw [getD_mem (by rw [HN.out]; omega)]
          exact List.getElem_mem _
        have hpx := hp _ hxm
        have htk : (xs.drop i).take (k + 1) = (xs.drop i).take k ++ [xs[i + k]?.getD Ent.z] := by
          rw [List.take_succ_eq_append_getElem (by rw [List.length_drop, HN.out]; omega), getD_mem (by rw [HN.out]; omega), List.getElem_drop]
        have hgb := (hKF.out g hgF).2
        have y0 : wr.cell? ⟨g, i * 3 + k * 3, none⟩ = some (.int .i64 (xs[i + k]?.getD Ent.z).a) := by rw [← Nat.add_mul]; exact (World.cell?_of_block (a := ⟨g, (i + k) * 3, none⟩) hgb).trans x0
        have y1 : wr.cell? ⟨g, i * 3 + k * 3 + 1, none⟩ = some (.int .i64 (xs[i + k]?.getD Ent.z).l) := by rw [← Nat.add_mul]; exact (World.cell?_of_block (a := ⟨g, (i + k) * 3 + 1, none⟩) hgb).trans x1
        have y2 : wr.cell? ⟨g, i * 3 + k * 3 + 2, none⟩ = some (.int .i64 (xs[i + k]?.getD Ent.z).n) := by rw [← Nat.add_mul]; exact (World.cell?_of_block (a := ⟨g, (i + k) * 3 + 2, none⟩) hgb).trans x2
        have hlen : ys.length < N := by have := congrArg List.length hys; rw [List.length_map, List.length_take, List.length_drop, HN.out] at this; omega
        have Htk := hide htk
        have Hys := hide hys
        have Hxm := hide hxm
        clear htk hys hxm x0 x1 x2
        generalize xs[i + k]?.getD Ent.z = y at *
        have hBa : Below wr.heap.size wr (wr.alloc (Obj.cells #[.int .i64 y.a, .int .i64 y.l, .int .i64 y.n] 138)) := (Below.refl _ wr).alloc (Nat.le_refl _) _
        obtain ⟨hJa, hOa⟩ := HJ.out _ _ _ hJs (Soft.of_below hBa)
        have hSa := hide (hKF.out.soft HF.out (Soft.of_below (B := 0) hBa) hOa)
        obtain ⟨fn, tmps, assign, body, hy, hR⟩ := HY.out ys ⟨y, hpx⟩ _ hJa hlen
        clear hJa hOa

        have j0 : (0 : Int) ≤ (k : Int) := by omega
        have j1 : (k : Int) < ((N - i : Nat) : Int) := by omega
        gi_wp2
        refine hR.mono ?_
        rintro e W3 (⟨rfl, hJ3, hk3, _⟩ | ⟨rfl, hJx3, _⟩)
        · have hKa := hide (hSa.out.own HF.out hk3)
          clear hR hy hk3 hBa hgb y0 y1 y2 hKF
          gi_wp2
          go_roundw
          case rel => exact ⟨k + 1, by omega, by go_num, ⟨ys ++ [⟨y, hpx⟩], by rw [List.map_append, Hys.out, Htk.out]; rfl, hJ3⟩, hKa⟩
          case measure => simp [intOf]; omega
        · clear hR hy hBa hgb y0 y1 y2 hKF
          gi_wp2
          refine bodyPost_ret (results_none rfl _ _ _) rfl ?_
          exact ⟨⟨_, rfl⟩, .inr ⟨ys ++ [⟨y, hpx⟩], by rw [hfr, List.map_append, Hys.out]; show List.take k (List.drop i xs) ++ [y] <+: _; rw [← Htk.out]; exact List.take_prefix _ _, hJx3⟩⟩
      · obtain rfl : k = N - i := by omega
        have fin : Hid ((∃ ys : List { x : Ent // p x }, ys.map (·.1) = fromE xs b m ∧ J ys wr) ∨ (∃ pre : List { x : Ent // p x }, pre.map (·.1) <+: fromE xs b m ∧ Jx pre wr)) :=
          .inl ⟨ys, by rw [hys, hfr, List.take_of_length_le (by rw [List.length_drop, HN.out]; omega)], hJs⟩
        clear hys hJs hKF hfr
        gi_wp2
        go_end0
        exact ⟨⟨_, rfl⟩, fin.out⟩
  · have hnil : fromE xs b m = [] := by rw [hfr]; exact List.drop_eq_nil_iff.2 (by omega)
    have fin : Hid ((∃ ys : List { x : Ent // p x }, ys.map (·.1) = fromE xs b m ∧ J ys w1) ∨ (∃ pre : List { x : Ent // p x }, pre.map (·.1) <+: fromE xs b m ∧ Jx pre w1)) := .inl ⟨[], hnil.symm, hJ1⟩
    obtain rfl : i = xs.length := by omega
    rcases hS1.2.1 with ⟨rfl, rfl⟩ | ⟨g, cap, sp, rfl, hgg, hl, hnc, hcm⟩
    · clear hY hJ1 hS0 hSW hS1 hpl hfr hnil a0 a1 a2 hFc1 hFc hFl hJ hsafe hO1 hOF hFv
      gi_wp2
      gi_loopw [21] (fun c wr => c = .int .i64 0 ∧ wr = w1) (fun _ _ => 0)
      case atStart => exact ⟨rfl, rfl⟩
      case round =>
        obtain ⟨rfl, rfl⟩ := hrel
        gi_wp2
        go_end0
        exact ⟨⟨_, rfl⟩, fin.out⟩
    · have i0 : (0 : Int) ≤ (xs.length : Int) := by omega
      unfold maxLen at hcm
      clear hY hJ1 hS0 hSW hS1 hpl hfr hnil a0 a1 a2 hgg hl hFc1 hFc hFl hJ hsafe hO1 hOF hFv
      gi_wp2
      all_goals
        gi_loopw [21] (fun c wr => c = .int .i64 0 ∧ wr = w1) (fun _ _ => 0)
        case atStart => exact ⟨rfl, rfl⟩
        case round =>
          obtain ⟨rfl, rfl⟩ := hrel
          gi_wp2
          go_end0
          exact ⟨⟨_, rfl⟩, fin.out⟩

end Go.Proofs.Ytfioeangigicfaa
