import Derived.Test.YtglbamalagacgaaGreatW3
import Derived.BigQuiet
namespace Go.Proofs.YtglbamalagacgaaGreat
open Go.RowKit Go.Shelf
attribute [local go_sem] Oper.semAt_some
theorem Only.belowB {G : List Nat} {w W : World} {N : Nat} (h : Only G w W) (hG : ∀ g ∈ G, N <= g) (hN : N <= w.heap.size) : Below N w W := ⟨h.os, h.tape, h.output, h.size, fun k hk => h.block k (by omega) fun hm => by have := hG k hm; omega⟩
abbrev opV (k a l n : Int) (v : Value) (wh : Bool) : Value := .agg #[.int .i64 k, .int .i64 a, .int .i64 l, .int .i64 n, v, .bool wh]
abbrev opB (k a l n : Int) (v : Value) (wh : Bool) : Array Value := #[.int .i64 k, .int .i64 a, .int .i64 l, .int .i64 n, v, .bool wh]
theorem Iw.fin {w wr V : World} {d d' : Sd} {wb : Nat} {vs vi vt vo vm l : Value} {os : List Value} {ms : List Int} {is : List Value} {ts : List Int} {F F2 : List Nat} {m : Int} {no ni gl : Nat} (hd : d'.b = d.b) (hN : NewF w (d.F ++ F) (d'.F ++ F)) (hO : Only (d.F ++ F) w wr) (hP : PW wr d' wb vs no ni F) (hI : Iw wr V wb vs vo vm vi vt os ms is ts (F ++ [gl]) F2 m l) (l1 : os.length = no) (l2 : ms.length = no) (l3 : is.length = ni + 1) (l4 : ts.length = ni + 1) (hgl : w.heap.size <= gl) (hgd : gl ∉ d'.F) : StP w d wb vs no ni F (.returned (.bool true)) V := by
 have hz := hO.size
 have hdis : ∀ k ∈ d'.F, k ∉ F ++ [gl] := fun k hk hm => by
  rcases List.mem_append.1 hm with h1 | h1
  ·exact hP.dis k hk h1
  ·have : k = gl := by simpa using h1
   rw [this] at hk
   exact hgd hk
 refine ⟨rfl, d', F2, no, ni + 1, ⟨hP.p.kept fun k hk => hI.only.block k (hP.p.lt k hk) (hdis k hk), ⟨_, _, _, _, _, _, _, _, _, hI.W, l1, l2, l3, l4⟩, fun k hk hm => (hI.new k hm).elim (hdis k hk) fun h1 => by have := hP.p.lt k hk; omega⟩, hd, by omega, by omega, fun k hk => ?_, hO.trans hI.only fun x hx => ?_⟩
 ·rcases List.mem_append.1 hk with h1 | h1
  ·exact hN k (List.mem_append.2 (.inl h1))
  ·rcases hI.new k h1 with h2 | h2
   ·rcases List.mem_append.1 h2 with h3 | h3
    ·exact .inl (List.mem_append.2 (.inr h3))
    ·have : k = gl := by simpa using h3
     exact .inr (by omega)
   ·exact .inr (by omega)
 ·rcases List.mem_append.1 hx with h3 | h3
  ·exact .inl (List.mem_append.2 (.inr h3))
  ·have : x = gl := by simpa using h3
   exact .inr (by omega)
set_option maxRecDepth 8000 in
set_option maxHeartbeats 4000000 in
theorem applies_y (w : World) (d : Sd) (wb : Nat) (vs : Value) (no ni : Nat) (F : List Nat) (k a l n : Int) (v : Value) (wh : Bool) (cs : List Chg) (h : PW w d wb vs no ni F) (hv : ChgsAt w v cs) (hva : Apart v (d.F ++ F)) (hcl : cs.length <= 6000000000000) (b2 : ni <= 8999999999990) :
  Calls Tryz.prog 113 #[ptrV wb, ptrV d.b, opV k a l n v wh] w (StP w d wb vs no ni F) := by
 have Hv := hide hv
 obtain ⟨va, vc, hve, hml, hcs⟩ := hv
 obtain ⟨w0, hw0⟩ : ∃ w0, w.alloc (.cells (opB k a l n v wh) 85) = w0 := ⟨_, rfl⟩
 have hB0 : Below w.heap.size w w0 := by rw [<- hw0]; exact (Below.refl _ w).alloc (Nat.le_refl _) _
 have hob : w0.heap[w.heap.size]? = some (.cells (opB k a l n v wh) 85 (0, 0)) := by rw [<- hw0]; exact World.alloc_heap_new w _
 have hz0 : w0.heap.size = w.heap.size + 1 := by rw [<- hw0]; simp
 obtain ⟨M, hM, hmk⟩ := make_chg cs.length hcl
 obtain ⟨w1, hw1⟩ : ∃ w1, w0.alloc (.cells M.toArray 103) = w1 := ⟨_, rfl⟩
 have hB1 : Below w0.heap.size w0 w1 := by rw [<- hw1]; exact (Below.refl _ w0).alloc (Nat.le_refl _) _
 have hg1 : w1.heap[w0.heap.size]? = some (.cells M.toArray 103 (0, 0)) := by rw [<- hw1]; exact World.alloc_heap_new w0 _
 have hz1 : w1.heap.size = w0.heap.size + 1 := by rw [<- hw1]; simp
 have hB01 : Below w.heap.size w w1 := hB0.trans (hB1.mono (by omega))
 have hv1 := Hv.out.later hB01
 obtain ⟨W3, hcp, hrow, ho3⟩ := copy_chg (W := w1) 3 w0.heap.size cs.length v cs rfl (by rw [<- hM]; exact hg1) (by unfold maxLen; omega) hv1
 have hB3 : Below w.heap.size w W3 := hB01.trans (ho3.belowB (fun g hg => by simp at hg; omega) (by omega))
 have hob3 : W3.heap[w.heap.size]? = some (.cells (opB k a l n v wh) 85 (0, 0)) := (ho3.block _ (by omega) (by simp; omega)).trans ((hB1.block _ (by omega)).trans hob)
 have h3 := h.later hB3
 have hz3 := ho3.size
 have hnA : ∀ g, w.heap.size <= g -> g ∉ d.F ++ F := fun g hg hm => by
  rcases List.mem_append.1 hm with h1 | h1
  ·have := h.p.lt g h1; omega
  ·have := h.W.lt g h1; omega
 have hvx : ChgsAt W3.drew (.slice (some ⟨w0.heap.size, 0, none⟩) cs.length (cs.length + 2)) cs := (chgs_row hrow rfl _ hml).later (Below.refl _ W3).drew
 have hx := hide ((h3.p.T.later (Below.refl _ W3).drew).apply (.slice (some ⟨w0.heap.size, 0, none⟩) cs.length (cs.length + 2)) cs hvx (fun B n' cap he _ hF => by
  cases he
  exact hnA w0.heap.size (by omega) (List.mem_append.2 (.inl (Sd.mem.2 (.inr (.inl hF)))))))
 have e0 := h3.p.c0
 have e1 := h3.p.c1
 have bl := h3.p.bl
 have o4 : w0.cell? ⟨w.heap.size, 4, none⟩ = some v := by simp [World.cell?, hob]
 have o41 : w1.cell? ⟨w.heap.size, 4, none⟩ = some v := (hB1.cell (p := ⟨w.heap.size, 4, none⟩) (by show w.heap.size < w0.heap.size; omega)).trans o4
 have o43 : W3.cell? ⟨w.heap.size, 4, none⟩ = some v := by simp [World.cell?, hob3]
 have oz0 : w.heap.size < w0.heap.size := by omega
 have oz1 : w.heap.size < w1.heap.size := by omega
 have oz3 : w.heap.size < W3.heap.size := by omega
 have hnw : IntKind.i64.wrap ((cs.length : Int) + 2) = (cs.length : Int) + 2 := by rw [IntKind.wrap_i64]; omega
 have HNA := hide hnA
 have H3 := hide h3
 have H := hide h
 have HB3 := hide hB3
 have HROW := hide hrow
 have HOB3 := hide hob3
 have HVA := hide hva
 have HCP := hide hcp
 have HCS := hide hcs
 rw [hz0] at HCP hx HROW hz1
 subst hve
 have hs3 := h3.p.ok
 have HS := hide hs3
 clear hs3 h3 h hB0 hB1 hB3 hob hg1 hM hB01 hv1 hrow ho3 hob3 hnA hvx hva hcp hcs
 have i0 : (0 : Int) <= (cs.length : Int) := by omega
 have i2 : (cs.length : Int) <= (cs.length : Int) + 2 := by omega
 have i3 : ¬ ((cs.length : Int) + 2 < (cs.length : Int)) := by omega
 have i4 : (Int.ofNat cs.length : Int) <= Int.ofNat (cs.length + 2) := by show (cs.length : Int) <= ((cs.length + 2 : Nat) : Int); omega
 obtain ⟨b, x, y, s, A, A'⟩ := d
 simp only at e0 e1 bl hx
 go_enter Tryz.func113, Tryz.ntmps113
 have hcp := HCP.out
 go_wp2
 clear hcp HCP hmk
 go_region_held3 (fun w' => w'.cell? ⟨b, 0, none⟩ = some (ptrV x)) (go_keep)
  (first | (go_at_call 22; refine hx.out.mono ?_; rintro _ w4 hp4; (obtain ⟨rfl, A1, hm4⟩ := H3.out.p.mid (Below.refl _ W3).drew hp4); (have u1 : w4.cell? ⟨b, 0, none⟩ = some (ptrV x) := by simp [World.cell?, hm4.blk])))
 obtain ⟨d, hd⟩ : ∃ d : Sd, d = ⟨b, x, y, s, A, A'⟩ := ⟨_, rfl⟩
 rw [<- hd] at H H3 HNA HVA hm4 ⊢
 have hob3l : w.heap.size < W3.heap.size := oz3
 have hOA : Only d.A w w4 := (Only.of_below d.A HB3.out).trans hm4.only fun x hx => .inl hx
 have hv4 : ChgsAt w4 (.slice va cs.length vc) cs := Hv.out.only hOA HVA.out fun k hk => List.mem_append.2 (.inl (Sd.mem.2 (.inr (.inl hk))))
 have hy := hide (apply_r w4.drew y s A' (.slice va cs.length vc) cs (by have := hm4.R.later (Below.refl _ w4).drew; rw [hd] at this; exact this) HS.out (hv4.later (Below.refl _ w4).drew) (fun B n' cap he hn hF => HVA.out B n' cap he hn (List.mem_append.2 (.inl (Sd.mem.2 (.inr (.inr (by rw [hd]; exact hF))))))))
 have hob4 : w4.heap[w.heap.size]? = some (.cells (opB k a l n (.slice va cs.length vc) wh) 85 (0, 0)) := (hm4.only.block _ oz3 fun hm => HNA.out _ (Nat.le_refl _) (List.mem_append.2 (.inl (Sd.mem.2 (.inr (.inl hm)))))).trans HOB3.out
 have q1 : w4.cell? ⟨b, 1, none⟩ = some (ptrV y) := by have := hm4.c1; rw [hd] at this; exact this
 have q4 : w4.cell? ⟨w.heap.size, 4, none⟩ = some (.slice va cs.length vc) := by simp [World.cell?, hob4]
 have z4 : w.heap.size < w4.heap.size := by have := hm4.only.size; omega
 have HM4 := hide hm4
 have HD := hide hd
 obtain ⟨R, hR⟩ : ∃ R, s.apply cs = R := ⟨_, rfl⟩
 rw [hR] at hy HM4
 rw [hR]
 clear hm4 hOA hv4 hob4 hp4 u1 e0 e1 bl hx o4 o41 o43 hd hR hw0 hw1 hob3l
 go_wp2
 go_region_held3 (fun w' => w'.cell? ⟨b, 1, none⟩ = some (ptrV y) /\ w'.cell? ⟨w.heap.size, 4, none⟩ = some (.slice va cs.length vc)) (go_keep)
  (first | (go_at_call 132; refine hy.out.mono ?_; rintro _ w5 hp5; (obtain ⟨rfl, A1', hd5⟩ := HM4.out.done H3.out.p (Below.refl _ w4).drew (by rw [HD.out]; exact hp5)); (have hob5 : w5.heap[w.heap.size]? = some (.cells (opB k a l n (.slice va cs.length vc) wh) 85 (0, 0)) := (hd5.2.2.2.2.2.block _ oz3 (fun hm => HNA.out _ (Nat.le_refl _) (List.mem_append.2 (.inl hm)))).trans HOB3.out); (have u1 : w5.cell? ⟨b, 1, none⟩ = some (ptrV y) := by (have := hd5.1.c1; rw [HD.out] at this; exact this)); (have u2 : w5.cell? ⟨w.heap.size, 4, none⟩ = some (.slice va cs.length vc) := by simp [World.cell?, hob5])))
 obtain ⟨hPW5, hN5, hO5⟩ := H3.out.did hd5
 have hO5w : Only (d.F ++ F) w w5 := (Only.of_below _ HB3.out).trans hO5 fun x hx => .inl hx
 have hglz : w.heap.size + 1 < W3.heap.size := by omega
 have hz5 := hO5.size
 have HR5 := hide (HROW.out.kept (w' := w5) fun g hg => by
  have e : w.heap.size + 1 = g := by simpa [Value.ownBlock] using hg
  subst e
  exact hO5.block _ hglz (HNA.out _ (by omega)))
 have HV5 := hide (Hv.out.only hO5w HVA.out fun k hk => hk)
 have HO5 := hide hO5w
 have HP5 := hide hPW5
 have HN5 := hide hN5
 have HD5 := hide hd5
 have HOB5 := hide hob5
 have z5 : w.heap.size + 1 < w5.heap.size := by omega
 have z5' : w.heap.size < w5.heap.size := by omega
 clear hPW5 hN5 hO5 hO5w hd5 hob5 u1 u2 hp5 hy q1 q4 HM4 hz5 HROW
 go_wp2
 go_loopw [13] (fun s13 wr => ∃ i : Nat, i <= cs.length + 2 /\ s13 = .int .i64 (i : Int) /\ Hid (Below w5.heap.size w5 wr)) (fun s13 _ => cs.length + 2 - (intOf s13).toNat)
 case atStart => exact ⟨0, by omega, rfl, hide (Below.refl _ _)⟩
 case round =>
  obtain ⟨i, hi, rfl, HB⟩ := hrel
  have zr : w.heap.size + 1 < wr.heap.size := Nat.lt_of_lt_of_le z5 HB.out.size
  have zr' : w.heap.size < wr.heap.size := by omega
  by_cases hlt : i < cs.length + 2
  ·have j0 : (0 : Int) <= (i : Int) := by omega
   have j1 : (i : Int) < (cs.length : Int) + 2 := by omega
   have hwi : IntKind.i64.wrap ((i : Int) + 1) = (i : Int) + 1 := by rw [IntKind.wrap_i64]; omega
   have rg := fun j v (hj : (chgC cs ++ List.replicate 6 (Value.int .i64 0))[j]? = some v) => (HB.out.cell (p := ⟨w.heap.size + 1, j, none⟩) z5).trans (HR5.out.cell hj)
   by_cases hin : i < cs.length
   ·obtain ⟨c, hc⟩ : ∃ c, cs[i]? = some c := ⟨_, List.getElem?_eq_getElem hin⟩
    obtain ⟨c0, c1, c2⟩ := chgC_at hc
    have hcl3 := chgC_len cs
    have g0 := rg (i * 3) _ (by rw [List.getElem?_append_left (by omega)]; exact c0)
    have g1 := rg (i * 3 + 1) _ (by rw [List.getElem?_append_left (by omega)]; exact c1)
    have g2 := rg (i * 3 + 2) _ (by rw [List.getElem?_append_left (by omega)]; exact c2)
    obtain ⟨va', vc', hve, _, hq⟩ := HV5.out.later HB.out
    obtain ⟨Ad, hA0, hA, a0, a1, a2⟩ := hq i c hc
    cases hve
    subst hA0
    have k1 : (i : Int) < (cs.length : Int) := by omega
    have o4 : wr.cell? ⟨w.heap.size, 4, none⟩ = some (.slice (some Ad) cs.length vc) := (HB.out.cell (p := ⟨w.heap.size, 4, none⟩) z5').trans (by simp [World.cell?, HOB5.out])
    obtain ⟨xa, xl, xn⟩ := c
    simp only at g0 g1 g2 a0 a1 a2
    have hBz : Below wr.heap.size wr (wr.alloc (.cells #[.int .i64 0, .int .i64 0, .int .i64 0] 103)) := (Below.refl _ wr).alloc (Nat.le_refl _) _
    have hAz : (Ad.add (i * 3)).block < wr.heap.size := by rw [addB]; exact hA
    have hAn : ¬ (Ad.add (i * 3)).block = wr.heap.size := by omega
    have b0 := (hBz.cell (p := Ad.add (i * 3)) hAz).trans a0
    have b1 := (hBz.cell (p := ⟨(Ad.add (i * 3)).block, (Ad.add (i * 3)).off + 1, none⟩) hAz).trans a1
    have b2' := (hBz.cell (p := ⟨(Ad.add (i * 3)).block, (Ad.add (i * 3)).off + 2, none⟩) hAz).trans a2
    clear rg hc c0 c1 c2 hcl3 hq hBz
    go_wp2
    go_quiet (fail)
    go_wp2
    exact ⟨⟨i + 1, by omega, by simp, hide (HB.out.trans (Below.mono (by repeat (first | exact Below.refl _ _ | refine below_drewN ?_ _ | refine Below.drew ?_ | refine Below.trans ?_ (Below.mono (by assumption) ?_) | refine Below.alloc ?_ ?_ _ | refine Below.setCell ?_ ?_ _ | omega | (simp; omega) | simp)) HB.out.size))⟩, by simp [intOf]; omega⟩
   ·have hcl3 := chgC_len cs
    have hrep : ∀ j, cs.length * 3 <= j -> j < cs.length * 3 + 6 -> (chgC cs ++ List.replicate 6 (Value.int .i64 0))[j]? = some (.int .i64 0) := fun j h1 h2 => by
     rw [List.getElem?_append_right (by omega), List.getElem?_replicate, if_pos (by omega)]
    have g0 := rg (i * 3) _ (hrep _ (by omega) (by omega))
    have g1 := rg (i * 3 + 1) _ (hrep _ (by omega) (by omega))
    have g2 := rg (i * 3 + 2) _ (hrep _ (by omega) (by omega))
    have k1 : decide ((i : Int) < (cs.length : Int)) = false := decide_eq_false (by omega)
    clear rg hcl3 hrep
    go_wp2
    go_quiet (fail)
    go_wp2
    exact ⟨⟨i + 1, by omega, by simp, hide (HB.out.trans (Below.mono (by repeat (first | exact Below.refl _ _ | refine below_drewN ?_ _ | refine Below.drew ?_ | refine Below.trans ?_ (Below.mono (by assumption) ?_) | refine Below.alloc ?_ ?_ _ | refine Below.setCell ?_ ?_ _ | omega | (simp; omega) | simp)) HB.out.size))⟩, by simp [intOf]; omega⟩
  ·obtain rfl : i = cs.length + 2 := by omega
   have j1 : ¬ ((cs.length : Int) + 2 < (cs.length : Int) + 2) := by omega
   have hPr := HP5.out.later HB.out
   have HPR := hide hPr
   obtain ⟨wq, hwq⟩ : ∃ wq, wr = wq := ⟨_, rfl⟩
   have HOR := hide (HO5.out.trans (Only.of_below [] HB.out) fun x hx => by cases hx)
   have HRR := hide (HR5.out.kept (w' := wr) fun g hg => HB.out.block g (HR5.out.lt g hg))
   obtain ⟨vo, vm, vi, vt, os, ms, is, ts, last, hW, e1, e2, e3, e4⟩ := hPr.W
   have hglF : w.heap.size + 1 ∉ F := fun hm => HNA.out _ (by omega) (List.mem_append.2 (.inr hm))
   have hgd : w.heap.size + 1 ∉ (Sd.mk d.b d.x d.y R.2.2 A1 A1').F := fun hm => by
    rcases HN5.out _ (List.mem_append.2 (.inl hm)) with h1 | h1
    ·exact HNA.out _ (by omega) h1
    ·omega
   have hmk := hide (mark_any hW)
   obtain ⟨m, hm⟩ : ∃ m, wrap64 (last - 1) = m := ⟨_, rfl⟩
   have h6 := hW.marked (wrap64 (last - 1))
   rw [hm] at hmk h6
   have hgw : w.heap.size + 1 ≠ wb := fun e => hglF (by rw [e]; exact hW.fb)
   have HR6 := hide (HRR.out.kept (w' := wr.setCell ⟨wb, 5, none⟩ (.int .i64 m)) fun g hg => Below.heap_setCell _ _ _ _ (by
    have e : w.heap.size + 1 = g := by simpa [Value.ownBlock] using hg
    show g ≠ wb
    rw [<- e]; exact hgw))
   have HO6 := hide (show Only F wr (wr.setCell ⟨wb, 5, none⟩ (.int .i64 m)) from only_set hW.fb)
   obtain ⟨w6, hw6⟩ : ∃ w6, wr.setCell ⟨wb, 5, none⟩ (.int .i64 m) = w6 := ⟨_, rfl⟩
   rw [hw6] at hmk h6 HR6 HO6
   have hz6 : w6.heap.size = wr.heap.size := by rw [<- hw6]; simp [World.setCell]
   have H6 := hide h6
   have HGF := hide hglF
   have HGD := hide hgd
   have zg6 : w.heap.size + 1 < w6.heap.size := by omega
   rw [hwq] at HPR HOR HO6 hz6
   clear hPr hW h6 hglF hgd hgw hm hwq
   go_wp2_with fail
   refine hmk.out.mono ?_
   rintro _ w6x ⟨rfl, e⟩
   obtain rfl : w6 = w6x := e.symm
   clear hmk hw6
   go_wp2
   go_loopw [16] (fun s16 wr2 => ∃ (i : Nat) (ys : List Value), i <= cs.length + 2 /\ s16 = .int .i64 (i : Int) /\ Hid (RowG 103 3 wr2 (.slice (some ⟨w.heap.size + 1, 0, none⟩) (cs.length + 2) (cs.length + 2)) (cs.length + 2) ys /\ ∀ j, j < i -> ys[j * 3]? = some (.int .i64 m) /\ ys[j * 3 + 1]? = some (.int .i64 8) /\ ys[j * 3 + 2]? = some (.int .i64 0)) /\ Hid (Only [w.heap.size + 1] w6 wr2)) (fun s16 _ => cs.length + 2 - (intOf s16).toNat)
   case atStart => exact ⟨0, _, by omega, rfl, hide ⟨HR6.out, fun j hj => by omega⟩, hide (Only.refl _ _)⟩
   case round =>
    obtain ⟨i, ys, hi, rfl, HY, HO⟩ := hrel
    have zg : w.heap.size + 1 < wr.heap.size := by have := HO.out.size; omega
    by_cases hlt2 : i < cs.length + 2
    ·have hyl : ys.length = (cs.length + 2) * 3 := HY.out.1.1
     have i0 : (0 : Int) <= (i : Int) := by omega
     have i1 : (i : Int) < (cs.length : Int) + 2 := by omega
     have hwi : IntKind.i64.wrap ((i : Int) + 1) = (i : Int) + 1 := by rw [IntKind.wrap_i64]; omega
     obtain ⟨yc, hyc⟩ := HY.out.1.ty (w.heap.size + 1) rfl
     have gf : ∀ o, wr.frozen? ⟨w.heap.size + 1, o, none⟩ = false := fun o => by simp [World.frozen?, hyc]
     have k0 : ∃ u, wr.cell? ⟨w.heap.size + 1, i * 3, none⟩ = some u := ⟨_, HY.out.1.cell (List.getElem?_eq_getElem (by omega))⟩
     have k1 : ∃ u, wr.cell? ⟨w.heap.size + 1, i * 3 + 1, none⟩ = some u := ⟨_, HY.out.1.cell (List.getElem?_eq_getElem (by omega))⟩
     have k2 : ∃ u, wr.cell? ⟨w.heap.size + 1, i * 3 + 2, none⟩ = some u := ⟨_, HY.out.1.cell (List.getElem?_eq_getElem (by omega))⟩
     obtain ⟨u0, k0⟩ := k0
     obtain ⟨u1, k1⟩ := k1
     obtain ⟨u2, k2⟩ := k2
     have nx := hide (show ∃ (i' : Nat) (ys' : List Value), i' <= cs.length + 2 /\ Value.int .i64 ((i : Int) + 1) = .int .i64 (i' : Int) /\ Hid (RowG 103 3 (((wr.setCell ⟨w.heap.size + 1, i * 3, none⟩ (.int .i64 m)).setCell ⟨w.heap.size + 1, i * 3 + 1, none⟩ (.int .i64 8)).setCell ⟨w.heap.size + 1, i * 3 + 2, none⟩ (.int .i64 0)) (.slice (some ⟨w.heap.size + 1, 0, none⟩) (cs.length + 2) (cs.length + 2)) (cs.length + 2) ys' /\ ∀ j, j < i' -> ys'[j * 3]? = some (.int .i64 m) /\ ys'[j * 3 + 1]? = some (.int .i64 8) /\ ys'[j * 3 + 2]? = some (.int .i64 0)) /\ Hid (Only [w.heap.size + 1] w6 (((wr.setCell ⟨w.heap.size + 1, i * 3, none⟩ (.int .i64 m)).setCell ⟨w.heap.size + 1, i * 3 + 1, none⟩ (.int .i64 8)).setCell ⟨w.heap.size + 1, i * 3 + 2, none⟩ (.int .i64 0))) from by
      have hset : ∀ q, (((ys.set (i * 3) (Value.int .i64 m)).set (i * 3 + 1) (.int .i64 8)).set (i * 3 + 2) (.int .i64 0))[q]? = if i * 3 + 2 = q then some (.int .i64 0) else if i * 3 + 1 = q then some (.int .i64 8) else if i * 3 = q then some (.int .i64 m) else ys[q]? := fun q => by
       rw [List.getElem?_set, List.getElem?_set, List.getElem?_set]
       simp only [List.length_set]
       by_cases e2 : i * 3 + 2 = q
       ·rw [if_pos e2, if_pos e2, if_pos (by omega)]
       rw [if_neg e2, if_neg e2]
       by_cases e1 : i * 3 + 1 = q
       ·rw [if_pos e1, if_pos e1, if_pos (by omega)]
       rw [if_neg e1, if_neg e1]
       by_cases e0 : i * 3 = q
       ·rw [if_pos e0, if_pos e0, if_pos (by omega)]
       rw [if_neg e0, if_neg e0]
      refine ⟨i + 1, _, by omega, by simp, hide ⟨((HY.out.1.set1 (j := i * 3) (by omega) (.int .i64 m)).set1 (j := i * 3 + 1) (by simp; omega) (.int .i64 8)).set1 (j := i * 3 + 2) (by simp; omega) (.int .i64 0), fun j hj => ?_⟩, hide ?_⟩
      ·rw [hset, hset, hset]
       rcases Nat.lt_or_ge j i with h1 | h1
       ·rw [if_neg (by omega), if_neg (by omega), if_neg (by omega), if_neg (by omega), if_neg (by omega), if_neg (by omega), if_neg (by omega), if_neg (by omega), if_neg (by omega)]
        exact HY.out.2 j h1
       ·obtain rfl : j = i := by omega
        rw [if_neg (by omega), if_neg (by omega), if_pos rfl, if_neg (by omega), if_pos rfl, if_pos rfl]
        exact ⟨rfl, rfl, rfl⟩
      ·have hg : w.heap.size + 1 ∈ [w.heap.size + 1] := by simp
       exact ((HO.out.trans (only_set hg) fun x hx => .inl hx).trans (only_set hg) fun x hx => .inl hx).trans (only_set hg) fun x hx => .inl hx)
     clear hyc hyl
     go_wp2
     obtain ⟨i', ys', v1, v2, v3, v4⟩ := nx.out
     exact ⟨⟨i', ys', v1, v2, v3, v4⟩, by simp [intOf]; omega⟩
    ·obtain rfl : i = cs.length + 2 := by omega
     have j2 : ¬ ((cs.length : Int) + 2 < (cs.length : Int) + 2) := by omega
     obtain ⟨hrow, hall⟩ := HY.out
     have hinn : InM wr (.slice (some ⟨w.heap.size + 1, 0, none⟩) (cs.length + 2) (cs.length + 2)) m := by
      rcases hrow.2 with ⟨h0, _⟩ | ⟨g', cap', sp, hv, hg, _⟩
      ·cases h0
      ·cases hv
       refine ⟨_, _, _, _, rfl, by omega, hg, fun j hj => ?_⟩
       have hl := hrow.1
       obtain ⟨y0, y1, y2⟩ := hall j hj
       rw [List.getElem?_toArray, List.getElem?_toArray, List.getElem?_toArray, List.getElem?_append_left (by omega), List.getElem?_append_left (by omega), List.getElem?_append_left (by omega)]
       exact ⟨y0, y1, y2⟩
     have hWr := H6.out.kept HO.out.size fun k hk => HO.out.block k (H6.out.lt k hk) fun hm => by
      have e : k = w.heap.size + 1 := by simpa using hm
      rw [e] at hk
      exact HGF.out hk
     have hIw := Iw.mk (w := wq) (F0 := F ++ [w.heap.size + 1]) (hWr.wide (G := F ++ [w.heap.size + 1]) (fun k hk => List.mem_append.2 (.inl hk)) fun k hk => by
      rcases List.mem_append.1 hk with h1 | h1
      ·exact hWr.lt k h1
      ·have : k = w.heap.size + 1 := by simpa using h1
       omega) hinn (fun g hg => List.mem_append.2 (.inr (by simpa [Value.ownBlock, eq_comm] using hg))) (NewF.refl _ _) ((HO6.out.mono fun x hx _ => List.mem_append.2 (.inl hx)).trans HO.out fun x hx => .inl (List.mem_append.2 (.inr hx)))
     have HIW := hide hIw
     obtain ⟨g1, cap1, W1, r1, K1, x1, x2, x3⟩ := hIw.one e3 (by omega) (by omega) 73
     obtain ⟨g2, cap2, W2, r2, K2, y1, y2, y3⟩ := K1.two e4 (fun v hv => by rw [e4, <- e3] at hv; simpa [eq_comm] using hv) (by omega) 41
     have wbl := hWr.wlt
     have p3 := hWr.p3
     obtain ⟨V1, hV1⟩ : ∃ V1, W1.setCell ⟨wb, 3, none⟩ (.slice (some ⟨g1, 0, none⟩) (ni + 1) cap1) = V1 := ⟨_, rfl⟩
     rw [hV1] at K1 r2
     have wb1 := K1.W.wlt
     have p4 := K1.W.p4
     obtain ⟨V2, hV2⟩ : ∃ V2, W2.setCell ⟨wb, 4, none⟩ (.slice (some ⟨g2, 0, none⟩) (ni + 1) cap2) = V2 := ⟨_, rfl⟩
     rw [hV2] at K2
     have fin := hide (show StP w d wb vs no ni F (.returned (.bool true)) V2 from Iw.fin (d' := ⟨d.b, d.x, d.y, R.2.2, A1, A1'⟩) rfl (fun k hk => (HN5.out k hk).imp id fun h => by have := HB3.out.size; omega) HOR.out HPR.out K2 e1 e2 (by rw [List.length_append, e3]; rfl) (by rw [List.length_append, e4]; rfl) (by omega) HGD.out)
     rw [HD.out] at fin
     obtain ⟨ia, ic, hvi⟩ := hWr.ri.shape
     obtain ⟨ta, tc, hvt⟩ := hWr.rt.shape
     rw [hvi] at p3 x1 r1
     rw [hvt] at p4 y1 r2
     have HQ1 := hide r1
     have HQ2 := hide r2
     clear K1 K2 r1 r2 hvi hvt hWr hIw hrow hall hinn e1 e2 e3 e4 HIW
     generalize is.length = il at *
     generalize (ts.map fun m => Value.int .i64 m).length = tl at *
     go_wp2_with (at_builtin; first
      | (refine wpList_appendB rfl _ _ 73 73 rfl _ _ rfl rfl _ _ HQ1.out ?_)
      | (refine wpList_appendB rfl _ _ 41 41 rfl _ _ rfl rfl _ _ HQ2.out ?_))
     go_ret
     exact fin.out
end Go.Proofs.YtglbamalagacgaaGreat
