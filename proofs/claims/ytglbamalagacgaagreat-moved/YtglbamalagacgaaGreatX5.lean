import Derived.Test.YtglbamalagacgaaGreatX4
import Derived.Deep.CutBlock
import Derived.Deep.CutRange
namespace Go.Proofs.YtglbamalagacgaaGreat
open Go.RowKit Go.Shelf
attribute [local go_sem] Oper.semAt_some
set_option maxRecDepth 8000 in
set_option maxHeartbeats 4000000 in
theorem ended_y (w : World) (d : Sd) (wb : Nat) (vs : Value) (no ni : Nat) (F : List Nat) (most : Int) (N : Nat) (h : PW w d wb vs no ni F) (hN : 1 <= N) (hN2 : N <= 32) (b1 : no <= 8999999900000) (b2 : ni <= 8999999900000) :
  Calls Tryz.prog 35 #[ptrV wb, ptrV d.b, .int .i64 most, .int .i64 (N : Int)] w (EnP w d wb vs no ni F) := by
 have hc1 := hide (step_y w d wb vs no ni F 0 0 0 (.slice none 0 0) false [] h (nil_chg w) (nil_apart _) (by simp) (by omega) (by omega) 8)
 have H := hide h
 obtain ⟨b, hb⟩ : ∃ b, d.b = b := ⟨_, rfl⟩
 rw [hb] at hc1
 rw [hb]
 have HBB := hide hb
 clear h hb
 go_enter Tryz.func35, Tryz.ntmps35
 go_wp2_with fail
 refine hc1.out.mono ?_
 rintro _ w1 hp1
 obtain ⟨rfl, d1, F1, no1, ni1, hA1, e1, e2, -, -⟩ := (SAcc.start H.out).step hp1
 have HA1 := hide hA1
 have HB1 := hide (hA1.b.trans HBB.out)
 clear hp1 hA1 hc1
 go_upto_if 23 with fail
 go_cut [9] from 15 to 82 (fun s9 w' => s9 = .bool true /\ ∃ (d2 : Sd) (F2 : List Nat) (no2 ni2 : Nat), no2 <= no + 8 /\ ni2 <= ni + 2 /\ Hid (SAcc w d F wb vs w' d2 F2 no2 ni2))
 case first =>
  by_cases hm : 13 <= most
  ·have dm : decide (13 <= most) = true := decide_eq_true hm
   have hc2 := hide (step_y w1 d1 wb vs no1 ni1 F1 0 0 0 (.slice none 0 0) false [] HA1.out.pw (nil_chg w1) (nil_apart _) (by simp) (by omega) (by omega) 13)
   rw [HB1.out] at hc2
   rw [dm]
   clear hm dm
   go_wp2_with fail
   refine hc2.out.mono ?_
   rintro _ w2 hp2
   obtain ⟨rfl, d2, F2, no2, ni2, hA2, f1, f2, -, -⟩ := HA1.out.step hp2
   have HA2 := hide hA2
   clear hp2 hA2 hc2
   go_wp2_with fail
   go_meet
   exact ⟨rfl, d2, F2, no2, ni2, by omega, by omega, HA2⟩
  ·have dm : decide (13 <= most) = false := decide_eq_false hm
   rw [dm]
   clear hm dm
   go_wp2_with fail
   go_meet
   exact ⟨rfl, d1, F1, no1, ni1, by omega, by omega, HA1⟩
 case rest =>
  clear HA1 HB1
  obtain ⟨rfl, d2, F2, no2, ni2, f1, f2, HA2⟩ := hcut
  have HB2 := hide (HA2.out.b.trans HBB.out)
  go_upto_block 0 with fail
  have hBz : Below wc.heap.size wc (wc.alloc (.cells #[.int .i64 0, .int .i64 0] 65)) := (Below.refl _ wc).alloc (Nat.le_refl _) _
  have hpb : (wc.alloc (.cells #[.int .i64 0, .int .i64 0] 65)).heap[wc.heap.size]? = some (.cells #[.int .i64 0, .int .i64 0] 65 (0, 0)) := World.alloc_heap_new wc _
  have HA3 := hide (HA2.out.later hBz)
  have hpn : wc.heap.size ∉ d2.F ++ F2 := fun hm => by
   rcases List.mem_append.1 hm with h1 | h1
   ·have := HA2.out.pw.p.lt _ h1; omega
   ·have := HA2.out.pw.W.lt _ h1; omega
  have hwz : w.heap.size <= wc.heap.size := HA2.out.only.size
  have HPB := hide hpb
  have HPN := hide hpn
  have HWZ := hide hwz
  clear hBz hpb hpn hwz
  obtain ⟨wz, hwzE⟩ : ∃ wz, wc.alloc (.cells #[.int .i64 0, .int .i64 0] 65) = wz := ⟨_, rfl⟩
  rw [hwzE] at HA3 HPB
  have hzz : wc.heap.size < wz.heap.size := by rw [<- hwzE]; simp
  rw [hwzE]
  obtain ⟨pb, hpbE⟩ : ∃ pb, wc.heap.size = pb := ⟨_, rfl⟩
  rw [hpbE] at HPB HPN hzz HWZ ⊢
  clear hwzE hpbE HA2
  go_cut [9] from 11 to 82 (fun s9 w' => s9 = .bool true /\ ∃ (F3 : List Nat) (no3 : Nat), no3 <= no + 12000 /\ Hid (SAcc w d F wb vs w' d2 F3 no3 ni2))
  case first =>
   go_wp2_with fail
   go_loopw [9] (fun s9 wr => ∃ (fa fl : Int) (F3 : List Nat) (no3 : Nat), s9 = .bool true /\ 0 <= fa /\ fa <= 255 /\ 0 <= fl /\ fl <= 8 /\ (no3 : Int) <= no + 8 + 4 * (9 * fa + fl) /\ Hid (SAcc w d F wb vs wr d2 F3 no3 ni2) /\ Hid (pb ∉ d2.F ++ F3) /\ Hid (wr.heap[pb]? = some (.cells #[.int .i64 fa, .int .i64 fl] 65 (0, 0)))) (fun _ wr => 2304 - rkW wr pb)
   case atStart => exact ⟨0, 0, F2, no2, rfl, by omega, by omega, by omega, by omega, by omega, HA3, HPN, HPB⟩
   case round =>
    clear HA3 HPN HPB
    obtain ⟨fa, fl, F3, no3, rfl, a0, a1, l0, l1, hno, HA, HPN, HPB⟩ := hrel
    have hpz : pb < wr.heap.size := (Array.getElem?_eq_some_iff.1 HPB.out).1
    have p0 : wr.cell? ⟨pb, 0, none⟩ = some (.int .i64 fa) := by simp [World.cell?, HPB.out]
    have p1 : wr.cell? ⟨pb, 1, none⟩ = some (.int .i64 fl) := by simp [World.cell?, HPB.out]
    have hpg := hide (pages_any wr d2 wb vs no3 ni2 F3 fa fl (N : Int) HA.out.pw (by omega) (by omega))
    rw [HB2.out] at hpg
    have hrk := rkW_eq HPB.out
    have HRK := hide hrk
    clear hrk
    go_wp2_with fail
    refine hpg.out.mono ?_
    rintro _ w2 hp2
    obtain ⟨rfl, F4, hA4, hn4, ho4⟩ := HA.out.page hp2
    have hpb4 : w2.heap[pb]? = some (.cells #[.int .i64 fa, .int .i64 fl] 65 (0, 0)) := (ho4.block _ hpz fun hm => HPN.out (List.mem_append.2 (.inr hm))).trans HPB.out
    have hpn4 : pb ∉ d2.F ++ F4 := fun hm => by
     rcases List.mem_append.1 hm with h1 | h1
     ·exact HPN.out (List.mem_append.2 (.inl h1))
     ·rcases hn4 pb h1 with h2 | h2
      ·exact HPN.out (List.mem_append.2 (.inr h2))
      ·omega
    have q0 : w2.cell? ⟨pb, 0, none⟩ = some (.int .i64 fa) := by simp [World.cell?, hpb4]
    have q1 : w2.cell? ⟨pb, 1, none⟩ = some (.int .i64 fl) := by simp [World.cell?, hpb4]
    have hpz2 : pb < w2.heap.size := (Array.getElem?_eq_some_iff.1 hpb4).1
    have c1 := hA4.pw.p.c1
    have bl := hA4.pw.p.bl
    rw [HB2.out] at c1 bl
    have hyp := hide (page_r w2.drew d2.y d2.s d2.A' fa fl (N : Int) (hA4.pw.p.R.later (Below.refl _ w2).drew) hA4.pw.p.ok.good)
    have HL := hide (pag_le d2.s.xs fa fl N)
    have HLA := hide (fun hl => pag_last (xs := d2.s.xs) hA4.pw.p.ok.ok (fa := fa) (fl := fl) hN hl)
    obtain ⟨ys, hys⟩ : ∃ ys, pagL d2.s.xs fa fl (N : Int) = ys := ⟨_, rfl⟩
    rw [hys] at hyp HL HLA
    have HA4 := hide hA4
    have HPB4 := hide hpb4
    have HPN4 := hide hpn4
    obtain ⟨y, hy⟩ : ∃ y, d2.y = y := ⟨_, rfl⟩
    rw [hy] at c1 hyp
    generalize pagE fa fl (N : Int) = er at *
    clear hp2 hA4 hn4 ho4 hpb4 hpn4 hpg p0 p1 hpz HA HPB HPN hys hy
    go_wp2
    go_region_held3 (fun w' => w'.cell? ⟨b, 1, none⟩ = some (ptrV y) /\ w'.cell? ⟨pb, 0, none⟩ = some (.int .i64 fa) /\ w'.cell? ⟨pb, 1, none⟩ = some (.int .i64 fl)) (go_keep)
     (first | (go_at_call 74; refine hyp.out.mono ?_; rintro _ w3 ⟨v3, rfl, hr3, hb3, hf3⟩; (obtain ⟨a3, c3, rfl⟩ := hr3.shape); (have u1 : ∀ o, w3.cell? ⟨b, o, none⟩ = w2.cell? ⟨b, o, none⟩ := fun o => hb3.cell (p := ⟨b, o, none⟩) bl); (have u2 : ∀ o, w3.cell? ⟨pb, o, none⟩ = w2.cell? ⟨pb, o, none⟩ := fun o => hb3.cell (p := ⟨pb, o, none⟩) hpz2)))
    have hbw3 : Below w2.heap.size w2 w3 := (Below.refl _ w2).drew.trans hb3
    have HA5 := hide (HA4.out.later hbw3)
    have hpb5 := (hbw3.block _ hpz2).trans HPB4.out
    have hpz3 : pb < w3.heap.size := (Array.getElem?_eq_some_iff.1 hpb5).1
    have r0 : w3.cell? ⟨pb, 0, none⟩ = some (.int .i64 fa) := by simp [World.cell?, hpb5]
    have r1 : w3.cell? ⟨pb, 1, none⟩ = some (.int .i64 fl) := by simp [World.cell?, hpb5]
    have rf : ∀ o, w3.frozen? ⟨pb, o, none⟩ = false := fun o => by simp [World.frozen?, hpb5]
    have HR3 := hide hr3
    have HPB5 := hide hpb5
    clear hr3 hb3 hf3 u1 u2 hbw3 hpb5 hyp c1 q0 q1 HA4 HPB4
    by_cases hlt : ys.length < N
    ·have hl1 : (ys.length : Int) < (N : Int) := by omega
     go_wp2
     go_meet
     exact ⟨rfl, F4, no3 + 4, by omega, HA5⟩
    ·have hlen : ys.length = N := by have := HL.out; omega
     obtain ⟨x, hx, hok, hrx⟩ := HLA.out hlen
     have hpx := (isPfx_iff _ _).1 hok.1
     obtain ⟨M, hM⟩ : ∃ M, N - 1 = M := ⟨_, rfl⟩
     rw [hM] at hx
     obtain ⟨g3, eg, s0, s1, s2, s3⟩ := rowG_rte HR3.out hx
     have hwM : IntKind.i64.wrap ((N : Int) - 1) = (M : Int) := by rw [IntKind.wrap_i64]; omega
     have M0 : (0 : Int) <= (M : Int) := by omega
     have M1 : (M : Int) < (ys.length : Int) := by omega
     have hl1 : decide ((ys.length : Int) < (N : Int)) = false := decide_eq_false (by omega)
     subst eg
     obtain ⟨xa, xl, xn⟩ := x
     simp only at s1 s2 s3 hrx hpx
     have hwl : IntKind.i64.wrap (xl + 1) = xl + 1 := by rw [IntKind.wrap_i64]; omega
     have hwa : IntKind.i64.wrap (xa + 1) = xa + 1 := by rw [IntKind.wrap_i64]; omega
     have hg3p : g3 ≠ pb := fun e => by
      have h1 := HPB5.out
      rw [<- e] at h1
      obtain ⟨c, hc⟩ := HR3.out.ty g3 rfl
      exact tyNe h1 hc (by decide) rfl
     obtain ⟨l0', l8, x0, x255, _⟩ := hpx
     have nx := hide (show ∀ a' l' : Int, 0 <= a' -> a' <= 255 -> 0 <= l' -> l' <= 8 -> 9 * xa + xl < 9 * a' + l' -> ∀ W, Only [pb] w3 W -> W.heap[pb]? = some (.cells #[.int .i64 a', .int .i64 l'] 65 (0, 0)) -> (∃ (fa fl : Int) (F3 : List Nat) (no3 : Nat), 0 <= fa /\ fa <= 255 /\ 0 <= fl /\ fl <= 8 /\ (no3 : Int) <= no + 8 + 4 * (9 * fa + fl) /\ Hid (SAcc w d F wb vs W d2 F3 no3 ni2) /\ Hid (pb ∉ d2.F ++ F3) /\ Hid (W.heap[pb]? = some (.cells #[.int .i64 fa, .int .i64 fl] 65 (0, 0)))) /\ 2304 - rkW W pb < 2304 - rkW wr pb from fun a' l' c0 c1 c2 c3 c4 W hO hW => by
      refine ⟨⟨a', l', F4, no3 + 4, c0, c1, c2, c3, by omega, hide (HA5.out.box HPN4.out HWZ.out hO), HPN4, hide hW⟩, ?_⟩
      rw [rkW_eq hW, HRK.out]
      omega)
     clear hx hok hlt hlen HLA HL HR3
     by_cases hl8 : xl < 8
     ·have dl : decide (xl < 8) = true := decide_eq_true hl8
      have fin := hide (nx.out xa (xl + 1) x0 (by omega) (by omega) (by omega) (by omega) (((w3.setCell ⟨pb, 0, none⟩ (.int .i64 xa)).setCell ⟨pb, 1, none⟩ (.int .i64 (xl + 1))).alloc (.cells #[.int .i64 xa, .int .i64 xl, .int .i64 xn] 90)) (by
       have hs := box_set HPB5.out (.int .i64 xa) (.int .i64 (xl + 1))
       exact hs.1.trans (Only.of_below [pb] ((Below.refl _ _).alloc (Nat.le_refl _) _)) fun x hx => .inl hx) (by
       have hs := box_set HPB5.out (.int .i64 xa) (.int .i64 (xl + 1))
       exact (Below.heap_alloc _ _ _ (Array.getElem?_eq_some_iff.1 hs.2).1).trans hs.2))
      clear nx
      go_wp2
      obtain ⟨⟨fa', fl', F3', no3', t1, t2, t3, t4, t5, t6, t7, t8⟩, t9⟩ := fin.out
      exact ⟨⟨fa', fl', F3', no3', rfl, t1, t2, t3, t4, t5, t6, t7, t8⟩, t9⟩
     ·have dl : decide (xl < 8) = false := decide_eq_false hl8
      by_cases ha : xa < 255
      ·have da : decide (xa < 255) = true := decide_eq_true ha
       have hnx := hide (fun W => next_y (xa + 1) (by omega) W)
       go_wp2_with fail
       refine (hnx.out _).mono ?_
       rintro _ w4 ⟨⟨n', n0, n8, rfl⟩, hb4⟩
       have hbw4 : Below w3.heap.size w3 w4 := ((Below.refl _ w3).alloc (Nat.le_refl _) _).trans (hb4.mono (by simp))
       have hpb6 := (hbw4.block _ hpz3).trans HPB5.out
       have v0 : w4.cell? ⟨pb, 0, none⟩ = some (.int .i64 fa) := by simp [World.cell?, hpb6]
       have v1 : w4.cell? ⟨pb, 1, none⟩ = some (.int .i64 fl) := by simp [World.cell?, hpb6]
       have vf : ∀ o, w4.frozen? ⟨pb, o, none⟩ = false := fun o => by simp [World.frozen?, hpb6]
       have hpz4 : pb < w4.heap.size := (Array.getElem?_eq_some_iff.1 hpb6).1
       have fin := hide (nx.out (xa + 1) n' (by omega) (by omega) n0 n8 (by omega) ((w4.setCell ⟨pb, 0, none⟩ (.int .i64 (xa + 1))).setCell ⟨pb, 1, none⟩ (.int .i64 n')) ((Only.of_below [pb] hbw4).trans (box_set hpb6 _ _).1 fun x hx => .inl hx) (box_set hpb6 _ _).2)
       clear nx hb4 hbw4 hpb6 hnx r0 r1 rf
       go_wp2
       obtain ⟨⟨fa', fl', F3', no3', t1, t2, t3, t4, t5, t6, t7, t8⟩, t9⟩ := fin.out
       exact ⟨⟨fa', fl', F3', no3', rfl, t1, t2, t3, t4, t5, t6, t7, t8⟩, t9⟩
      ·have da : decide (xa < 255) = false := decide_eq_false ha
       go_wp2
       go_meet
       exact ⟨rfl, F4, no3 + 4, by omega, hide (HA5.out.later (by repeat (first | exact Below.refl _ _ | refine below_drewN ?_ _ | refine Below.drew ?_ | refine Below.trans ?_ (Below.mono (by assumption) ?_) | refine Below.alloc ?_ ?_ _ | refine Below.setCell ?_ ?_ _ | omega | (simp; omega) | simp)))⟩
  case rest =>
   clear HA3 HPB HPN HWZ
   obtain ⟨rfl, F3, no3, g1, HA4⟩ := hcut
   go_wp2
   go_loopw [9, 14] (fun s9 s14 wr => ∃ (j : Nat) (d4 : Sd) (F4 : List Nat) (no4 ni4 : Nat), s9 = .bool true /\ j <= 258 /\ s14 = .int .i64 ((j : Int) - 1) /\ no4 <= no + 12000 + 4 * j /\ ni4 <= ni + 2 + j /\ Hid (SAcc w d F wb vs wr d4 F4 no4 ni4)) (fun _ s14 _ => 258 - (intOf s14 + 1).toNat)
   case atStart => exact ⟨0, d2, F3, no3, ni2, rfl, by omega, rfl, by omega, by omega, HA4⟩
   case round =>
    clear HA4
    obtain ⟨j, d4, F4, no4, ni4, rfl, hj, rfl, i1, i2, HA⟩ := hrel
    by_cases hlt : j < 258
    ·have j1 : (j : Int) - 1 <= 256 := by omega
     have d1 : decide ((j : Int) - 1 <= 256) = true := decide_eq_true j1
     have hwj : IntKind.i64.wrap (j : Int) = (j : Int) := by rw [IntKind.wrap_i64]; omega
     have hwk : IntKind.i64.wrap ((j : Int) - 1 + 1) = (j : Int) := by rw [IntKind.wrap_i64]; omega
     have hc := hide (step_y wr d4 wb vs no4 ni4 F4 ((j : Int) - 1) 0 0 (.slice none 0 0) false [] HA.out.pw (nil_chg wr) (nil_apart _) (by simp) (by omega) (by omega) 5)
     rw [HA.out.b.trans HBB.out] at hc
     go_wp2_with fail
     refine hc.out.mono ?_
     rintro _ w5 hp5
     obtain ⟨rfl, d5, F5, no5, ni5, hA5, x1, x2, -, -⟩ := HA.out.step hp5
     have nx := hide (show ∃ (j' : Nat) (d4 : Sd) (F4 : List Nat) (no4 ni4 : Nat), j' <= 258 /\ Value.int .i64 (j : Int) = .int .i64 ((j' : Int) - 1) /\ no4 <= no + 12000 + 4 * j' /\ ni4 <= ni + 2 + j' /\ Hid (SAcc w d F wb vs w5 d4 F4 no4 ni4) from ⟨j + 1, d5, F5, no5, ni5, by omega, by congr 1; omega, by omega, by omega, hide hA5⟩)
     clear hp5 hA5 hc
     go_wp2
     obtain ⟨j', d6, F6, no6, ni6, t1, t2, t3, t4, t5⟩ := nx.out
     exact ⟨⟨j', d6, F6, no6, ni6, rfl, t1, t2, t3, t4, t5⟩, by simp only [intOf]; omega⟩
    ·obtain rfl : j = 258 := by omega
     have fin := hide (show EnP w d wb vs no ni F (.returned (.bool true)) wr from ⟨rfl, d4, F4, no4, ni4, HA.out, by omega, by omega⟩)
     clear HA
     go_wp2
     go_ret
     exact fin.out
end Go.Proofs.YtglbamalagacgaaGreat
