import Derived.Test.YtglbamalagacgaaGreatA9
import Derived.Test.YtglbamalagacgaaGreatM1
import Derived.Maps.OwnSet
import Derived.DeepKeys4
import Derived.Deep.AppendLies
namespace Go.Proofs.YtglbamalagacgaaGreat
open Go.RowKit Go.Shelf Go.Maps
attribute [local go_sem] Oper.semAt_some
def kl (a l : Int) : Lit := .string (keyBytes [.int .i64 a, .int .i64 l])
theorem laidOutP : laidOutB Tryz.prog = true := by kernel_rfl
theorem rowP : (65 : TypeId) < Tryz.prog.types.size := of_decide_eq_true (by kernel_rfl)
theorem keyAtP : Tryz.prog.keyTypeAt 2 65 = true := by kernel_rfl
theorem lawK : WideMaps.KeyLaw Tryz.prog 65 := deep_law_laid laidOutP (by omega) rowP keyAtP (by rw [Tryz.underlying65])
theorem lawP : Keyed Tryz.prog 65 := Keyed.of_law lawK
theorem keyTypeP : Tryz.prog.keyType 65 = true := by kernel_rfl
theorem formedP (a l : Int) : (pfxV a l).formed Tryz.prog 65 = true := by
 have h : ∀ x y : Value, (Value.agg #[x, y]).formed Tryz.prog 65 = true := fun x y => by
  have hc : Tryz.prog.cellsOf 65 = 2 := by kernel_rfl
  simp [Value.formed, Tryz.underlying65, hc]
 exact h _ _
theorem i64_wf {a : Int} (h0 : 0 <= a) (h1 : a < 1000) : (Lit.int .i64 a).wf = true := WalkArith.wf_i64 (by omega)
theorem keyP {a l : Int} (h : isPfx a l = true) : keyOf Tryz.prog 65 (pfxV a l) = some (kl a l) := by
 have h1 := (isPfx_iff _ _).1 h
 have wa := i64_wf (a := a) (by omega) (by omega)
 have wl := i64_wf (a := l) (by omega) (by omega)
 have hk : Tryz.prog.keyLits (Tryz.prog.types.size + 1) 65 [.int .i64 a, .int .i64 l] = some [.int .i64 a, .int .i64 l] := by
  have hc : Tryz.prog.cellsOf 65 = 2 := by kernel_rfl
  have hi : Tryz.prog.cellsOf 3 = 1 := by kernel_rfl
  obtain ⟨n, hn⟩ := Nat.exists_eq_succ_of_ne_zero (Nat.ne_of_gt (Nat.lt_of_le_of_lt (Nat.zero_le _) rowP))
  rw [hn]
  simp [Program.keyLits, Tryz.underlying65, Tryz.underlying3, hc, hi, wa, wl]
 unfold keyOf
 simp only [Tryz.underlying65, keyTypeP, formedP, Bool.and_self, if_true]
 show (Tryz.prog.keyLits (Tryz.prog.types.size + 1) 65 [.int .i64 a, .int .i64 l]).map _ = _
 rw [hk]
 rfl
theorem kl_inj {a l b m : Int} (h : isPfx a l = true) (k : isPfx b m = true) (he : kl a l = kl b m) : (a, l) = (b, m) := by
 have := lawP.inj (keyP h) (he ▸ keyP k)
 simp [pfxV] at this
 simp [this]
def SetF (w : World) (mb : Nat) (lg : List (Int × Int)) : Prop := ∃ D : DataW Unit, w.ownsMap Tryz.prog 65 unitElem mb lg.length D /\ ∀ a l, isPfx a l = true -> Maps.has D (kl a l) = decide ((a, l) ∈ lg)
open Go.ChangeMaps Go.MapKept Go.WideShapes in
theorem ownsMap_size {w : World} {mb n : Nat} {D : DataW Unit} (h : w.ownsMap Tryz.prog 65 unitElem mb n D) : w.ownsMap Tryz.prog 65 unitElem mb (Maps.size D) D := by
 obtain ⟨es, clock, h1, h2, h3, rfl⟩ := h
 exact ⟨es, clock, h1, h2, by simp [Maps.size, length_sorted], rfl⟩
theorem SetF.kept {w w' : World} {mb : Nat} {lg : List (Int × Int)} (h : SetF w mb lg) (hk : w'.heap[mb]? = w.heap[mb]?) : SetF w' mb lg := by
 obtain ⟨D, ⟨es, clock, h1, r⟩, h2⟩ := h
 exact ⟨D, ⟨es, clock, hk.trans h1, r⟩, h2⟩
theorem SetF.map {w : World} {mb : Nat} {lg : List (Int × Int)} (h : SetF w mb lg) : ∃ es clock, w.heap[mb]? = some (.map es clock) := by
 obtain ⟨D, ⟨es, clock, h1, r⟩, h2⟩ := h
 exact ⟨es, clock, h1⟩
theorem zeroU (w : World) : (zeroValue 179).run Tryz.prog w = .ok (.agg #[]) w := by kernel_rfl
theorem SetF.look {w : World} {mb : Nat} {lg : List (Int × Int)} {a l : Int} (h : SetF w mb lg) (hp : isPfx a l = true) :
  (Instr.lookup 135 (.map (some mb)) (pfxV a l) true).run Tryz.prog w = .ok (.tuple #[.agg #[], .bool (decide ((a, l) ∈ lg))]) w := by
 obtain ⟨D, h1, h2⟩ := h
 obtain ⟨v, ps, hr, hv⟩ := h1.look_ok lawP Tryz.underlying135 (zeroU w) (unitElem_mk) (keyP hp)
 obtain ⟨rfl, _⟩ := unitElem_inv hv
 rw [hr, h2 a l hp]
theorem SetF.put {w : World} {mb : Nat} {lg : List (Int × Int)} {a l : Int} (h : SetF w mb lg) (hp : isPfx a l = true) (hn : lg.length <= 1000) :
  ∃ w', (Instr.mapUpdate 135 (.map (some mb)) (pfxV a l) (.agg #[])).run Tryz.prog w = .ok () w' /\ SetF w' mb (lg ++ [(a, l)]) /\ w.mapTurned w' mb := by
 obtain ⟨D, h1, h2⟩ := h
 obtain ⟨w', hr, ho, ht⟩ := h1.store lawP Tryz.underlying135 (by unfold maxLen; omega) (keyP hp) (unitElem_mk)
 refine ⟨w', hr, ⟨_, by rw [List.length_append, List.length_singleton]; exact ho, fun b m hb => ?_⟩, ht⟩
 by_cases he : kl b m = kl a l
 ·have := kl_inj hb hp he
  rw [he, has_put_same h1.isMap (lawP.key (keyP hp))]
  simp [this]
 ·rw [has_put_other he, h2 b m hb]
  have hne : ¬ (b, m) = (a, l) := fun e => he (by cases e; rfl)
  simp [hne]
theorem SetF.del {w : World} {mb : Nat} {lg : List (Int × Int)} {a l : Int} (h : SetF w mb ((a, l) :: lg)) (hp : isPfx a l = true) (hnd : (a, l) ∉ lg) (ty : TypeId) :
  ∃ w', (Builtin.delete_ #[135, 65] ty #[.map (some mb), pfxV a l]).run Tryz.prog w = .ok (.tuple #[]) w' /\ SetF w' mb lg /\ w.mapTurned w' mb := by
 obtain ⟨D, h1, h2⟩ := h
 obtain ⟨w', hr, ho, ht⟩ := h1.drop lawP Tryz.underlying135 (keyP hp) ty
 have hs := size_del (k := kl a l) (h1.tidy lawP)
 have hha : Maps.has D (kl a l) = true := by rw [h2 a l hp]; simp
 rw [hha] at hs
 have hle := h1.size_le
 rw [List.length_cons] at hle
 refine ⟨w', hr, ⟨_, (ownsMap_size ho).mono (by simp at hs; omega), fun b m hb => ?_⟩, ht⟩
 by_cases he : kl b m = kl a l
 ·have := kl_inj hb hp he
  rw [he, has_del_same, this]
  simp [hnd]
 ·rw [has_del_other he, h2 b m hb]
  have hne : ¬ (b, m) = (a, l) := fun e => he (by cases e; rfl)
  simp [hne]
def LogF (w : World) (lb : Nat) (lg : List (Int × Int)) (G : List Nat) : Prop :=
 ∃ v mb, w.heap[lb]? = some (.cells #[v, .map (some mb)] 137 (0, 0)) /\ RowG 65 2 w v lg.length (Lg.entCells lg) /\ SetF w mb lg /\ lb ≠ mb /\ (∀ g, v.ownBlock = some g -> g ≠ lb /\ g ≠ mb) /\ G = lb :: mb :: v.ownBlock.toList
theorem LogF.kept {w w' : World} {lb : Nat} {lg : List (Int × Int)} {G : List Nat} (h : LogF w lb lg G) (hk : ∀ k ∈ G, w'.heap[k]? = w.heap[k]?) : LogF w' lb lg G := by
 obtain ⟨v, mb, h1, h2, h3, h4, h5, rfl⟩ := h
 exact ⟨v, mb, (hk _ (by simp)).trans h1, h2.kept fun g hg => hk g (by simp [hg]), h3.kept (hk _ (by simp)), h4, h5, rfl⟩
theorem LogF.lt {w : World} {lb : Nat} {lg : List (Int × Int)} {G : List Nat} (h : LogF w lb lg G) : ∀ k ∈ G, k < w.heap.size := by
 obtain ⟨v, mb, h1, h2, h3, h4, h5, rfl⟩ := h
 intro k hk
 simp only [List.mem_cons, Option.mem_toList] at hk
 rcases hk with rfl | rfl | hk
 ·exact (Array.getElem?_eq_some_iff.1 h1).1
 ·obtain ⟨es, cl, h⟩ := h3.map
  exact (Array.getElem?_eq_some_iff.1 h).1
 ·exact h2.lt k hk
theorem LogF.later {w w' : World} {lb : Nat} {lg : List (Int × Int)} {G : List Nat} (h : LogF w lb lg G) (hB : Below w.heap.size w w') : LogF w' lb lg G := h.kept fun k hk => hB.block k (h.lt k hk)
set_option maxHeartbeats 400000 in
theorem newLog_any (w : World) : Calls Tryz.prog 98 #[] w fun r w' => ∃ lb G, r = .returned (ptrV lb) /\ Below w.heap.size w w' /\ LogF w' lb [] G /\ (∀ k ∈ G, w.heap.size <= k) := by
 have fin := hide (show ∃ lb G, Ending.returned (ptrV (w.heap.size + 1)) = .returned (ptrV lb) /\ Below w.heap.size w ((w.alloc (.map #[] 0)).alloc (.cells #[.slice none 0 0, .map (some w.heap.size)] 137)) /\ LogF ((w.alloc (.map #[] 0)).alloc (.cells #[.slice none 0 0, .map (some w.heap.size)] 137)) lb [] G /\ (∀ k ∈ G, w.heap.size <= k) from by
  refine ⟨w.heap.size + 1, [w.heap.size + 1, w.heap.size], rfl, ((Below.refl _ w).alloc (Nat.le_refl _) _).alloc (by simp) _, ⟨.slice none 0 0, w.heap.size, ?_, RowG.nil _ _ _, ?_, by omega, (fun g hg => by cases hg), rfl⟩, ?_⟩
  ·have := World.alloc_heap_new (w.alloc (.map #[] 0)) (.cells #[.slice none 0 0, .map (some w.heap.size)] 137)
   rwa [World.size_alloc] at this
  ·exact ⟨.map [], (World.ownsMap_made w Tryz.prog 65 unitElem).alloc _, fun a l _ => by simp [Maps.has]⟩
  ·intro k hk; simp at hk; omega)
 have hmk := fun w => run_makeMap (P := Tryz.prog) 135 w
 go_enter Tryz.func98, Tryz.ntmps98
 go_wp2
 go_ret
 exact fin.out
set_option maxHeartbeats 400000 in
theorem logSize_any (w : World) (lb : Nat) (lg : List (Int × Int)) (G : List Nat) (h : LogF w lb lg G) : Calls Tryz.prog 49 #[ptrV lb] w fun r w' => r = .returned (.int .i64 (lg.length : Nat)) /\ w' = w := by
 obtain ⟨v, mb, h1, h2, _⟩ := h
 obtain ⟨a, c, rfl⟩ := h2.shape
 have c0 : w.cell? ⟨lb, 0, none⟩ = some (.slice a lg.length c) := by simp [World.cell?, h1]
 clear h1 h2
 go_enter Tryz.func49, Tryz.ntmps49
 go_wp2
 go_ret
 exact ⟨rfl, rfl⟩
end Go.Proofs.YtglbamalagacgaaGreat

namespace Go.Proofs.YtglbamalagacgaaGreat
open Go.RowKit Go.Shelf
attribute [local go_sem] Oper.semAt_some
structure MovF (w : World) (mb : Nat) (m : Mv) (e2 : Value) (lb : Nat) (F2 G : List Nat) : Prop where
 blk : w.heap[mb]? = some (.cells #[e2, .int .i64 m.ph, .int .i64 m.cp, .int .i64 m.ca, .int .i64 m.cl, ptrV lb] 101 (0, 0))
 eng : EngF w e2 m.ys F2
 kind : kindE e2 = m.k
 log : LogF w lb m.lg G
 n2 : mb ∉ F2
 nG : mb ∉ G
 dj : Disj F2 G
theorem MovF.lt {w : World} {mb : Nat} {m : Mv} {e2 : Value} {lb : Nat} {F2 G : List Nat} (h : MovF w mb m e2 lb F2 G) : mb < w.heap.size := (Array.getElem?_eq_some_iff.1 h.blk).1
theorem MovF.kept {w w' : World} {mb : Nat} {m : Mv} {e2 : Value} {lb : Nat} {F2 G : List Nat} (h : MovF w mb m e2 lb F2 G) (h1 : w'.heap[mb]? = w.heap[mb]?) (h2 : ∀ k ∈ F2, w'.heap[k]? = w.heap[k]?) (h3 : ∀ k ∈ G, w'.heap[k]? = w.heap[k]?) : MovF w' mb m e2 lb F2 G :=
 ⟨h1.trans h.blk, h.eng.kept h2, h.kind, h.log.kept h3, h.n2, h.nG, h.dj⟩
theorem MovF.later {w w' : World} {mb : Nat} {m : Mv} {e2 : Value} {lb : Nat} {F2 G : List Nat} (h : MovF w mb m e2 lb F2 G) (hB : Below w.heap.size w w') : MovF w' mb m e2 lb F2 G :=
 h.kept (hB.block _ h.lt) (fun k hk => hB.block k (h.eng.lt k hk)) (fun k hk => hB.block k (h.log.lt k hk))
def MvF (w : World) (o : Option Mv) (pm : Value) (H : List Nat) : Prop := match o with
 | none => pm = .pointer none /\ H = []
 | some m => ∃ mb e2 lb F2 G, pm = ptrV mb /\ MovF w mb m e2 lb F2 G /\ H = mb :: (F2 ++ G)
theorem MvF.lt {w : World} {o : Option Mv} {pm : Value} {H : List Nat} (h : MvF w o pm H) : ∀ k ∈ H, k < w.heap.size := by
 cases o with
 | none => rw [h.2]; simp
 | some m =>
  obtain ⟨mb, e2, lb, F2, G, _, h1, rfl⟩ := h
  intro k hk
  rcases List.mem_cons.1 hk with rfl | hk
  ·exact h1.lt
  ·rcases List.mem_append.1 hk with hk | hk
   ·exact h1.eng.lt k hk
   ·exact h1.log.lt k hk
theorem MvF.kept {w w' : World} {o : Option Mv} {pm : Value} {H : List Nat} (h : MvF w o pm H) (hk : ∀ k ∈ H, w'.heap[k]? = w.heap[k]?) : MvF w' o pm H := by
 cases o with
 | none => exact h
 | some m =>
  obtain ⟨mb, e2, lb, F2, G, h0, h1, rfl⟩ := h
  exact ⟨mb, e2, lb, F2, G, h0, h1.kept (hk _ (by simp)) (fun k h => hk k (by simp [h])) (fun k h => hk k (by simp [h])), rfl⟩
structure Tab3 (w : World) (t : Nat) (e : Value) (s : TS) (pm : Value) (F H : List Nat) : Prop where
 blk : w.heap[t]? = some (.cells #[e, .int .i64 s.b, .int .i64 s.ch, .int .i64 s.lim, pm, .int .i64 s.ms, .int .i64 s.bs] 98 (0, 0))
 eng : EngF w e s.xs F
 kind : kindE e = s.k
 mv : MvF w s.mv pm H
 nt : t ∉ F
 nh : t ∉ H
 dj : Disj F H
theorem Tab3.lt {w : World} {t : Nat} {e : Value} {s : TS} {pm : Value} {F H : List Nat} (h : Tab3 w t e s pm F H) : t < w.heap.size := (Array.getElem?_eq_some_iff.1 h.blk).1
theorem Tab3.kept {w w' : World} {t : Nat} {e : Value} {s : TS} {pm : Value} {F H : List Nat} (h : Tab3 w t e s pm F H) (h1 : w'.heap[t]? = w.heap[t]?) (h2 : ∀ k ∈ F, w'.heap[k]? = w.heap[k]?) (h3 : ∀ k ∈ H, w'.heap[k]? = w.heap[k]?) : Tab3 w' t e s pm F H :=
 ⟨h1.trans h.blk, h.eng.kept h2, h.kind, h.mv.kept h3, h.nt, h.nh, h.dj⟩
theorem Tab3.later {w w' : World} {t : Nat} {e : Value} {s : TS} {pm : Value} {F H : List Nat} (h : Tab3 w t e s pm F H) (hB : Below w.heap.size w w') : Tab3 w' t e s pm F H :=
 h.kept (hB.block _ h.lt) (fun k hk => hB.block k (h.eng.lt k hk)) (fun k hk => hB.block k (h.mv.lt k hk))
theorem Tab3.next {w w' : World} {t : Nat} {e : Value} {s : TS} {pm : Value} {F H F' : List Nat} {zs : List Ent} (h : Tab3 w t e s pm F H) (hE : EngF w' e zs F') (hN : NewF w F F') (hO : Only F w w') : Tab3 w' t e (s.lays zs) pm F' H :=
 ⟨(hO.block t h.lt h.nt).trans h.blk, hE, h.kind, h.mv.kept fun k hk => hO.block k (h.mv.lt k hk) fun hf => h.dj k hf hk, fun hk => (hN t hk).elim h.nt (fun h1 => by have := h.lt; omega), h.nh, fun k hk hh => (hN k hk).elim (fun h1 => h.dj k h1 hh) (fun h1 => by have := h.mv.lt k hh; omega)⟩
end Go.Proofs.YtglbamalagacgaaGreat

namespace Go.Proofs.YtglbamalagacgaaGreat
open Go.RowKit Go.Shelf Go.Maps
attribute [local go_sem] Oper.semAt_some
section
variable {P : Program} {w : World} {ops : Array Oper} {o : Oper} {a : Act} {Q : Exit -> Act -> World -> Prop}
end
set_option maxHeartbeats 1000000 in
theorem join_old (w : World) (lb : Nat) (lg : List (Int × Int)) (G : List Nat) (a l : Int) (h : LogF w lb lg G) (hp : isPfx a l = true) (hm : (a, l) ∈ lg) :
  Calls Tryz.prog 125 #[ptrV lb, pfxV a l] w fun r w' => Below w.heap.size w w' /\ r = .returned (.tuple #[]) := by
 obtain ⟨v, mb, h1, h2, h3, h4, h5, rfl⟩ := h
 have hl := (Array.getElem?_eq_some_iff.1 h1).1
 have c1 : w.cell? ⟨lb, 1, none⟩ = some (.map (some mb)) := by simp [World.cell?, h1]
 have hlk := hide (show ∀ W, Below w.heap.size w W -> (Instr.lookup 135 (.map (some mb)) (pfxV a l) true).run Tryz.prog W = .ok (.tuple #[.agg #[], .bool true]) W from fun W hW => by
  have hmb : mb < w.heap.size := by obtain ⟨es, cl, h⟩ := h3.map; exact (Array.getElem?_eq_some_iff.1 h).1
  have := (h3.kept (hW.block mb hmb)).look (a := a) (l := l) hp
  simpa [hm] using this)
 have hk1 := hlk.out (w.alloc (Obj.cells #[.int .i64 a, .int .i64 l] 65)).drew (by repeat (first | exact Below.refl _ _ | refine below_drewN ?_ _ | refine Below.drew ?_ | refine Below.trans ?_ (Below.mono (by assumption) ?_) | refine Below.alloc ?_ ?_ _ | refine Below.setCell ?_ ?_ _ | omega | (simp; omega) | simp))
 have hk2 := hlk.out ((w.alloc (Obj.cells #[.int .i64 a, .int .i64 l] 65)).alloc (Obj.cells #[] 179)).drew (by repeat (first | exact Below.refl _ _ | refine below_drewN ?_ _ | refine Below.drew ?_ | refine Below.trans ?_ (Below.mono (by assumption) ?_) | refine Below.alloc ?_ ?_ _ | refine Below.setCell ?_ ?_ _ | omega | (simp; omega) | simp))
 clear h1 h2 h3 h5 hlk
 go_enter Tryz.func125, Tryz.ntmps125
 go_wp2
 go_region
 all_goals
  go_wp2
  refine bodyPost_ret (results_none rfl _ _ _) rfl ?_
  exact ⟨(by repeat (first | exact Below.refl _ _ | refine below_drewN ?_ _ | refine Below.drew ?_ | refine Below.trans ?_ (Below.mono (by assumption) ?_) | refine Below.alloc ?_ ?_ _ | refine Below.setCell ?_ ?_ _ | omega | (simp; omega) | simp)), rfl⟩
theorem append_pfx {w : World} (ty : TypeId) (v : Value) (n : Nat) (cs : List Value) (a l : Int) (hrow : RowG 65 2 w v n cs) (hn : n <= 1000000) :
  ∃ g cap w', (Builtin.append_ #[120, 120] ty #[v, .slice (some ⟨w.heap.size, 0, none⟩) 1 1]).run Tryz.prog (w.alloc (.cells #[.int .i64 a, .int .i64 l] 65)).drew = .ok (.slice (some ⟨g, 0, none⟩) (n + 1) cap) w' ∧
   RowG 65 2 w' (.slice (some ⟨g, 0, none⟩) (n + 1) cap) (n + 1) (cs ++ [.int .i64 a, .int .i64 l]) /\ (w.alloc (.cells #[.int .i64 a, .int .i64 l] 65)).drew.grownBy w' v.ownBlock /\ (some g = v.ownBlock ∨ w.heap.size < g) := by
 obtain ⟨i, hi, hz, hs, hb⟩ := Lg.entInfo
 have hA : Below w.heap.size w (w.alloc (.cells #[.int .i64 a, .int .i64 l] 65)).drew := ((Below.refl _ w).alloc (Nat.le_refl _) _).drew
 obtain ⟨g, cap, w', h1, h2, h3, h4⟩ := run_appendG (P := Tryz.prog) (w.alloc (.cells #[.int .i64 a, .int .i64 l] 65)).drew 120 ty 65 i (Lg.entV 0 0) 2 16 Tryz.underlying120 hi hz hs hb rfl (by omega) (by omega) v n cs (hrow.kept fun g hg => hA.block g (hrow.lt g hg)) ⟨w.heap.size, 0, none⟩ 1 [.int .i64 a, .int .i64 l] rfl
  (fun j u hj => by
   rw [World.cell?_drew, Addr.add_lit]
   simp only [World.cell?]
   rw [World.alloc_heap_new]
   simpa using hj) (by intro u hu; simp at hu; rcases hu with rfl | rfl <;> rfl) hn
 exact ⟨g, cap, w', h1, h2, h3, h4.imp id (fun h => by simp at h; omega)⟩
theorem joined {w w3 w4 : World} {lb mb g cap : Nat} {lg : List (Int × Int)} {v : Value} {a l : Int} {W : World}
  (h1 : w.heap[lb]? = some (.cells #[v, .map (some mb)] 137 (0, 0))) (h4 : lb ≠ mb) (h5 : ∀ g, v.ownBlock = some g -> g ≠ lb /\ g ≠ mb)
  (hS3 : SetF w3 mb (lg ++ [(a, l)])) (hBu : Below w.heap.size w W) (ht3 : W.mapTurned w3 mb)
  (hrow4 : RowG 65 2 w4 (.slice (some ⟨g, 0, none⟩) (lg.length + 1) cap) (lg.length + 1) (Lg.entCells lg ++ [.int .i64 a, .int .i64 l]))
  (hg4 : (w3.alloc (.cells #[.int .i64 a, .int .i64 l] 65)).drew.grownBy w4 v.ownBlock) (hfr : some g = v.ownBlock ∨ w3.heap.size < g) :
  (∃ G', LogF (w4.setCell ⟨lb, 0, none⟩ (.slice (some ⟨g, 0, none⟩) (lg.length + 1) cap)) lb (lg ++ [(a, l)]) G' /\ NewF w (lb :: mb :: v.ownBlock.toList) G') /\ Only (lb :: mb :: v.ownBlock.toList) w (w4.setCell ⟨lb, 0, none⟩ (.slice (some ⟨g, 0, none⟩) (lg.length + 1) cap)) := by
 have hl := (Array.getElem?_eq_some_iff.1 h1).1
 have hg3 := ht3.grown
 have hs1 := hBu.size
 have hs3 := hg3.size
 have hs4 := hg4.size
 simp at hs4
 have hmb : mb < w3.heap.size := by obtain ⟨es, cl, h⟩ := hS3.map; exact (Array.getElem?_eq_some_iff.1 h).1
 have k3 : ∀ k, k < w3.heap.size -> some k ≠ v.ownBlock -> w4.heap[k]? = w3.heap[k]? := fun k hk hn => (hg4.block k (by simp; omega) hn).trans (Below.heap_alloc w3 _ k hk)
 have hb3 : w3.heap[lb]? = some (.cells #[v, .map (some mb)] 137 (0, 0)) := ((hg3.block lb (by omega) (fun e => by cases e; exact h4 rfl)).trans (hBu.block lb hl)).trans h1
 have hb4 : w4.heap[lb]? = some (.cells #[v, .map (some mb)] 137 (0, 0)) := (k3 lb (by omega) (fun e => (h5 _ e.symm).1 rfl)).trans hb3
 have e5 := setCell_eq_setRow w4 lb 0 _ _ _ (.slice (some ⟨g, 0, none⟩) (lg.length + 1) cap) hb4
 have hb5 : (w4.setCell ⟨lb, 0, none⟩ (.slice (some ⟨g, 0, none⟩) (lg.length + 1) cap)).heap[lb]? = some (.cells #[.slice (some ⟨g, 0, none⟩) (lg.length + 1) cap, .map (some mb)] 137 (0, 0)) := by
  rw [e5]; exact setRow_heap w4 lb _ _ _ _ hb4
 have k5 : ∀ k, k ≠ lb -> (w4.setCell ⟨lb, 0, none⟩ (.slice (some ⟨g, 0, none⟩) (lg.length + 1) cap)).heap[k]? = w4.heap[k]? := fun k hk => Below.heap_setCell _ _ _ _ hk
 have hmv : some mb ≠ v.ownBlock := fun e => (h5 _ e.symm).2 rfl
 have gne : g ≠ lb /\ g ≠ mb := by
  rcases hfr with h | h
  ·exact h5 g h.symm
  ·omega
 refine ⟨⟨lb :: mb :: [g], ⟨.slice (some ⟨g, 0, none⟩) (lg.length + 1) cap, mb, hb5, ?_, hS3.kept ((k5 mb (Ne.symm h4)).trans (k3 mb hmb hmv)), h4, fun g' hg' => (by cases hg'; exact gne), rfl⟩, ?_⟩, ?_⟩
 ·rw [List.length_append, List.length_singleton, Lg.entCells_append]
  exact hrow4.kept fun k hk => by cases hk; exact k5 _ gne.1
 ·intro k hk
  simp at hk
  rcases hk with rfl | rfl | rfl
  ·exact .inl (by simp)
  ·exact .inl (by simp)
  ·rcases hfr with h | h
   ·exact .inl (by simp [<- h])
   ·exact .inr (by omega)
 ·refine ⟨(hg4.os.trans hg3.os).trans hBu.os, (hg4.tape.trans hg3.tape).trans hBu.tape, (hg4.output.trans hg3.output).trans hBu.output, ?_, fun k hk hn => ?_⟩
  ·have e : (w4.setCell ⟨lb, 0, none⟩ (.slice (some ⟨g, 0, none⟩) (lg.length + 1) cap)).heap.size = w4.heap.size := by simp [World.setCell]
   omega
  ·simp at hn
   exact (((k5 k hn.1).trans (k3 k (by omega) (fun e => hn.2.2 e.symm))).trans (hg3.block k (by omega) (fun e => by cases e; exact hn.2.1 rfl))).trans (hBu.block k hk)
set_option maxHeartbeats 1000000 in
theorem join_new (w : World) (lb : Nat) (lg : List (Int × Int)) (G : List Nat) (a l : Int) (h : LogF w lb lg G) (hp : isPfx a l = true) (hm : (a, l) ∉ lg) (hn : lg.length <= 1000) :
  Calls Tryz.prog 125 #[ptrV lb, pfxV a l] w fun r w' => (∃ G', LogF w' lb (lg ++ [(a, l)]) G' /\ NewF w G G') /\ Only G w w' /\ r = .returned (.tuple #[]) := by
 have hGl := h.lt
 obtain ⟨v, mb, h1, h2, h3, h4, h5, rfl⟩ := h
 have hl := (Array.getElem?_eq_some_iff.1 h1).1
 have c1 : w.cell? ⟨lb, 1, none⟩ = some (.map (some mb)) := by simp [World.cell?, h1]
 have hmb : mb < w.heap.size := by obtain ⟨es, cl, h⟩ := h3.map; exact (Array.getElem?_eq_some_iff.1 h).1
 have hlk := hide (show ∀ W, Below w.heap.size w W -> (Instr.lookup 135 (.map (some mb)) (pfxV a l) true).run Tryz.prog W = .ok (.tuple #[.agg #[], .bool false]) W from fun W hW => by
  have := (h3.kept (hW.block mb hmb)).look (a := a) (l := l) hp
  simpa [hm] using this)
 have hk1 := hlk.out (w.alloc (Obj.cells #[.int .i64 a, .int .i64 l] 65)).drew (by repeat (first | exact Below.refl _ _ | refine below_drewN ?_ _ | refine Below.drew ?_ | refine Below.trans ?_ (Below.mono (by assumption) ?_) | refine Below.alloc ?_ ?_ _ | refine Below.setCell ?_ ?_ _ | omega | (simp; omega) | simp))
 have hk2 := hlk.out ((w.alloc (Obj.cells #[.int .i64 a, .int .i64 l] 65)).alloc (Obj.cells #[] 179)).drew (by repeat (first | exact Below.refl _ _ | refine below_drewN ?_ _ | refine Below.drew ?_ | refine Below.trans ?_ (Below.mono (by assumption) ?_) | refine Below.alloc ?_ ?_ _ | refine Below.setCell ?_ ?_ _ | omega | (simp; omega) | simp))
 have hBu : Below w.heap.size w ((w.alloc (Obj.cells #[.int .i64 a, .int .i64 l] 65)).alloc (Obj.cells #[] 179)).drew.drew := (by repeat (first | exact Below.refl _ _ | refine below_drewN ?_ _ | refine Below.drew ?_ | refine Below.trans ?_ (Below.mono (by assumption) ?_) | refine Below.alloc ?_ ?_ _ | refine Below.setCell ?_ ?_ _ | omega | (simp; omega) | simp))
 obtain ⟨w3, hu3, hS3, ht3⟩ := (h3.kept (hBu.block mb hmb)).put (a := a) (l := l) hp hn
 have hg3 := ht3.grown
 have hz3 : w.heap.size + 2 <= w3.heap.size := by have := hg3.size; simp at this; omega
 have p0 : w3.cell? ⟨w.heap.size, 0, none⟩ = some (.int .i64 a) := (World.cell?_of_block (a := ⟨w.heap.size, 0, none⟩) (hg3.block w.heap.size (by simp; omega) (fun e => by cases e; omega))).trans (by simp)
 have p1 : w3.cell? ⟨w.heap.size, 1, none⟩ = some (.int .i64 l) := (World.cell?_of_block (a := ⟨w.heap.size, 1, none⟩) (hg3.block w.heap.size (by simp; omega) (fun e => by cases e; omega))).trans (by simp)
 have hb3 : w3.heap[lb]? = some (.cells #[v, .map (some mb)] 137 (0, 0)) := ((hg3.block lb (by simp; omega) (fun e => by cases e; exact h4 rfl)).trans (hBu.block lb hl)).trans h1
 have q0 : w3.cell? ⟨lb, 0, none⟩ = some v := by simp [World.cell?, hb3]
 have l3 : lb < w3.heap.size := by omega
 have lz : w.heap.size < w3.heap.size := by omega
 have hrow3 : RowG 65 2 w3 v lg.length (Lg.entCells lg) := h2.kept fun g hg => ((hg3.block g (by have := h2.lt g hg; simp; omega) (fun e => (h5 g hg).2 (Option.some.inj e))).trans (hBu.block g (h2.lt g hg)))
 obtain ⟨g, cap, w4, hr, hrow4, hg4, hfr4⟩ := append_pfx (w := w3) 120 v lg.length (Lg.entCells lg) a l hrow3 (by omega)
 have hnv : ∀ k, v.ownBlock = some k -> k ≠ lb /\ k ≠ mb := h5
 have m1 : w4.cell? ⟨lb, 0, none⟩ = some v := by
  refine (hg4.cell_far ⟨lb, 0, none⟩ (by simp; omega) ?_).trans (by simp [go_sem, l3, q0])
  intro hk
  exact (hnv _ hk.symm).1 rfl
 have m2 : w4.frozen? ⟨lb, 0, none⟩ = false := by
  refine (hg4.frozen_far ⟨lb, 0, none⟩ (by simp; omega) ?_).trans ?_
  ·intro hk
   exact (hnv _ hk.symm).1 rfl
  ·rw [World.frozen?_drew]
   simp only [World.frozen?]
   rw [Below.heap_alloc w3 _ lb l3, hb3]
   rfl
 have fin := hide (joined h1 h4 h5 hS3 hBu ht3 hrow4 hg4 hfr4)
 obtain ⟨va, vc, rfl⟩ := h2.shape
 have HR := hide hr
 clear h1 h2 h3 h5 hlk hS3 ht3 hg3 hb3 hrow3 hrow4 hg4 hnv hr
 go_enter Tryz.func125, Tryz.ntmps125
 go_wp2
 go_region
 all_goals
  go_wp2
  go_region
  go_wp2
  go_region_law (refine step_appendB rfl _ _ 120 120 rfl _ _ (by simp [Act.eval]) (by simp [Act.eval]) _ _ HR.out ?_)
  all_goals
   go_wp2
   go_end0
   exact ⟨fin.out.1, fin.out.2, rfl⟩
theorem join_any (w : World) (lb : Nat) (lg : List (Int × Int)) (G : List Nat) (a l : Int) (h : LogF w lb lg G) (hp : isPfx a l = true) (hn : lg.length <= 1000) :
  Calls Tryz.prog 125 #[ptrV lb, pfxV a l] w fun r w' => (∃ G', LogF w' lb (joinL lg a l) G' /\ NewF w G G') /\ Only G w w' /\ r = .returned (.tuple #[]) := by
 unfold joinL
 by_cases hm : (a, l) ∈ lg
 ·rw [if_pos hm]
  refine (join_old w lb lg G a l h hp hm).mono ?_
  rintro r w' ⟨hB, h1⟩
  exact ⟨⟨G, h.later hB, NewF.refl _ _⟩, Only.of_below _ hB, h1⟩
 ·rw [if_neg hm]
  exact join_new w lb lg G a l h hp hm hn
end Go.Proofs.YtglbamalagacgaaGreat

namespace Go.Proofs.YtglbamalagacgaaGreat
open Go.RowKit Go.Shelf Go.Maps
attribute [local go_sem] Oper.semAt_some
theorem taken {w W w1 w3 : World} {lb mb g cap : Nat} {lg : List (Int × Int)} {v : Value} {sp : List Value} {a l : Int} (hvg : v.ownBlock = some g)
  (h1 : w.heap[lb]? = some (.cells #[v, .map (some mb)] 137 (0, 0))) (h4 : lb ≠ mb) (h5 : g ≠ lb /\ g ≠ mb) (hgl : g < w.heap.size)
  (hB : Below w.heap.size w W) (hk1 : ∀ k, k < W.heap.size -> k ≠ g -> w1.heap[k]? = W.heap[k]?) (hz1 : W.heap.size = w1.heap.size) (hos : w1.os = W.os /\ w1.tape = W.tape /\ w1.output = W.output)
  (hg1 : w1.heap[g]? = some (.cells (Lg.entCells lg ++ (Lg.Ent.z.cells ++ sp)).toArray 65 (0, 0))) (hlen : (Lg.entCells ((a, l) :: lg) ++ sp).length = cap * 2) (hcap : lg.length + 1 <= cap) (hcm : cap <= maxLen)
  (hS3 : SetF w3 mb lg) (ht3 : (w1.setCell ⟨lb, 0, none⟩ (.slice (some ⟨g, 0, none⟩) lg.length cap)).drew.mapTurned w3 mb) :
  LogF w3 lb lg (lb :: mb :: v.ownBlock.toList) /\ Only (lb :: mb :: v.ownBlock.toList) w w3 := by
 have hl := (Array.getElem?_eq_some_iff.1 h1).1
 have hs := hB.size
 have hg3 := ht3.grown
 have hs3 := hg3.size
 have e : (w1.setCell ⟨lb, 0, none⟩ (.slice (some ⟨g, 0, none⟩) lg.length cap)).drew.heap.size = w1.heap.size := by simp [World.setCell]
 have hb1 : w1.heap[lb]? = some (.cells #[v, .map (some mb)] 137 (0, 0)) := ((hk1 lb (by omega) (Ne.symm h5.1)).trans (hB.block lb hl)).trans h1
 have e5 := setCell_eq_setRow w1 lb 0 _ _ _ (.slice (some ⟨g, 0, none⟩) lg.length cap) hb1
 have hb5 : (w1.setCell ⟨lb, 0, none⟩ (.slice (some ⟨g, 0, none⟩) lg.length cap)).drew.heap[lb]? = some (.cells #[.slice (some ⟨g, 0, none⟩) lg.length cap, .map (some mb)] 137 (0, 0)) := by
  show (w1.setCell ⟨lb, 0, none⟩ (.slice (some ⟨g, 0, none⟩) lg.length cap)).heap[lb]? = _
  rw [e5]; exact setRow_heap w1 lb _ _ _ _ hb1
 have k5 : ∀ k, k ≠ lb -> (w1.setCell ⟨lb, 0, none⟩ (.slice (some ⟨g, 0, none⟩) lg.length cap)).drew.heap[k]? = w1.heap[k]? := fun k hk => Below.heap_setCell _ _ _ _ hk
 have hb3 := (hg3.block lb (by omega) (fun e => h4 (Option.some.inj e))).trans hb5
 have hgg := ((hg3.block g (by omega) (fun e => h5.2 (Option.some.inj e))).trans (k5 g h5.1)).trans hg1
 refine ⟨⟨.slice (some ⟨g, 0, none⟩) lg.length cap, mb, hb3, ?_, hS3, h4, fun g' hg' => (by cases hg'; exact h5), by rw [hvg]; rfl⟩, ?_⟩
 ·refine ⟨Lg.entCells_length lg, .inr ⟨g, cap, Lg.Ent.z.cells ++ sp, rfl, hgg, ?_, by omega, hcm⟩⟩
  rw [Lg.entCells_cons, List.length_append, List.length_append, Lg.entCells_length] at hlen
  rw [List.length_append, List.length_append, Lg.entCells_length]
  have e1 : (Lg.Ent.cells (a, l)).length = 2 := rfl
  have e2 : Lg.Ent.z.cells.length = 2 := rfl
  omega
 ·refine ⟨(hg3.os.trans hos.1).trans hB.os, (hg3.tape.trans hos.2.1).trans hB.tape, (hg3.output.trans hos.2.2).trans hB.output, by omega, fun k hk hn => ?_⟩
  simp [hvg] at hn
  exact (((hg3.block k (by omega) (fun e => hn.2.1 (Option.some.inj e))).trans (k5 k hn.1)).trans (hk1 k (by omega) hn.2.2)).trans (hB.block k hk)
set_option maxHeartbeats 1000000 in
theorem takeFirst_any (w : World) (lb : Nat) (lg : List (Int × Int)) (G : List Nat) (a l : Int) (h : LogF w lb ((a, l) :: lg) G) (hp : isPfx a l = true) (hm : (a, l) ∉ lg) (hn : lg.length <= 1000) :
  Calls Tryz.prog 122 #[ptrV lb] w fun r w' => (∃ G', LogF w' lb lg G' /\ NewF w G G') /\ Only G w w' /\ r = .returned (pfxV a l) := by
 obtain ⟨v, mb, h1, h2, h3, h4, h5, rfl⟩ := h
 have hl := (Array.getElem?_eq_some_iff.1 h1).1
 have hmb : mb < w.heap.size := by obtain ⟨es, cl, h⟩ := h3.map; exact (Array.getElem?_eq_some_iff.1 h).1
 rcases h2.2 with ⟨_, h0⟩ | ⟨g, cap, sp, rfl, hg, hlen, hnc, hcm⟩
 ·simp at h0
 have hgl := (Array.getElem?_eq_some_iff.1 hg).1
 have hne := h5 g rfl
 simp only [List.length_cons] at hnc h1
 have c0 : w.cell? ⟨lb, 0, none⟩ = some (.slice (some ⟨g, 0, none⟩) (lg.length + 1) cap) := by simp [World.cell?, h1]
 have r0 : w.cell? ⟨g, 0, none⟩ = some (.int .i64 a) := by simp [World.cell?, hg, Lg.entCells, Lg.Ent.cells]
 have r1 : w.cell? ⟨g, 1, none⟩ = some (.int .i64 l) := by simp [World.cell?, hg, Lg.entCells, Lg.Ent.cells]
 obtain ⟨W, hW⟩ : ∃ W, W = (w.alloc (Obj.cells #[.int .i64 0, .int .i64 0] 65)).alloc (Obj.cells #[.int .i64 a, .int .i64 l] 65) := ⟨_, rfl⟩
 have hBW : Below w.heap.size w W := by rw [hW]; exact (by repeat (first | exact Below.refl _ _ | refine below_drewN ?_ _ | refine Below.drew ?_ | refine Below.trans ?_ (Below.mono (by assumption) ?_) | refine Below.alloc ?_ ?_ _ | refine Below.setCell ?_ ?_ _ | omega | (simp; omega) | simp))
 have hzW : W.heap.size = w.heap.size + 2 := by rw [hW]; simp
 have hdel := hide (Lg.delete_row W g 0 cap ((a, l) :: lg) sp (by simp) (by simp; omega) (by simpa using hnc) hcm ((hBW.block g hgl).trans hg) hlen)
 have hx : (((a, l) :: lg).take 0 ++ ((a, l) :: lg).drop (0 + 1)) = lg := rfl
 rw [hx] at hdel
 have Hfin := hide (show ∀ w1 w3, (w1 = W.drew.setRow g (Lg.entCells lg ++ (Lg.Ent.z.cells ++ sp)).toArray) -> SetF w3 mb lg -> (w1.setCell ⟨lb, 0, none⟩ (.slice (some ⟨g, 0, none⟩) lg.length cap)).drew.mapTurned w3 mb -> LogF w3 lb lg (lb :: mb :: (Value.slice (some ⟨g, 0, none⟩) (lg.length + 1) cap).ownBlock.toList) /\ Only (lb :: mb :: (Value.slice (some ⟨g, 0, none⟩) (lg.length + 1) cap).ownBlock.toList) w w3 from fun w1 w3 hw1 hS3 ht3 =>
  taken (v := .slice (some ⟨g, 0, none⟩) (lg.length + 1) cap) rfl h1 h4 hne hgl hBW (fun k hk hkg => by rw [hw1]; exact setRow_other W.drew g k _ hkg) (by rw [hw1]; simp [World.setRow]) (by rw [hw1]; exact ⟨rfl, rfl, rfl⟩) (by rw [hw1]; exact setRow_heap W.drew g _ _ _ _ ((hBW.block g hgl).trans hg)) hlen (by simpa using hnc) hcm hS3 ht3)
 have Hdl := hide (show ∀ w1, (w1 = W.drew.setRow g (Lg.entCells lg ++ (Lg.Ent.z.cells ++ sp)).toArray) -> ∃ w3, (Builtin.delete_ #[135, 65] 0 #[.map (some mb), pfxV a l]).run Tryz.prog (w1.setCell ⟨lb, 0, none⟩ (.slice (some ⟨g, 0, none⟩) lg.length cap)).drew = .ok (.tuple #[]) w3 /\ SetF w3 mb lg /\ (w1.setCell ⟨lb, 0, none⟩ (.slice (some ⟨g, 0, none⟩) lg.length cap)).drew.mapTurned w3 mb from fun w1 hw1 => by
  refine SetF.del (h3.kept ?_) hp hm 0
  refine ((Below.heap_setCell _ _ _ _ (Ne.symm h4)).trans ?_).trans (hBW.block mb hmb)
  rw [hw1]; exact setRow_other W.drew g mb _ (Ne.symm hne.2))
 have d0 : W.cell? ⟨lb, 0, none⟩ = some (.slice (some ⟨g, 0, none⟩) (lg.length + 1) cap) := (hBW.cell (p := ⟨lb, 0, none⟩) hl).trans c0
 have Hcl := hide (show ∀ w1, (w1 = W.drew.setRow g (Lg.entCells lg ++ (Lg.Ent.z.cells ++ sp)).toArray) -> w1.cell? ⟨lb, 0, none⟩ = some (.slice (some ⟨g, 0, none⟩) (lg.length + 1) cap) /\ w1.cell? ⟨lb, 1, none⟩ = some (.map (some mb)) /\ w1.frozen? ⟨lb, 0, none⟩ = false /\ w1.cell? ⟨w.heap.size + 1, 0, none⟩ = some (.int .i64 a) /\ w1.cell? ⟨w.heap.size + 1, 1, none⟩ = some (.int .i64 l) /\ w1.heap.size = w.heap.size + 2 from fun w1 hw1 => by
  have hb1 : w1.heap[lb]? = some (.cells #[.slice (some ⟨g, 0, none⟩) (lg.length + 1) cap, .map (some mb)] 137 (0, 0)) := by rw [hw1]; exact ((setRow_other W.drew g lb _ (Ne.symm hne.1)).trans (hBW.block lb hl)).trans h1
  have hb2 : w1.heap[w.heap.size + 1]? = some (.cells #[.int .i64 a, .int .i64 l] 65 (0, 0)) := by
   rw [hw1]
   refine (setRow_other W.drew g _ _ (by omega)).trans ?_
   show W.heap[w.heap.size + 1]? = _
   rw [hW]
   have := World.alloc_heap_new (w.alloc (Obj.cells #[.int .i64 0, .int .i64 0] 65)) (Obj.cells #[.int .i64 a, .int .i64 l] 65)
   rwa [World.size_alloc] at this
  refine ⟨by simp [World.cell?, hb1], by simp [World.cell?, hb1], by simp [World.frozen?, hb1], by simp [World.cell?, hb2], by simp [World.cell?, hb2], ?_⟩
  rw [hw1, <- hzW]; simp [World.setRow])
 have HW := hide hW
 clear h1 h2 h3 h5 hlen hg hx hW
 have j0 : (0 : Int) < (lg.length : Int) + 1 := by omega
 go_enter Tryz.func122, Tryz.ntmps122
 go_wp2_with fail
 rw [<- HW.out]
 refine hdel.out.mono ?_
 rintro _ w1 ⟨rfl, hw1⟩
 obtain ⟨w3, hd3, hS3, ht3⟩ := Hdl.out w1 hw1
 have fin := hide (Hfin.out w1 w3 hw1 hS3 ht3)
 obtain ⟨e0, e1, e2, e3, e4, e5⟩ := Hcl.out w1 hw1
 have hg3 := ht3.grown
 have hz3 : w.heap.size + 2 <= w3.heap.size := by have := hg3.size; simp [World.setCell] at this; omega
 have hnl : ¬ (w.heap.size = lb) := by omega
 have hnm : ¬ (w.heap.size = mb) := by omega
 have hn1 : ¬ (w.heap.size + 1 = lb) := by omega
 have hn2 : ¬ (w.heap.size + 1 = mb) := by omega
 have hn3 : ¬ (lb = w.heap.size + 1) := by omega
 have hw0 : w1.heap[w.heap.size]? = some (.cells #[.int .i64 0, .int .i64 0] 65 (0, 0)) := by
  rw [hw1]
  refine (setRow_other W.drew g _ _ (by omega)).trans ?_
  show W.heap[w.heap.size]? = _
  rw [HW.out]
  exact (Below.heap_alloc _ _ _ (by simp)).trans (World.alloc_heap_new w _)
 have k3 : ∀ k, k ≠ lb -> k ≠ mb -> k < w1.heap.size -> w3.heap[k]? = w1.heap[k]? := fun k h1 h2 h3 => (hg3.block k (by simpa [World.setCell] using h3) (fun e => h2 (Option.some.inj e))).trans (Below.heap_setCell _ _ _ _ h1)
 have hb30 : w3.heap[w.heap.size]? = some (.cells #[.int .i64 0, .int .i64 0] 65 (0, 0)) := (k3 _ hnl hnm (by omega)).trans hw0
 have f3 : w3.cell? ⟨w.heap.size + 1, 0, none⟩ = some (.int .i64 a) := (World.cell?_of_block (a := ⟨w.heap.size + 1, 0, none⟩) (k3 (w.heap.size + 1) hn1 hn2 (by omega))).trans e3
 have f4 : w3.cell? ⟨w.heap.size + 1, 1, none⟩ = some (.int .i64 l) := (World.cell?_of_block (a := ⟨w.heap.size + 1, 1, none⟩) (k3 (w.heap.size + 1) hn1 hn2 (by omega))).trans e4
 have f5 : w3.cell? ⟨w.heap.size, 0, none⟩ = some (.int .i64 0) := by simp [World.cell?, hb30]
 have f6 : w3.cell? ⟨w.heap.size, 1, none⟩ = some (.int .i64 0) := by simp [World.cell?, hb30]
 have f7 : ∀ o, w3.frozen? ⟨w.heap.size, o, none⟩ = false := fun o => by simp [World.frozen?, hb30]
 have fin2 := hide (show ∀ w5, (∀ k, k ≠ w.heap.size -> w5.heap[k]? = w3.heap[k]?) -> w5.heap.size = w3.heap.size -> w5.os = w3.os -> w5.tape = w3.tape -> w5.output = w3.output -> (∃ G', LogF w5 lb lg G' /\ NewF w (lb :: mb :: (Value.slice (some ⟨g, 0, none⟩) (lg.length + 1) cap).ownBlock.toList) G') /\ Only (lb :: mb :: (Value.slice (some ⟨g, 0, none⟩) (lg.length + 1) cap).ownBlock.toList) w w5 from fun w5 hk hz ho1 ho2 ho3 => by
  obtain ⟨q1, q2⟩ := fin.out
  refine ⟨⟨_, q1.kept fun k hk' => hk k ?_, NewF.refl _ _⟩, ⟨ho1.trans q2.os, ho2.trans q2.tape, ho3.trans q2.output, by rw [hz]; exact q2.size, fun k h1 h2 => (hk k (by omega)).trans (q2.block k h1 h2)⟩⟩
  rintro rfl
  simp [Value.ownBlock] at hk'
  omega)
 have hd4 := hd3
 clear hw1 hS3 ht3 hg3 Hdl Hfin Hcl HW hdel hd3 hw0 hb30 k3 fin hBW hzW d0 c0 r0 r1 hne hnc hcm j0
 simp only [List.length_cons, Nat.add_sub_cancel]
 go_wp2
 go_region
 go_wp2
 refine bodyPost_ret (v := pfxV a l) (by simp [results, Tryz.results122, go_sem, *]) rfl ?_
 obtain ⟨q1, q2⟩ := fin2.out _ (fun k hk => ((Below.heap_setCell _ ⟨w.heap.size, 1, none⟩ _ _ hk).trans (Below.heap_setCell _ ⟨w.heap.size, 0, none⟩ _ _ hk))) (by simp [World.setCell]) rfl rfl rfl
 exact ⟨q1, q2, rfl⟩
end Go.Proofs.YtglbamalagacgaaGreat
