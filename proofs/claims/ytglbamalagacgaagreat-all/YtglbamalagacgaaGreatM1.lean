import Derived.Test.YtglbamalagacgaaGreatL2
namespace Go.Proofs.YtglbamalagacgaaGreat
open Go.RowKit Go.Shelf
structure Mv where
 k : Int
 ys : List Ent
 ph : Int
 cp : Int
 ca : Int
 cl : Int
 lg : List (Int × Int)
structure TS where
 xs : List Ent
 k : Int
 b : Int
 ch : Int
 lim : Int
 mv : Option Mv
 ms : Int
 bs : Int
def Mv.past (m : Mv) (a l : Int) : Prop := 0 < m.cp /\ ¬ klt m.ca m.cl a l
instance (m : Mv) (a l : Int) : Decidable (m.past a l) := by unfold Mv.past; infer_instance
def joinL (lg : List (Int × Int)) (a l : Int) : List (Int × Int) := if (a, l) ∈ lg then lg else lg ++ [(a, l)]
def Mv.note (m : Mv) (a l : Int) : Mv := if m.ph = 2 ∨ m.past a l then { m with lg := joinL m.lg a l } else m
def Mv.lay (m : Mv) (x : Ent) : Mv := { m with ys := putE m.ys x.a x.l x.n, cp := m.cp + 1, ca := x.a, cl := x.l }
def tgtM : Option Mv -> Int
 | none => 0
 | some m => needK m.k m.ys
def lgdM : Option Mv -> Int
 | none => 0
 | some m => (m.lg.length : Nat)
def TS.act (s : TS) : Int := needK s.k s.xs
def TS.use (s : TS) : Int := s.act + tgtM s.mv + lgdM s.mv
def TS.at (s : TS) (m : Mv) : TS := { s with mv := some m }
def TS.back (s : TS) : TS := { s with mv := none, bs := wrap64 (s.bs + 1) }
def TS.over (s s' : TS) : Prop := s.b < s'.use /\ s.use < s'.use
instance (s s' : TS) : Decidable (s.over s') := by unfold TS.over; infer_instance
@[simp] theorem TS.at_xs (s : TS) (m : Mv) : (s.at m).xs = s.xs := rfl
@[simp] theorem TS.at_k (s : TS) (m : Mv) : (s.at m).k = s.k := rfl
@[simp] theorem TS.at_b (s : TS) (m : Mv) : (s.at m).b = s.b := rfl
@[simp] theorem TS.at_ch (s : TS) (m : Mv) : (s.at m).ch = s.ch := rfl
@[simp] theorem TS.at_lim (s : TS) (m : Mv) : (s.at m).lim = s.lim := rfl
@[simp] theorem TS.at_mv (s : TS) (m : Mv) : (s.at m).mv = some m := rfl
@[simp] theorem TS.at_ms (s : TS) (m : Mv) : (s.at m).ms = s.ms := rfl
@[simp] theorem TS.at_bs (s : TS) (m : Mv) : (s.at m).bs = s.bs := rfl
@[simp] theorem TS.at_at (s : TS) (m m' : Mv) : (s.at m).at m' = s.at m' := rfl
@[simp] theorem TS.at_back (s : TS) (m : Mv) : (s.at m).back = s.back := rfl
theorem TS.at_same {s : TS} {m : Mv} (h : s.mv = some m) : s.at m = s := by cases s; simp only at h; rw [h]; rfl
def cpRun (s : TS) : List Ent -> Nat -> Mv -> Int × TS
 | [], n, m => (1, s.at (if (n : Int) < s.ch then { m with ph := 2 } else m))
 | x :: rest, n, m => if m.past x.a x.l then cpRun s rest n m else if (n : Int) = s.ch then (1, s.at m) else if (s.at m).over (s.at (m.lay x)) then (4, s.back) else cpRun s rest (n + 1) (m.lay x)
def Mv.catch (m : Mv) (xs : List Ent) : Mv := match m.lg with
 | [] => m
 | p :: lg => { m with lg := lg, ys := setE m.ys p.1 p.2 (orZ (getE xs p.1 p.2)) }
def TS.cut (s : TS) (m : Mv) : TS := { s with xs := m.ys, k := m.k, mv := none, ms := wrap64 (s.ms + 1) }
def ctRun (s : TS) : Nat -> Mv -> Int × TS
 | 0, m => if m.lg = [] then (3, s.cut m) else (2, s.at m)
 | n + 1, m => if (s.at m).over (s.at (m.catch s.xs)) then (4, s.back) else ctRun s n (m.catch s.xs)
def TS.step (s : TS) : Int × TS := match s.mv with
 | none => (0, s)
 | some m => if m.ph = 1 then cpRun s (fromE s.xs m.ca m.cl) 0 m else ctRun s (min s.ch.toNat m.lg.length) m
def Mv.notes (m : Mv) (cs : List Chg) : Mv := cs.foldl (fun m c => m.note c.a c.l) m
def TS.follow (s : TS) (cs : List Chg) (before : Int) : TS := match s.mv with
 | none => s
 | some m => if s.lim < ((m.notes cs).lg.length : Nat) ∨ (s.b < (s.at (m.notes cs)).use /\ before < (s.at (m.notes cs)).use) then s.back else s.at (m.notes cs)
def TS.lays (s : TS) (xs : List Ent) : TS := { s with xs := xs }
def TS.apply (s : TS) (cs : List Chg) : Int × Int × TS :=
 if 16 < cs.length then (0, 12, s) else
 if (tryX cs s.xs 0).2.2 ≠ 0 then (((tryX cs s.xs 0).2.1 : Nat), (tryX cs s.xs 0).2.2, s) else
 if s.b < needK s.k (tryX cs s.xs 0).1 /\ needK s.k s.xs < needK s.k (tryX cs s.xs 0).1 then ((cs.length : Nat), 6, s) else
 ((cs.length : Nat), 0, (s.lays (tryX cs s.xs 0).1).follow cs s.use)
def mv0 (k : Int) : Mv := ⟨k, [], 1, 0, 0, 0, []⟩
def TS.move (s : TS) (k : Int) : Int × TS :=
 if ¬ (1 <= k /\ k <= 3) then (7, s) else if s.mv.isSome = true then (8, s) else if k = s.k then (9, s) else
 if s.b < s.act + needK k [] /\ s.act < s.act + needK k [] then (6, s) else (0, s.at (mv0 k))
def TS.abort (s : TS) : Int × TS := match s.mv with
 | none => (10, s)
 | some _ => (0, s.back)
structure MvOk (s : TS) (m : Mv) : Prop where
 k1 : 1 <= m.k
 k3 : m.k <= 3
 kne : m.k ≠ s.k
 sorted : Sorted m.ys
 ok : ∀ x ∈ m.ys, okE x
 ph : m.ph = 1 ∨ m.ph = 2
 cp0 : 0 <= m.cp
 cp1 : m.cp <= 9 * m.ca + m.cl + 1
 c0 : m.cp = 0 -> m.ca = 0 /\ m.cl = 0
 cur : isPfx m.ca m.cl = true
 nodup : m.lg.Nodup
 pfx : ∀ p ∈ m.lg, isPfx p.1 p.2 = true
 eq : ∀ a l, (m.ph = 2 ∨ m.past a l) -> (a, l) ∉ m.lg -> getE m.ys a l = getE s.xs a l
 no : ∀ a l, ¬ (m.ph = 2 ∨ m.past a l) -> getE m.ys a l = none
structure TS.Ok (s : TS) : Prop where
 sorted : Sorted s.xs
 ok : ∀ x ∈ s.xs, okE x
 k1 : 1 <= s.k
 k3 : s.k <= 3
 b1 : 1 <= s.b
 b4 : s.b <= 400
 ch1 : 1 <= s.ch
 ch8 : s.ch <= 8
 l1 : 1 <= s.lim
 l16 : s.lim <= 16
 mv : ∀ m, s.mv = some m -> MvOk s m /\ (m.lg.length : Int) <= s.lim
theorem TS.Ok.back {s : TS} (h : s.Ok) : s.back.Ok := ⟨h.sorted, h.ok, h.k1, h.k3, h.b1, h.b4, h.ch1, h.ch8, h.l1, h.l16, fun m hm => by cases hm⟩
theorem TS.Ok.at {s : TS} (h : s.Ok) {m : Mv} (hm : MvOk s m) (hl : (m.lg.length : Int) <= s.lim) : (s.at m).Ok :=
 ⟨h.sorted, h.ok, h.k1, h.k3, h.b1, h.b4, h.ch1, h.ch8, h.l1, h.l16, fun m' hm' => by
  cases hm'
  exact ⟨⟨hm.k1, hm.k3, hm.kne, hm.sorted, hm.ok, hm.ph, hm.cp0, hm.cp1, hm.c0, hm.cur, hm.nodup, hm.pfx, hm.eq, hm.no⟩, hl⟩⟩
theorem rank_lt {a l b m : Int} (h : isPfx a l = true) (k : isPfx b m = true) (hk : klt a l b m) : 9 * a + l < 9 * b + m := by
 have h1 := (isPfx_iff _ _).1 h
 have h2 := (isPfx_iff _ _).1 k
 unfold klt at hk
 omega
theorem MvOk.cp {s : TS} {m : Mv} (h : MvOk s m) : m.cp <= 2304 := by
 have h1 := (isPfx_iff _ _).1 h.cur
 have := h.cp1
 omega
theorem MvOk.lay {s : TS} {m : Mv} (h : MvOk s m) {x : Ent} (hx : okE x) (hg : getE s.xs x.a x.l = some x.n) (hp : ¬ m.past x.a x.l) (h1 : m.ph = 1) (hb : ∀ a l, klt a l x.a x.l -> ¬ m.past a l -> getE s.xs a l = none) : MvOk s (m.lay x) := by
 have hrk : 0 < m.cp -> 9 * m.ca + m.cl < 9 * x.a + x.l := fun h0 => rank_lt h.cur hx.1 (by unfold Mv.past at hp; by_cases hk : klt m.ca m.cl x.a x.l; exact hk; exact absurd ⟨h0, hk⟩ hp)
 have hpx := (isPfx_iff _ _).1 hx.1
 refine ⟨h.k1, h.k3, h.kne, putE_sorted h.sorted, ok_put h.ok hx, .inl h1, by show 0 <= m.cp + 1; have := h.cp0; omega, ?_, (fun h0 => by have h1 : m.cp + 1 = 0 := h0; have := h.cp0; omega), hx.1, h.nodup, h.pfx, ?_, ?_⟩
 ·show m.cp + 1 <= 9 * x.a + x.l + 1
  have := h.cp0
  have := h.cp1
  by_cases h0 : 0 < m.cp
  ·have := hrk h0; omega
  ·omega
 ·intro a l hq hn
  show getE (putE m.ys x.a x.l x.n) a l = _
  rw [getE_put h.sorted]
  by_cases he : x.a = a /\ x.l = l
  ·rw [if_pos he, <- he.1, <- he.2, hg]
  ·rw [if_neg he]
   have hq' : ¬ klt x.a x.l a l := by
    rcases hq with hq | hq
    ·have : m.ph = 2 := hq; omega
    ·exact hq.2
   by_cases hpa : m.past a l
   ·exact h.eq a l (.inr hpa) hn
   ·rw [h.no a l (fun hh => hh.elim (fun h2 => by omega) hpa), hb a l (by unfold klt at hq' ⊢; omega) hpa]
 ·intro a l hq
  show getE (putE m.ys x.a x.l x.n) a l = _
  have hk : klt x.a x.l a l := by
   by_cases hk : klt x.a x.l a l
   ·exact hk
   ·exact absurd (.inr ⟨by show 0 < m.cp + 1; have := h.cp0; omega, hk⟩) hq
  rw [getE_put h.sorted, if_neg (by unfold klt at hk; omega)]
  refine h.no a l fun hh => ?_
  rcases hh with h2 | h2
  ·omega
  ·refine h2.2 ?_
   by_cases hk2 : klt m.ca m.cl x.a x.l
   ·unfold klt at hk hk2 ⊢; omega
   ·exact absurd ⟨h2.1, hk2⟩ hp
theorem getE_set_orZ {ys xs : List Ent} {a l : Int} (hs : Sorted ys) (ho : ∀ x ∈ xs, okE x) (b m : Int) : getE (setE ys a l (orZ (getE xs a l))) b m = if a = b /\ l = m then getE xs b m else getE ys b m := by
 rw [getE_setE hs]
 by_cases he : a = b /\ l = m
 ·rw [if_pos he, if_pos he, <- he.1, <- he.2]
  cases hg : getE xs a l with
  | none => rfl
  | some v =>
   have hv := orZ_ok (a := a) (l := l) ho (by rw [hg]; rfl)
   rw [hg] at hv
   have hv' : ¬ v = 0 := by simpa [orZ] using hv
   simp [orZ, hv']
 ·rw [if_neg he, if_neg he]
theorem ok_orZ {xs : List Ent} {a l : Int} (ho : ∀ x ∈ xs, okE x) : orZ (getE xs a l) = 0 ∨ okE ⟨a, l, orZ (getE xs a l)⟩ := by
 cases hg : getE xs a l with
 | none => exact .inl rfl
 | some v =>
  obtain ⟨y, hy, e1, e2, e3⟩ := getE_mem hg
  refine .inr ?_
  have := ho y hy
  obtain ⟨ya, yl, yn⟩ := y
  simp only at e1 e2 e3
  rw [<- e1, <- e2]
  show okE ⟨ya, yl, v⟩
  rw [<- e3]; exact this
theorem MvOk.catch {s : TS} {m : Mv} (h : MvOk s m) (ho : ∀ x ∈ s.xs, okE x) (h2 : m.ph = 2) : MvOk s (m.catch s.xs) := by
 unfold Mv.catch
 cases hl : m.lg with
 | nil => exact h
 | cons p lg =>
  have hnd := h.nodup
  have hpf := h.pfx
  rw [hl] at hnd hpf
  have hok := ok_orZ (a := p.1) (l := p.2) ho
  refine ⟨h.k1, h.k3, h.kne, setE_sorted h.sorted, ?_, .inr h2, h.cp0, h.cp1, h.c0, h.cur, (List.nodup_cons.1 hnd).2, fun q hq => hpf q (by simp [hq]), ?_, ?_⟩
  ·show ∀ x ∈ setE m.ys p.1 p.2 (orZ (getE s.xs p.1 p.2)), okE x
   unfold setE
   split
   ·exact ok_del h.ok
   ·exact ok_put h.ok (hok.resolve_left (by assumption))
  ·intro a l _ hn
   show getE (setE m.ys p.1 p.2 (orZ (getE s.xs p.1 p.2))) a l = _
   rw [getE_set_orZ h.sorted ho]
   by_cases he : p.1 = a /\ p.2 = l
   ·rw [if_pos he]
   ·rw [if_neg he]
    refine h.eq a l (.inl h2) ?_
    rw [hl]
    intro hm
    rcases List.mem_cons.1 hm with hm | hm
    ·exact he ⟨by rw [<- hm], by rw [<- hm]⟩
    ·exact hn hm
  ·intro a l hq
   exact absurd (.inl h2) hq
theorem joinL_mem (lg : List (Int × Int)) (a l : Int) (p : Int × Int) : p ∈ joinL lg a l ↔ p ∈ lg ∨ p = (a, l) := by
 unfold joinL
 split
 ·rename_i h
  exact ⟨fun h1 => .inl h1, fun h1 => h1.elim id (fun h1 => h1 ▸ h)⟩
 ·simp
theorem joinL_nodup {lg : List (Int × Int)} (h : lg.Nodup) (a l : Int) : (joinL lg a l).Nodup := by
 unfold joinL
 split
 ·exact h
 ·rename_i hn
  rw [List.nodup_append]
  exact ⟨h, by simp, fun x hx y hy => by simp at hy; rintro rfl; rw [hy] at hx; exact hn hx⟩
theorem joinL_len (lg : List (Int × Int)) (a l : Int) : lg.length <= (joinL lg a l).length /\ (joinL lg a l).length <= lg.length + 1 := by
 unfold joinL
 split <;> simp
theorem note_len (m : Mv) (a l : Int) : m.lg.length <= (m.note a l).lg.length /\ (m.note a l).lg.length <= m.lg.length + 1 := by
 unfold Mv.note
 split
 ·exact joinL_len _ _ _
 ·simp
theorem notes_len (cs : List Chg) : ∀ m : Mv, m.lg.length <= (m.notes cs).lg.length /\ (m.notes cs).lg.length <= m.lg.length + cs.length := by
 induction cs with
 | nil => intro m; simp [Mv.notes]
 | cons c cs ih =>
  intro m
  have h1 := note_len m c.a c.l
  have h2 := ih (m.note c.a c.l)
  have e : m.notes (c :: cs) = (m.note c.a c.l).notes cs := rfl
  rw [e, List.length_cons]
  omega
theorem notes_snoc (m : Mv) (cs : List Chg) (c : Chg) : m.notes (cs ++ [c]) = (m.notes cs).note c.a c.l := by simp [Mv.notes, List.foldl_append]
structure SameM (m m' : Mv) : Prop where
 k : m'.k = m.k
 ys : m'.ys = m.ys
 ph : m'.ph = m.ph
 cp : m'.cp = m.cp
 ca : m'.ca = m.ca
 cl : m'.cl = m.cl
theorem SameM.refl (m : Mv) : SameM m m := ⟨rfl, rfl, rfl, rfl, rfl, rfl⟩
theorem SameM.trans {a b c : Mv} (h : SameM a b) (k : SameM b c) : SameM a c := ⟨k.k.trans h.k, k.ys.trans h.ys, k.ph.trans h.ph, k.cp.trans h.cp, k.ca.trans h.ca, k.cl.trans h.cl⟩
theorem SameM.past {m m' : Mv} (h : SameM m m') (a l : Int) : m'.past a l ↔ m.past a l := by unfold Mv.past; rw [h.cp, h.ca, h.cl]
theorem note_same (m : Mv) (a l : Int) : SameM m (m.note a l) := by
 unfold Mv.note
 split
 ·exact ⟨rfl, rfl, rfl, rfl, rfl, rfl⟩
 ·exact SameM.refl _
theorem notes_same (cs : List Chg) : ∀ m : Mv, SameM m (m.notes cs) := by
 induction cs with
 | nil => intro m; exact SameM.refl _
 | cons c cs ih => intro m; exact (note_same m c.a c.l).trans (ih _)
theorem note_mem (m : Mv) (a l : Int) (p : Int × Int) : p ∈ (m.note a l).lg ↔ p ∈ m.lg ∨ (p = (a, l) /\ (m.ph = 2 ∨ m.past a l)) := by
 unfold Mv.note
 split
 ·rename_i h
  rw [joinL_mem]
  simp [h]
 ·rename_i h
  simp [h]
theorem notes_mem (cs : List Chg) : ∀ (m : Mv) (p : Int × Int), p ∈ (m.notes cs).lg ↔ p ∈ m.lg ∨ ∃ c ∈ cs, p = (c.a, c.l) /\ (m.ph = 2 ∨ m.past c.a c.l) := by
 induction cs with
 | nil => intro m p; simp [Mv.notes]
 | cons c cs ih =>
  intro m p
  have e : m.notes (c :: cs) = (m.note c.a c.l).notes cs := rfl
  have hs := note_same m c.a c.l
  rw [e, ih, note_mem]
  constructor
  ·rintro ((h | ⟨h1, h2⟩) | ⟨d, hd, h1, h2⟩)
   ·exact .inl h
   ·exact .inr ⟨c, by simp, h1, h2⟩
   ·refine .inr ⟨d, by simp [hd], h1, ?_⟩
    rw [hs.ph, hs.past] at h2; exact h2
  ·rintro (h | ⟨d, hd, h1, h2⟩)
   ·exact .inl (.inl h)
   ·rcases List.mem_cons.1 hd with rfl | hd
    ·exact .inl (.inr ⟨h1, h2⟩)
    ·refine .inr ⟨d, hd, h1, ?_⟩
     rw [hs.ph, hs.past]; exact h2
theorem notes_nodup (cs : List Chg) : ∀ m : Mv, m.lg.Nodup -> (m.notes cs).lg.Nodup := by
 induction cs with
 | nil => intro m h; exact h
 | cons c cs ih =>
  intro m h
  refine ih _ ?_
  show (m.note c.a c.l).lg.Nodup
  unfold Mv.note
  split
  ·exact joinL_nodup h _ _
  ·exact h
end Go.Proofs.YtglbamalagacgaaGreat

namespace Go.Proofs.YtglbamalagacgaaGreat
open Go.RowKit Go.Shelf
theorem tryX_facts : ∀ (cs : List Chg) (xs : List Ent) (i : Nat), Sorted xs -> (∀ x ∈ xs, okE x) -> (tryX cs xs i).2.2 = 0 -> Sorted (tryX cs xs i).1 /\ (∀ x ∈ (tryX cs xs i).1, okE x) /\ (∀ c ∈ cs, isPfx c.a c.l = true) /\ ∀ a l, (∀ c ∈ cs, ¬ (c.a = a /\ c.l = l)) -> getE (tryX cs xs i).1 a l = getE xs a l
 | [], xs, i, hs, ho, _ => ⟨hs, ho, by simp, fun _ _ _ => rfl⟩
 | x :: cs, xs, i, hs, ho, h => by
  rw [tryX] at h ⊢
  by_cases h1 : isPfx x.a x.l = false
  ·rw [if_pos h1] at h; simp at h
  rw [if_neg h1] at h ⊢
  by_cases h2 : x.n < 0 ∨ 255 < x.n
  ·rw [if_pos h2] at h; simp at h
  rw [if_neg h2] at h ⊢
  by_cases h3 : x.n = 0 /\ getE xs x.a x.l = none
  ·rw [if_pos h3] at h; simp at h
  rw [if_neg h3] at h ⊢
  have hp : isPfx x.a x.l = true := by simpa using h1
  obtain ⟨r1, r2, r3, r4⟩ := tryX_facts cs (setE xs x.a x.l x.n) (i + 1) (setE_sorted hs) (setE_ok ho hp (by omega)) h
  refine ⟨r1, r2, fun c hc => ?_, fun a l hn => ?_⟩
  ·rcases List.mem_cons.1 hc with rfl | hc
   ·exact hp
   ·exact r3 c hc
  ·rw [r4 a l (fun c hc => hn c (by simp [hc])), getE_setE hs, if_neg (hn x (by simp))]
theorem notes_ok {s : TS} {m : Mv} {cs : List Chg} (hs : s.Ok) (h : MvOk s m) (he : (tryX cs s.xs 0).2.2 = 0) : MvOk (s.lays (tryX cs s.xs 0).1) (m.notes cs) := by
 obtain ⟨_, _, r3, r4⟩ := tryX_facts cs s.xs 0 hs.sorted hs.ok he
 have hm := notes_same cs m
 have hpast := hm.past
 refine ⟨by rw [hm.k]; exact h.k1, by rw [hm.k]; exact h.k3, by rw [hm.k]; exact h.kne, by rw [hm.ys]; exact h.sorted, by rw [hm.ys]; exact h.ok, by rw [hm.ph]; exact h.ph, by rw [hm.cp]; exact h.cp0, by rw [hm.cp, hm.ca, hm.cl]; exact h.cp1, by rw [hm.cp, hm.ca, hm.cl]; exact h.c0, by rw [hm.ca, hm.cl]; exact h.cur, notes_nodup cs m h.nodup, ?_, ?_, ?_⟩
 ·intro p hp
  rw [notes_mem] at hp
  rcases hp with hp | ⟨c, hc, rfl, _⟩
  ·exact h.pfx p hp
  ·exact r3 c hc
 ·intro a l hq hn
  rw [hm.ph, hpast] at hq
  rw [hm.ys]
  show _ = getE (tryX cs s.xs 0).1 a l
  rw [notes_mem] at hn
  rw [h.eq a l hq (fun h1 => hn (.inl h1)), r4 a l]
  rintro c hc ⟨rfl, rfl⟩
  exact hn (.inr ⟨c, hc, rfl, hq⟩)
 ·intro a l hq
  rw [hm.ph, hpast] at hq
  rw [hm.ys]
  exact h.no a l hq
theorem follow_ok {s : TS} {cs : List Chg} (h : s.Ok) (he : (tryX cs s.xs 0).2.2 = 0) (u : Int) : ((s.lays (tryX cs s.xs 0).1).follow cs u).Ok := by
 obtain ⟨r1, r2, _⟩ := tryX_facts cs s.xs 0 h.sorted h.ok he
 unfold TS.follow
 show TS.Ok (match s.mv with | none => _ | some m => _)
 cases hm : s.mv with
 | none => exact ⟨r1, r2, h.k1, h.k3, h.b1, h.b4, h.ch1, h.ch8, h.l1, h.l16, fun m hmm => by rw [show (s.lays (tryX cs s.xs 0).1).mv = s.mv from rfl, hm] at hmm; cases hmm⟩
 | some m =>
  have hn := notes_ok h (h.mv m hm).1 he
  have hbk : (s.lays (tryX cs s.xs 0).1).back.Ok := ⟨r1, r2, h.k1, h.k3, h.b1, h.b4, h.ch1, h.ch8, h.l1, h.l16, fun m hmm => by cases hmm⟩
  dsimp only
  split
  ·exact hbk
  ·rename_i hc
   refine ⟨r1, r2, h.k1, h.k3, h.b1, h.b4, h.ch1, h.ch8, h.l1, h.l16, fun m' hm' => ?_⟩
   cases hm'
   refine ⟨⟨hn.k1, hn.k3, hn.kne, hn.sorted, hn.ok, hn.ph, hn.cp0, hn.cp1, hn.c0, hn.cur, hn.nodup, hn.pfx, hn.eq, hn.no⟩, ?_⟩
   show ((m.notes cs).lg.length : Int) <= s.lim
   have : ¬ (s.lim < ((m.notes cs).lg.length : Nat)) := fun h1 => hc (.inl h1)
   omega
theorem apply_ok {s : TS} (h : s.Ok) (cs : List Chg) : (s.apply cs).2.2.Ok := by
 unfold TS.apply
 split
 ·exact h
 split
 ·exact h
 split
 ·exact h
 ·rename_i h1 h2 h3
  exact follow_ok h (by simpa using h2) _
theorem follow_same (s : TS) (cs : List Chg) (u : Int) : (s.follow cs u).b = s.b /\ (s.follow cs u).lim = s.lim /\ (s.follow cs u).ch = s.ch /\ (s.follow cs u).k = s.k /\ (s.follow cs u).xs = s.xs /\ (s.follow cs u).ms = s.ms := by
 unfold TS.follow
 cases s.mv with
 | none => exact ⟨rfl, rfl, rfl, rfl, rfl, rfl⟩
 | some m =>
  dsimp only
  split <;> exact ⟨rfl, rfl, rfl, rfl, rfl, rfl⟩
def fitsT (s s' : TS) : Prop := s'.use <= s.use ∨ s'.use <= s'.b
theorem need_nn {k : Int} {xs : List Ent} (hs : Sorted xs) (hk : ∀ x ∈ xs, okE x) : 0 <= needK k xs := (needK_bd hs hk).1
theorem TS.Ok.use_nn {s : TS} (h : s.Ok) : 0 <= s.act /\ s.act <= 10000 /\ 0 <= tgtM s.mv /\ tgtM s.mv <= 10000 /\ 0 <= lgdM s.mv /\ lgdM s.mv <= s.lim := by
 have h1 := needK_bd (k := s.k) h.sorted h.ok
 refine ⟨h1.1, h1.2, ?_⟩
 cases hm : s.mv with
 | none => exact ⟨Int.le_refl _, by decide, Int.le_refl _, by have := h.l1; show (0 : Int) <= s.lim; omega⟩
 | some m =>
  have h2 := h.mv m hm
  have h3 := needK_bd (k := m.k) h2.1.sorted h2.1.ok
  exact ⟨h3.1, h3.2, by show (0 : Int) <= (m.lg.length : Nat); omega, h2.2⟩
theorem back_use {s : TS} (h : s.Ok) : s.back.use <= s.use := by
 have := h.use_nn
 show s.act + 0 + 0 <= s.act + tgtM s.mv + lgdM s.mv
 omega
theorem apply_fits {s : TS} (h : s.Ok) (cs : List Chg) : fitsT s (s.apply cs).2.2 /\ (s.apply cs).2.2.b = s.b /\ (s.apply cs).2.2.lim = s.lim := by
 unfold TS.apply
 split
 ·exact ⟨.inl (Int.le_refl _), rfl, rfl⟩
 split
 ·exact ⟨.inl (Int.le_refl _), rfl, rfl⟩
 split
 ·exact ⟨.inl (Int.le_refl _), rfl, rfl⟩
 ·rename_i h1 h2 h3
  have hu := h.use_nn
  show fitsT s ((s.lays (tryX cs s.xs 0).1).follow cs s.use) /\ ((s.lays (tryX cs s.xs 0).1).follow cs s.use).b = s.b /\ ((s.lays (tryX cs s.xs 0).1).follow cs s.use).lim = s.lim
  have hfit : needK s.k (tryX cs s.xs 0).1 <= s.b ∨ needK s.k (tryX cs s.xs 0).1 <= s.act := by unfold TS.act; omega
  have hsm := follow_same (s.lays (tryX cs s.xs 0).1) cs s.use
  refine ⟨?_, hsm.1, hsm.2.1⟩
  unfold TS.follow
  show fitsT s (match s.mv with | none => _ | some m => _)
  cases hm : s.mv with
  | none =>
   have e : (s.lays (tryX cs s.xs 0).1).use = needK s.k (tryX cs s.xs 0).1 := by
    show needK s.k (tryX cs s.xs 0).1 + tgtM s.mv + lgdM s.mv = _
    rw [hm]; simp [tgtM, lgdM]
   unfold fitsT
   dsimp only
   rw [e]
   unfold TS.use
   show _ ∨ needK s.k (tryX cs s.xs 0).1 <= s.b
   omega
  | some m =>
   dsimp only
   split
   ·have e : (s.lays (tryX cs s.xs 0).1).back.use = needK s.k (tryX cs s.xs 0).1 := by
     show needK s.k (tryX cs s.xs 0).1 + 0 + 0 = _; omega
    unfold fitsT
    rw [e]
    unfold TS.use
    show _ ∨ needK s.k (tryX cs s.xs 0).1 <= s.b
    omega
   ·rename_i hc
    unfold fitsT
    show _ ∨ ((s.lays (tryX cs s.xs 0).1).at (m.notes cs)).use <= s.b
    have hc' : ¬ (s.b < ((s.lays (tryX cs s.xs 0).1).at (m.notes cs)).use /\ s.use < ((s.lays (tryX cs s.xs 0).1).at (m.notes cs)).use) := fun h1 => hc (.inr h1)
    omega
end Go.Proofs.YtglbamalagacgaaGreat

namespace Go.Proofs.YtglbamalagacgaaGreat
open Go.RowKit Go.Shelf
theorem getE_of_mem {xs : List Ent} (hs : Sorted xs) {x : Ent} (hx : x ∈ xs) : getE xs x.a x.l = some x.n := by
 induction xs with
 | nil => cases hx
 | cons y ys ih =>
  obtain ⟨h1, h2⟩ := sorted_tail hs
  rw [getE]
  rcases List.mem_cons.1 hx with rfl | hx
  ·rw [if_pos ⟨rfl, rfl⟩]
  ·have := h2 x hx
   rw [if_neg (by unfold klt at this; omega)]
   exact ih h1 hx
structure CpI (s : TS) (rest : List Ent) (m : Mv) : Prop where
 ok : MvOk s m
 ph : m.ph = 1
 lg : (m.lg.length : Int) <= s.lim
 sub : ∀ x ∈ rest, x ∈ s.xs
 sorted : Sorted rest
 all : ∀ x ∈ s.xs, m.past x.a x.l ∨ x ∈ rest
theorem CpI.start {s : TS} {m : Mv} (h : s.Ok) (hm : s.mv = some m) (h1 : m.ph = 1) : CpI s (fromE s.xs m.ca m.cl) m := by
 obtain ⟨h2, h3⟩ := h.mv m hm
 refine ⟨h2, h1, h3, fun x hx => (List.mem_filter.1 hx).1, List.Pairwise.filter _ h.sorted, fun x hx => ?_⟩
 by_cases hk : klt x.a x.l m.ca m.cl
 ·refine .inl ⟨?_, by unfold klt at hk ⊢; omega⟩
  by_cases h0 : m.cp = 0
  ·obtain ⟨e1, e2⟩ := h2.c0 h0
   rw [e1, e2] at hk
   have := (isPfx_iff _ _).1 (h.ok x hx).1
   unfold klt at hk
   omega
  ·have := h2.cp0; omega
 ·exact .inr (List.mem_filter.2 ⟨hx, by simp only [hk, decide_false, Bool.not_false]⟩)
theorem CpI.tail {s : TS} {x : Ent} {rest : List Ent} {m : Mv} (h : CpI s (x :: rest) m) (hp : m.past x.a x.l) : CpI s rest m :=
 ⟨h.ok, h.ph, h.lg, fun y hy => h.sub y (by simp [hy]), (sorted_tail h.sorted).1, fun y hy => (h.all y hy).elim .inl fun h1 => by
  rcases List.mem_cons.1 h1 with rfl | h1
  ·exact .inl hp
  ·exact .inr h1⟩
theorem CpI.lay {s : TS} {x : Ent} {rest : List Ent} {m : Mv} (hs : s.Ok) (h : CpI s (x :: rest) m) (hp : ¬ m.past x.a x.l) : CpI s rest (m.lay x) := by
 have hx := h.sub x (by simp)
 obtain ⟨h1, h2⟩ := sorted_tail h.sorted
 refine ⟨h.ok.lay (hs.ok x hx) (getE_of_mem hs.sorted hx) hp h.ph ?_, h.ph, h.lg, fun y hy => h.sub y (by simp [hy]), h1, fun y hy => ?_⟩
 ·intro a l hk hn
  cases hg : getE s.xs a l with
  | none => rfl
  | some v =>
   exfalso
   obtain ⟨y, hy, e1, e2, _⟩ := getE_mem hg
   rcases h.all y hy with h3 | h3
   ·rw [e1, e2] at h3; exact hn h3
   ·rcases List.mem_cons.1 h3 with rfl | h3
    ·unfold klt at hk; omega
    ·have := h2 y h3
     unfold klt at hk this
     omega
 ·rcases h.all y hy with h3 | h3
  ·refine .inl ⟨by show 0 < m.cp + 1; have := h3.1; omega, ?_⟩
   show ¬ klt x.a x.l y.a y.l
   have hk : klt m.ca m.cl x.a x.l := by
    by_cases hk : klt m.ca m.cl x.a x.l
    ·exact hk
    ·exact absurd ⟨h3.1, hk⟩ hp
   have := h3.2
   unfold klt at hk this ⊢
   omega
  ·rcases List.mem_cons.1 h3 with rfl | h3
   ·exact .inl ⟨by show 0 < m.cp + 1; have := h.ok.cp0; omega, by show ¬ klt y.a y.l y.a y.l; unfold klt; omega⟩
   ·exact .inr h3
structure StepP (s : TS) (r : Int × TS) : Prop where
 ok : r.2.Ok
 xs : r.2.xs = s.xs
 fits : fitsT s r.2
 b : r.2.b = s.b
 ch : r.2.ch = s.ch
 lim : r.2.lim = s.lim
 kind : (r.1 = 3 /\ (∃ m, s.mv = some m /\ r.2.k = m.k) /\ r.2.ms = wrap64 (s.ms + 1) /\ r.2.mv = none /\ r.2.bs = s.bs) ∨ (r.1 ≠ 3 /\ r.2.ms = s.ms /\ r.2.k = s.k)
 tgt : (∃ m, s.mv = some m /\ r.1 ≠ 0) ∨ (s.mv = none /\ r.1 = 0 /\ r.2 = s)
theorem n13 : (1 : Int) ≠ 3 := by decide
theorem n10 : (1 : Int) ≠ 0 := by decide
theorem n43 : (4 : Int) ≠ 3 := by decide
theorem n40 : (4 : Int) ≠ 0 := by decide
theorem n30 : (3 : Int) ≠ 0 := by decide
theorem n23 : (2 : Int) ≠ 3 := by decide
theorem n20 : (2 : Int) ≠ 0 := by decide
theorem n03 : (0 : Int) ≠ 3 := by decide
theorem at_use (s : TS) (m : Mv) : (s.at m).use = s.act + needK m.k m.ys + (m.lg.length : Nat) := rfl
theorem cpRun_ok {s : TS} {m0 : Mv} (hs : s.Ok) (h0 : s.mv = some m0) : ∀ (rest : List Ent) (n : Nat) (m : Mv), CpI s rest m -> (n : Int) <= s.ch -> ((s.at m).use <= s.use ∨ (s.at m).use <= s.b) -> m.k = m0.k -> StepP s (cpRun s rest n m) /\ ((cpRun s rest n m).1 = 1 ∨ (cpRun s rest n m).1 = 4)
 | [], n, m, h, hn, hf, hk => by
  rw [cpRun]
  have hok : (s.at (if (n : Int) < s.ch then { m with ph := 2 } else m)).Ok := by
   split
   ·refine hs.at ⟨h.ok.k1, h.ok.k3, h.ok.kne, h.ok.sorted, h.ok.ok, .inr rfl, h.ok.cp0, h.ok.cp1, h.ok.c0, h.ok.cur, h.ok.nodup, h.ok.pfx, fun a l _ hn => ?_, fun a l hq => absurd (.inl rfl) hq⟩ h.lg
    show getE m.ys a l = _
    by_cases hp : m.past a l
    ·exact h.ok.eq a l (.inr hp) hn
    ·rw [h.ok.no a l (fun hh => hh.elim (fun h2 => by have := h.ph; omega) hp)]
     cases hg : getE s.xs a l with
     | none => rfl
     | some v =>
      obtain ⟨y, hy, e1, e2, _⟩ := getE_mem hg
      rcases h.all y hy with h3 | h3
      ·rw [e1, e2] at h3; exact absurd h3 hp
      ·cases h3
   ·exact hs.at h.ok h.lg
  have hu : (s.at (if (n : Int) < s.ch then { m with ph := 2 } else m)).use = (s.at m).use := by split <;> rfl
  exact ⟨⟨hok, rfl, by unfold fitsT; rw [hu]; exact hf, rfl, rfl, rfl, .inr ⟨n13, rfl, rfl⟩, .inl ⟨m0, h0, n10⟩⟩, .inl rfl⟩
 | x :: rest, n, m, h, hn, hf, hk => by
  rw [cpRun]
  by_cases hp : m.past x.a x.l
  ·rw [if_pos hp]
   exact cpRun_ok hs h0 rest n m (h.tail hp) hn hf hk
  rw [if_neg hp]
  by_cases hc : (n : Int) = s.ch
  ·rw [if_pos hc]
   exact ⟨⟨hs.at h.ok h.lg, rfl, hf, rfl, rfl, rfl, .inr ⟨n13, rfl, rfl⟩, .inl ⟨m0, h0, n10⟩⟩, .inl rfl⟩
  rw [if_neg hc]
  by_cases ho : (s.at m).over (s.at (m.lay x))
  ·rw [if_pos ho]
   exact ⟨⟨hs.back, rfl, .inl (back_use hs), rfl, rfl, rfl, .inr ⟨n43, rfl, rfl⟩, .inl ⟨m0, h0, n40⟩⟩, .inr rfl⟩
  ·rw [if_neg ho]
   refine cpRun_ok hs h0 rest (n + 1) (m.lay x) (h.lay hs hp) (by omega) ?_ hk
   unfold TS.over at ho
   have e : (s.at m).b = s.b := rfl
   rw [e] at ho
   omega
theorem ctRun_ok {s : TS} {m0 : Mv} (hs : s.Ok) (h0 : s.mv = some m0) : ∀ (n : Nat) (m : Mv), MvOk s m -> m.ph = 2 -> (m.lg.length : Int) <= s.lim -> ((s.at m).use <= s.use ∨ (s.at m).use <= s.b) -> m.k = m0.k -> StepP s (ctRun s n m) /\ ((ctRun s n m).1 = 2 ∨ (ctRun s n m).1 = 3 ∨ (ctRun s n m).1 = 4)
 | 0, m, h, hp, hl, hf, hk => by
  rw [ctRun]
  by_cases he : m.lg = []
  ·rw [if_pos he]
   have hxs : m.ys = s.xs := sorted_ext h.sorted hs.sorted fun a l => h.eq a l (.inl hp) (by rw [he]; simp)
   refine ⟨⟨⟨h.sorted, h.ok, h.k1, h.k3, hs.b1, hs.b4, hs.ch1, hs.ch8, hs.l1, hs.l16, fun m hm => by cases hm⟩, hxs, ?_, rfl, rfl, rfl, .inl ⟨rfl, ⟨m0, h0, hk⟩, rfl, rfl, rfl⟩, .inl ⟨m0, h0, n30⟩⟩, .inr (.inl rfl)⟩
   have e1 : (s.cut m).use = needK m.k m.ys := by show needK m.k m.ys + 0 + 0 = _; omega
   have hu := hs.use_nn
   have e2 := at_use s m
   unfold fitsT
   show (s.cut m).use <= s.use ∨ (s.cut m).use <= s.b
   rw [e1]
   omega
  ·rw [if_neg he]
   exact ⟨⟨hs.at h hl, rfl, hf, rfl, rfl, rfl, .inr ⟨n23, rfl, rfl⟩, .inl ⟨m0, h0, n20⟩⟩, .inl rfl⟩
 | n + 1, m, h, hp, hl, hf, hk => by
  rw [ctRun]
  by_cases ho : (s.at m).over (s.at (m.catch s.xs))
  ·rw [if_pos ho]
   exact ⟨⟨hs.back, rfl, .inl (back_use hs), rfl, rfl, rfl, .inr ⟨n43, rfl, rfl⟩, .inl ⟨m0, h0, n40⟩⟩, .inr (.inr rfl)⟩
  ·rw [if_neg ho]
   have hc := h.catch hs.ok hp
   refine ctRun_ok hs h0 n (m.catch s.xs) hc ?_ ?_ ?_ ?_
   ·unfold Mv.catch; split <;> exact hp
   ·unfold Mv.catch
    split
    ·exact hl
    ·rename_i p lg hlg
     rw [hlg] at hl
     simp at hl ⊢
     omega
   ·unfold TS.over at ho
    have e : (s.at m).b = s.b := rfl
    rw [e] at ho
    omega
   ·unfold Mv.catch; split <;> exact hk
theorem step_ok {s : TS} (hs : s.Ok) : StepP s s.step := by
 unfold TS.step
 cases hm : s.mv with
 | none => exact ⟨hs, rfl, .inl (Int.le_refl _), rfl, rfl, rfl, .inr ⟨n03, rfl, rfl⟩, .inr ⟨hm, rfl, rfl⟩⟩
 | some m =>
  have h := hs.mv m hm
  have hu : (s.at m).use <= s.use ∨ (s.at m).use <= s.b := by rw [TS.at_same hm]; exact .inl (Int.le_refl _)
  dsimp only
  split
  ·exact (cpRun_ok hs hm _ 0 m (CpI.start hs hm (by assumption)) (by have := hs.ch1; omega) hu rfl).1
  ·exact (ctRun_ok hs hm _ m h.1 (by have := h.1.ph; omega) h.2 hu rfl).1
theorem needK_nil (k : Int) : 0 <= needK k [] := need_nn List.Pairwise.nil (by simp)
theorem move_ok {s : TS} (hs : s.Ok) (k : Int) : (s.move k).2.Ok /\ (s.move k).2.xs = s.xs /\ fitsT s (s.move k).2 /\ (s.move k).2.b = s.b /\ (s.move k).2.lim = s.lim := by
 unfold TS.move
 split
 ·exact ⟨hs, rfl, .inl (Int.le_refl _), rfl, rfl⟩
 split
 ·exact ⟨hs, rfl, .inl (Int.le_refl _), rfl, rfl⟩
 split
 ·exact ⟨hs, rfl, .inl (Int.le_refl _), rfl, rfl⟩
 split
 ·exact ⟨hs, rfl, .inl (Int.le_refl _), rfl, rfl⟩
 ·rename_i h1 h2 h3 h4
  have hk := Decidable.not_not.1 h1
  refine ⟨hs.at ⟨hk.1, hk.2, h3, List.Pairwise.nil, by simp [mv0], .inl rfl, Int.le_refl _, (by show (0 : Int) <= 9 * 0 + 0 + 1; decide), fun _ => ⟨rfl, rfl⟩, (by decide : isPfx 0 0 = true), List.nodup_nil, by simp [mv0], fun a l hq _ => ?_, fun a l _ => rfl⟩ (by show (0 : Int) <= s.lim; have := hs.l1; omega), rfl, ?_, rfl, rfl⟩
  ·rcases hq with h | h
   ·have h' : (1 : Int) = 2 := h
    omega
   ·have h' : (0 : Int) < 0 := h.1
    omega
  ·unfold fitsT
   have e := at_use s (mv0 k)
   have e2 : (s.at (mv0 k)).use = s.act + needK k [] + 0 := e
   show (s.at (mv0 k)).use <= s.use ∨ (s.at (mv0 k)).use <= s.b
   have hu := hs.use_nn
   have := needK_nil k
   unfold TS.use at e2 ⊢
   omega
theorem abort_ok {s : TS} (hs : s.Ok) : s.abort.2.Ok /\ s.abort.2.xs = s.xs /\ fitsT s s.abort.2 /\ s.abort.2.b = s.b /\ s.abort.2.lim = s.lim := by
 unfold TS.abort
 split
 ·exact ⟨hs, rfl, .inl (Int.le_refl _), rfl, rfl⟩
 ·exact ⟨hs.back, rfl, .inl (back_use hs), rfl, rfl⟩
end Go.Proofs.YtglbamalagacgaaGreat
