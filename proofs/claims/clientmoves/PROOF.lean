import PyProof.Rows.All
import Wide.All
import OpenK.AllK
import Wide.FinOn
import Open.SpecLaws
import KE.OsGo
import HandS.ForSpec
import HandS.ForMost
import HandS.More
import HandS.SortRule
import HandS.Zip
import HandS.Flow
import HandS.Codes
import HandS.Style
import HandS.SetFor
import HandS.Walk

import PySem.Challenge.RW_clientmoves_s01_answers

set_option Elab.async false
set_option linter.all false
set_option maxRecDepth 100000
set_option maxHeartbeats 4000000

section
set_option autoImplicit false
namespace CM

/-- how many of the keys are sent to m -/
def cnt (f : Nat → Nat) (ks : List Nat) (m : Nat) : Nat := ks.countP (fun k => f k == m)
/-- a sum over members -/
def total (h : Nat → Nat) : List Nat → Nat
  | [] => 0
  | m :: R => h m + total h R
/-- how many of the keys are sent into R -/
def inC (f : Nat → Nat) (ks R : List Nat) : Nat := ks.countP (fun k => R.contains (f k))

theorem total_le {h g : Nat → Nat} : ∀ (R : List Nat), (∀ m ∈ R, h m ≤ g m) → total h R ≤ total g R
  | [], _ => Nat.le_refl _
  | m :: R, H => by
    have a := H m (by simp)
    have b := total_le R (fun x hx => H x (by simp [hx]))
    simp only [total]; omega

theorem total_congr {h g : Nat → Nat} : ∀ (R : List Nat), (∀ m ∈ R, h m = g m) → total h R = total g R
  | [], _ => rfl
  | m :: R, H => by
    have a := H m (by simp)
    have b := total_congr R (fun x hx => H x (by simp [hx]))
    simp only [total]; omega

theorem countP_or_disj {α : Type} (p q : α → Bool) : ∀ (l : List α), (∀ x ∈ l, p x = true → q x = false) →
    l.countP (fun x => p x || q x) = l.countP p + l.countP q
  | [], _ => rfl
  | x :: l, H => by
    have ih := countP_or_disj p q l (fun y hy => H y (by simp [hy]))
    have hx := H x (by simp)
    simp only [List.countP_cons, ih]
    cases hp : p x <;> cases hq : q x <;> simp_all <;> omega

theorem inC_eq (f : Nat → Nat) (ks : List Nat) : ∀ (R : List Nat), R.Nodup → inC f ks R = total (cnt f ks) R
  | [], _ => by simp [inC, total]
  | m :: R, h => by
    have hn := List.nodup_cons.mp h
    have ih := inC_eq f ks R hn.2
    have e : inC f ks (m :: R) = ks.countP (fun k => (f k == m) || R.contains (f k)) := by
      unfold inC
      apply List.countP_congr
      intro x _
      simp
    rw [e, countP_or_disj]
    · simp only [total, cnt] at *
      rw [← ih]; rfl
    · intro x _ hx
      have : f x = m := by simpa using hx
      simp [this, hn.1]

theorem cnt_cons (f : Nat → Nat) (k : Nat) (ks : List Nat) (m : Nat) : cnt f (k :: ks) m = cnt f ks m + (if f k = m then 1 else 0) := by
  simp only [cnt, List.countP_cons, beq_iff_eq]

theorem cnt_append (f : Nat → Nat) (a b : List Nat) (m : Nat) : cnt f (a ++ b) m = cnt f a m + cnt f b m := by
  simp [cnt, List.countP_append]

theorem cnt_perm {f : Nat → Nat} {a b : List Nat} (h : a.Perm b) (m : Nat) : cnt f a m = cnt f b m := h.countP_eq _

theorem cnt_congr {f g : Nat → Nat} {ks : List Nat} (h : ∀ k ∈ ks, f k = g k) (m : Nat) : cnt f ks m = cnt g ks m := by
  unfold cnt
  apply List.countP_congr
  intro x hx
  rw [h x hx]

theorem cnt_sub {f : Nat → Nat} {a b : List Nat} (h : a.Sublist b) (m : Nat) : cnt f a m ≤ cnt f b m := h.countP_le

/-- a placing of the keys -/
structure Fits (room : Nat → Nat) (tk : Nat → List Nat) (ks : List Nat) (f : Nat → Nat) : Prop where
  into : ∀ k ∈ ks, f k ∈ tk k
  le : ∀ m, cnt f ks m ≤ room m

def Can (room : Nat → Nat) (tk : Nat → List Nat) (ks : List Nat) : Prop := ∃ f, Fits room tk ks f

theorem Fits.sub {room : Nat → Nat} {tk : Nat → List Nat} {a b : List Nat} {f : Nat → Nat} (h : a.Sublist b) (H : Fits room tk b f) : Fits room tk a f :=
  ⟨fun k hk => H.into k (h.subset hk), fun m => Nat.le_trans (cnt_sub h m) (H.le m)⟩
theorem Fits.perm {room : Nat → Nat} {tk : Nat → List Nat} {a b : List Nat} {f : Nat → Nat} (h : a.Perm b) (H : Fits room tk b f) : Fits room tk a f :=
  ⟨fun k hk => H.into k (h.mem_iff.mp hk), fun m => by rw [cnt_perm h]; exact H.le m⟩
theorem Fits.congr {room : Nat → Nat} {tk tk' : Nat → List Nat} {ks : List Nat} {f : Nat → Nat} (h : ∀ k ∈ ks, tk k = tk' k) (H : Fits room tk ks f) : Fits room tk' ks f :=
  ⟨fun k hk => by rw [← h k hk]; exact H.into k hk, H.le⟩
theorem Fits.congrF {room : Nat → Nat} {tk : Nat → List Nat} {ks : List Nat} {f g : Nat → Nat} (h : ∀ k ∈ ks, f k = g k) (H : Fits room tk ks f) : Fits room tk ks g :=
  ⟨fun k hk => by rw [← h k hk]; exact H.into k hk, fun m => by rw [← cnt_congr h]; exact H.le m⟩
theorem Fits.room {room room' : Nat → Nat} {tk : Nat → List Nat} {ks : List Nat} {f : Nat → Nat} (h : ∀ m, room m ≤ room' m) (H : Fits room tk ks f) : Fits room' tk ks f :=
  ⟨H.into, fun m => Nat.le_trans (H.le m) (h m)⟩
theorem Can.sub {room : Nat → Nat} {tk : Nat → List Nat} {a b : List Nat} (h : a.Sublist b) : Can room tk b → Can room tk a
  | ⟨f, H⟩ => ⟨f, H.sub h⟩
theorem Can.perm {room : Nat → Nat} {tk : Nat → List Nat} {a b : List Nat} (h : a.Perm b) : Can room tk b → Can room tk a
  | ⟨f, H⟩ => ⟨f, H.perm h⟩
theorem Can.perm_iff {room : Nat → Nat} {tk : Nat → List Nat} {a b : List Nat} (h : a.Perm b) : Can room tk a ↔ Can room tk b :=
  ⟨Can.perm h.symm, Can.perm h⟩
theorem Can.congr {room : Nat → Nat} {tk tk' : Nat → List Nat} {ks : List Nat} (h : ∀ k ∈ ks, tk k = tk' k) : Can room tk ks ↔ Can room tk' ks :=
  ⟨fun ⟨f, H⟩ => ⟨f, H.congr h⟩, fun ⟨f, H⟩ => ⟨f, H.congr (fun k hk => (h k hk).symm)⟩⟩
theorem Can.nil (room : Nat → Nat) (tk : Nat → List Nat) : Can room tk [] := ⟨fun _ => 0, by simp, by simp [cnt]⟩

/-- how many of the keys have all their takers in R -/
def keptC (tk : Nat → List Nat) (ks R : List Nat) : Nat := ks.countP (fun k => (tk k).all fun m => R.contains m)

theorem Fits.inC_le {room : Nat → Nat} {tk : Nat → List Nat} {ks : List Nat} {f : Nat → Nat} (H : Fits room tk ks f) {R : List Nat} (hR : R.Nodup) :
    inC f ks R ≤ total room R := by
  rw [inC_eq f ks R hR]
  exact total_le R (fun m _ => H.le m)

theorem Fits.kept_le_in {room : Nat → Nat} {tk : Nat → List Nat} {ks : List Nat} {f : Nat → Nat} (H : Fits room tk ks f) (R : List Nat) :
    keptC tk ks R ≤ inC f ks R := by
  unfold keptC inC
  apply List.countP_mono_left
  intro k hk hx
  have := List.all_eq_true.mp hx (f k) (H.into k hk)
  exact this

theorem Fits.kept_le {room : Nat → Nat} {tk : Nat → List Nat} {ks : List Nat} {f : Nat → Nat} (H : Fits room tk ks f) {R : List Nat} (hR : R.Nodup) :
    keptC tk ks R ≤ total room R := Nat.le_trans (H.kept_le_in R) (H.inC_le hR)

/-- closed under f's clients -/
def Closed (tk : Nat → List Nat) (ks : List Nat) (f : Nat → Nat) (R : List Nat) : Prop := ∀ k ∈ ks, f k ∈ R → ∀ m ∈ tk k, m ∈ R

theorem Closed.in_le_kept {tk : Nat → List Nat} {ks : List Nat} {f : Nat → Nat} {R : List Nat} (h : Closed tk ks f R) : inC f ks R ≤ keptC tk ks R := by
  unfold keptC inC
  apply List.countP_mono_left
  intro k hk hx
  have hx' : f k ∈ R := by simpa using hx
  simp only [List.all_eq_true, List.contains_eq_mem, decide_eq_true_eq]
  exact h k hk hx'

/-- a closed full set keeps the keys in it, and no more can be placed there -/
theorem kept_full {room : Nat → Nat} {tk : Nat → List Nat} {ks : List Nat} {f : Nat → Nat} (H : Fits room tk ks f) {R : List Nat} (hR : R.Nodup)
    (hc : Closed tk ks f R) (hf : ∀ m ∈ R, cnt f ks m = room m) : keptC tk ks R = total room R := by
  have a := H.kept_le hR
  have b := hc.in_le_kept
  have c := inC_eq f ks R hR
  have d := total_congr R hf
  omega

theorem hall {room : Nat → Nat} {tk : Nat → List Nat} {ks R : List Nat} {c : Nat} (hR : R.Nodup) (hk : keptC tk ks R = total room R)
    (hc : ∀ m ∈ tk c, m ∈ R) : ¬ Can room tk (c :: ks) := by
  rintro ⟨g, G⟩
  have a := G.kept_le hR
  have b : keptC tk (c :: ks) R = keptC tk ks R + 1 := by
    unfold keptC
    rw [List.countP_cons, if_pos]
    simpa using hc
  omega

-- ## the greedy set
open Classical in
noncomputable def greedy (room : Nat → Nat) (tk : Nat → List Nat) : List Nat → List Nat → List Nat
  | acc, [] => acc
  | acc, k :: l => if Can room tk (k :: acc) then greedy room tk (acc ++ [k]) l else greedy room tk acc l

noncomputable def movedK (room : Nat → Nat) (tk : Nat → List Nat) (ks : List Nat) : List Nat := greedy room tk [] ks

theorem greedy_append (room : Nat → Nat) (tk : Nat → List Nat) : ∀ (a b acc : List Nat), greedy room tk acc (a ++ b) = greedy room tk (greedy room tk acc a) b
  | [], b, acc => rfl
  | k :: a, b, acc => by
    simp only [List.cons_append, greedy]
    split
    · exact greedy_append room tk a b _
    · exact greedy_append room tk a b _

theorem greedy_prefix (room : Nat → Nat) (tk : Nat → List Nat) : ∀ (l acc : List Nat), ∃ r, greedy room tk acc l = acc ++ r ∧ r.Sublist l
  | [], acc => ⟨[], by simp [greedy], by simp⟩
  | k :: l, acc => by
    simp only [greedy]
    split
    · obtain ⟨r, h1, h2⟩ := greedy_prefix room tk l (acc ++ [k])
      exact ⟨k :: r, by rw [h1]; simp, h2.cons_cons k⟩
    · obtain ⟨r, h1, h2⟩ := greedy_prefix room tk l acc
      exact ⟨r, h1, h2.cons k⟩

theorem greedy_can (room : Nat → Nat) (tk : Nat → List Nat) : ∀ (l acc : List Nat), Can room tk acc → Can room tk (greedy room tk acc l)
  | [], acc, h => h
  | k :: l, acc, h => by
    simp only [greedy]
    split
    · rename_i h1
      exact greedy_can room tk l _ (Can.perm (List.perm_append_singleton k acc) h1)
    · exact greedy_can room tk l _ h

theorem moved_can (room : Nat → Nat) (tk : Nat → List Nat) (ks : List Nat) : Can room tk (movedK room tk ks) :=
  greedy_can room tk ks [] (Can.nil room tk)

theorem moved_sub (room : Nat → Nat) (tk : Nat → List Nat) (ks : List Nat) : (movedK room tk ks).Sublist ks := by
  obtain ⟨r, h1, h2⟩ := greedy_prefix room tk ks []
  unfold movedK
  rw [h1]; simpa using h2

theorem moved_snoc (room : Nat → Nat) (tk : Nat → List Nat) (a : List Nat) (k : Nat) (b : List Nat) :
    movedK room tk (a ++ k :: b) = greedy room tk (greedy room tk (movedK room tk a) [k]) b := by
  unfold movedK
  have : a ++ k :: b = (a ++ [k]) ++ b := by simp
  rw [this, greedy_append, greedy_append]

theorem greedy_sublist_acc (room : Nat → Nat) (tk : Nat → List Nat) (l acc : List Nat) : acc.Sublist (greedy room tk acc l) := by
  obtain ⟨r, h1, _⟩ := greedy_prefix room tk l acc
  rw [h1]; exact List.sublist_append_left _ _

/-- whoever is left can't be placed beside those moved before it -/
theorem left_not (room : Nat → Nat) (tk : Nat → List Nat) (a : List Nat) (k : Nat) (b : List Nat) (h : k ∉ movedK room tk (a ++ k :: b)) : ¬ Can room tk (k :: movedK room tk a) := by
  intro hc
  apply h
  rw [moved_snoc]
  simp only [greedy, if_pos hc]
  exact (greedy_sublist_acc room tk b _).subset (by simp)

theorem moved_yes (room : Nat → Nat) (tk : Nat → List Nat) (a : List Nat) (k : Nat) (b : List Nat) (hn : (a ++ k :: b).Nodup)
    (h : k ∈ movedK room tk (a ++ k :: b)) : Can room tk (k :: movedK room tk a) := by
  by_cases hc : Can room tk (k :: movedK room tk a)
  · exact hc
  · exfalso
    rw [moved_snoc] at h
    simp only [greedy, if_neg hc] at h
    obtain ⟨r, h1, h2⟩ := greedy_prefix room tk b (movedK room tk a)
    rw [h1] at h
    rcases List.mem_append.mp h with h | h
    · have := (moved_sub room tk a).subset h
      exact (List.nodup_append.mp hn).2.2 k this k (by simp) rfl
    · have := h2.subset h
      exact (List.nodup_cons.mp (List.nodup_append.mp hn).2.1).1 this

/-- those moved that come before a place are just those moved of what comes before it -/
theorem moved_before (room : Nat → Nat) (tk : Nat → List Nat) (a b : List Nat) (hn : (a ++ b).Nodup) :
    (movedK room tk (a ++ b)).filter (fun k => a.contains k) = movedK room tk a := by
  unfold movedK
  rw [greedy_append]
  obtain ⟨r, h1, h2⟩ := greedy_prefix room tk b (greedy room tk [] a)
  rw [h1, List.filter_append]
  have ha : (greedy room tk [] a).filter (fun k => a.contains k) = greedy room tk [] a := by
    apply List.filter_eq_self.mpr
    intro k hk
    have := (moved_sub room tk a).subset hk
    simpa using this
  have hb : r.filter (fun k => a.contains k) = [] := by
    apply List.filter_eq_nil_iff.mpr
    intro k hk hx
    have h3 := h2.subset hk
    have h4 : k ∈ a := by simpa using hx
    exact (List.nodup_append.mp hn).2.2 k h4 k h3 rfl
  rw [ha, hb, List.append_nil]

theorem greedy_all (room : Nat → Nat) (tk : Nat → List Nat) : ∀ (l acc : List Nat), Can room tk (acc ++ l) → greedy room tk acc l = acc ++ l
  | [], acc, _ => by simp [greedy]
  | k :: l, acc, h => by
    have h1 : Can room tk (k :: acc) := Can.perm (List.perm_append_singleton k acc).symm (Can.sub (b := acc ++ k :: l) (by
      have : acc ++ k :: l = (acc ++ [k]) ++ l := by simp
      rw [this]; exact List.sublist_append_left _ _) h)
    simp only [greedy, if_pos h1]
    rw [greedy_all room tk l (acc ++ [k]) (by simpa using h)]
    simp

theorem can_iff_moved (room : Nat → Nat) (tk : Nat → List Nat) (l : List Nat) : Can room tk l ↔ (movedK room tk l).length = l.length := by
  constructor
  · intro h
    have := greedy_all room tk l [] (by simpa using h)
    unfold movedK; rw [this]; simp
  · intro h
    have := (moved_sub room tk l).eq_of_length h
    rw [← this]; exact moved_can room tk l

theorem left_not_all (room : Nat → Nat) (tk : Nat → List Nat) (ks : List Nat) (hn : ks.Nodup) (k : Nat) (hk : k ∈ ks)
    (h : k ∉ movedK room tk ks) : ¬ Can room tk (k :: movedK room tk ks) := by
  obtain ⟨a, b, rfl⟩ := List.append_of_mem hk
  intro hc
  apply left_not room tk a k b h
  refine Can.sub ?_ hc
  apply List.Sublist.cons_cons
  unfold movedK
  rw [greedy_append]
  exact greedy_sublist_acc room tk (k :: b) _

-- ## one key fixed
def dec (room : Nat → Nat) (m : Nat) : Nat → Nat := fun x => if x = m then room x - 1 else room x
def updT (tk : Nat → List Nat) (k : Nat) (l : List Nat) : Nat → List Nat := fun x => if x = k then l else tk x

theorem can_fix (room : Nat → Nat) (tk : Nat → List Nat) (k m : Nat) (l : List Nat) (hk : k ∉ l) :
    Can room (updT tk k [m]) (k :: l) ↔ (0 < room m ∧ Can (dec room m) tk l) := by
  constructor
  · rintro ⟨f, F⟩
    have e : f k = m := by
      have := F.into k (by simp)
      simpa [updT] using this
    refine ⟨?_, f, ?_, ?_⟩
    · have := F.le m
      rw [cnt_cons, if_pos e] at this
      omega
    · intro x hx
      have := F.into x (by simp [hx])
      have ne : x ≠ k := fun h => hk (h ▸ hx)
      simpa [updT, ne] using this
    · intro x
      have := F.le x
      rw [cnt_cons] at this
      simp only [dec]
      split
      · rename_i h1
        rw [if_pos (by rw [e, h1])] at this
        omega
      · omega
  · rintro ⟨h0, f, F⟩
    refine ⟨fun x => if x = k then m else f x, ?_, ?_⟩
    · intro x hx
      by_cases h : x = k
      · simp [updT, h]
      · simp only [updT, h, if_false]
        exact F.into x (by simpa [h] using hx)
    · intro x
      rw [cnt_cons]
      have : cnt (fun x => if x = k then m else f x) l x = cnt f l x := by
        apply cnt_congr
        intro y hy
        have ne : y ≠ k := fun h => hk (h ▸ hy)
        simp [ne]
      rw [this]
      have := F.le x
      simp only [dec, if_true] at *
      by_cases h : x = m
      · subst h; simp at *; omega
      · rw [if_neg h] at this
        rw [if_neg (fun h' => h h'.symm)]
        omega

open Classical in
noncomputable def canB (room : Nat → Nat) (tk : Nat → List Nat) (ks : List Nat) : Bool := decide (Can room tk ks)
theorem canB_iff (room : Nat → Nat) (tk : Nat → List Nat) (ks : List Nat) : canB room tk ks = true ↔ Can room tk ks := by simp [canB]

/-- where they go: each in order to the best-liked taker that leaves places for all behind -/
noncomputable def best (tk : Nat → List Nat) : (Nat → Nat) → List Nat → List (Nat × Nat)
  | _, [] => []
  | room, k :: l => match (tk k).find? (fun m => decide (0 < room m) && canB (dec room m) tk l) with
    | some m => (k, m) :: best tk (dec room m) l
    | none => best tk room l

end CM

end

section
set_option autoImplicit false
namespace CM
open Vbchaj

def keysP (p : Places) : List Nat := p.map Prod.fst

structure PP (room : Nat → Nat) (tk : Nat → List Nat) (p : Places) : Prop where
  nd : (keysP p).Nodup
  into : ∀ x ∈ p, x.2 ∈ tk x.1
  le : ∀ m, takenAt p m ≤ room m

theorem takenAt_eq (p : Places) (m : Nat) : takenAt p m = p.countP (fun x => x.2 == m) := by
  simp [takenAt, List.countP_eq_length_filter]

theorem placeOf_cons (x : Nat × Nat) (p : Places) (k : Nat) : placeOf (x :: p) k = if x.1 = k then x.2 else placeOf p k := by
  unfold placeOf
  rw [List.find?_cons]
  by_cases h : x.1 = k
  · simp [h]
  · have e : (x.1 == k) = false := by simpa using h
    rw [e, if_neg h]

theorem placeOf_none : ∀ (p : Places) (k : Nat), k ∉ keysP p → placeOf p k = 0
  | [], k, _ => rfl
  | x :: p, k, h => by
    simp only [keysP, List.map_cons, List.mem_cons, not_or] at h
    rw [placeOf_cons, if_neg (fun e => h.1 e.symm)]
    exact placeOf_none p k h.2

theorem placeOf_mem : ∀ (p : Places) (k m : Nat), (keysP p).Nodup → (k, m) ∈ p → placeOf p k = m
  | [], k, m, _, h => by simp at h
  | x :: p, k, m, hn, h => by
    simp only [keysP, List.map_cons, List.nodup_cons] at hn
    rw [placeOf_cons]
    rcases List.mem_cons.mp h with h | h
    · subst h; simp
    · rw [if_neg]
      · exact placeOf_mem p k m hn.2 h
      · intro e
        apply hn.1
        rw [e]
        exact List.mem_map.mpr ⟨(k, m), h, rfl⟩

theorem mem_of_key {p : Places} {k : Nat} (h : k ∈ keysP p) : ∃ m, (k, m) ∈ p := by
  obtain ⟨x, hx, rfl⟩ := List.mem_map.mp h
  exact ⟨x.2, hx⟩

theorem key_of_mem {p : Places} {k m : Nat} (h : (k, m) ∈ p) : k ∈ keysP p := List.mem_map.mpr ⟨(k, m), h, rfl⟩

theorem mem_placeOf {p : Places} {k : Nat} (hn : (keysP p).Nodup) (h : k ∈ keysP p) : (k, placeOf p k) ∈ p := by
  obtain ⟨m, hm⟩ := mem_of_key h
  rw [placeOf_mem p k m hn hm]; exact hm

theorem cnt_placeOf (p : Places) (hn : (keysP p).Nodup) (m : Nat) : cnt (placeOf p) (keysP p) m = takenAt p m := by
  rw [takenAt_eq]
  unfold cnt keysP
  rw [List.countP_map]
  apply List.countP_congr
  intro x hx
  have : placeOf p x.1 = x.2 := placeOf_mem p x.1 x.2 hn hx
  simp [Function.comp, this]

theorem PP.fits {room : Nat → Nat} {tk : Nat → List Nat} {p : Places} (h : PP room tk p) : Fits room tk (keysP p) (placeOf p) :=
  ⟨fun k hk => h.into (k, placeOf p k) (mem_placeOf h.nd hk), fun m => by rw [cnt_placeOf p h.nd]; exact h.le m⟩

theorem nodup_length_le : ∀ (a b : List Nat), a.Nodup → (∀ x ∈ a, x ∈ b) → a.length ≤ b.length
  | [], b, _, _ => by simp
  | x :: a, b, hn, hs => by
    have hn' := List.nodup_cons.mp hn
    have hb := hs x (by simp)
    have ih := nodup_length_le a (b.erase x) hn'.2 (fun y hy => by
      have ne : y ≠ x := fun e => hn'.1 (e ▸ hy)
      exact (List.mem_erase_of_ne ne).mpr (hs y (by simp [hy])))
    rw [List.length_erase_of_mem hb] at ih
    have : 0 < b.length := List.length_pos_of_mem hb
    simp only [List.length_cons]; omega

-- ## ways
inductive Way (p : Places) (tk : Nat → List Nat) (roots : List Nat) : Nat → Places → Prop
  | root (k m : Nat) : k ∈ roots → m ∈ tk k → Way p tk roots m [(k, m)]
  | step (k m m' : Nat) (w : Places) : Way p tk roots m' w → (k, m') ∈ p → m ∈ tk k → (∀ y ∈ w, y.2 ≠ m) → Way p tk roots m ((k, m) :: w)

theorem Way.head {p : Places} {tk : Nat → List Nat} {roots : List Nat} {m : Nat} {w : Places} (h : Way p tk roots m w) :
    ∃ k w0, w = (k, m) :: w0 := by
  cases h with
  | root k m h1 h2 => exact ⟨k, [], rfl⟩
  | step k m m' w h1 h2 h3 h4 => exact ⟨k, w, rfl⟩

theorem Way.ndM {p : Places} {tk : Nat → List Nat} {roots : List Nat} {m : Nat} {w : Places} (h : Way p tk roots m w) :
    (w.map Prod.snd).Nodup := by
  induction h with
  | root k m h1 h2 => simp
  | step k m m' w h1 h2 h3 h4 ih =>
    simp only [List.map_cons, List.nodup_cons]
    refine ⟨?_, ih⟩
    intro hx
    obtain ⟨y, hy, e⟩ := List.mem_map.mp hx
    exact h4 y hy e

/-- each key of the way but the root is placed at a member that stands behind it in the way -/
theorem Way.behind {p : Places} {tk : Nat → List Nat} {roots : List Nat} {m : Nat} {w : Places} (h : Way p tk roots m w) :
    ∀ y ∈ w, y.1 ∈ roots ∨ ∃ a, (y.1, a) ∈ p ∧ a ∈ w.tail.map Prod.snd := by
  induction h with
  | root k m h1 h2 => intro y hy; left; simp at hy; subst hy; exact h1
  | step k m m' w h1 h2 h3 h4 ih =>
    intro y hy
    rcases List.mem_cons.mp hy with hy | hy
    · subst hy
      right
      refine ⟨m', h2, ?_⟩
      obtain ⟨k0, w0, e⟩ := h1.head
      subst e
      simp
    · rcases ih y hy with h | ⟨a, h5, h6⟩
      · exact .inl h
      · right
        refine ⟨a, h5, ?_⟩
        simp only [List.tail_cons]
        obtain ⟨z, hz, e⟩ := List.mem_map.mp h6
        exact List.mem_map.mpr ⟨z, List.mem_of_mem_tail hz, e⟩

theorem Way.ndK {p : Places} {tk : Nat → List Nat} {roots : List Nat} {m : Nat} {w : Places} (hn : (keysP p).Nodup)
    (hr : ∀ k ∈ roots, k ∉ keysP p) (h : Way p tk roots m w) : (keysP w).Nodup := by
  induction h with
  | root k m h1 h2 => simp [keysP]
  | step k m m' w h1 h2 h3 h4 ih =>
    simp only [keysP, List.map_cons, List.nodup_cons]
    refine ⟨?_, ih⟩
    intro hx
    obtain ⟨y, hy, e⟩ := List.mem_map.mp hx
    rcases h1.behind y hy with h | ⟨a, h5, h6⟩
    · exact hr _ h (by rw [e]; exact key_of_mem h2)
    · have e1 : a = m' := by
        rw [e] at h5
        rw [← placeOf_mem p k a hn h5, placeOf_mem p k m' hn h2]
      obtain ⟨k0, w0, e2⟩ := h1.head
      subst e2
      have := h1.ndM
      simp only [List.map_cons, List.nodup_cons, List.tail_cons] at this h6
      exact this.1 (e1 ▸ h6)

theorem Way.into {p : Places} {tk : Nat → List Nat} {roots : List Nat} {m : Nat} {w : Places} (h : Way p tk roots m w) :
    ∀ y ∈ w, y.2 ∈ tk y.1 := by
  induction h with
  | root k m h1 h2 => intro y hy; simp at hy; subst hy; exact h2
  | step k m m' w h1 h2 h3 h4 ih =>
    intro y hy
    rcases List.mem_cons.mp hy with hy | hy
    · subst hy; exact h3
    · exact ih y hy

theorem Way.keys {p : Places} {tk : Nat → List Nat} {c : Nat} {m : Nat} {w : Places} (h : Way p tk [c] m w) :
    c ∈ keysP w ∧ ∀ k ∈ keysP w, k = c ∨ k ∈ keysP p := by
  constructor
  · induction h with
    | root k m h1 h2 => simp at h1; simp [keysP, h1]
    | step k m m' w h1 h2 h3 h4 ih => simp only [keysP, List.map_cons, List.mem_cons]; exact .inr ih
  · intro k hk
    obtain ⟨y, hy, e⟩ := List.mem_map.mp hk
    rcases h.behind y hy with h1 | ⟨a, h5, h6⟩
    · left; simpa [e] using h1
    · right; exact e ▸ key_of_mem h5

def hasKey (w : Places) (k : Nat) : Bool := w.any fun y => y.1 == k
theorem hasKey_iff (w : Places) (k : Nat) : hasKey w k = true ↔ k ∈ keysP w := by
  simp only [hasKey, List.any_eq_true, keysP, List.mem_map, beq_iff_eq]

theorem changedPlaces_eq (p w : Places) : changedPlaces p w = p.filter (fun x => !hasKey w x.1) ++ w := rfl

theorem count_without (m m' k x : Nat) : ∀ (q : Places), (keysP q).Nodup → (k, m') ∈ q →
    q.countP (fun y => y.2 == x) = (q.filter (fun y => !(k == y.1))).countP (fun y => y.2 == x) + (if m' = x then 1 else 0)
  | [], _, h => by simp at h
  | y :: q, hn, h => by
    simp only [keysP, List.map_cons, List.nodup_cons] at hn
    rcases List.mem_cons.mp h with h | h
    · have e : q.filter (fun y => !(k == y.1)) = q := by
        apply List.filter_eq_self.mpr
        intro z hz
        have : k ≠ z.1 := fun e => hn.1 (by rw [← h]; exact e ▸ List.mem_map.mpr ⟨z, hz, rfl⟩)
        simp [this]
      rw [List.filter_cons]
      rw [← h]
      simp only [beq_self_eq_true, Bool.not_true, Bool.false_eq_true, if_false, e, List.countP_cons, beq_iff_eq]
    · have ih := count_without m m' k x q hn.2 h
      have ne : k ≠ y.1 := fun e => hn.1 (e ▸ List.mem_map.mpr ⟨(k, m'), h, rfl⟩)
      rw [List.filter_cons]
      simp only [beq_eq_false_iff_ne.mpr ne, Bool.not_false, if_true, List.countP_cons, ih]
      omega

theorem Way.taken {p : Places} {tk : Nat → List Nat} {roots : List Nat} {m : Nat} {w : Places} (hn : (keysP p).Nodup)
    (hr : ∀ k ∈ roots, k ∉ keysP p) (h : Way p tk roots m w) (x : Nat) :
    takenAt (changedPlaces p w) x = takenAt p x + (if m = x then 1 else 0) := by
  simp only [takenAt_eq, changedPlaces_eq, List.countP_append]
  induction h with
  | root k m h1 h2 =>
    have : p.filter (fun x => !hasKey [(k, m)] x.1) = p := by
      apply List.filter_eq_self.mpr
      intro y hy
      have : k ≠ y.1 := fun e => hr k h1 (e ▸ List.mem_map.mpr ⟨y, hy, rfl⟩)
      simp [hasKey, this]
    rw [this]
    simp [List.countP_cons]
  | step k m m' w h1 h2 h3 h4 ih =>
    have hk : k ∉ keysP w := by
      have := (Way.step k m m' w h1 h2 h3 h4).ndK hn hr
      simp only [keysP, List.map_cons, List.nodup_cons] at this
      exact this.1
    have e : p.filter (fun x => !hasKey ((k, m) :: w) x.1) = (p.filter (fun x => !hasKey w x.1)).filter (fun y => !(k == y.1)) := by
      rw [List.filter_filter]
      apply List.filter_congr
      intro y _
      simp only [hasKey, List.any_cons, Bool.not_or]
    have hq : (k, m') ∈ p.filter (fun x => !hasKey w x.1) := by
      apply List.mem_filter.mpr
      refine ⟨h2, ?_⟩
      have : ¬ hasKey w k = true := fun e => hk ((hasKey_iff w k).mp e)
      simp [this]
    have nq : (keysP (p.filter (fun x => !hasKey w x.1))).Nodup := by
      unfold keysP
      exact hn.sublist (List.filter_sublist.map _)
    have c := count_without m m' k x _ nq hq
    rw [e, List.countP_cons]
    simp only [beq_iff_eq] at *
    omega

/-- who has a place after the change -/
theorem Way.perm {p : Places} {tk : Nat → List Nat} {c : Nat} {m : Nat} {w : Places} (hn : (keysP p).Nodup)
    (hr : c ∉ keysP p) (h : Way p tk [c] m w) : (keysP (changedPlaces p w)).Perm (c :: keysP p) := by
  have hr' : ∀ k ∈ [c], k ∉ keysP p := by simpa using hr
  have nw := h.ndK hn hr'
  have hk := h.keys
  have nd : (keysP (changedPlaces p w)).Nodup := by
    simp only [changedPlaces_eq, keysP, List.map_append]
    apply List.nodup_append.mpr
    refine ⟨hn.sublist (List.filter_sublist.map _), nw, ?_⟩
    intro a ha b hb e
    subst e
    obtain ⟨y, hy, e⟩ := List.mem_map.mp ha
    have := (List.mem_filter.mp hy).2
    have h2 : hasKey w y.1 = true := (hasKey_iff w y.1).mpr (e ▸ hb)
    simp [h2] at this
  apply (List.perm_ext_iff_of_nodup nd (List.nodup_cons.mpr ⟨hr, hn⟩)).mpr
  intro a
  simp only [changedPlaces_eq, keysP, List.map_append, List.mem_append, List.mem_cons]
  constructor
  · rintro (h1 | h1)
    · right
      exact (List.filter_sublist.map _).subset h1
    · exact hk.2 a h1
  · rintro (h1 | h1)
    · right; rw [h1]; exact hk.1
    · by_cases h2 : a ∈ keysP w
      · exact .inr h2
      · left
        obtain ⟨y, hy, e⟩ := List.mem_map.mp h1
        refine List.mem_map.mpr ⟨y, List.mem_filter.mpr ⟨hy, ?_⟩, e⟩
        have : ¬ hasKey w y.1 = true := fun e2 => h2 (e ▸ (hasKey_iff w y.1).mp e2)
        simp [this]

theorem Way.pp {room : Nat → Nat} {tk : Nat → List Nat} {p : Places} {c m : Nat} {w : Places} (hp : PP room tk p)
    (hr : c ∉ keysP p) (h : Way p tk [c] m w) (hf : takenAt p m < room m) : PP room tk (changedPlaces p w) := by
  have hr' : ∀ k ∈ [c], k ∉ keysP p := by simpa using hr
  refine ⟨?_, ?_, ?_⟩
  · exact (h.perm hp.nd hr).nodup_iff.mpr (List.nodup_cons.mpr ⟨hr, hp.nd⟩)
  · intro x hx
    rw [changedPlaces_eq] at hx
    rcases List.mem_append.mp hx with hx | hx
    · exact hp.into x (List.mem_filter.mp hx).1
    · exact h.into x hx
  · intro x
    rw [h.taken hp.nd hr']
    have := hp.le x
    split
    · rename_i e; subst e; omega
    · omega

theorem Way.inS {p : Places} {tk : Nat → List Nat} {roots : List Nat} {m : Nat} {w : Places} (h : Way p tk roots m w) (S : List Nat)
    (h1 : ∀ k ∈ roots, ∀ m ∈ tk k, m ∈ S) (h2 : ∀ k a, (k, a) ∈ p → a ∈ S → ∀ m ∈ tk k, m ∈ S) : m ∈ S := by
  induction h with
  | root k m h3 h4 => exact h1 k h3 m h4
  | step k m m' w h3 h4 h5 h6 ih => exact h2 k m' h4 ih m h5

-- ## what is reached
def firsts (r : Reach) : List Nat := r.map Prod.fst
theorem reached_iff (r : Reach) (m : Nat) : reached r m = true ↔ m ∈ firsts r := by
  simp only [reached, List.any_eq_true, firsts, List.mem_map, beq_iff_eq]

structure RI (p : Places) (tk : Nat → List Nat) (roots : List Nat) (r : Reach) : Prop where
  nd : (firsts r).Nodup
  way : ∀ x ∈ r, Way p tk roots x.1 x.2
  mem : ∀ x ∈ r, ∀ y ∈ x.2, y.2 ∈ firsts r

theorem RI.nil (p : Places) (tk : Nat → List Nat) (roots : List Nat) : RI p tk roots [] :=
  ⟨by simp [firsts], by simp, by simp⟩

/-- where a client comes from -/
def Src (p : Places) (roots : List Nat) (r : Reach) (k : Nat) (w : Places) : Prop :=
  (k ∈ roots ∧ w = []) ∨ ∃ m, (m, w) ∈ r ∧ (k, m) ∈ p

theorem Src.ext {p : Places} {roots : List Nat} {r r' : Reach} {k : Nat} {w : Places} (h : r <+: r') : Src p roots r k w → Src p roots r' k w
  | .inl h1 => .inl h1
  | .inr ⟨m, h1, h2⟩ => .inr ⟨m, h.subset h1, h2⟩

theorem offer_list {p : Places} {tk : Nat → List Nat} {roots : List Nat} (k : Nat) (w : Places) : ∀ (ts : List Nat) (r : Reach),
    RI p tk roots r → Src p roots r k w → (∀ m ∈ ts, m ∈ tk k) →
    RI p tk roots (ts.foldl (fun l m => if reached l m = true then l else l ++ [(m, (k, m) :: w)]) r) ∧
    r <+: ts.foldl (fun l m => if reached l m = true then l else l ++ [(m, (k, m) :: w)]) r ∧
    ∀ m ∈ ts, m ∈ firsts (ts.foldl (fun l m => if reached l m = true then l else l ++ [(m, (k, m) :: w)]) r)
  | [], r, hr, _, _ => ⟨hr, List.prefix_refl r, by simp⟩
  | m :: ts, r, hr, hs, ht => by
    simp only [List.foldl_cons]
    by_cases hm : reached r m = true
    · rw [if_pos hm]
      obtain ⟨a, b, c⟩ := offer_list k w ts r hr hs (fun x hx => ht x (by simp [hx]))
      refine ⟨a, b, ?_⟩
      intro x hx
      rcases List.mem_cons.mp hx with hx | hx
      · subst hx
        have := (reached_iff r x).mp hm
        exact (b.map Prod.fst).subset this
      · exact c x hx
    · rw [if_neg hm]
      have hm' : m ∉ firsts r := fun h => hm ((reached_iff r m).mpr h)
      have pre : r <+: r ++ [(m, (k, m) :: w)] := List.prefix_append _ _
      have hw : Way p tk roots m ((k, m) :: w) := by
        rcases hs with ⟨h1, h2⟩ | ⟨m', h1, h2⟩
        · subst h2
          exact Way.root k m h1 (ht m (by simp))
        · refine Way.step k m m' w (hr.way _ h1) h2 (ht m (by simp)) ?_
          intro y hy e
          exact hm' (e ▸ hr.mem _ h1 y hy)
      have hr' : RI p tk roots (r ++ [(m, (k, m) :: w)]) := by
        refine ⟨?_, ?_, ?_⟩
        · simp only [firsts, List.map_append, List.map_cons, List.map_nil]
          apply List.nodup_append.mpr
          refine ⟨hr.nd, by simp, ?_⟩
          intro a ha b hb e
          simp only [List.mem_singleton] at hb
          subst hb; subst e
          exact hm' ha
        · intro x hx
          rcases List.mem_append.mp hx with hx | hx
          · exact hr.way x hx
          · simp only [List.mem_singleton] at hx; subst hx; exact hw
        · intro x hx y hy
          simp only [firsts, List.map_append, List.map_cons, List.map_nil, List.mem_append, List.mem_singleton]
          rcases List.mem_append.mp hx with hx | hx
          · left; exact hr.mem x hx y hy
          · simp only [List.mem_singleton] at hx; subst hx
            rcases List.mem_cons.mp hy with hy | hy
            · right; rw [hy]
            · left
              rcases hs with ⟨h1, h2⟩ | ⟨m', h1, h2⟩
              · subst h2; simp at hy
              · exact hr.mem _ h1 y hy
      obtain ⟨a, b, c⟩ := offer_list k w ts _ hr' (hs.ext pre) (fun x hx => ht x (by simp [hx]))
      refine ⟨a, pre.trans b, ?_⟩
      intro x hx
      rcases List.mem_cons.mp hx with hx | hx
      · subst hx
        apply (b.map Prod.fst).subset
        simp [firsts]
      · exact c x hx

theorem offer_ok {p : Places} {tk : Nat → List Nat} {roots : List Nat} (c : Client) (w : Places) (r : Reach)
    (hr : RI p tk roots r) (hs : Src p roots r c.key w) (ht : tk c.key = c.takers) :
    RI p tk roots (offer c w r) ∧ r <+: offer c w r ∧ ∀ m ∈ c.takers, m ∈ firsts (offer c w r) :=
  offer_list c.key w c.takers r hr hs (fun m hm => by rw [ht]; exact hm)

theorem offers_ok {p : Places} {tk : Nat → List Nat} {roots : List Nat} (w : Places) : ∀ (cs : List Client) (r : Reach),
    RI p tk roots r → (∀ c ∈ cs, Src p roots r c.key w) → (∀ c ∈ cs, tk c.key = c.takers) →
    RI p tk roots (cs.foldl (fun l c => offer c w l) r) ∧ r <+: cs.foldl (fun l c => offer c w l) r ∧
    ∀ c ∈ cs, ∀ m ∈ c.takers, m ∈ firsts (cs.foldl (fun l c => offer c w l) r)
  | [], r, hr, _, _ => ⟨hr, List.prefix_refl r, by simp⟩
  | c :: cs, r, hr, hs, ht => by
    simp only [List.foldl_cons]
    obtain ⟨a1, b1, c1⟩ := offer_ok c w r hr (hs c (by simp)) (ht c (by simp))
    obtain ⟨a, b, d⟩ := offers_ok w cs _ a1 (fun x hx => (hs x (by simp [hx])).ext b1) (fun x hx => ht x (by simp [hx]))
    refine ⟨a, b1.trans b, ?_⟩
    intro x hx m hm
    rcases List.mem_cons.mp hx with hx | hx
    · subst hx
      exact (b.map Prod.fst).subset (c1 m hm)
    · exact d x hx m hm

theorem wide_list {p : Places} {tk : Nat → List Nat} {roots : List Nat} (cs : List Client) (hn : (keysP p).Nodup)
    (hz : ∀ k, 0 ∉ tk k) (ht : ∀ c ∈ cs, tk c.key = c.takers) : ∀ (xs : List (Nat × Places)) (r : Reach),
    RI p tk roots r → (∀ x ∈ xs, x ∈ r) →
    RI p tk roots (xs.foldl (fun l x => (cs.filter fun c => placeOf p c.key == x.1).foldl (fun l c => offer c x.2 l) l) r) ∧
    r <+: xs.foldl (fun l x => (cs.filter fun c => placeOf p c.key == x.1).foldl (fun l c => offer c x.2 l) l) r ∧
    ∀ x ∈ xs, ∀ c ∈ cs, placeOf p c.key = x.1 → ∀ m ∈ c.takers,
      m ∈ firsts (xs.foldl (fun l x => (cs.filter fun c => placeOf p c.key == x.1).foldl (fun l c => offer c x.2 l) l) r)
  | [], r, hr, _ => ⟨hr, List.prefix_refl r, by simp⟩
  | x :: xs, r, hr, hx => by
    simp only [List.foldl_cons]
    have hx0 := hx x (by simp)
    have x0 : x.1 ≠ 0 := by
      intro e
      have hw := hr.way x hx0
      obtain ⟨k, w0, e2⟩ := hw.head
      have := hw.into (k, x.1) (by rw [e2]; simp)
      rw [e] at this
      exact hz k this
    obtain ⟨a1, b1, c1⟩ := offers_ok x.2 (cs.filter fun c => placeOf p c.key == x.1) r hr (fun c hc => by
      have h1 := (List.mem_filter.mp hc).2
      have h2 : placeOf p c.key = x.1 := by simpa using h1
      right
      refine ⟨x.1, hx0, ?_⟩
      have : c.key ∈ keysP p := by
        by_cases h3 : c.key ∈ keysP p
        · exact h3
        · rw [placeOf_none p c.key h3] at h2; exact absurd h2.symm x0
      rw [← h2]
      exact mem_placeOf hn this) (fun c hc => ht c (List.mem_filter.mp hc).1)
    obtain ⟨a, b, d⟩ := wide_list cs hn hz ht xs _ a1 (fun y hy => b1.subset (hx y (by simp [hy])))
    refine ⟨a, b1.trans b, ?_⟩
    intro y hy c hc he m hm
    rcases List.mem_cons.mp hy with hy | hy
    · subst hy
      apply (b.map Prod.fst).subset
      exact c1 c (List.mem_filter.mpr ⟨hc, by simpa using he⟩) m hm
    · exact d y hy c hc he m hm

/-- nothing more can be reached -/
def Done (p : Places) (cs : List Client) (r : Reach) : Prop :=
  ∀ x ∈ r, ∀ c ∈ cs, placeOf p c.key = x.1 → ∀ m ∈ c.takers, m ∈ firsts r

theorem reachFrom_ok {p : Places} {tk : Nat → List Nat} {roots : List Nat} (cs : List Client) (hn : (keysP p).Nodup)
    (hz : ∀ k, 0 ∉ tk k) (ht : ∀ c ∈ cs, tk c.key = c.takers) (MS : List Nat) (hM : ∀ k, ∀ m ∈ tk k, m ∈ MS) : ∀ (k : Nat) (r : Reach),
    RI p tk roots r → (r = [] ∨ MS.length < r.length + k) →
    RI p tk roots (reachFrom cs p k r) ∧ r <+: reachFrom cs p k r ∧ Done p cs (reachFrom cs p k r)
  | 0, r, hr, hk => by
    refine ⟨hr, List.prefix_refl r, ?_⟩
    rcases hk with h | h
    · subst h; intro x hx; simp [reachFrom] at hx
    · exfalso
      have : (firsts r).length ≤ MS.length := by
        apply nodup_length_le _ _ hr.nd
        intro m hm
        obtain ⟨x, hx, rfl⟩ := List.mem_map.mp hm
        have hw := hr.way x hx
        obtain ⟨k, w0, e2⟩ := hw.head
        exact hM k _ (hw.into (k, x.1) (by rw [e2]; simp))
      simp only [firsts, List.length_map] at this
      omega
  | k + 1, r, hr, hk => by
    obtain ⟨a, b, c⟩ := wide_list (roots := roots) cs hn hz ht r r hr (fun x hx => hx)
    simp only [reachFrom]
    split
    · rename_i he
      have e : r = wider cs p r := List.IsPrefix.eq_of_length b he.symm
      refine ⟨hr, List.prefix_refl r, ?_⟩
      intro x hx d hd hp m hm
      have := c x hx d hd hp m hm
      change m ∈ firsts (wider cs p r) at this
      rw [← e] at this
      exact this
    · rename_i he
      have lt : r.length < (wider cs p r).length := by
        have := b.length_le
        change r.length ≤ (wider cs p r).length at this
        omega
      have hk' : wider cs p r = [] ∨ MS.length < (wider cs p r).length + k := by
        right
        rcases hk with h | h
        · subst h; simp [wider] at lt
        · omega
      obtain ⟨a2, b2, c2⟩ := reachFrom_ok cs hn hz ht MS hM k (wider cs p r) a hk'
      exact ⟨a2, List.IsPrefix.trans b b2, c2⟩

theorem reachOf_ok {p : Places} {tk : Nat → List Nat} (ms : List Member) (cs from_ : List Client) (hn : (keysP p).Nodup)
    (hz : ∀ k, 0 ∉ tk k) (ht : ∀ c ∈ cs, tk c.key = c.takers) (htf : ∀ c ∈ from_, tk c.key = c.takers)
    (hM : ∀ k, ∀ m ∈ tk k, m ∈ ms.map fun m => m.key) :
    RI p tk (from_.map fun c => c.key) (reachOf ms cs p from_) ∧
    (∀ c ∈ from_, ∀ m ∈ c.takers, m ∈ firsts (reachOf ms cs p from_)) ∧ Done p cs (reachOf ms cs p from_) := by
  obtain ⟨a, b, c⟩ := offers_ok (p := p) (tk := tk) (roots := from_.map fun c => c.key) [] from_ [] (RI.nil _ _ _)
    (fun c hc => .inl ⟨List.mem_map.mpr ⟨c, hc, rfl⟩, rfl⟩) htf
  obtain ⟨a2, b2, c2⟩ := reachFrom_ok (roots := from_.map fun c => c.key) cs hn hz ht (ms.map fun m => m.key) hM ms.length _ a (by
    by_cases h : from_.foldl (fun l c => offer c [] l) [] = []
    · exact .inl h
    · right
      have : 0 < (from_.foldl (fun l c => offer c [] l) []).length := List.length_pos_iff.mpr h
      simp only [List.length_map]
      omega)
  exact ⟨a2, fun d hd m hm => (b2.map Prod.fst).subset (c d hd m hm), c2⟩

end CM

end

section
set_option autoImplicit false
namespace CM
open Vbchaj

/-- what is asked of clients and their members -/
structure Env (ms : List Member) (tk : Nat → List Nat) (cs : List Client) : Prop where
  zero : ∀ k, 0 ∉ tk k
  tks : ∀ c ∈ cs, tk c.key = c.takers
  inM : ∀ k, ∀ m ∈ tk k, m ∈ ms.map fun m => m.key
  nd : (keysOf cs).Nodup

theorem Env.sub {ms : List Member} {tk : Nat → List Nat} {a b : List Client} (h : a.Sublist b) (H : Env ms tk b) : Env ms tk a :=
  ⟨H.zero, fun c hc => H.tks c (h.subset hc), H.inM, H.nd.sublist (h.map _)⟩

theorem done_closed {p : Places} {tk : Nat → List Nat} {cs : List Client} {r : Reach} (hd : Done p cs r)
    (hn : (keysP p).Nodup) (ht : ∀ c ∈ cs, tk c.key = c.takers) (hk : ∀ k ∈ keysP p, k ∈ keysOf cs) :
    Closed tk (keysP p) (placeOf p) (firsts r) := by
  intro k hk1 hf m hm
  obtain ⟨x, hx, e⟩ := List.mem_map.mp hf
  obtain ⟨c, hc, e2⟩ := List.mem_map.mp (hk k hk1)
  refine hd x hx c hc ?_ m ?_
  · have e2' : c.key = k := e2
    rw [e2', e]
  · rw [← ht c hc]
    have e2' : c.key = k := e2
    rw [e2']; exact hm

theorem placed_ok {ms : List Member} {tk : Nat → List Nat} {cs : List Client} {p : Places} {c : Client}
    (E : Env ms tk cs) (hp : PP (roomOf ms) tk p) (hk : ∀ k ∈ keysP p, k ∈ keysOf cs) (hc : c ∈ cs) (hcp : c.key ∉ keysP p) :
    (∀ q, placed ms cs p c = some q → PP (roomOf ms) tk q ∧ (keysP q).Perm (c.key :: keysP p)) ∧
    (placed ms cs p c = none → ¬ Can (roomOf ms) tk (c.key :: keysP p)) := by
  obtain ⟨a, b, d⟩ := reachOf_ok (p := p) ms cs [c] hp.nd E.zero E.tks (by simpa using E.tks c hc) E.inM
  simp only [List.map_cons, List.map_nil] at a
  constructor
  · intro q hq
    unfold placed at hq
    rw [Option.map_eq_some_iff] at hq
    obtain ⟨x, hx, rfl⟩ := hq
    have h1 := List.mem_of_find?_eq_some hx
    have h2 := List.find?_some hx
    have hf : takenAt p x.1 < roomOf ms x.1 := by simpa [isFree] using h2
    exact ⟨(a.way x h1).pp hp hcp hf, (a.way x h1).perm hp.nd hcp⟩
  · intro hq
    unfold placed at hq
    rw [Option.map_eq_none_iff, List.find?_eq_none] at hq
    apply hall a.nd
    · apply kept_full hp.fits a.nd (done_closed d hp.nd E.tks hk)
      intro m hm
      obtain ⟨x, hx, e⟩ := List.mem_map.mp hm
      have := hq x hx
      simp only [isFree, decide_eq_true_eq] at this
      rw [cnt_placeOf p hp.nd, ← e]
      have h3 := hp.le x.1
      omega
    · intro m hm
      rw [E.tks c hc] at hm
      exact b c (by simp) m hm

theorem placing_ok {ms : List Member} {tk : Nat → List Nat} {cs : List Client} (E : Env ms tk cs) : ∀ (l : List Client) (p : Places) (acc : List Nat),
    PP (roomOf ms) tk p → (keysP p).Perm acc → (∀ k ∈ acc, k ∈ keysOf cs) → (∀ c ∈ l, c ∈ cs) → (keysOf l).Nodup → (∀ c ∈ l, c.key ∉ acc) →
    PP (roomOf ms) tk (placing ms cs l p) ∧ (keysP (placing ms cs l p)).Perm (greedy (roomOf ms) tk acc (keysOf l))
  | [], p, acc, hp, ha, _, _, _, _ => ⟨hp, ha⟩
  | c :: l, p, acc, hp, ha, hk, hl, hn, hd => by
    have hn' : c.key ∉ keysOf l ∧ (keysOf l).Nodup := List.nodup_cons.mp hn
    have hc := hl c (by simp)
    have hcp : c.key ∉ keysP p := fun h => hd c (by simp) (ha.mem_iff.mp h)
    obtain ⟨h1, h2⟩ := placed_ok E hp (fun k h => hk k (ha.mem_iff.mp h)) hc hcp
    have pm : (c.key :: keysP p).Perm (c.key :: acc) := ha.cons _
    show PP (roomOf ms) tk (match placed ms cs p c with | some q => placing ms cs l q | none => placing ms cs l p) ∧
      (keysP (match placed ms cs p c with | some q => placing ms cs l q | none => placing ms cs l p)).Perm
        (greedy (roomOf ms) tk acc (c.key :: keysOf l))
    simp only [greedy]
    cases hq : placed ms cs p c with
    | some q =>
      obtain ⟨h3, h4⟩ := h1 q hq
      have hcan : Can (roomOf ms) tk (c.key :: acc) := ⟨placeOf q, h3.fits.perm (pm.symm.trans h4.symm)⟩
      rw [if_pos hcan]
      apply placing_ok E l q (acc ++ [c.key]) h3
      · exact (h4.trans pm).trans (List.perm_append_singleton _ _).symm
      · intro k hk1
        rcases List.mem_append.mp hk1 with h | h
        · exact hk k h
        · simp only [List.mem_singleton] at h
          subst h
          exact List.mem_map.mpr ⟨c, hc, rfl⟩
      · exact fun x hx => hl x (by simp [hx])
      · exact hn'.2
      · intro x hx h
        rcases List.mem_append.mp h with h | h
        · exact hd x (by simp [hx]) h
        · simp only [List.mem_singleton] at h
          exact hn'.1 (h ▸ List.mem_map.mpr ⟨x, hx, rfl⟩)
    | none =>
      have hcan : ¬ Can (roomOf ms) tk (c.key :: acc) := fun h => h2 hq ((Can.perm_iff pm).mpr h)
      rw [if_neg hcan]
      exact placing_ok E l p acc hp ha hk (fun x hx => hl x (by simp [hx])) hn'.2 (fun x hx => hd x (by simp [hx]))

theorem PP.nil (room : Nat → Nat) (tk : Nat → List Nat) : PP room tk [] := ⟨by simp [keysP], by simp, by simp [takenAt]⟩

theorem placing_all {ms : List Member} {tk : Nat → List Nat} {cs : List Client} (E : Env ms tk cs) :
    PP (roomOf ms) tk (placing ms cs cs []) ∧ (keysP (placing ms cs cs [])).Perm (movedK (roomOf ms) tk (keysOf cs)) :=
  placing_ok E cs [] [] (PP.nil _ _) (by simp [keysP]) (by simp) (fun c hc => hc) E.nd (by simp)

theorem PP.pos {room : Nat → Nat} {tk : Nat → List Nat} {p : Places} (h : PP room tk p) (hz : ∀ k, 0 ∉ tk k) (k : Nat) :
    placeOf p k ≠ 0 ↔ k ∈ keysP p := by
  constructor
  · intro h1
    by_cases h2 : k ∈ keysP p
    · exact h2
    · exact absurd (placeOf_none p k h2) h1
  · intro h1 h2
    have := h.into _ (mem_placeOf h.nd h1)
    rw [h2] at this
    exact hz k this

theorem filter_mem_sub {a b : List Nat} (h : a.Sublist b) (hn : b.Nodup) : b.filter (fun k => a.contains k) = a := by
  induction h with
  | slnil => rfl
  | cons k h ih =>
    rename_i l1 l2
    have hn' := List.nodup_cons.mp hn
    rw [List.filter_cons]
    have : ¬ k ∈ l1 := fun h1 => hn'.1 (h.subset h1)
    simp only [List.contains_eq_mem, this, decide_false, Bool.false_eq_true, if_false]
    simpa using ih hn'.2
  | cons_cons k h ih =>
    rename_i l1 l2
    have hn' := List.nodup_cons.mp hn
    rw [List.filter_cons]
    simp only [List.contains_eq_mem, List.mem_cons, true_or, decide_true, if_true]
    congr 1
    refine Eq.trans ?_ (ih hn'.2)
    apply List.filter_congr
    intro x hx
    have : x ≠ k := fun e => hn'.1 (e ▸ hx)
    simp [this]

/-- **who is moved** -/
theorem keys_movedOf {ms : List Member} {tk : Nat → List Nat} {cs : List Client} (E : Env ms tk cs) :
    keysOf (movedOf ms cs) = movedK (roomOf ms) tk (keysOf cs) := by
  obtain ⟨h1, h2⟩ := placing_all E
  have e : (keysOf cs).filter (fun k => (movedK (roomOf ms) tk (keysOf cs)).contains k) = movedK (roomOf ms) tk (keysOf cs) :=
    filter_mem_sub (moved_sub _ _ _) E.nd
  rw [← e]
  unfold keysOf movedOf
  rw [List.filter_map]
  congr 1
  apply List.filter_congr
  intro c hc
  simp only [Function.comp]
  rw [Bool.eq_iff_iff]
  simp only [bne_iff_ne, ne_eq]
  rw [← ne_eq, h1.pos E.zero, h2.mem_iff]
  simp [keysOf]

theorem movedOf_sub (ms : List Member) (cs : List Client) : (movedOf ms cs).Sublist cs := List.filter_sublist

theorem mem_movedOf {ms : List Member} {tk : Nat → List Nat} {cs : List Client} (E : Env ms tk cs) (c : Client) (hc : c ∈ cs) :
    c ∈ movedOf ms cs ↔ c.key ∈ movedK (roomOf ms) tk (keysOf cs) := by
  obtain ⟨h1, h2⟩ := placing_all E
  unfold movedOf
  rw [List.mem_filter]
  simp only [bne_iff_ne, ne_eq]
  rw [← ne_eq, h1.pos E.zero, h2.mem_iff]
  simp [hc]

theorem canAll_iff {ms : List Member} {tk : Nat → List Nat} {cs : List Client} (E : Env ms tk cs) :
    canAll ms cs = true ↔ Can (roomOf ms) tk (keysOf cs) := by
  obtain ⟨h1, h2⟩ := placing_all E
  unfold canAll
  rw [beq_iff_eq, can_iff_moved, ← h2.length_eq]
  simp [keysP, keysOf]

theorem roomOf_without (ms : List Member) (m : Nat) : roomOf (without ms m) = dec (roomOf ms) m := by
  funext x
  unfold roomOf without dec
  induction ms with
  | nil => simp
  | cons y ms ih =>
    simp only [List.map_cons, List.find?_cons]
    have hk : (if y.key = m then ({ y with room := y.room - 1 } : Member) else y).key = y.key := by split <;> rfl
    rw [hk]
    by_cases h : y.key = x
    · have e : (y.key == x) = true := by simpa using h
      rw [e]
      simp only
      by_cases h2 : y.key = m
      · rw [if_pos h2, if_pos (by rw [← h, h2])]
      · rw [if_neg h2, if_neg (by rw [← h]; exact h2)]
    · have e : (y.key == x) = false := by simpa using h
      rw [e]
      exact ih

theorem without_keys (ms : List Member) (m : Nat) : (without ms m).map (fun m => m.key) = ms.map (fun m => m.key) := by
  unfold without
  rw [List.map_map]
  apply List.map_congr_left
  intro x _
  simp only [Function.comp]
  split <;> rfl

theorem Env.without {ms : List Member} {tk : Nat → List Nat} {cs : List Client} (E : Env ms tk cs) (m : Nat) : Env (without ms m) tk cs :=
  ⟨E.zero, E.tks, fun k x hx => by rw [without_keys]; exact E.inM k x hx, E.nd⟩

theorem find?_congr' {α : Type} {p q : α → Bool} : ∀ (l : List α), (∀ x ∈ l, p x = q x) → l.find? p = l.find? q
  | [], _ => rfl
  | x :: l, h => by
    rw [List.find?_cons, List.find?_cons, h x (by simp), find?_congr' l (fun y hy => h y (by simp [hy]))]

theorem firstPlaces_eq {tk : Nat → List Nat} : ∀ (cs : List Client) (ms : List Member), Env ms tk cs →
    firstPlaces ms cs = best tk (roomOf ms) (keysOf cs)
  | [], ms, _ => by simp [firstPlaces, keysOf, best]
  | c :: l, ms, E => by
    have El : Env ms tk l := E.sub (List.sublist_cons_self c l)
    have hf : (c.takers.find? fun m => decide (0 < roomOf ms m) && canAll (without ms m) l) =
        ((tk c.key).find? fun m => decide (0 < roomOf ms m) && canB (dec (roomOf ms) m) tk (keysOf l)) := by
      rw [E.tks c (by simp)]
      apply find?_congr'
      intro m _
      congr 1
      rw [Bool.eq_iff_iff, canB_iff, canAll_iff (El.without m), roomOf_without]
    have ek : keysOf (c :: l) = c.key :: keysOf l := rfl
    rw [ek, firstPlaces, best, hf]
    cases (tk c.key).find? fun m => decide (0 < roomOf ms m) && canB (dec (roomOf ms) m) tk (keysOf l) with
    | some m =>
      simp only
      rw [firstPlaces_eq l (without ms _) (El.without _), roomOf_without]
    | none => exact firstPlaces_eq l ms El

/-- **where they go** -/
theorem told_eq {ms : List Member} {tk : Nat → List Nat} {cs : List Client} (E : Env ms tk cs) :
    told ms cs = best tk (roomOf ms) (movedK (roomOf ms) tk (keysOf cs)) := by
  unfold told
  rw [firstPlaces_eq _ ms (E.sub (movedOf_sub ms cs)), keys_movedOf E]

end CM

end

section
set_option autoImplicit false
namespace CM
open Vbchaj

theorem countP_back {α : Type} (p q : α → Bool) : ∀ (l : List α), (∀ x ∈ l, p x = true → q x = true) → l.countP p = l.countP q →
    ∀ x ∈ l, q x = true → p x = true
  | [], _, _ => by simp
  | y :: l, h, e => by
    have hm : l.countP p ≤ l.countP q := List.countP_mono_left (fun x hx => h x (by simp [hx]))
    have hy := h y (by simp)
    simp only [List.countP_cons] at e
    have e1 : l.countP p = l.countP q ∧ (q y = true → p y = true) := by
      cases hp : p y <;> cases hq : q y <;> simp_all <;> omega
    intro x hx hqx
    rcases List.mem_cons.mp hx with hx | hx
    · subst hx; exact e1.2 hqx
    · exact countP_back p q l (fun x hx => h x (by simp [hx])) e1.1 x hx hqx

/-- a set that proves that c can't be placed beside B -/
def ProvesL (room : Nat → Nat) (tk : Nat → List Nat) (B : List Nat) (c : Nat) (S : List Nat) : Prop :=
  (∀ m ∈ tk c, m ∈ S) ∧ keptC tk B S = total room S

theorem keptC_perm {tk : Nat → List Nat} {a b S : List Nat} (h : a.Perm b) : keptC tk a S = keptC tk b S := h.countP_eq _

theorem Fits.back {room : Nat → Nat} {tk : Nat → List Nat} {B S : List Nat} {f : Nat → Nat} (F : Fits room tk B f) (hS : S.Nodup)
    (hk : keptC tk B S = total room S) : Closed tk B f S := by
  have a := F.inC_le hS
  have b := F.kept_le_in S
  have e : keptC tk B S = inC f B S := by omega
  have := countP_back _ _ B (fun k hk hx => by
    have := List.all_eq_true.mp hx (f k) (F.into k hk)
    exact this) e
  intro k hk1 hf m hm
  have h1 := this k hk1 (by simpa using hf)
  simpa using List.all_eq_true.mp h1 m hm

theorem Way.one {p : Places} {tk : Nat → List Nat} {roots : List Nat} {m : Nat} {w : Places} (h : Way p tk roots m w) :
    ∃ c ∈ roots, Way p tk [c] m w := by
  induction h with
  | root k m h1 h2 => exact ⟨k, h1, Way.root k m (by simp) h2⟩
  | step k m m' w h1 h2 h3 h4 ih =>
    obtain ⟨c, hc, hw⟩ := ih
    exact ⟨c, hc, Way.step k m m' w hw h2 h3 h4⟩

/-- what is reached from clients none of whom can be placed besides is full -/
theorem reach_full {room : Nat → Nat} {tk : Nat → List Nat} {p : Places} {roots : List Nat} {r : Reach} (hp : PP room tk p) (hr : RI p tk roots r)
    (hc : ∀ c ∈ roots, c ∉ keysP p ∧ ¬ Can room tk (c :: keysP p)) : ∀ m ∈ firsts r, cnt (placeOf p) (keysP p) m = room m := by
  intro m hm
  obtain ⟨x, hx, rfl⟩ := List.mem_map.mp hm
  obtain ⟨c, h1, hw⟩ := (hr.way x hx).one
  obtain ⟨h2, h3⟩ := hc c h1
  rw [cnt_placeOf p hp.nd]
  have := hp.le x.1
  by_cases h : takenAt p x.1 < room x.1
  · exact absurd ⟨_, ((hw.pp hp h2 h).fits).perm (hw.perm hp.nd h2).symm⟩ h3
  · omega

/-- the least set that proves that c is left -/
structure WhyL (room : Nat → Nat) (tk : Nat → List Nat) (B : List Nat) (c : Nat) (R : List Nat) : Prop where
  pr : ProvesL room tk B c R
  nd : R.Nodup
  least : ∀ S : List Nat, S.Nodup → ProvesL room tk B c S → ∀ m ∈ R, m ∈ S

theorem why_ok {ms : List Member} {tk : Nat → List Nat} {b : List Client} {c : Client} (E : Env ms tk b) (hc : tk c.key = c.takers)
    (hn : c.key ∉ keysOf b) (hb : Can (roomOf ms) tk (keysOf b)) (hl : ¬ Can (roomOf ms) tk (c.key :: keysOf b)) :
    WhyL (roomOf ms) tk (keysOf b) c.key (firsts (reachOf ms b (placing ms b b []) [c])) := by
  obtain ⟨h1, h2⟩ := placing_all E
  have hm : movedK (roomOf ms) tk (keysOf b) = keysOf b := by
    have := greedy_all (roomOf ms) tk (keysOf b) [] (by simpa using hb)
    simpa [movedK] using this
  rw [hm] at h2
  generalize placing ms b b [] = p at h1 h2 ⊢
  obtain ⟨a, e, d⟩ := reachOf_ok (p := p) ms b [c] h1.nd E.zero E.tks (by simpa using hc) E.inM
  simp only [List.map_cons, List.map_nil] at a
  have cl := done_closed d h1.nd E.tks (fun k hk => h2.mem_iff.mp hk)
  have fl := reach_full h1 a (by
    intro x hx
    simp only [List.mem_singleton] at hx
    subst hx
    exact ⟨fun h => hn (h2.mem_iff.mp h), fun h => hl ((Can.perm_iff (h2.cons _)).mp h)⟩)
  refine ⟨⟨?_, ?_⟩, a.nd, ?_⟩
  · intro m hm
    rw [hc] at hm
    exact e c (by simp) m hm
  · rw [← keptC_perm h2]
    exact kept_full h1.fits a.nd cl fl
  · intro S hS hp m hm
    obtain ⟨x, hx, rfl⟩ := List.mem_map.mp hm
    have hcl := h1.fits.back hS (by rw [keptC_perm h2]; exact hp.2)
    refine (a.way x hx).inS S (by simpa using hp.1) ?_
    intro k y hy hyS
    exact hcl k (key_of_mem hy) (by rw [placeOf_mem p k y h1.nd hy]; exact hyS)

/-- a set's bound -/
def boundK (room : Nat → Nat) (tk : Nat → List Nat) (ks : List Nat) (S : List Nat) : Nat := total room S + (ks.length - keptC tk ks S)

structure CoverL (room : Nat → Nat) (tk : Nat → List Nat) (ks : List Nat) (R : List Nat) : Prop where
  bd : boundK room tk ks R = (movedK room tk ks).length
  nd : R.Nodup
  least : ∀ S : List Nat, S.Nodup → boundK room tk ks S = (movedK room tk ks).length → ∀ m ∈ R, m ∈ S

theorem split_perm (M ks : List Nat) (h : M.Sublist ks) (hn : ks.Nodup) : ks.Perm (M ++ ks.filter fun k => !M.contains k) := by
  have := List.filter_append_perm (fun k => M.contains k) ks
  rw [filter_mem_sub h hn] at this
  exact this.symm

theorem keptC_append (tk : Nat → List Nat) (a b S : List Nat) : keptC tk (a ++ b) S = keptC tk a S + keptC tk b S := by
  simp [keptC, List.countP_append]

theorem keptC_le (tk : Nat → List Nat) (a S : List Nat) : keptC tk a S ≤ a.length := List.countP_le_length

theorem kept_all {tk : Nat → List Nat} {a S : List Nat} : keptC tk a S = a.length ↔ ∀ k ∈ a, ∀ m ∈ tk k, m ∈ S := by
  unfold keptC
  rw [List.countP_eq_length]
  simp

theorem cover_ok {ms : List Member} {tk : Nat → List Nat} {cs : List Client} (E : Env ms tk cs) :
    CoverL (roomOf ms) tk (keysOf cs) (firsts (reachOf ms (cs.filter fun c => placeOf (placing ms cs cs []) c.key != 0) (placing ms cs cs [])
      (cs.filter fun c => placeOf (placing ms cs cs []) c.key == 0))) := by
  obtain ⟨h1, h2⟩ := placing_all E
  have hsub := moved_sub (roomOf ms) tk (keysOf cs)
  have hleft := left_not_all (roomOf ms) tk (keysOf cs) E.nd
  generalize hM : movedK (roomOf ms) tk (keysOf cs) = M at h2 hsub hleft
  generalize placing ms cs cs [] = p at h1 h2 ⊢
  have E1 : Env ms tk (cs.filter fun c => placeOf p c.key != 0) := E.sub List.filter_sublist
  have sp := split_perm M (keysOf cs) hsub E.nd
  -- the left ones
  have hL : (cs.filter fun c => placeOf p c.key == 0).map (fun c => c.key) = (keysOf cs).filter fun k => !M.contains k := by
    unfold keysOf
    rw [List.filter_map]
    congr 1
    apply List.filter_congr
    intro c hc
    rw [Bool.eq_iff_iff]
    simp only [beq_iff_eq, Function.comp, Bool.not_eq_true', List.contains_eq_mem, decide_eq_false_iff_not]
    rw [← h2.mem_iff, ← h1.pos E.zero]
    simp
  obtain ⟨a, e, d⟩ := reachOf_ok (p := p) ms (cs.filter fun c => placeOf p c.key != 0) (cs.filter fun c => placeOf p c.key == 0) h1.nd E.zero E1.tks
    (fun c hc => E.tks c (List.mem_filter.mp hc).1) E.inM
  rw [hL] at a
  generalize reachOf ms (cs.filter fun c => placeOf p c.key != 0) p (cs.filter fun c => placeOf p c.key == 0) = r at a e d ⊢
  have hroot : ∀ c ∈ (keysOf cs).filter (fun k => !M.contains k), c ∉ keysP p ∧ ¬ Can (roomOf ms) tk (c :: keysP p) := by
    intro c hc
    obtain ⟨hc1, hc2⟩ := List.mem_filter.mp hc
    have hc3 : c ∉ M := by simpa using hc2
    exact ⟨fun h => hc3 (h2.mem_iff.mp h), fun h => hleft c hc1 hc3 ((Can.perm_iff (h2.cons _)).mp h)⟩
  have cl := done_closed d h1.nd E1.tks (fun k hk => by
    have hkM := h2.mem_iff.mp hk
    have hk2 := hsub.subset hkM
    obtain ⟨c, hc, e2⟩ := List.mem_map.mp hk2
    refine List.mem_map.mpr ⟨c, List.mem_filter.mpr ⟨hc, ?_⟩, e2⟩
    rw [bne_iff_ne, h1.pos E.zero]
    have e3 : c.key = k := e2
    rw [e3]; exact hk)
  have fl := reach_full h1 a hroot
  have kf := kept_full h1.fits a.nd cl fl
  have hlk : ∀ k ∈ (keysOf cs).filter (fun k => !M.contains k), ∀ m ∈ tk k, m ∈ firsts r := by
    intro k hk m hm
    rw [← hL] at hk
    obtain ⟨c, hc, e2⟩ := List.mem_map.mp hk
    refine e c hc m ?_
    rw [← E.tks c (List.mem_filter.mp hc).1, e2]
    exact hm
  have kl := kept_all.mpr hlk
  have len : (keysOf cs).length = M.length + ((keysOf cs).filter (fun k => !M.contains k)).length := by
    rw [sp.length_eq]; simp
  refine ⟨?_, a.nd, ?_⟩
  · unfold boundK
    rw [keptC_perm sp, keptC_append, kl, ← keptC_perm h2, kf, hM]
    have b3 := keptC_le tk (keysP p) (firsts r)
    rw [kf, h2.length_eq] at b3
    omega
  · intro S hS hb m hm
    rw [hM] at hb
    unfold boundK at hb
    rw [keptC_perm sp, keptC_append] at hb
    have b1 := keptC_le tk ((keysOf cs).filter (fun k => !M.contains k)) S
    have b2 := h1.fits.kept_le hS
    rw [keptC_perm h2] at b2
    have b3 := keptC_le tk M S
    have f1 : keptC tk M S = total (roomOf ms) S := by omega
    have f2 : keptC tk ((keysOf cs).filter (fun k => !M.contains k)) S = ((keysOf cs).filter (fun k => !M.contains k)).length := by omega
    have hcl := h1.fits.back hS (by rw [keptC_perm h2]; exact f1)
    obtain ⟨x, hx, rfl⟩ := List.mem_map.mp hm
    refine (a.way x hx).inS S (kept_all.mp f2) ?_
    intro k y hy hyS
    exact hcl k (key_of_mem hy) (by rw [placeOf_mem p k y h1.nd hy]; exact hyS)

-- ## sets by rising keys
theorem number_mem (v : Nat) : ∀ (l : List Nat) (x : Nat), x ∈ number v l ↔ x = v ∨ x ∈ l
  | [], x => by simp [number]
  | y :: l, x => by
    unfold number
    split
    · simp
    · split
      · rename_i h1 h2; subst h2; simp
      · simp only [List.mem_cons, number_mem v l x]
        constructor
        · rintro (h | h | h) <;> simp [h]
        · rintro (h | h | h) <;> simp [h]

theorem number_sorted (v : Nat) : ∀ (l : List Nat), l.Pairwise (· < ·) → (number v l).Pairwise (· < ·)
  | [], _ => by simp [number]
  | y :: l, h => by
    have h' := List.pairwise_cons.mp h
    unfold number
    split
    · rename_i h1
      refine List.pairwise_cons.mpr ⟨?_, h⟩
      intro x hx
      rcases List.mem_cons.mp hx with hx | hx
      · subst hx; exact h1
      · exact Nat.lt_trans h1 (h'.1 x hx)
    · split
      · exact h
      · rename_i h1 h2
        refine List.pairwise_cons.mpr ⟨?_, number_sorted v l h'.2⟩
        intro x hx
        rcases (number_mem v l x).mp hx with hx | hx
        · subst hx; omega
        · exact h'.1 x hx

theorem setOf_mem : ∀ (l : List Nat) (x : Nat), x ∈ setOf l ↔ x ∈ l
  | [], x => by simp [setOf]
  | y :: l, x => by
    have := setOf_mem l x
    unfold setOf at this ⊢
    rw [List.foldr_cons, number_mem, this]
    simp

theorem setOf_sorted : ∀ (l : List Nat), (setOf l).Pairwise (· < ·)
  | [] => by simp [setOf]
  | y :: l => by
    have := setOf_sorted l
    unfold setOf at this ⊢
    rw [List.foldr_cons]
    exact number_sorted y _ this

/-- two rising lists of the same numbers are one -/
theorem rising_eq : ∀ (a b : List Nat), a.Pairwise (· < ·) → b.Pairwise (· < ·) → (∀ x, x ∈ a ↔ x ∈ b) → a = b
  | [], [], _, _, _ => rfl
  | [], y :: b, _, _, h => absurd ((h y).mpr (by simp)) (by simp)
  | x :: a, [], _, _, h => absurd ((h x).mp (by simp)) (by simp)
  | x :: a, y :: b, ha, hb, h => by
    have ha' := List.pairwise_cons.mp ha
    have hb' := List.pairwise_cons.mp hb
    have e : x = y := by
      have h1 := (h x).mp (by simp)
      have h2 := (h y).mpr (by simp)
      rcases List.mem_cons.mp h1 with h1 | h1
      · exact h1
      · rcases List.mem_cons.mp h2 with h2 | h2
        · exact h2.symm
        · have := ha'.1 y h2
          have := hb'.1 x h1
          omega
    subst e
    congr 1
    apply rising_eq a b ha'.2 hb'.2
    intro z
    have hz := h z
    simp only [List.mem_cons] at hz
    constructor
    · intro h1
      have := ha'.1 z h1
      rcases hz.mp (.inr h1) with h2 | h2
      · omega
      · exact h2
    · intro h1
      have := hb'.1 z h1
      rcases hz.mpr (.inr h1) with h2 | h2
      · omega
      · exact h2

theorem rising_nodup {l : List Nat} (h : l.Pairwise (· < ·)) : l.Nodup := h.imp (fun h => Nat.ne_of_lt h)

/-- what is least is told rising in one way alone -/
theorem WhyL.tells {room : Nat → Nat} {tk : Nat → List Nat} {B : List Nat} {c : Nat} {R R' : List Nat} (h : WhyL room tk B c R)
    (h' : WhyL room tk B c R') (hs : R'.Pairwise (· < ·)) : setOf R = R' := by
  apply rising_eq _ _ (setOf_sorted R) hs
  intro x
  rw [setOf_mem]
  exact ⟨h.least R' h'.nd h'.pr x, h'.least R h.nd h.pr x⟩

theorem CoverL.tells {room : Nat → Nat} {tk : Nat → List Nat} {ks : List Nat} {R R' : List Nat} (h : CoverL room tk ks R)
    (h' : CoverL room tk ks R') (hs : R'.Pairwise (· < ·)) : setOf R = R' := by
  apply rising_eq _ _ (setOf_sorted R) hs
  intro x
  rw [setOf_mem]
  exact ⟨h.least R' h'.nd h'.bd x, h'.least R h.nd h.bd x⟩

-- ## the specification's counts
theorem sum_total (h : Nat → Nat) : ∀ (S : List Nat), sum (S.map h) = total h S
  | [] => rfl
  | m :: S => by
    have := sum_total h S
    unfold sum at this ⊢
    rw [List.map_cons, List.foldr_cons, this]
    rfl
theorem roomIn_eq (ms : List Member) (S : List Nat) : roomIn ms S = total (roomOf ms) S := sum_total _ S
theorem kept_eq {tk : Nat → List Nat} {cs : List Client} (ht : ∀ c ∈ cs, tk c.key = c.takers) (S : List Nat) : kept cs S = keptC tk (keysOf cs) S := by
  unfold kept keptC keysOf
  rw [← List.countP_eq_length_filter, List.countP_map]
  apply List.countP_congr
  intro c hc
  simp only [Function.comp, ht c hc, inside]
theorem boundOf_eq {tk : Nat → List Nat} {ms : List Member} {cs : List Client} (ht : ∀ c ∈ cs, tk c.key = c.takers) (S : List Nat) :
    boundOf ms cs S = boundK (roomOf ms) tk (keysOf cs) S := by
  unfold boundOf boundK
  rw [roomIn_eq, kept_eq ht]
  simp [keysOf]

end CM

end

section
set_option autoImplicit false
namespace CM
open Vbchaj

-- ## tables by keys
section
variable {α : Type}
def aget (l : List (Nat × α)) (k : Nat) : Option α := (l.find? fun x => x.1 == k).map fun x => x.2
def aput (l : List (Nat × α)) (k : Nat) (v : α) : List (Nat × α) :=
  if (l.any fun x => x.1 == k) = true then l.map (fun x => if x.1 = k then (x.1, v) else x) else l ++ [(k, v)]
def adrop (l : List (Nat × α)) (k : Nat) : List (Nat × α) := l.filter fun x => !(x.1 == k)
def keysA (l : List (Nat × α)) : List Nat := l.map fun x => x.1

theorem aget_nil (k : Nat) : aget ([] : List (Nat × α)) k = none := rfl
theorem aget_cons (x : Nat × α) (l : List (Nat × α)) (k : Nat) : aget (x :: l) k = if x.1 = k then some x.2 else aget l k := by
  unfold aget
  rw [List.find?_cons]
  by_cases h : x.1 = k
  · simp [h]
  · have e : (x.1 == k) = false := by simpa using h
    rw [e, if_neg h]

theorem aget_none : ∀ (l : List (Nat × α)) (k : Nat), aget l k = none ↔ k ∉ keysA l
  | [], k => by simp [aget, keysA]
  | x :: l, k => by
    rw [aget_cons]
    have ih := aget_none l k
    simp only [keysA, List.map_cons, List.mem_cons, not_or] at *
    by_cases h : x.1 = k
    · simp [h]
    · simp only [h, if_false, ih]
      constructor
      · exact fun h2 => ⟨fun e => h e.symm, h2⟩
      · exact fun h2 => h2.2

theorem aget_some_mem : ∀ (l : List (Nat × α)) (k : Nat) (v : α), aget l k = some v → (k, v) ∈ l
  | [], k, v, h => by simp [aget] at h
  | x :: l, k, v, h => by
    rw [aget_cons] at h
    by_cases e : x.1 = k
    · rw [if_pos e] at h
      have := Option.some.inj h
      subst this; subst e
      simp
    · rw [if_neg e] at h
      exact List.mem_cons_of_mem _ (aget_some_mem l k v h)

theorem aget_of_mem : ∀ (l : List (Nat × α)) (k : Nat) (v : α), (keysA l).Nodup → (k, v) ∈ l → aget l k = some v
  | [], k, v, _, h => by simp at h
  | x :: l, k, v, hn, h => by
    have hn' := List.nodup_cons.mp hn
    rw [aget_cons]
    rcases List.mem_cons.mp h with h | h
    · subst h; simp
    · have ne : x.1 ≠ k := fun e => hn'.1 (by
        show x.1 ∈ l.map fun x => x.1
        rw [e]
        exact List.mem_map.mpr ⟨(k, v), h, rfl⟩)
      rw [if_neg ne]
      exact aget_of_mem l k v hn'.2 h

theorem aget_mem (l : List (Nat × α)) (hn : (keysA l).Nodup) (k : Nat) (v : α) : aget l k = some v ↔ (k, v) ∈ l :=
  ⟨aget_some_mem l k v, aget_of_mem l k v hn⟩

theorem aget_isSome (l : List (Nat × α)) (k : Nat) : (aget l k).isSome = true ↔ k ∈ keysA l := by
  rw [← Option.ne_none_iff_isSome, ne_eq, aget_none]
  simp

theorem aget_key {l : List (Nat × α)} {k : Nat} (h : k ∈ keysA l) : ∃ v, aget l k = some v := by
  have := (aget_isSome l k).mpr h
  exact Option.isSome_iff_exists.mp this

theorem keysA_perm {a b : List (Nat × α)} (h : a.Perm b) : (keysA a).Perm (keysA b) := h.map _

theorem aget_perm {a b : List (Nat × α)} (h : a.Perm b) (hn : (keysA a).Nodup) (k : Nat) : aget a k = aget b k := by
  have hb : (keysA b).Nodup := (keysA_perm h).nodup_iff.mp hn
  cases e : aget a k with
  | some v => exact ((aget_mem b hb k v).mpr (h.mem_iff.mp ((aget_mem a hn k v).mp e))).symm
  | none =>
    have := (aget_none a k).mp e
    exact ((aget_none b k).mpr (fun h2 => this ((keysA_perm h).mem_iff.mpr h2))).symm

theorem any_key (l : List (Nat × α)) (k : Nat) : (l.any fun x => x.1 == k) = true ↔ k ∈ keysA l := by
  simp [keysA, List.any_eq_true]

theorem aput_new {l : List (Nat × α)} {k : Nat} (h : k ∉ keysA l) (v : α) : aput l k v = l ++ [(k, v)] := by
  unfold aput
  rw [if_neg (fun e => h ((any_key l k).mp e))]

theorem aput_old {l : List (Nat × α)} {k : Nat} (h : k ∈ keysA l) (v : α) : aput l k v = l.map (fun x => if x.1 = k then (x.1, v) else x) := by
  unfold aput
  rw [if_pos ((any_key l k).mpr h)]

theorem keysA_aput_old {l : List (Nat × α)} {k : Nat} (h : k ∈ keysA l) (v : α) : keysA (aput l k v) = keysA l := by
  rw [aput_old h]
  unfold keysA
  rw [List.map_map]
  apply List.map_congr_left
  intro x _
  simp only [Function.comp]
  split <;> rfl

theorem keysA_aput_new {l : List (Nat × α)} {k : Nat} (h : k ∉ keysA l) (v : α) : keysA (aput l k v) = keysA l ++ [k] := by
  rw [aput_new h]
  simp [keysA]

theorem aget_map_put (k j : Nat) (v : α) : ∀ (l : List (Nat × α)), aget (l.map (fun x => if x.1 = k then (x.1, v) else x)) j = if j = k ∧ k ∈ keysA l then some v else aget l j
  | [] => by simp [aget, keysA]
  | x :: l => by
    rw [List.map_cons, aget_cons, aget_map_put k j v l, aget_cons]
    by_cases h : x.1 = k
    · simp only [h, if_true]
      by_cases e : k = j
      · subst e; simp [keysA, h]
      · have e' : j ≠ k := fun z => e z.symm
        simp [e, e']
    · simp only [h, if_false]
      by_cases e : x.1 = j
      · simp only [e, if_true]
        have : j ≠ k := fun z => h (e.trans z)
        simp [this]
      · simp only [e, if_false]
        by_cases e2 : j = k
        · subst e2
          have : (j ∈ keysA (x :: l)) ↔ j ∈ keysA l := by
            simp only [keysA, List.map_cons, List.mem_cons]
            constructor
            · rintro (z | z)
              · exact absurd z.symm e
              · exact z
            · exact fun z => .inr z
          simp [this]
        · simp [e2]

theorem aget_aput (l : List (Nat × α)) (k : Nat) (v : α) (j : Nat) : aget (aput l k v) j = if j = k then some v else aget l j := by
  by_cases h : k ∈ keysA l
  · rw [aput_old h, aget_map_put]
    simp [h]
  · rw [aput_new h]
    unfold aget
    rw [List.find?_append]
    by_cases e : j = k
    · subst e
      have := (aget_none l j).mpr h
      unfold aget at this
      rw [Option.map_eq_none_iff] at this
      rw [this]
      simp
    · rw [if_neg e]
      have : ([(k, v)].find? fun x => x.1 == j) = none := by
        simp only [List.find?_cons, List.find?_nil]
        have : (k == j) = false := by simpa using fun z => e z.symm
        rw [this]
      rw [this]
      simp

theorem keysA_adrop (l : List (Nat × α)) (k : Nat) : keysA (adrop l k) = (keysA l).filter fun x => !(x == k) := by
  unfold keysA adrop
  rw [List.filter_map]
  rfl

theorem nd_adrop {l : List (Nat × α)} (h : (keysA l).Nodup) (k : Nat) : (keysA (adrop l k)).Nodup := by
  rw [keysA_adrop]; exact h.sublist List.filter_sublist

theorem aget_adrop (l : List (Nat × α)) (k j : Nat) : aget (adrop l k) j = if j = k then none else aget l j := by
  induction l with
  | nil => simp [adrop, aget]
  | cons x l ih =>
    unfold adrop at ih ⊢
    rw [List.filter_cons]
    by_cases h : x.1 = k
    · have e : (!(x.1 == k)) = false := by simp [h]
      rw [e]
      simp only [Bool.false_eq_true, if_false, ih, aget_cons]
      by_cases e2 : j = k
      · simp [e2]
      · have : x.1 ≠ j := fun z => e2 (z.symm.trans h)
        simp [e2, this]
    · have e : (!(x.1 == k)) = true := by simp [h]
      rw [e]
      simp only [if_true, aget_cons, ih]
      by_cases e2 : j = k
      · subst e2; simp [h]
      · simp [e2]

theorem perm_split : ∀ (l : List (Nat × α)) (k : Nat) (v : α), (keysA l).Nodup → aget l k = some v → l.Perm ((k, v) :: adrop l k)
  | [], k, v, _, h => by simp [aget] at h
  | x :: l, k, v, hn, h => by
    have hn' := List.nodup_cons.mp hn
    rw [aget_cons] at h
    unfold adrop
    rw [List.filter_cons]
    by_cases e : x.1 = k
    · rw [if_pos e] at h
      have hv := Option.some.inj h
      have e1 : (!(x.1 == k)) = false := by simp [e]
      rw [e1]
      simp only [Bool.false_eq_true, if_false]
      have e2 : l.filter (fun x => !(x.1 == k)) = l := by
        apply List.filter_eq_self.mpr
        intro y hy
        have : y.1 ≠ k := fun z => hn'.1 (by
          show x.1 ∈ l.map fun x => x.1
          rw [e, ← z]
          exact List.mem_map.mpr ⟨y, hy, rfl⟩)
        simp [this]
      rw [e2]
      have : x = (k, v) := by rw [← e, ← hv]
      rw [this]
    · rw [if_neg e] at h
      have e1 : (!(x.1 == k)) = true := by simp [e]
      rw [e1]
      simp only [if_true]
      have ih := perm_split l k v hn'.2 h
      exact (ih.cons x).trans (List.Perm.swap _ _ _)

theorem aput_perm (l : List (Nat × α)) (k : Nat) (v : α) (hn : (keysA l).Nodup) : (aput l k v).Perm ((k, v) :: adrop l k) := by
  by_cases h : k ∈ keysA l
  · have hn2 : (keysA (aput l k v)).Nodup := by rw [keysA_aput_old h]; exact hn
    have hg : aget (aput l k v) k = some v := by rw [aget_aput]; simp
    have := perm_split _ k v hn2 hg
    have e : adrop (aput l k v) k = adrop l k := by
      rw [aput_old h]
      clear this hg hn2 h hn
      unfold adrop
      induction l with
      | nil => rfl
      | cons x l ih =>
        rw [List.map_cons, List.filter_cons, List.filter_cons]
        by_cases e : x.1 = k
        · simp only [e, if_true, beq_self_eq_true, Bool.not_true, Bool.false_eq_true, if_false]
          simpa [e] using ih
        · have e1 : (!(x.1 == k)) = true := by simp [e]
          simp only [e, if_false, e1, if_true]
          rw [ih]
    rwa [e] at this
  · rw [aput_new h]
    have e : adrop l k = l := by
      unfold adrop
      apply List.filter_eq_self.mpr
      intro y hy
      have : y.1 ≠ k := fun z => h (z ▸ List.mem_map.mpr ⟨y, hy, rfl⟩)
      simp [this]
    rw [e]
    exact List.perm_append_singleton _ _
end

-- ## a state that is sound
structure Good (s : State) : Prop where
  msort : s.members.Pairwise fun a b => a.key < b.key
  csort : s.clients.Pairwise fun a b => sooner a b = true
  mkey : ∀ m ∈ s.members, 1 ≤ m.key ∧ m.key ≤ KEY ∧ m.room ≤ ROOM
  ckey : ∀ c ∈ s.clients, 1 ≤ c.key ∧ c.key ≤ KEY ∧ c.order ≤ ORDER
  cnd : (keysOf s.clients).Nodup
  ctak : ∀ c ∈ s.clients, c.takers.Nodup ∧ ∀ t ∈ c.takers, t ∈ s.members.map fun m => m.key
  mlen : s.members.length ≤ MEMBERS
  clen : s.clients.length ≤ CLIENTS

theorem Good.mnd {s : State} (G : Good s) : (s.members.map fun m => m.key).Nodup := by
  have : (s.members.map fun m => m.key).Pairwise (· < ·) := List.pairwise_map.mpr G.msort
  exact this.imp (fun h => Nat.ne_of_lt h)

theorem good_start : Good start := ⟨List.Pairwise.nil, List.Pairwise.nil, by simp [start], by simp [start], by simp [start, keysOf], by simp [start], by simp [start], by simp [start]⟩

theorem sooner_trans {a b c : Client} (h1 : sooner a b = true) (h2 : sooner b c = true) : sooner a c = true := by
  simp only [sooner, Bool.or_eq_true, Bool.and_eq_true, decide_eq_true_eq, beq_iff_eq] at *
  omega
theorem sooner_total {a b : Client} (h : a.key ≠ b.key) : sooner a b = true ∨ sooner b a = true := by
  simp only [sooner, Bool.or_eq_true, Bool.and_eq_true, decide_eq_true_eq, beq_iff_eq] at *
  omega
theorem sooner_irr (a : Client) : sooner a a = false := by
  simp [sooner]
theorem sooner_asym {a b : Client} (h : sooner a b = true) : sooner b a = false := by
  cases h2 : sooner b a with
  | false => rfl
  | true => have := sooner_trans h h2; rw [sooner_irr] at this; cases this

theorem putMember_perm (m : Member) : ∀ l : List Member, (putMember m l).Perm (m :: l)
  | [] => List.Perm.refl _
  | x :: l => by
    unfold putMember
    split
    · exact List.Perm.refl _
    · exact ((putMember_perm m l).cons x).trans (List.Perm.swap _ _ _)
theorem putClient_perm (c : Client) : ∀ l : List Client, (putClient c l).Perm (c :: l)
  | [] => List.Perm.refl _
  | x :: l => by
    unfold putClient
    split
    · exact List.Perm.refl _
    · exact ((putClient_perm c l).cons x).trans (List.Perm.swap _ _ _)
theorem putMember_sorted (m : Member) : ∀ l : List Member, l.Pairwise (fun a b => a.key < b.key) → (∀ x ∈ l, x.key ≠ m.key) → (putMember m l).Pairwise fun a b => a.key < b.key
  | [], _, _ => by simp [putMember]
  | x :: l, h, hne => by
    have h' := List.pairwise_cons.mp h
    unfold putMember
    split
    · rename_i h1
      refine List.pairwise_cons.mpr ⟨?_, h⟩
      intro y hy
      rcases List.mem_cons.mp hy with hy | hy
      · subst hy; exact h1
      · exact Nat.lt_trans h1 (h'.1 y hy)
    · rename_i h1
      refine List.pairwise_cons.mpr ⟨?_, putMember_sorted m l h'.2 (fun y hy => hne y (by simp [hy]))⟩
      intro y hy
      have hx := hne x (by simp)
      rcases List.mem_cons.mp ((putMember_perm m l).mem_iff.mp hy) with hy | hy
      · subst hy; omega
      · exact h'.1 y hy
theorem putClient_sorted (c : Client) : ∀ l : List Client, l.Pairwise (fun a b => sooner a b = true) → (∀ x ∈ l, x.key ≠ c.key) → (putClient c l).Pairwise fun a b => sooner a b = true
  | [], _, _ => by simp [putClient]
  | x :: l, h, hne => by
    have h' := List.pairwise_cons.mp h
    unfold putClient
    split
    · rename_i h1
      refine List.pairwise_cons.mpr ⟨?_, h⟩
      intro y hy
      rcases List.mem_cons.mp hy with hy | hy
      · subst hy; exact h1
      · exact sooner_trans h1 (h'.1 y hy)
    · rename_i h1
      refine List.pairwise_cons.mpr ⟨?_, putClient_sorted c l h'.2 (fun y hy => hne y (by simp [hy]))⟩
      intro y hy
      have hx := hne x (by simp)
      rcases List.mem_cons.mp ((putClient_perm c l).mem_iff.mp hy) with hy | hy
      · subst hy
        rcases sooner_total hx with z | z
        · exact z
        · exact absurd z h1
      · exact h'.1 y hy

theorem keyed_iff (z : Int) : keyed z = true ↔ 1 ≤ z.toNat ∧ z.toNat ≤ KEY ∧ (z.toNat : Int) = z := by
  have e : (KEY : Int) = 1000000000 := rfl
  have e2 : KEY = 1000000000 := rfl
  unfold keyed within
  rw [Bool.and_eq_true, decide_eq_true_eq, decide_eq_true_eq, e, e2]
  omega
theorem within0_iff (z : Int) (n : Nat) : within z 0 n = true ↔ z.toNat ≤ n ∧ (z.toNat : Int) = z := by
  simp only [within, Bool.and_eq_true, decide_eq_true_eq]
  omega

theorem memberAt_some {s : State} {k : Nat} {m : Member} (h : memberAt s k = some m) : m ∈ s.members ∧ m.key = k := by
  unfold memberAt at h
  exact ⟨List.mem_of_find?_eq_some h, by simpa using List.find?_some h⟩
theorem memberAt_none {s : State} {k : Nat} : memberAt s k = none ↔ ∀ m ∈ s.members, m.key ≠ k := by
  unfold memberAt
  rw [List.find?_eq_none]
  simp
theorem clientAt_some {s : State} {k : Nat} {c : Client} (h : clientAt s k = some c) : c ∈ s.clients ∧ c.key = k := by
  unfold clientAt at h
  exact ⟨List.mem_of_find?_eq_some h, by simpa using List.find?_some h⟩
theorem clientAt_none {s : State} {k : Nat} : clientAt s k = none ↔ ∀ c ∈ s.clients, c.key ≠ k := by
  unfold clientAt
  rw [List.find?_eq_none]
  simp
theorem memberAt_isSome {s : State} {k : Nat} : (memberAt s k).isSome = true ↔ k ∈ s.members.map fun m => m.key := by
  rw [← Option.ne_none_iff_isSome, ne_eq, memberAt_none]
  simp
theorem distinct_iff : ∀ l : List Nat, distinct l = true ↔ l.Nodup
  | [] => by simp [distinct]
  | x :: l => by
    simp only [distinct, Bool.and_eq_true, distinct_iff l, List.nodup_cons]
    simp

theorem Good.filterC {s : State} (G : Good s) (p : Client → Bool) : Good { s with clients := s.clients.filter p } :=
  ⟨G.msort, G.csort.sublist List.filter_sublist, G.mkey, fun c hc => G.ckey c (List.mem_filter.mp hc).1, G.cnd.sublist (List.filter_sublist.map _),
    fun c hc => G.ctak c (List.mem_filter.mp hc).1, G.mlen, Nat.le_trans (List.length_filter_le _ _) G.clen⟩

theorem Good.putC {s : State} (G : Good s) (c : Client) (hk : 1 ≤ c.key ∧ c.key ≤ KEY ∧ c.order ≤ ORDER) (hne : ∀ x ∈ s.clients, x.key ≠ c.key)
    (ht : c.takers.Nodup ∧ ∀ t ∈ c.takers, t ∈ s.members.map fun m => m.key) (hl : s.clients.length < CLIENTS) : Good { s with clients := putClient c s.clients } := by
  have P := putClient_perm c s.clients
  refine ⟨G.msort, putClient_sorted c _ G.csort hne, G.mkey, ?_, ?_, ?_, G.mlen, ?_⟩
  · intro x hx
    rcases List.mem_cons.mp (P.mem_iff.mp hx) with h | h
    · subst h; exact hk
    · exact G.ckey x h
  · have := P.map (fun c : Client => c.key)
    refine this.nodup_iff.mpr ?_
    simp only [List.map_cons, List.nodup_cons]
    refine ⟨?_, G.cnd⟩
    intro h
    obtain ⟨x, hx, e⟩ := List.mem_map.mp h
    exact hne x hx e
  · intro x hx
    rcases List.mem_cons.mp (P.mem_iff.mp hx) with h | h
    · subst h; exact ht
    · exact G.ctak x h
  · show (putClient c s.clients).length ≤ CLIENTS
    rw [P.length_eq]
    simp only [List.length_cons]; omega

theorem Good.mapM {s : State} (G : Good s) (f : Member → Member) (hk : ∀ m, (f m).key = m.key) (hr : ∀ m ∈ s.members, (f m).room ≤ ROOM) : Good { s with members := s.members.map f } := by
  have e : (s.members.map f).map (fun m => m.key) = s.members.map fun m => m.key := by
    rw [List.map_map]
    apply List.map_congr_left
    intro m _
    exact hk m
  refine ⟨?_, G.csort, ?_, G.ckey, G.cnd, ?_, ?_, G.clen⟩
  · apply List.pairwise_map.mpr
    refine G.msort.imp ?_
    intro a b h
    rw [hk, hk]; exact h
  · intro m hm
    obtain ⟨x, hx, rfl⟩ := List.mem_map.mp hm
    rw [hk]
    exact ⟨(G.mkey x hx).1, (G.mkey x hx).2.1, hr x hx⟩
  · intro c hc
    refine ⟨(G.ctak c hc).1, ?_⟩
    show ∀ t ∈ c.takers, t ∈ (s.members.map f).map fun m => m.key
    rw [e]; exact (G.ctak c hc).2
  · show (s.members.map f).length ≤ MEMBERS
    rw [List.length_map]; exact G.mlen

theorem Good.mapC {s : State} (G : Good s) (f : Client → Client) (hk : ∀ c, (f c).key = c.key) (ho : ∀ c, (f c).order = c.order)
    (ht : ∀ c ∈ s.clients, (f c).takers.Nodup ∧ ∀ t ∈ (f c).takers, t ∈ s.members.map fun m => m.key) : Good { s with clients := s.clients.map f } := by
  refine ⟨G.msort, ?_, G.mkey, ?_, ?_, ?_, G.mlen, ?_⟩
  · apply List.pairwise_map.mpr
    refine G.csort.imp ?_
    intro a b h
    simp only [sooner, hk, ho] at *; exact h
  · intro c hc
    obtain ⟨x, hx, rfl⟩ := List.mem_map.mp hc
    rw [hk, ho]; exact G.ckey x hx
  · show ((s.clients.map f).map fun c => c.key).Nodup
    rw [List.map_map]
    have : s.clients.map ((fun c : Client => c.key) ∘ f) = s.clients.map fun c => c.key := by
      apply List.map_congr_left
      intro c _
      exact hk c
    rw [this]; exact G.cnd
  · intro c hc
    obtain ⟨x, hx, rfl⟩ := List.mem_map.mp hc
    exact ht x hx
  · show (s.clients.map f).length ≤ CLIENTS
    rw [List.length_map]; exact G.clen

theorem nats_keyed {l : List Int} (h : l.all keyed = true) : ∀ t ∈ nats l, 1 ≤ t ∧ t ≤ KEY := by
  intro t ht
  obtain ⟨z, hz, rfl⟩ := List.mem_map.mp ht
  have := (keyed_iff z).mp (List.all_eq_true.mp h z hz)
  exact ⟨this.1, this.2.1⟩
theorem known_iff (s : State) (l : List Int) : known s l = true ↔ ∀ t ∈ nats l, t ∈ s.members.map fun m => m.key := by
  unfold known nats
  rw [List.all_eq_true]
  constructor
  · intro h t ht
    obtain ⟨z, hz, rfl⟩ := List.mem_map.mp ht
    exact memberAt_isSome.mp (h z hz)
  · intro h z hz
    exact memberAt_isSome.mpr (h _ (List.mem_map.mpr ⟨z, hz, rfl⟩))

/-- a step keeps a state sound -/
theorem step_good {s : State} (G : Good s) (c : Call) : Good (step s c).1 := by
  cases c with
  | member key room =>
    simp only [step]
    split
    · exact G
    · split
      · exact G
      · split
        · exact G
        · rename_i h1 h2 h3
          have h1' : keyed key = true ∧ within room 0 ROOM = true := by simpa using h1
          have hk := (keyed_iff key).mp h1'.1
          have hr := (within0_iff room ROOM).mp h1'.2
          have hne : ∀ m ∈ s.members, m.key ≠ key.toNat := by
            have : memberAt s key.toNat = none := by simpa using h2
            exact memberAt_none.mp this
          have P := putMember_perm ⟨key.toNat, room.toNat⟩ s.members
          refine ⟨putMember_sorted _ _ G.msort hne, G.csort, ?_, G.ckey, G.cnd, ?_, ?_, G.clen⟩
          · intro m hm
            rcases List.mem_cons.mp (P.mem_iff.mp hm) with h | h
            · subst h; exact ⟨hk.1, hk.2.1, hr.1⟩
            · exact G.mkey m h
          · intro d hd
            refine ⟨(G.ctak d hd).1, fun t ht => ?_⟩
            have := (G.ctak d hd).2 t ht
            exact (P.map fun m : Member => m.key).mem_iff.mpr (by simp only [List.map_cons, List.mem_cons]; exact .inr this)
          · show (putMember _ s.members).length ≤ MEMBERS
            rw [P.length_eq]
            simp only [List.length_cons]; omega
  | client key order takers =>
    simp only [step]
    split
    · exact G
    · split
      · exact G
      · split
        · exact G
        · split
          · exact G
          · split
            · exact G
            · rename_i h1 h2 h3 h4 h5
              have h1' : keyed key = true ∧ within order 0 ORDER = true ∧ listed takers = true := by simpa using h1
              have hk := (keyed_iff key).mp h1'.1
              have hr := (within0_iff order ORDER).mp h1'.2.1
              have hne : ∀ m ∈ s.clients, m.key ≠ key.toNat := by
                have : clientAt s key.toNat = none := by simpa using h3
                exact clientAt_none.mp this
              refine G.putC ⟨key.toNat, order.toNat, nats takers⟩ ⟨hk.1, hk.2.1, hr.1⟩ hne ⟨?_, ?_⟩ (by omega)
              · exact (distinct_iff _).mp (by simpa using h2)
              · exact (known_iff s takers).mp (by simpa using h4)
  | gone key =>
    simp only [step, onMember]
    split
    · exact G
    · split
      · exact G
      · rename_i m hm
        split
        · exact G
        · rename_i h2
          refine ⟨G.msort.sublist List.filter_sublist, G.csort, fun x hx => G.mkey x (List.mem_filter.mp hx).1, G.ckey, G.cnd, ?_,
            Nat.le_trans (List.length_filter_le _ _) G.mlen, G.clen⟩
          intro d hd
          refine ⟨(G.ctak d hd).1, fun t ht => ?_⟩
          obtain ⟨x, hx, e⟩ := List.mem_map.mp ((G.ctak d hd).2 t ht)
          refine List.mem_map.mpr ⟨x, List.mem_filter.mpr ⟨hx, ?_⟩, e⟩
          have : ¬ ∃ c ∈ s.clients, m.key ∈ c.takers := by simpa using h2
          have e' : x.key = t := e
          have ne : x.key ≠ m.key := fun z => this ⟨d, hd, by rw [← z, e']; exact ht⟩
          simpa using ne
  | drop key =>
    simp only [step, onClient]
    split
    · exact G
    · split
      · exact G
      · exact G.filterC _
  | room key room =>
    simp only [step, onMember]
    split
    · exact G
    · split
      · exact G
      · split
        · exact G
        · rename_i h1 _ _ m hm
          have hr := (within0_iff room ROOM).mp (by simpa using h1)
          refine G.mapM (fun x => if x.key = m.key then { x with room := room.toNat } else x) (fun x => by split <;> rfl) ?_
          intro x hx
          split
          · exact hr.1
          · exact (G.mkey x hx).2.2
  | order key order =>
    simp only [step, onClient]
    split
    · exact G
    · split
      · exact G
      · split
        · exact G
        · rename_i h1 _ _ c hc
          obtain ⟨c1, c2⟩ := clientAt_some hc
          have hr := (within0_iff order ORDER).mp (by simpa using h1)
          have hin : c ∈ s.clients := c1
          refine (G.filterC fun x => x.key != c.key).putC { c with order := order.toNat } ⟨(G.ckey c c1).1, (G.ckey c c1).2.1, hr.1⟩ ?_ (G.ctak c c1) ?_
          · intro x hx
            have := (List.mem_filter.mp hx).2
            simpa using this
          · show (s.clients.filter fun x => x.key != c.key).length < CLIENTS
            have : (s.clients.filter fun x => x.key != c.key).length < s.clients.length := by
              apply List.length_filter_lt_length_iff_exists.mpr
              exact ⟨c, hin, by simp⟩
            have := G.clen
            omega
  | takers key list =>
    simp only [step, onClient]
    split
    · exact G
    · split
      · exact G
      · split
        · exact G
        · split
          · exact G
          · split
            · exact G
            · rename_i h1 h2 h3 _ _ c hc
              refine G.mapC (fun x => if x.key = c.key then { x with takers := nats list } else x) (fun x => by split <;> rfl) (fun x => by split <;> rfl) ?_
              intro x hx
              split
              · exact ⟨(distinct_iff _).mp (by simpa using h2), (known_iff s list).mp (by simpa using h3)⟩
              · exact G.ctak x hx
  | move =>
    simp only [step]
    have G1 := G.filterC fun c => placeOf (told s.members s.clients) c.key == 0
    refine G1.mapM (fun m => { m with room := m.room - takenAt (told s.members s.clients) m.key }) (fun _ => rfl) ?_
    intro m hm
    have := (G.mkey m hm).2.2
    dsimp only
    omega
  | moved => exact G
  | left => exact G
  | where_ key =>
    simp only [step, onClient]
    split
    · exact G
    · split <;> exact G
  | why key =>
    simp only [step, onClient]
    split
    · exact G
    · split
      · exact G
      · split <;> exact G
  | check key list =>
    simp only [step, onClient, onList]
    repeat (first | exact G | split)
  | bound list =>
    simp only [step, onList]
    repeat (first | exact G | split)
  | cover => exact G
  | without key =>
    simp only [step, onClient]
    repeat (first | exact G | split)
  | roomier key =>
    simp only [step, onMember]
    repeat (first | exact G | split)
  | first key =>
    simp only [step, onClient]
    repeat (first | exact G | split)
  | may key member =>
    simp only [step, onClient]
    repeat (first | exact G | split)
  | isPlan places =>
    simp only [step]
    repeat (first | exact G | split)
  | members => exact G
  | clients => exact G

/-- the takers by keys -/
def tkOf (cs : List Client) : Nat → List Nat := fun k => match cs.find? fun c => c.key == k with
  | some c => c.takers
  | none => []
theorem tkOf_mem {cs : List Client} (hn : (keysOf cs).Nodup) : ∀ c ∈ cs, tkOf cs c.key = c.takers := by
  intro c hc
  unfold tkOf
  have : (cs.find? fun d => d.key == c.key) = some c := by
    induction cs with
    | nil => simp at hc
    | cons d cs ih =>
      have hn' := List.nodup_cons.mp hn
      rw [List.find?_cons]
      rcases List.mem_cons.mp hc with h | h
      · subst h; simp
      · have ne : d.key ≠ c.key := fun e => hn'.1 (List.mem_map.mpr ⟨c, h, e.symm⟩)
        have e : (d.key == c.key) = false := by simpa using ne
        rw [e]
        exact ih hn'.2 h
  rw [this]
theorem tkOf_in {s : State} (G : Good s) (k : Nat) : ∀ m ∈ tkOf s.clients k, m ∈ s.members.map fun m => m.key := by
  intro m hm
  unfold tkOf at hm
  split at hm
  · rename_i c hc
    exact (G.ctak c (List.mem_of_find?_eq_some hc)).2 m hm
  · simp at hm
theorem Good.env {s : State} (G : Good s) : Env s.members (tkOf s.clients) s.clients :=
  ⟨fun k h => by
    obtain ⟨m, hm, e⟩ := List.mem_map.mp (tkOf_in G k 0 h)
    have := (G.mkey m hm).1
    omega, tkOf_mem G.cnd, tkOf_in G, G.cnd⟩

end CM

end

section
set_option autoImplicit false
namespace CM
open Vbchaj
section
variable {β : Type}
/-- a state, as the program's tables have it -/
structure Abs (s : State) (R O : List (Nat × Nat)) (T : List (Nat × β × List Nat)) : Prop where
  mem : (s.members.map fun m => (m.key, m.room)).Perm R
  ord : (s.clients.map fun c => (c.key, c.order)).Perm O
  tak : (s.clients.map fun c => (c.key, c.takers)).Perm (T.map fun x => (x.1, x.2.2))

theorem aget_members {l : List Member} (k : Nat) : aget (l.map fun m => (m.key, m.room)) k = (l.find? fun m => m.key == k).map fun m => m.room := by
  induction l with
  | nil => rfl
  | cons m l ih =>
    rw [List.map_cons, aget_cons, ih, List.find?_cons]
    by_cases h : m.key = k
    · simp [h]
    · have e : (m.key == k) = false := by simpa using h
      rw [if_neg h, e]
theorem aget_clients {γ : Type} (f : Client → γ) {l : List Client} (k : Nat) : aget (l.map fun c => (c.key, f c)) k = (l.find? fun c => c.key == k).map f := by
  induction l with
  | nil => rfl
  | cons m l ih =>
    rw [List.map_cons, aget_cons, ih, List.find?_cons]
    by_cases h : m.key = k
    · simp [h]
    · have e : (m.key == k) = false := by simpa using h
      rw [if_neg h, e]
theorem aget_snd (T : List (Nat × β × List Nat)) (k : Nat) : aget (T.map fun x => (x.1, x.2.2)) k = (aget T k).map fun x => x.2 := by
  induction T with
  | nil => rfl
  | cons m l ih =>
    rw [List.map_cons, aget_cons, ih, aget_cons]
    by_cases h : m.1 = k <;> simp [h]
theorem keysA_snd (T : List (Nat × β × List Nat)) : keysA (T.map fun x => (x.1, x.2.2)) = keysA T := by
  simp [keysA, List.map_map, Function.comp]
theorem keysA_members (l : List Member) : keysA (l.map fun m => (m.key, m.room)) = l.map fun m => m.key := by
  simp [keysA, List.map_map, Function.comp]
theorem keysA_clients {γ : Type} (f : Client → γ) (l : List Client) : keysA (l.map fun c => (c.key, f c)) = keysOf l := by
  simp [keysA, keysOf, List.map_map, Function.comp]

variable {s : State} {R O : List (Nat × Nat)} {T : List (Nat × β × List Nat)}
theorem Abs.ndR (A : Abs s R O T) (G : Good s) : (keysA R).Nodup := by
  have := keysA_perm A.mem
  rw [keysA_members] at this
  exact this.nodup_iff.mp G.mnd
theorem Abs.ndO (A : Abs s R O T) (G : Good s) : (keysA O).Nodup := by
  have := keysA_perm A.ord
  rw [keysA_clients] at this
  exact this.nodup_iff.mp G.cnd
theorem Abs.permT (A : Abs s R O T) : (keysOf s.clients).Perm (keysA T) := by
  have := keysA_perm A.tak
  rwa [keysA_clients, keysA_snd] at this
theorem Abs.ndT (A : Abs s R O T) (G : Good s) : (keysA T).Nodup := A.permT.nodup_iff.mp G.cnd
theorem Abs.room (A : Abs s R O T) (G : Good s) (k : Nat) : aget R k = (memberAt s k).map fun m => m.room := by
  rw [← aget_perm A.mem (by rw [keysA_members]; exact G.mnd), aget_members]; rfl
theorem Abs.order (A : Abs s R O T) (G : Good s) (k : Nat) : aget O k = (clientAt s k).map fun c => c.order := by
  rw [← aget_perm A.ord (by rw [keysA_clients]; exact G.cnd), aget_clients]; rfl
theorem Abs.takers (A : Abs s R O T) (G : Good s) (k : Nat) : (aget T k).map (fun x => x.2) = (clientAt s k).map fun c => c.takers := by
  rw [← aget_snd, ← aget_perm A.tak (by rw [keysA_clients]; exact G.cnd), aget_clients]; rfl
theorem Abs.roomOf (A : Abs s R O T) (G : Good s) (k : Nat) : Vbchaj.roomOf s.members k = (aget R k).getD 0 := by
  rw [A.room G]
  unfold Vbchaj.roomOf memberAt
  cases s.members.find? fun m => m.key == k <;> rfl
theorem Abs.lenR (A : Abs s R O T) : R.length = s.members.length := by
  have := A.mem.length_eq
  simpa using this.symm
theorem Abs.lenO (A : Abs s R O T) : O.length = s.clients.length := by
  have := A.ord.length_eq
  simpa using this.symm
theorem Abs.lenT (A : Abs s R O T) : T.length = s.clients.length := by
  have := A.tak.length_eq
  simpa using this.symm
theorem Abs.tk (A : Abs s R O T) (G : Good s) (k : Nat) : tkOf s.clients k = ((aget T k).map fun x => x.2).getD [] := by
  rw [A.takers G]
  unfold tkOf clientAt
  cases s.clients.find? fun c => c.key == k <;> rfl

theorem Abs.putM (A : Abs s R O T) {k r : Nat} (h : k ∉ keysA R) : Abs { s with members := putMember ⟨k, r⟩ s.members } (aput R k r) O T := by
  refine ⟨?_, A.ord, A.tak⟩
  rw [aput_new h]
  have := (putMember_perm ⟨k, r⟩ s.members).map fun m : Member => (m.key, m.room)
  exact (this.trans (A.mem.cons (k, r))).trans (List.perm_append_singleton _ _).symm
theorem Abs.putC (A : Abs s R O T) {c : Client} {b : β} (h : c.key ∉ keysA O) (h2 : c.key ∉ keysA T) :
    Abs { s with clients := putClient c s.clients } R (aput O c.key c.order) (aput T c.key (b, c.takers)) := by
  refine ⟨A.mem, ?_, ?_⟩
  · rw [aput_new h]
    have := (putClient_perm c s.clients).map fun c : Client => (c.key, c.order)
    exact (this.trans (A.ord.cons (c.key, c.order))).trans (List.perm_append_singleton _ _).symm
  · rw [aput_new h2, List.map_append]
    have := (putClient_perm c s.clients).map fun c : Client => (c.key, c.takers)
    exact (this.trans (A.tak.cons (c.key, c.takers))).trans (List.perm_append_singleton _ _).symm
theorem Abs.dropM (A : Abs s R O T) (k : Nat) : Abs { s with members := s.members.filter fun x => x.key != k } (adrop R k) O T := by
  refine ⟨?_, A.ord, A.tak⟩
  have := A.mem.filter fun x => !(x.1 == k)
  rw [List.filter_map] at this
  exact this
theorem Abs.dropC (A : Abs s R O T) (k : Nat) : Abs { s with clients := s.clients.filter fun x => x.key != k } R (adrop O k) (adrop T k) := by
  refine ⟨A.mem, ?_, ?_⟩
  · have := A.ord.filter fun x => !(x.1 == k)
    rw [List.filter_map] at this
    exact this
  · have := A.tak.filter fun x => !(x.1 == k)
    rw [List.filter_map, List.filter_map] at this
    exact this
theorem map_put {γ : Type} (l : List (Nat × γ)) (k : Nat) (v : γ) (h : k ∈ keysA l) : aput l k v = l.map fun x => if x.1 = k then (x.1, v) else x := aput_old h v
theorem Abs.mapM (A : Abs s R O T) {k r : Nat} (h : k ∈ keysA R) : Abs { s with members := s.members.map fun x => if x.key = k then { x with room := r } else x } (aput R k r) O T := by
  refine ⟨?_, A.ord, A.tak⟩
  rw [aput_old h]
  have := A.mem.map fun x => if x.1 = k then (x.1, r) else x
  rw [List.map_map] at this
  refine List.Perm.trans ?_ this
  rw [List.map_map]
  refine List.Perm.of_eq (List.map_congr_left fun m _ => ?_)
  simp only [Function.comp]
  split <;> rfl
theorem Abs.mapC (A : Abs s R O T) {k : Nat} {l : List Nat} {b : β} (h : k ∈ keysA T) : Abs { s with clients := s.clients.map fun x => if x.key = k then { x with takers := l } else x } R O (aput T k (b, l)) := by
  refine ⟨A.mem, ?_, ?_⟩
  · refine List.Perm.trans ?_ A.ord
    rw [List.map_map]
    refine List.Perm.of_eq (List.map_congr_left fun m _ => ?_)
    simp only [Function.comp]
    split <;> rfl
  · rw [aput_old h]
    have := A.tak.map fun x => if x.1 = k then (x.1, l) else x
    rw [List.map_map, List.map_map] at this
    rw [List.map_map, List.map_map]
    refine List.Perm.trans (List.Perm.of_eq ?_) (this.trans (List.Perm.of_eq ?_))
    · refine List.map_congr_left fun m _ => ?_
      simp only [Function.comp]
      split <;> rfl
    · refine List.map_congr_left fun m _ => ?_
      simp only [Function.comp]
      split <;> rfl
theorem Abs.order' (A : Abs s R O T) (G : Good s) {c : Client} {o : Nat} (hc : clientAt s c.key = some c) :
    Abs { s with clients := putClient { c with order := o } (s.clients.filter fun x => x.key != c.key) } R (aput O c.key o) T := by
  obtain ⟨c1, c2⟩ := clientAt_some hc
  refine ⟨A.mem, ?_, ?_⟩
  · have p1 := (putClient_perm { c with order := o } (s.clients.filter fun x => x.key != c.key)).map fun c : Client => (c.key, c.order)
    refine p1.trans (List.Perm.trans ?_ (aput_perm O c.key o (A.ndO G)).symm)
    exact (A.dropC c.key).ord.cons _
  · have p1 := (putClient_perm { c with order := o } (s.clients.filter fun x => x.key != c.key)).map fun c : Client => (c.key, c.takers)
    have p2 : (s.clients.map fun c => (c.key, c.takers)).Perm ((c.key, c.takers) :: (s.clients.filter fun x => x.key != c.key).map fun c => (c.key, c.takers)) := by
      have hg : aget (s.clients.map fun c => (c.key, c.takers)) c.key = some c.takers := by
        rw [aget_clients]
        have : s.clients.find? (fun d => d.key == c.key) = some c := hc
        rw [this]; rfl
      have := perm_split _ c.key c.takers (by rw [keysA_clients]; exact G.cnd) hg
      unfold adrop at this
      rw [List.filter_map] at this
      exact this
    exact p1.trans (p2.symm.trans A.tak)
end
end CM

end

section
set_option autoImplicit false
namespace CM

-- ## a plan: free rooms F, places P, those settled S
def val (l : List (Nat × Nat)) (k : Nat) : Nat := (aget l k).getD 0
def act (P : List (Nat × Nat)) (S : List Nat) : List Nat := (keysA P).filter fun k => !S.contains k
def cap (F P : List (Nat × Nat)) (S : List Nat) (m : Nat) : Nat := val F m + cnt (val P) (act P S) m

theorem val_of {l : List (Nat × Nat)} {k v : Nat} (h : aget l k = some v) : val l k = v := by simp [val, h]
theorem aget_val {l : List (Nat × Nat)} {k : Nat} (h : k ∈ keysA l) : aget l k = some (val l k) := by
  obtain ⟨v, e⟩ := aget_key h
  rw [e, val_of e]
theorem mem_act {P : List (Nat × Nat)} {S : List Nat} {k : Nat} : k ∈ act P S ↔ k ∈ keysA P ∧ k ∉ S := by
  simp [act, List.mem_filter]
theorem act_nd {P : List (Nat × Nat)} {S : List Nat} (h : (keysA P).Nodup) : (act P S).Nodup := h.sublist List.filter_sublist

-- ## reaching
def offerP (k : Nat) (ts : List Nat) (C : List (Nat × Nat)) : List (Nat × Nat) :=
  ts.foldl (fun c t => if t ∈ keysA c then c else c ++ [(t, k)]) C
def reachP (P : List (Nat × Nat)) (S : List Nat) (tk : Nat → List Nat) (m : Nat) (C : List (Nat × Nat)) : List (Nat × Nat) :=
  P.foldl (fun c x => if x.2 = m ∧ x.1 ∉ S then offerP x.1 (tk x.1) c else c) C

theorem keysA_append {α : Type} (a b : List (Nat × α)) : keysA (a ++ b) = keysA a ++ keysA b := by simp [keysA]

theorem offerP_ok (k : Nat) : ∀ (ts : List Nat) (C : List (Nat × Nat)), (keysA C).Nodup →
    ∃ E, offerP k ts C = C ++ E ∧ (keysA (C ++ E)).Nodup ∧ (∀ x ∈ E, x.2 = k ∧ x.1 ∈ ts) ∧ ∀ t ∈ ts, t ∈ keysA (C ++ E)
  | [], C, h => ⟨[], by simp [offerP], by simpa using h, by simp, by simp⟩
  | t :: ts, C, h => by
    by_cases ht : t ∈ keysA C
    · obtain ⟨E, h1, h2, h3, h4⟩ := offerP_ok k ts C h
      refine ⟨E, ?_, h2, fun x hx => ⟨(h3 x hx).1, by simp [(h3 x hx).2]⟩, ?_⟩
      · show offerP k ts (if t ∈ keysA C then C else C ++ [(t, k)]) = C ++ E
        rw [if_pos ht, h1]
      · intro x hx
        rcases List.mem_cons.mp hx with hx | hx
        · subst hx
          rw [keysA_append]
          exact List.mem_append_left _ ht
        · exact h4 x hx
    · have hn : (keysA (C ++ [(t, k)])).Nodup := by
        rw [keysA_append]
        refine List.nodup_append.mpr ⟨h, by simp [keysA], ?_⟩
        intro a ha b hb e
        simp only [keysA, List.map_cons, List.map_nil, List.mem_singleton] at hb
        subst hb; subst e
        exact ht ha
      obtain ⟨E, h1, h2, h3, h4⟩ := offerP_ok k ts (C ++ [(t, k)]) hn
      refine ⟨(t, k) :: E, ?_, ?_, ?_, ?_⟩
      · show offerP k ts (if t ∈ keysA C then C else C ++ [(t, k)]) = C ++ (t, k) :: E
        rw [if_neg ht, h1]
        simp
      · simpa using h2
      · intro x hx
        rcases List.mem_cons.mp hx with hx | hx
        · subst hx; simp
        · exact ⟨(h3 x hx).1, by simp [(h3 x hx).2]⟩
      · intro x hx
        rcases List.mem_cons.mp hx with hx | hx
        · subst hx; simp [keysA]
        · have := h4 x hx
          simpa using this

theorem reachP_ok (S : List Nat) (tk : Nat → List Nat) (m : Nat) : ∀ (P C : List (Nat × Nat)), (keysA C).Nodup →
    ∃ E, reachP P S tk m C = C ++ E ∧ (keysA (C ++ E)).Nodup ∧ (∀ x ∈ E, (x.2, m) ∈ P ∧ x.2 ∉ S ∧ x.1 ∈ tk x.2) ∧
      ∀ k, (k, m) ∈ P → k ∉ S → ∀ t ∈ tk k, t ∈ keysA (C ++ E)
  | [], C, h => ⟨[], by simp [reachP], by simpa using h, by simp, by simp⟩
  | x :: P, C, h => by
    by_cases hx : x.2 = m ∧ x.1 ∉ S
    · obtain ⟨E1, a1, a2, a3, a4⟩ := offerP_ok x.1 (tk x.1) C h
      obtain ⟨E2, b1, b2, b3, b4⟩ := reachP_ok S tk m P (C ++ E1) a2
      refine ⟨E1 ++ E2, ?_, ?_, ?_, ?_⟩
      · show reachP P S tk m (if x.2 = m ∧ x.1 ∉ S then offerP x.1 (tk x.1) C else C) = _
        rw [if_pos hx, a1, b1, List.append_assoc]
      · rw [← List.append_assoc]; exact b2
      · intro y hy
        rcases List.mem_append.mp hy with hy | hy
        · obtain ⟨e1, e2⟩ := a3 y hy
          rw [e1]
          refine ⟨?_, hx.2, e2⟩
          have : (x.1, m) = x := by rw [← hx.1]
          rw [this]; simp
        · obtain ⟨e1, e2, e3⟩ := b3 y hy
          exact ⟨List.mem_cons_of_mem _ e1, e2, e3⟩
      · intro k hk hs t ht
        rw [← List.append_assoc]
        rcases List.mem_cons.mp hk with hk | hk
        · subst hk
          rw [keysA_append]
          exact List.mem_append_left _ (a4 t ht)
        · exact b4 k hk hs t ht
    · obtain ⟨E2, b1, b2, b3, b4⟩ := reachP_ok S tk m P C h
      refine ⟨E2, ?_, b2, ?_, ?_⟩
      · show reachP P S tk m (if x.2 = m ∧ x.1 ∉ S then offerP x.1 (tk x.1) C else C) = _
        rw [if_neg hx, b1]
      · intro y hy
        obtain ⟨e1, e2, e3⟩ := b3 y hy
        exact ⟨List.mem_cons_of_mem _ e1, e2, e3⟩
      · intro k hk hs t ht
        rcases List.mem_cons.mp hk with hk | hk
        · subst hk
          exact absurd ⟨rfl, hs⟩ hx
        · exact b4 k hk hs t ht

/-- what is known of the comers C while the first n of them are gone through -/
structure BI (P : List (Nat × Nat)) (S : List Nat) (tk : Nat → List Nat) (c : Nat) (W : List Nat) (C : List (Nat × Nat)) (n : Nat) : Prop where
  nd : (keysA C).Nodup
  src : ∀ (i m k : Nat), C[i]? = some (m, k) → (k = c ∧ m ∈ W) ∨ (k ∈ act P S ∧ m ∈ tk k ∧ ∃ j, j < i ∧ (keysA C)[j]? = some (val P k))
  want : ∀ m ∈ W, m ∈ keysA C
  closed : ∀ j, j < n → ∀ k ∈ act P S, (keysA C)[j]? = some (val P k) → ∀ m ∈ tk k, m ∈ keysA C
  le : n ≤ C.length

theorem keysA_get {α : Type} (C : List (Nat × α)) (i : Nat) : (keysA C)[i]? = (C[i]?).map fun x => x.1 := by
  unfold keysA; rw [List.getElem?_map]

theorem BI.start {P : List (Nat × Nat)} {S : List Nat} {tk : Nat → List Nat} {c : Nat} {W : List Nat} (hW : W.Nodup) : BI P S tk c W (W.map fun m => (m, c)) 0 := by
  have e : keysA (W.map fun m => (m, c)) = W := by
    unfold keysA
    rw [List.map_map]
    exact List.map_id _
  refine ⟨by rw [e]; exact hW, ?_, by rw [e]; simp, by intro j hj; omega, Nat.zero_le _⟩
  intro i m k h
  rw [List.getElem?_map, Option.map_eq_some_iff] at h
  obtain ⟨x, hx, e2⟩ := h
  have e3 : x = m := congrArg Prod.fst e2
  have e4 : c = k := congrArg Prod.snd e2
  left
  exact ⟨e4.symm, e3 ▸ List.mem_of_getElem? hx⟩

theorem val_mem {P : List (Nat × Nat)} (hn : (keysA P).Nodup) {k m : Nat} (h : (k, m) ∈ P) : k ∈ keysA P ∧ val P k = m :=
  ⟨List.mem_map.mpr ⟨(k, m), h, rfl⟩, val_of (aget_of_mem P k m hn h)⟩
theorem mem_val {P : List (Nat × Nat)} {k : Nat} (h : k ∈ keysA P) : (k, val P k) ∈ P := aget_some_mem P k _ (aget_val h)

theorem BI.step {P : List (Nat × Nat)} {S : List Nat} {tk : Nat → List Nat} {c : Nat} {W : List Nat} {C : List (Nat × Nat)} {n m : Nat}
    (hP : (keysA P).Nodup) (h : BI P S tk c W C n) (hm : (keysA C)[n]? = some m) : BI P S tk c W (reachP P S tk m C) (n + 1) := by
  obtain ⟨E, e1, e2, e3, e4⟩ := reachP_ok S tk m P C h.nd
  rw [e1]
  have hn : n < C.length := by
    have := (List.getElem?_eq_some_iff.mp hm).1
    simpa [keysA] using this
  have lenK : (keysA C).length = C.length := by simp [keysA]
  refine ⟨e2, ?_, ?_, ?_, ?_⟩
  · intro i y k hi
    by_cases hl : i < C.length
    · rw [List.getElem?_append_left hl] at hi
      rcases h.src i y k hi with h1 | ⟨h1, h2, j, h3, h4⟩
      · exact .inl h1
      · right
        refine ⟨h1, h2, j, h3, ?_⟩
        rw [keysA_append, List.getElem?_append_left (by omega)]
        exact h4
    · rw [List.getElem?_append_right (by omega)] at hi
      obtain ⟨h1, h2, h3⟩ := e3 _ (List.mem_of_getElem? hi)
      obtain ⟨h5, h6⟩ := val_mem hP h1
      right
      refine ⟨mem_act.mpr ⟨h5, h2⟩, h3, n, by omega, ?_⟩
      rw [keysA_append, List.getElem?_append_left (by omega), hm, h6]
  · intro x hx
    rw [keysA_append]
    exact List.mem_append_left _ (h.want x hx)
  · intro j hj k hk hv t ht
    rw [keysA_append, List.getElem?_append_left (by omega)] at hv
    by_cases hjn : j < n
    · rw [keysA_append]
      exact List.mem_append_left _ (h.closed j hjn k hk hv t ht)
    · have : j = n := by omega
      subst this
      rw [hm] at hv
      have hv' := Option.some.inj hv
      obtain ⟨k1, k2⟩ := mem_act.mp hk
      refine e4 k ?_ k2 t ht
      rw [hv']
      exact mem_val k1
  · rw [List.length_append]; omega

theorem BI.sub {P : List (Nat × Nat)} {S : List Nat} {tk : Nat → List Nat} {c : Nat} {W : List Nat} {C : List (Nat × Nat)} {n : Nat} (h : BI P S tk c W C n)
    {M : List Nat} (hW : ∀ m ∈ W, m ∈ M) (hT : ∀ k ∈ act P S, ∀ m ∈ tk k, m ∈ M) : ∀ m ∈ keysA C, m ∈ M := by
  intro m hm
  obtain ⟨x, hx, rfl⟩ := List.mem_map.mp hm
  obtain ⟨i, hi⟩ := List.mem_iff_getElem?.mp hx
  rcases h.src i x.1 x.2 hi with h1 | ⟨h1, h2, _⟩
  · exact hW _ h1.2
  · exact hT _ h1 _ h2

/-- no free room was found: the client can't be placed besides -/
theorem BI.fail {F P : List (Nat × Nat)} {S : List Nat} {tk : Nat → List Nat} {c : Nat} {W : List Nat} {C : List (Nat × Nat)} (hP : (keysA P).Nodup)
    (hin : ∀ k ∈ act P S, val P k ∈ tk k) (hc : c ∉ keysA P) (h : BI P S tk c W C C.length) (hf : ∀ m ∈ keysA C, val F m = 0) :
    ¬ Can (cap F P S) (updT tk c W) (c :: act P S) := by
  have hca : c ∉ act P S := fun z => hc (mem_act.mp z).1
  have ne : ∀ k ∈ act P S, k ≠ c := fun k hk e => hca (e ▸ hk)
  have fit : Fits (cap F P S) (updT tk c W) (act P S) (val P) := by
    refine ⟨fun k hk => ?_, fun m => ?_⟩
    · unfold updT
      rw [if_neg (ne k hk)]
      exact hin k hk
    · unfold cap; omega
  apply hall (R := keysA C) h.nd
  · apply kept_full fit h.nd
    · intro k hk hv m hm
      unfold updT at hm
      rw [if_neg (ne k hk)] at hm
      obtain ⟨j, hj⟩ := List.mem_iff_getElem?.mp hv
      have hjl : j < C.length := by
        have := (List.getElem?_eq_some_iff.mp hj).1
        simpa [keysA] using this
      exact h.closed j hjl k hk hj m hm
    · intro m hm
      unfold cap
      rw [hf m hm]
      omega
  · intro m hm
    unfold updT at hm
    rw [if_pos rfl] at hm
    exact h.want m hm

-- ## shifting
/-- places Q behind some shifts: m, the i-th reached, still waits for its comer -/
structure SH (P : List (Nat × Nat)) (S : List Nat) (tk : Nat → List Nat) (C : List (Nat × Nat)) (last : Nat) (Q : List (Nat × Nat)) (i m : Nat) : Prop where
  keys : keysA Q = keysA P
  set : ∀ k ∈ S, aget Q k = aget P k
  into : ∀ k ∈ act P S, val Q k ∈ tk k
  num : ∀ x, CM.cnt (val Q) (act P S) x + (if m = x then 1 else 0) = CM.cnt (val P) (act P S) x + (if last = x then 1 else 0)
  same : ∀ k ∈ act P S, ∀ j, j < i → (keysA C)[j]? = some (val P k) → val Q k = val P k
  at_ : (keysA C)[i]? = some m

theorem SH.start {P : List (Nat × Nat)} {S : List Nat} {tk : Nat → List Nat} {C : List (Nat × Nat)} {last i : Nat} (hin : ∀ k ∈ act P S, val P k ∈ tk k)
    (h : (keysA C)[i]? = some last) : SH P S tk C last P i last :=
  ⟨rfl, fun _ _ => rfl, hin, fun _ => rfl, fun _ _ _ _ _ => rfl, h⟩

theorem cnt_split (f : Nat → Nat) : ∀ (l : List Nat) (k x : Nat), l.Nodup → k ∈ l → cnt f l x = cnt f (l.filter fun y => !(y == k)) x + (if f k = x then 1 else 0)
  | [], k, x, _, h => by simp at h
  | y :: l, k, x, hn, h => by
    have hn' := List.nodup_cons.mp hn
    rw [cnt_cons, List.filter_cons]
    by_cases e : y = k
    · subst e
      have e2 : l.filter (fun z => !(z == y)) = l := by
        apply List.filter_eq_self.mpr
        intro z hz
        have : z ≠ y := fun w => hn'.1 (w ▸ hz)
        simp [this]
      simp [e2]
    · have hk : k ∈ l := by
        rcases List.mem_cons.mp h with h | h
        · exact absurd h.symm e
        · exact h
      have e1 : (!(y == k)) = true := by simp [e]
      rw [e1, if_pos rfl, cnt_cons, cnt_split f l k x hn'.2 hk]
      omega

theorem cnt_put (P : List (Nat × Nat)) (l : List Nat) (k v x : Nat) (hn : l.Nodup) (hk : k ∈ l) :
    cnt (val (aput P k v)) l x + (if val P k = x then 1 else 0) = cnt (val P) l x + (if v = x then 1 else 0) := by
  rw [cnt_split (val (aput P k v)) l k x hn hk, cnt_split (val P) l k x hn hk]
  have e : cnt (val (aput P k v)) (l.filter fun y => !(y == k)) x = cnt (val P) (l.filter fun y => !(y == k)) x := by
    apply cnt_congr
    intro y hy
    have : y ≠ k := by simpa using (List.mem_filter.mp hy).2
    unfold val
    rw [aget_aput, if_neg this]
  have e2 : val (aput P k v) k = v := by
    unfold val
    rw [aget_aput, if_pos rfl]
    rfl
  rw [e, e2]
  omega

theorem SH.step {P : List (Nat × Nat)} {S : List Nat} {tk : Nat → List Nat} {C : List (Nat × Nat)} {last i m k j : Nat} {Q : List (Nat × Nat)} (hP : (keysA P).Nodup)
    (hC : (keysA C).Nodup) (h : SH P S tk C last Q i m) (hk : k ∈ act P S) (hm : m ∈ tk k) (hj : j < i) (hv : (keysA C)[j]? = some (val P k)) :
    val Q k = val P k ∧ SH P S tk C last (aput Q k m) j (val P k) := by
  have e := h.same k hk j hj hv
  obtain ⟨k1, k2⟩ := mem_act.mp hk
  have kQ : k ∈ keysA Q := by rw [h.keys]; exact k1
  refine ⟨e, ?_, ?_, ?_, ?_, ?_, hv⟩
  · rw [keysA_aput_old kQ]; exact h.keys
  · intro y hy
    have : y ≠ k := fun z => k2 (z ▸ hy)
    rw [aget_aput, if_neg this]
    exact h.set y hy
  · intro y hy
    by_cases z : y = k
    · subst z
      unfold val
      rw [aget_aput, if_pos rfl]
      exact hm
    · have := h.into y hy
      unfold val at this ⊢
      rw [aget_aput, if_neg z]
      exact this
  · intro x
    have a := cnt_put Q (act P S) k m x (act_nd hP) hk
    have b := h.num x
    rw [e] at a
    omega
  · intro y hy j2 hj2 hv2
    have z : y ≠ k := by
      intro z
      subst z
      rw [← hv] at hv2
      have l1 := (List.getElem?_eq_some_iff.mp hv).1
      have l2 : j2 < (keysA C).length := by omega
      rw [List.getElem?_eq_getElem l2, List.getElem?_eq_getElem l1] at hv2
      have := (List.getElem_inj hC).mp (Option.some.inj hv2)
      omega
    have := h.same y hy j2 (by omega) hv2
    unfold val at this ⊢
    rw [aget_aput, if_neg z]
    exact this

/-- the client gets m at last -/
structure Gave (F P : List (Nat × Nat)) (S : List Nat) (tk : Nat → List Nat) (c : Nat) (W : List Nat) (F' P' : List (Nat × Nat)) : Prop where
  keys : keysA P' = keysA P ++ [c]
  set : ∀ k ∈ S, aget P' k = aget P k
  into : ∀ k ∈ act P S, val P' k ∈ tk k
  mine : val P' c ∈ W
  keysF : keysA F' = keysA F
  caps : ∀ x, CM.cap F' P' S x = CM.cap F P S x

theorem act_snoc {P P' : List (Nat × Nat)} {S : List Nat} {c : Nat} (h : keysA P' = keysA P ++ [c]) (hc : c ∉ S) : act P' S = act P S ++ [c] := by
  unfold act
  rw [h, List.filter_append]
  simp [hc]

theorem SH.done {F P : List (Nat × Nat)} {S : List Nat} {tk : Nat → List Nat} {C : List (Nat × Nat)} {last i m c : Nat} {Q : List (Nat × Nat)} {W : List Nat}
    (hc : c ∉ keysA P) (hS : c ∉ S) (h : SH P S tk C last Q i m) (hW : m ∈ W) (hF : last ∈ keysA F) (hl : 0 < val F last) :
    Gave F P S tk c W (aput F last (val F last - 1)) (aput Q c m) := by
  have cQ : c ∉ keysA Q := by rw [h.keys]; exact hc
  have ek : keysA (aput Q c m) = keysA P ++ [c] := by rw [keysA_aput_new cQ, h.keys]
  refine ⟨ek, ?_, ?_, ?_, keysA_aput_old hF _, ?_⟩
  · intro k hk
    have : k ≠ c := fun z => hS (z ▸ hk)
    rw [aget_aput, if_neg this]
    exact h.set k hk
  · intro k hk
    have : k ≠ c := fun z => hc (z ▸ (mem_act.mp hk).1)
    have a := h.into k hk
    unfold val at a ⊢
    rw [aget_aput, if_neg this]
    exact a
  · unfold val
    rw [aget_aput, if_pos rfl]
    exact hW
  · intro x
    unfold CM.cap
    rw [act_snoc ek hS, cnt_append]
    have e1 : cnt (val (aput Q c m)) (act P S) x = CM.cnt (val Q) (act P S) x := by
      apply cnt_congr
      intro k hk
      have : k ≠ c := fun z => hc (z ▸ (mem_act.mp hk).1)
      unfold val
      rw [aget_aput, if_neg this]
    have e2 : CM.cnt (val (aput Q c m)) [c] x = if m = x then 1 else 0 := by
      have : val (aput Q c m) c = m := by
        unfold val
        rw [aget_aput, if_pos rfl]; rfl
      rw [cnt_cons, this]
      simp [CM.cnt]
    have e3 : val (aput F last (val F last - 1)) x = if x = last then val F last - 1 else val F x := by
      unfold val
      rw [aget_aput]
      split <;> rfl
    rw [e1, e2, e3]
    have b := h.num x
    by_cases z : x = last
    · subst z
      rw [if_pos rfl] at b ⊢
      omega
    · have z2 : ¬ last = x := fun w => z w.symm
      rw [if_neg z2] at b
      rw [if_neg z]
      omega

theorem Gave.can {F P : List (Nat × Nat)} {S : List Nat} {tk : Nat → List Nat} {c : Nat} {W : List Nat} {F' P' : List (Nat × Nat)} (h : Gave F P S tk c W F' P')
    (hc : c ∉ keysA P) (hS : c ∉ S) : Can (cap F P S) (updT tk c W) (c :: act P S) := by
  refine ⟨val P', ?_, ?_⟩
  · intro k hk
    unfold updT
    by_cases z : k = c
    · rw [if_pos z, z]; exact h.mine
    · rw [if_neg z]
      rcases List.mem_cons.mp hk with hk | hk
      · exact absurd hk z
      · exact h.into k hk
  · intro m
    have a := h.caps m
    unfold CM.cap at a
    rw [act_snoc h.keys hS] at a
    have e : cnt (val P') (c :: act P S) m = cnt (val P') (act P S ++ [c]) m := cnt_perm (List.perm_append_singleton c _).symm m
    rw [e]
    unfold CM.cap
    omega

end CM

end

section
set_option autoImplicit false
namespace CM

/-- a plan that is sound -/
structure PlanOk (tk : Nat → List Nat) (F P : List (Nat × Nat)) (S : List Nat) : Prop where
  ndP : (keysA P).Nodup
  sub : ∀ k ∈ S, k ∈ keysA P
  into : ∀ k ∈ act P S, val P k ∈ tk k
  inF : ∀ k, ∀ m ∈ tk k, m ∈ keysA F

theorem Gave.ok {F P : List (Nat × Nat)} {S : List Nat} {tk : Nat → List Nat} {c : Nat} {W : List Nat} {F' P' : List (Nat × Nat)} (h : Gave F P S tk c W F' P')
    (ok : PlanOk tk F P S) (hc : c ∉ keysA P) (hS : c ∉ S) (hW : ∀ m ∈ W, m ∈ tk c) : PlanOk tk F' P' S := by
  refine ⟨?_, ?_, ?_, ?_⟩
  · rw [h.keys]
    refine List.nodup_append.mpr ⟨ok.ndP, by simp, ?_⟩
    intro a ha b hb e
    rw [List.mem_singleton.mp hb] at e
    exact hc (e ▸ ha)
  · intro k hk
    rw [h.keys]
    exact List.mem_append_left _ (ok.sub k hk)
  · intro k hk
    rw [act_snoc h.keys hS] at hk
    rcases List.mem_append.mp hk with hk | hk
    · exact h.into k hk
    · rw [List.mem_singleton.mp hk]
      exact hW _ h.mine
  · intro k m hm
    rw [h.keysF]
    exact ok.inF k m hm

/-- give_place's word -/
structure Word (F P : List (Nat × Nat)) (S : List Nat) (tk : Nat → List Nat) (c : Nat) (W : List Nat) (b : Bool) (F' P' : List (Nat × Nat)) : Prop where
  yes : b = true → Gave F P S tk c W F' P'
  no : b = false → F' = F ∧ P' = P ∧ ¬ Can (cap F P S) (updT tk c W) (c :: act P S)

theorem updT_self (tk : Nat → List Nat) (c : Nat) : updT tk c (tk c) = tk := by
  funext x
  unfold updT
  split
  · rename_i h; rw [h]
  · rfl

theorem act_nil (P : List (Nat × Nat)) : act P [] = keysA P := by simp [act]

-- ## who is moved: one client after another
structure MovI (room : Nat → Nat) (tk : Nat → List Nat) (F P : List (Nat × Nat)) (a : List Nat) : Prop where
  ok : PlanOk tk F P []
  keys : keysA P = movedK room tk a
  caps : ∀ x, cap F P [] x = room x

theorem MovI.start {room : Nat → Nat} {tk : Nat → List Nat} {F : List (Nat × Nat)} (hF : ∀ k, ∀ m ∈ tk k, m ∈ keysA F) (hr : ∀ x, val F x = room x) : MovI room tk F [] [] := by
  refine ⟨⟨by simp [keysA], by simp, ?_, hF⟩, by simp [keysA, movedK, greedy], ?_⟩
  · intro k hk; simp [act, keysA] at hk
  · intro x
    unfold cap
    rw [hr]
    simp [act, keysA, cnt]

theorem cap_fun {F P : List (Nat × Nat)} {S : List Nat} {room : Nat → Nat} (h : ∀ x, cap F P S x = room x) : cap F P S = room := funext h

theorem MovI.step {room : Nat → Nat} {tk : Nat → List Nat} {F P : List (Nat × Nat)} {a : List Nat} {c : Nat} {b : Bool} {F' P' : List (Nat × Nat)}
    (h : MovI room tk F P a) (hc : c ∉ a) (w : Word F P [] tk c (tk c) b F' P') :
    MovI room tk F' P' (a ++ [c]) ∧ movedK room tk (a ++ [c]) = if b = true then movedK room tk a ++ [c] else movedK room tk a := by
  have hcP : c ∉ keysA P := by
    rw [h.keys]
    intro z
    exact hc ((moved_sub room tk a).subset z)
  have e : movedK room tk (a ++ [c]) = greedy room tk (movedK room tk a) [c] := by
    unfold movedK
    rw [greedy_append]
  have ca : cap F P [] = room := cap_fun h.caps
  cases b with
  | true =>
    have g := w.yes rfl
    have can := g.can hcP (by simp)
    rw [ca, updT_self, act_nil, h.keys] at can
    have e2 : movedK room tk (a ++ [c]) = movedK room tk a ++ [c] := by
      rw [e]
      simp only [greedy, if_pos can]
    refine ⟨⟨g.ok h.ok hcP (by simp) (fun m hm => hm), ?_, fun x => (g.caps x).trans (h.caps x)⟩, by rw [e2]; simp⟩
    rw [e2, g.keys, h.keys]
  | false =>
    obtain ⟨e1, e2, e3⟩ := w.no rfl
    subst e1; subst e2
    rw [ca, updT_self, act_nil, h.keys] at e3
    have e4 : movedK room tk (a ++ [c]) = movedK room tk a := by
      rw [e]
      simp only [greedy, if_neg e3]
    exact ⟨⟨h.ok, by rw [e4]; exact h.keys, h.caps⟩, by rw [e4]; simp⟩

-- ## where they go
theorem act_drop (P : List (Nat × Nat)) (S : List Nat) (c : Nat) : act (adrop P c) S = (act P S).filter fun y => !(y == c) := by
  unfold act
  rw [keysA_adrop, List.filter_filter, List.filter_filter]
  apply List.filter_congr
  intro x _
  rw [Bool.and_comm]

/-- behind the pop, with its room free again -/
theorem freed {tk : Nat → List Nat} {F P : List (Nat × Nat)} {S : List Nat} {c : Nat} (ok : PlanOk tk F P S) (hc : c ∈ act P S) :
    val P c ∈ keysA F ∧ PlanOk tk (aput F (val P c) (val F (val P c) + 1)) (adrop P c) S ∧ c ∉ keysA (adrop P c) ∧ c ∉ S ∧
    (∀ x, cap (aput F (val P c) (val F (val P c) + 1)) (adrop P c) S x = cap F P S x) ∧ (∀ k ∈ S, aget (adrop P c) k = aget P k) ∧
    keysA (aput F (val P c) (val F (val P c) + 1)) = keysA F := by
  obtain ⟨c1, c2⟩ := mem_act.mp hc
  have bF := ok.inF c _ (ok.into c hc)
  have kF : keysA (aput F (val P c) (val F (val P c) + 1)) = keysA F := keysA_aput_old bF _
  have keep : ∀ k ∈ S, aget (adrop P c) k = aget P k := by
    intro k hk
    have : k ≠ c := fun z => c2 (z ▸ hk)
    rw [aget_adrop, if_neg this]
  refine ⟨bF, ⟨nd_adrop ok.ndP c, ?_, ?_, ?_⟩, ?_, c2, ?_, keep, kF⟩
  · intro k hk
    rw [← aget_isSome, keep k hk, aget_isSome]
    exact ok.sub k hk
  · intro k hk
    rw [act_drop] at hk
    obtain ⟨h1, h2⟩ := List.mem_filter.mp hk
    have : k ≠ c := by simpa using h2
    have := ok.into k h1
    unfold val at this ⊢
    rw [aget_adrop, if_neg ‹k ≠ c›]
    exact this
  · intro k m hm
    rw [kF]
    exact ok.inF k m hm
  · rw [keysA_adrop]
    simp
  · intro x
    unfold cap
    rw [act_drop]
    have e1 := cnt_split (val P) (act P S) c x (act_nd ok.ndP) hc
    have e2 : cnt (val (adrop P c)) ((act P S).filter fun y => !(y == c)) x = cnt (val P) ((act P S).filter fun y => !(y == c)) x := by
      apply cnt_congr
      intro y hy
      have : y ≠ c := by simpa using (List.mem_filter.mp hy).2
      unfold val
      rw [aget_adrop, if_neg this]
    have e3 : val (aput F (val P c) (val F (val P c) + 1)) x = if x = val P c then val F (val P c) + 1 else val F x := by
      have : ∀ v, val (aput F (val P c) v) x = if x = val P c then v else val F x := by
        intro v
        unfold val
        rw [aget_aput]
        split <;> rfl
      exact this _
    rw [e2, e3]
    by_cases z : x = val P c
    · rw [if_pos z]
      rw [if_pos z.symm] at e1
      rw [← z]
      omega
    · rw [if_neg z]
      rw [if_neg (fun w => z w.symm)] at e1
      omega

/-- settling: S the clients settled, l those behind in their order -/
structure SetI (room : Nat → Nat) (tk : Nat → List Nat) (F P : List (Nat × Nat)) (S l : List Nat) : Prop where
  ok : PlanOk tk F P S
  perm : (act P S).Perm l
  told : ∀ M, M = S ++ l → best tk room M = S.map (fun k => (k, val P k)) ++ best tk (cap F P S) l

theorem SetI.start {room : Nat → Nat} {tk : Nat → List Nat} {F P : List (Nat × Nat)} {a : List Nat} (h : MovI room tk F P a) : SetI room tk F P [] (movedK room tk a) := by
  refine ⟨h.ok, ?_, ?_⟩
  · rw [act_nil, h.keys]
  · intro M e
    rw [e, cap_fun h.caps]
    simp

/-- what a try of one taker tells -/
theorem try_iff {tk : Nat → List Nat} {F P : List (Nat × Nat)} {S : List Nat} {c t : Nat} (hc : c ∉ act P S) :
    Can (cap F P S) (updT tk c [t]) (c :: act P S) ↔ (decide (0 < cap F P S t) && canB (dec (cap F P S) t) tk (act P S)) = true := by
  rw [can_fix _ _ _ _ _ hc, Bool.and_eq_true, decide_eq_true_eq, canB_iff]

theorem canB_perm {room : Nat → Nat} {tk : Nat → List Nat} {a b : List Nat} (h : a.Perm b) : canB room tk a = canB room tk b := by
  rw [Bool.eq_iff_iff, canB_iff, canB_iff]
  exact Can.perm_iff h

theorem find_hit {p : Nat → Bool} : ∀ (a b : List Nat) (t : Nat), (∀ x ∈ a, p x = false) → p t = true → (a ++ t :: b).find? p = some t
  | [], b, t, _, h => by simp [h]
  | x :: a, b, t, h1, h2 => by
    rw [List.cons_append, List.find?_cons, h1 x (by simp)]
    exact find_hit a b t (fun y hy => h1 y (by simp [hy])) h2

/-- some taker is found -/
theorem SetI.found {room : Nat → Nat} {tk : Nat → List Nat} {F P : List (Nat × Nat)} {S l : List Nat} {c : Nat} (h : SetI room tk F P S (c :: l)) :
    (decide (0 < cap F P S (val P c)) && canB (dec (cap F P S) (val P c)) tk l) = true := by
  have hc : c ∈ act P S := h.perm.mem_iff.mpr (by simp)
  have nd : (act P S).Nodup := act_nd h.ok.ndP
  have hn : c ∉ l := (List.nodup_cons.mp (h.perm.nodup_iff.mp nd)).1
  have fit : Fits (cap F P S) (updT tk c [val P c]) (c :: l) (val P) := by
    have f1 : Fits (cap F P S) tk (act P S) (val P) := ⟨h.ok.into, fun m => by unfold cap; omega⟩
    have f2 := f1.perm h.perm.symm
    refine ⟨?_, f2.le⟩
    intro k hk
    unfold updT
    by_cases z : k = c
    · rw [if_pos z, z]; simp
    · rw [if_neg z]; exact f2.into k hk
  have := (can_fix (cap F P S) tk c (val P c) l hn).mp ⟨_, fit⟩
  rw [Bool.and_eq_true, decide_eq_true_eq, canB_iff]
  exact this

/-- one more settled -/
theorem SetI.step {room : Nat → Nat} {tk : Nat → List Nat} {F P : List (Nat × Nat)} {S l : List Nat} {c t : Nat} {pre post : List Nat} {F2 P2 : List (Nat × Nat)}
    (h : SetI room tk F P S (c :: l)) (htk : tk c = pre ++ t :: post)
    (hno : ∀ x ∈ pre, ¬ Can (cap F P S) (updT tk c [x]) (c :: act (adrop P c) S))
    (g : Gave (aput F (val P c) (val F (val P c) + 1)) (adrop P c) S tk c [t] F2 P2) : SetI room tk F2 P2 (S ++ [c]) l := by
  have hc : c ∈ act P S := h.perm.mem_iff.mpr (by simp)
  have nd : (act P S).Nodup := act_nd h.ok.ndP
  have hn : c ∉ l := (List.nodup_cons.mp (h.perm.nodup_iff.mp nd)).1
  obtain ⟨f1, f2, f3, f4, f5, f6, f7⟩ := freed h.ok hc
  generalize hF1 : aput F (val P c) (val F (val P c) + 1) = F1 at g f2 f5 f7
  have ca : cap F1 (adrop P c) S = cap F P S := funext f5
  have pa : (act (adrop P c) S).Perm l := by
    rw [act_drop]
    have := h.perm.filter fun y => !(y == c)
    rw [List.filter_cons] at this
    have e1 : (!(c == c)) = false := by simp
    rw [e1] at this
    simp only [Bool.false_eq_true, if_false] at this
    have e2 : l.filter (fun y => !(y == c)) = l := by
      apply List.filter_eq_self.mpr
      intro y hy
      have : y ≠ c := fun z => hn (z ▸ hy)
      simp [this]
    rwa [e2] at this
  have hca : c ∉ act (adrop P c) S := fun z => f3 (mem_act.mp z).1
  have ht : t ∈ tk c := by rw [htk]; simp
  have vt : val P2 c = t := by simpa using g.mine
  have aS : act P2 (S ++ [c]) = act (adrop P c) S := by
    have a1 := act_snoc g.keys f4
    unfold act at a1 ⊢
    rw [g.keys, List.filter_append]
    have e1 : (keysA (adrop P c)).filter (fun k => !(S ++ [c]).contains k) = (keysA (adrop P c)).filter fun k => !S.contains k := by
      apply List.filter_congr
      intro x hx
      have : x ≠ c := fun z => f3 (z ▸ hx)
      simp [this]
    rw [e1]
    simp
  have c2 : cap F2 P2 (S ++ [c]) = dec (cap F P S) t := by
    funext x
    have b1 := g.caps x
    rw [f5] at b1
    unfold cap at b1
    rw [act_snoc g.keys f4, cnt_append] at b1
    have e2 : cnt (val P2) [c] x = if t = x then 1 else 0 := by
      rw [cnt_cons, vt]
      simp [cnt]
    rw [e2] at b1
    show val F2 x + cnt (val P2) (act P2 (S ++ [c])) x = _
    rw [aS]
    unfold dec cap
    by_cases z : x = t
    · rw [if_pos z]
      rw [if_pos z.symm] at b1
      omega
    · rw [if_neg z]
      rw [if_neg (fun w => z w.symm)] at b1
      omega
  have can1 := g.can f3 f4
  rw [ca] at can1
  have p1 := (try_iff hca (F := F1) (tk := tk) (t := t))
  rw [ca] at p1
  have hit : (tk c).find? (fun m => decide (0 < cap F P S m) && canB (dec (cap F P S) m) tk l) = some t := by
    rw [htk]
    apply find_hit
    · intro x hx
      have h1 := hno x hx
      have p2 := (try_iff hca (F := F1) (tk := tk) (t := x))
      rw [ca] at p2
      rw [p2, canB_perm pa] at h1
      simpa using h1
    · have h1 := p1.mp can1
      rw [canB_perm pa] at h1
      exact h1
  have keepS : ∀ k ∈ S, val P2 k = val P k := by
    intro k hk
    unfold val
    rw [g.set k hk, f6 k hk]
  refine ⟨⟨?_, ?_, ?_, ?_⟩, ?_, ?_⟩
  · rw [g.keys]
    refine List.nodup_append.mpr ⟨f2.ndP, by simp, ?_⟩
    intro a ha b hb e
    rw [List.mem_singleton.mp hb] at e
    exact f3 (e ▸ ha)
  · intro k hk
    rw [g.keys]
    rcases List.mem_append.mp hk with hk | hk
    · exact List.mem_append_left _ (f2.sub k hk)
    · exact List.mem_append_right _ hk
  · intro k hk
    rw [aS] at hk
    exact g.into k hk
  · intro k m hm
    rw [g.keysF, f7]
    exact h.ok.inF k m hm
  · rw [aS]; exact pa
  · intro M e
    have h1 := h.told M (by rw [e]; simp)
    rw [h1, c2]
    have e3 : best tk (cap F P S) (c :: l) = (c, t) :: best tk (dec (cap F P S) t) l := by
      rw [best, hit]
    rw [e3, List.map_append, List.append_assoc]
    have e4 : S.map (fun k => (k, val P2 k)) = S.map fun k => (k, val P k) := by
      apply List.map_congr_left
      intro k hk
      rw [keepS k hk]
    rw [e4]
    simp [vt]

theorem SetI.done {room : Nat → Nat} {tk : Nat → List Nat} {F P : List (Nat × Nat)} {S : List Nat} (h : SetI room tk F P S []) :
    best tk room S = S.map fun k => (k, val P k) := by
  have := h.told S (by simp)
  rw [this]
  simp [best]

end CM

end

section
set_option autoImplicit false
namespace CM
theorem offerP_nil (k : Nat) (C : List (Nat × Nat)) : offerP k [] C = C := rfl
theorem take_snoc {α : Type} {l : List α} {i : Nat} {x : α} (h : l[i]? = some x) : l.take (i + 1) = l.take i ++ [x] := by
  rw [List.take_add_one, h]; rfl
theorem offerP_snoc (k t : Nat) (ts : List Nat) (C : List (Nat × Nat)) : offerP k (ts ++ [t]) C = if t ∈ keysA (offerP k ts C) then offerP k ts C else offerP k ts C ++ [(t, k)] := by
  unfold offerP
  rw [List.foldl_append]
  rfl
theorem reachP_snoc (P : List (Nat × Nat)) (x : Nat × Nat) (S : List Nat) (tk : Nat → List Nat) (m : Nat) (C : List (Nat × Nat)) :
    reachP (P ++ [x]) S tk m C = if x.2 = m ∧ x.1 ∉ S then offerP x.1 (tk x.1) (reachP P S tk m C) else reachP P S tk m C := by
  unfold reachP
  rw [List.foldl_append]
  rfl
theorem len_le {C : List (Nat × Nat)} {M : List Nat} (h : (keysA C).Nodup) (hs : ∀ m ∈ keysA C, m ∈ M) : C.length ≤ M.length := by
  have := nodup_length_le (keysA C) M h hs
  simpa [keysA] using this
theorem offerP_nd {k : Nat} {ts : List Nat} {C : List (Nat × Nat)} (h : (keysA C).Nodup) : (keysA (offerP k ts C)).Nodup := by
  obtain ⟨E, e, h2, _, _⟩ := offerP_ok k ts C h
  rw [e]; exact h2
theorem offerP_in {k : Nat} {ts : List Nat} {C : List (Nat × Nat)} {M : List Nat} (h : (keysA C).Nodup) (hC : ∀ m ∈ keysA C, m ∈ M) (ht : ∀ m ∈ ts, m ∈ M) : ∀ m ∈ keysA (offerP k ts C), m ∈ M := by
  obtain ⟨E, e, _, h3, _⟩ := offerP_ok k ts C h
  rw [e]
  intro m hm
  rw [keysA_append] at hm
  rcases List.mem_append.mp hm with hm | hm
  · exact hC m hm
  · obtain ⟨x, hx, e2⟩ := List.mem_map.mp hm
    exact e2 ▸ ht _ (h3 x hx).2
theorem reachP_nd {P : List (Nat × Nat)} {S : List Nat} {tk : Nat → List Nat} {m : Nat} {C : List (Nat × Nat)} (h : (keysA C).Nodup) : (keysA (reachP P S tk m C)).Nodup := by
  obtain ⟨E, e, h2, _, _⟩ := reachP_ok S tk m P C h
  rw [e]; exact h2
theorem reachP_in {P : List (Nat × Nat)} {S : List Nat} {tk : Nat → List Nat} {n : Nat} {C : List (Nat × Nat)} {M : List Nat} (h : (keysA C).Nodup) (hC : ∀ m ∈ keysA C, m ∈ M)
    (ht : ∀ k, ∀ m ∈ tk k, m ∈ M) : ∀ m ∈ keysA (reachP P S tk n C), m ∈ M := by
  obtain ⟨E, e, _, h3, _⟩ := reachP_ok S tk n P C h
  rw [e]
  intro m hm
  rw [keysA_append] at hm
  rcases List.mem_append.mp hm with hm | hm
  · exact hC m hm
  · obtain ⟨x, hx, e2⟩ := List.mem_map.mp hm
    exact e2 ▸ ht _ _ (h3 x hx).2.2
end CM

end

section
set_option autoImplicit false
namespace CM
open Vbchaj

theorem best_ok (tk : Nat → List Nat) : ∀ (l : List Nat) (room : Nat → Nat), l.Nodup → Can room tk l →
    keysP (best tk room l) = l ∧ (∀ x ∈ best tk room l, x.2 ∈ tk x.1) ∧ ∀ m, takenAt (best tk room l) m ≤ room m
  | [], room, _, _ => by simp [best, keysP, takenAt]
  | k :: l, room, hn, hc => by
    have hn' := List.nodup_cons.mp hn
    obtain ⟨f, F⟩ := hc
    have h1 : Can room (updT tk k [f k]) (k :: l) := by
      refine ⟨f, ?_, F.le⟩
      intro x hx
      unfold updT
      by_cases z : x = k
      · rw [if_pos z, z]; simp
      · rw [if_neg z]; exact F.into x hx
    have h2 := (can_fix room tk k (f k) l hn'.1).mp h1
    have hp : (decide (0 < room (f k)) && canB (dec room (f k)) tk l) = true := by
      rw [Bool.and_eq_true, decide_eq_true_eq, canB_iff]; exact h2
    have hf : ((tk k).find? fun m => decide (0 < room m) && canB (dec room m) tk l).isSome = true := by
      rw [List.find?_isSome]
      exact ⟨f k, F.into k (by simp), hp⟩
    obtain ⟨t, ht⟩ := Option.isSome_iff_exists.mp hf
    have t1 := List.mem_of_find?_eq_some ht
    have t2 := List.find?_some ht
    rw [Bool.and_eq_true, decide_eq_true_eq, canB_iff] at t2
    obtain ⟨i1, i2, i3⟩ := best_ok tk l (dec room t) hn'.2 t2.2
    have e : best tk room (k :: l) = (k, t) :: best tk (dec room t) l := by rw [best, ht]
    rw [e]
    refine ⟨?_, ?_, ?_⟩
    · show k :: keysP (best tk (dec room t) l) = k :: l
      rw [i1]
    · intro x hx
      rcases List.mem_cons.mp hx with hx | hx
      · subst hx; exact t1
      · exact i2 x hx
    · intro m
      have := i3 m
      rw [takenAt_eq] at this ⊢
      rw [List.countP_cons]
      have hd : dec room t m = if m = t then room m - 1 else room m := rfl
      rw [hd] at this
      by_cases z : t = m
      · subst z
        rw [if_pos rfl] at this
        simp only [beq_self_eq_true, if_true]
        omega
      · have z2 : ¬ m = t := fun w => z w.symm
        rw [if_neg z2] at this
        have e2 : (t == m) = false := by simpa using z
        simp only [e2, Bool.false_eq_true, if_false]
        omega

/-- what is told is a placing of those moved -/
theorem told_ok {s : State} (G : Good s) : keysP (told s.members s.clients) = keysOf (movedOf s.members s.clients) ∧
    (∀ x ∈ told s.members s.clients, x.2 ∈ tkOf s.clients x.1) ∧ ∀ m, takenAt (told s.members s.clients) m ≤ roomOf s.members m := by
  have E := G.env
  rw [told_eq E, keys_movedOf E]
  exact best_ok _ _ _ (E.nd.sublist (moved_sub _ _ _)) (moved_can _ _ _)

/-- the house while the first of the told are gone -/
def goneS (s : State) (p : Places) : State := ⟨s.members.map fun m => { m with room := m.room - takenAt p m.key }, s.clients.filter fun c => !(keysP p).contains c.key⟩

theorem goneS_nil (s : State) : goneS s [] = s := by
  unfold goneS
  have e1 : (s.members.map fun m => ({ m with room := m.room - takenAt [] m.key } : Member)) = s.members := by
    conv => rhs; rw [← List.map_id s.members]
    apply List.map_congr_left
    intro m _
    simp [takenAt]
  have e2 : (s.clients.filter fun c => !(keysP []).contains c.key) = s.clients := by
    apply List.filter_eq_self.mpr
    intro c _
    simp [keysP]
  rw [e1, e2]

theorem takenAt_snoc (p : Places) (x : Nat × Nat) (m : Nat) : takenAt (p ++ [x]) m = takenAt p m + if x.2 = m then 1 else 0 := by
  rw [takenAt_eq, takenAt_eq, List.countP_append]
  simp only [List.countP_cons, List.countP_nil, beq_iff_eq]
  omega

theorem goneS_snoc (s : State) (p : Places) (x : Nat × Nat) (r : Nat) (hr : ∀ m ∈ s.members, m.key = x.2 → m.room - takenAt p m.key = r) :
    goneS s (p ++ [x]) = { (({ goneS s p with members := (goneS s p).members.map fun y => if y.key = x.2 then { y with room := r - 1 } else y } : State)) with
      clients := (goneS s p).clients.filter fun c => c.key != x.1 } := by
  unfold goneS
  simp only
  congr 1
  · rw [List.map_map]
    apply List.map_congr_left
    intro m hm
    simp only [Function.comp]
    rw [takenAt_snoc]
    by_cases h : m.key = x.2
    · have := hr m hm h
      rw [if_pos h, if_pos h.symm]
      congr 1
      omega
    · rw [if_neg h, if_neg (fun z => h z.symm)]
      congr 1
  · rw [List.filter_filter]
    apply List.filter_congr
    intro c _
    have : keysP (p ++ [x]) = keysP p ++ [x.1] := by simp [keysP]
    rw [this]
    rw [Bool.eq_iff_iff]
    simp only [Bool.not_eq_true', List.contains_eq_mem, decide_eq_false_iff_not, List.mem_append, List.mem_singleton, not_or, Bool.and_eq_true, bne_iff_ne, ne_eq]
    exact ⟨fun h => ⟨h.2, h.1⟩, fun h => ⟨h.2, h.1⟩⟩

/-- the house behind the move -/
theorem goneS_all {s : State} (G : Good s) : (step s .move).1 = goneS s (told s.members s.clients) ∧
    (step s .move).2 = Vbchaj.ints [(told s.members s.clients).length, (goneS s (told s.members s.clients)).clients.length] := by
  obtain ⟨h1, h2, h3⟩ := told_ok G
  have E := G.env
  have nd : (keysP (told s.members s.clients)).Nodup := by
    rw [h1, keys_movedOf E]
    exact E.nd.sublist (moved_sub _ _ _)
  have ec : (s.clients.filter fun c => placeOf (told s.members s.clients) c.key == 0) = s.clients.filter fun c => !(keysP (told s.members s.clients)).contains c.key := by
    apply List.filter_congr
    intro c _
    rw [Bool.eq_iff_iff]
    simp only [beq_iff_eq, Bool.not_eq_true', List.contains_eq_mem, decide_eq_false_iff_not]
    constructor
    · intro h hm
      have := h2 _ (mem_placeOf nd hm)
      rw [h] at this
      exact E.zero _ this
    · intro h
      exact placeOf_none _ _ h
  constructor
  · simp only [step, goneS]
    rw [ec]
  · simp only [step]
    have hlen : s.clients.length - (told s.members s.clients).length = (goneS s (told s.members s.clients)).clients.length := by
      have sp := split_perm (keysP (told s.members s.clients)) (keysOf s.clients) (by rw [h1, keys_movedOf E]; exact moved_sub _ _ _) G.cnd
      have := sp.length_eq
      rw [List.length_append] at this
      have e1 : (keysOf s.clients).length = s.clients.length := by simp [keysOf]
      have e2 : (keysP (told s.members s.clients)).length = (told s.members s.clients).length := by simp [keysP]
      have e3 : ((keysOf s.clients).filter fun k => !(keysP (told s.members s.clients)).contains k).length = (goneS s (told s.members s.clients)).clients.length := by
        unfold goneS keysOf
        rw [List.filter_map, List.length_map]
        rfl
      omega
    rw [hlen]

theorem goneS_good {s : State} (G : Good s) (p : Places) : Good (goneS s p) := by
  have G1 := G.filterC fun c => !(keysP p).contains c.key
  refine G1.mapM (fun m => { m with room := m.room - takenAt p m.key }) (fun _ => rfl) ?_
  intro m hm
  have := (G.mkey m hm).2.2
  dsimp only
  omega

theorem takenAt_take_lt {p : Places} {i : Nat} {x : Nat × Nat} (h : p[i]? = some x) : takenAt (p.take i) x.2 < takenAt p x.2 := by
  have e : p = p.take i ++ x :: p.drop (i + 1) := by
    have hi := (List.getElem?_eq_some_iff.mp h).1
    have e1 : p[i] = x := (List.getElem?_eq_some_iff.mp h).2
    rw [← e1]
    conv => lhs; rw [← List.take_append_drop i p, List.drop_eq_getElem_cons hi]
  conv => rhs; rw [e]
  rw [takenAt_eq, takenAt_eq, List.countP_append, List.countP_cons]
  simp

theorem placeOf_take {p : Places} {i : Nat} {x : Nat × Nat} (h : p[i]? = some x) (hn : ∀ y ∈ p.take i, y.1 ≠ x.1) : placeOf p x.1 = x.2 := by
  have e : p = p.take i ++ x :: p.drop (i + 1) := by
    have hi := (List.getElem?_eq_some_iff.mp h).1
    have e1 : p[i] = x := (List.getElem?_eq_some_iff.mp h).2
    rw [← e1]
    conv => lhs; rw [← List.take_append_drop i p, List.drop_eq_getElem_cons hi]
  unfold placeOf
  rw [e, List.find?_append]
  have e1 : (p.take i).find? (fun y => y.1 == x.1) = none := by
    rw [List.find?_eq_none]
    intro y hy
    simpa using hn y hy
  rw [e1]
  simp

end CM

end

section
set_option autoImplicit false
namespace CM

theorem whole_id (c : List (List Int)) : PyVbchaj.whole c = c := by
  unfold PyVbchaj.whole
  split <;> rfl

theorem calls_cons {shape : Int → Option (Nat × Nat)} {f : Nat} {p : Int} {r : List Int} {cs : List (List (List Int))} (h : PyFlat.calls shape f (p :: r) = some cs) :
    ∃ (g : Nat) (c : List (List Int)) (t : List Int) (cs' : List (List (List Int))), PyFlat.call shape (p :: r) = some (c, t) ∧ PyFlat.calls shape g t = some cs' ∧ cs = c :: cs' := by
  cases f with
  | zero => simp [PyFlat.calls] at h
  | succ g =>
    unfold PyFlat.calls at h
    cases e : PyFlat.call shape (p :: r) with
    | none => rw [e] at h; cases h
    | some x =>
      rw [e] at h
      obtain ⟨c, t⟩ := x
      simp only at h
      cases e2 : PyFlat.calls shape g t with
      | none => rw [e2] at h; cases h
      | some cs' =>
        rw [e2] at h
        exact ⟨g, c, t, cs', rfl, e2, (Option.some.inj h).symm⟩

theorem calls_nil {shape : Int → Option (Nat × Nat)} {f : Nat} {cs : List (List (List Int))} (h : PyFlat.calls shape f [] = some cs) : cs = [] := by
  cases f <;> (unfold PyFlat.calls at h; exact (Option.some.inj h).symm)

/-- a call's numbers, and its list, if it has one -/
theorem call_of {shape : Int → Option (Nat × Nat)} {p : Int} {r : List Int} {c : List (List Int)} {t : List Int} (h : PyFlat.call shape (p :: r) = some (c, t)) (hs : ∀ n k, shape p = some (n, k) → k ≤ 1) :
    ∃ n, n ≤ r.length ∧ ((shape p = some (n, 0) ∧ c = [p :: r.take n] ∧ t = r.drop n) ∨
      (shape p = some (n, 1) ∧ ∃ (m : Nat) (r' : List Int), r.drop n = (m : Int) :: r' ∧ m ≤ r'.length ∧ c = [p :: r.take n, r'.take m] ∧ t = r'.drop m)) := by
  unfold PyFlat.call at h
  simp only at h
  cases e : shape p with
  | none => rw [e] at h; cases h
  | some x =>
    obtain ⟨n, k⟩ := x
    rw [e] at h
    simp only at h
    by_cases hn : r.length < n
    · rw [if_pos hn] at h; cases h
    · rw [if_neg hn] at h
      refine ⟨n, by omega, ?_⟩
      have hk := hs n k e
      rcases Nat.lt_or_ge k 1 with hk1 | hk1
      · have : k = 0 := by omega
        subst this
        left
        simp only [PyFlat.rows] at h
        have := Option.some.inj h
        exact ⟨rfl, (congrArg Prod.fst this).symm, (congrArg Prod.snd this).symm⟩
      · have : k = 1 := by omega
        subst this
        right
        refine ⟨rfl, ?_⟩
        simp only [PyFlat.rows] at h
        cases e2 : r.drop n with
        | nil => rw [e2] at h; simp [PyFlat.row] at h
        | cons m r' =>
          rw [e2] at h
          unfold PyFlat.row at h
          simp only at h
          by_cases hm : 0 ≤ m ∧ m.toNat ≤ r'.length
          · rw [if_pos hm] at h
            simp only at h
            have := Option.some.inj h
            refine ⟨m.toNat, r', ?_, hm.2, (congrArg Prod.fst this).symm, (congrArg Prod.snd this).symm⟩
            rw [Int.toNat_of_nonneg hm.1]
          · rw [if_neg hm] at h; cases h

/-- how many numbers each call has, and which have a list -/
def shapeN : List Nat := [2, 2, 1, 1, 2, 2, 1, 0, 0, 0, 1, 1, 1, 0, 0, 1, 1, 1, 2, 0, 0, 0]
def shapeL : List Nat := [1, 6, 12, 13, 19]
theorem shape_at : ∀ q : Nat, q < 22 → PyVbchaj.shape (q : Int) = some ((shapeN[q]?).getD 0, if q ∈ shapeL then 1 else 0) := by decide
theorem shape_none (p : Int) (h : ¬ (0 ≤ p ∧ p < 22)) : PyVbchaj.shape p = none := by
  unfold PyVbchaj.shape
  repeat rw [if_neg (by omega)]
theorem shape_get (p : Int) (n k : Nat) (h : PyVbchaj.shape p = some (n, k)) : ∃ q : Nat, p = (q : Int) ∧ q < 22 ∧ shapeN[q]? = some n ∧ k = if q ∈ shapeL then 1 else 0 := by
  by_cases hp : 0 ≤ p ∧ p < 22
  · refine ⟨p.toNat, by omega, by omega, ?_⟩
    have e : p = ((p.toNat : Nat) : Int) := by omega
    have hq : p.toNat < 22 := by omega
    generalize p.toNat = q at e hq
    subst e
    rw [shape_at q hq] at h
    have h1 := Option.some.inj h
    have e1 := congrArg Prod.fst h1
    have e2 := congrArg Prod.snd h1
    simp only at e1 e2
    refine ⟨?_, e2.symm⟩
    have hl : q < shapeN.length := hq
    rw [List.getElem?_eq_getElem hl] at e1 ⊢
    rw [← e1]
    rfl
  · rw [shape_none p hp] at h
    cases h
theorem shape_le (p : Int) (n k : Nat) (h : PyVbchaj.shape p = some (n, k)) : k ≤ 1 := by
  obtain ⟨q, _, _, _, e⟩ := shape_get p n k h
  rw [e]
  split <;> omega

/-- what is asked, and what is due, from a place on -/
structure Rest (s : Vbchaj.State) (l : List Int) (acc total : List Int) : Prop where
  ex : ∃ (f : Nat) (cs : List (List (List Int))), PyFlat.calls PyVbchaj.shape f l = some cs ∧ cs.all VbchajNeutral.asked1 = true ∧ total = acc ++ PyFlat.told (PyFlat.played VbchajNeutral.step s cs)

theorem Rest.start {l : List Int} (h : PyVbchaj.answers_asked l = true) : Rest Vbchaj.start l [] (PyVbchaj.answers l) ∧ (PyVbchaj.answers l).length ≤ 10000000 := by
  unfold PyVbchaj.answers_asked at h
  cases e : PyFlat.calls PyVbchaj.shape l.length l with
  | none => rw [e] at h; cases h
  | some raw =>
    rw [e] at h
    simp only [Bool.and_eq_true] at h
    have ew : raw.map PyVbchaj.whole = raw := by
      conv => rhs; rw [← List.map_id raw]
      apply List.map_congr_left
      intro c _
      exact whole_id c
    have ea : PyVbchaj.answers l = PyFlat.told (PyFlat.played VbchajNeutral.step VbchajNeutral.start raw) := by
      unfold PyVbchaj.answers PyVbchaj.calls
      rw [e]
      simp only
      rw [ew]
    refine ⟨⟨l.length, raw, e, ?_, by rw [ea]; rfl⟩, ?_⟩
    · have h2 := h.1.2
      rw [ew] at h2
      unfold VbchajNeutral.asked at h2
      rw [Bool.and_eq_true] at h2
      exact h2.1
    · have h3 := h.2
      unfold PyFlat.short at h3
      exact of_decide_eq_true h3

theorem Rest.done {s : Vbchaj.State} {acc total : List Int} (h : Rest s [] acc total) : total = acc := by
  obtain ⟨f, cs, h1, _, h3⟩ := h.ex
  rw [calls_nil h1] at h3
  simpa [PyFlat.played, PyFlat.told] using h3

theorem Rest.le {s : Vbchaj.State} {l acc total : List Int} (h : Rest s l acc total) : acc.length ≤ total.length := by
  obtain ⟨f, cs, h1, _, h3⟩ := h.ex
  rw [h3, List.length_append]; omega

/-- one call more -/
theorem Rest.step {s : Vbchaj.State} {p : Int} {r acc total : List Int} (h : Rest s (p :: r) acc total) :
    ∃ (q n : Nat) (c : List (List Int)) (t : List Int), p = (q : Int) ∧ q < 22 ∧ shapeN[q]? = some n ∧ n ≤ r.length ∧ VbchajNeutral.asked1 c = true ∧
      Rest (VbchajNeutral.step s c).1 t (acc ++ ((VbchajNeutral.step s c).2.length : Int) :: (VbchajNeutral.step s c).2) total ∧
      ((q ∉ shapeL ∧ c = [p :: r.take n] ∧ t = r.drop n) ∨
       (q ∈ shapeL ∧ ∃ (m : Nat) (r' : List Int), r.drop n = (m : Int) :: r' ∧ m ≤ r'.length ∧ c = [p :: r.take n, r'.take m] ∧ t = r'.drop m)) := by
  obtain ⟨f, cs, h1, h2, h3⟩ := h.ex
  obtain ⟨g, c, t, cs', k1, k2, rfl⟩ := calls_cons h1
  rw [List.all_cons, Bool.and_eq_true] at h2
  obtain ⟨n, hn, hc⟩ := call_of k1 (shape_le p)
  have rest : Rest (VbchajNeutral.step s c).1 t (acc ++ ((VbchajNeutral.step s c).2.length : Int) :: (VbchajNeutral.step s c).2) total :=
    ⟨g, cs', k2, h2.2, by rw [h3]; simp [PyFlat.played, PyFlat.told]⟩
  rcases hc with ⟨e1, e2, e3⟩ | ⟨e1, m, r', e2, e3, e4, e5⟩
  · obtain ⟨q, hq, hq2, hq3, hq4⟩ := shape_get p n 0 e1
    refine ⟨q, n, c, t, hq, hq2, hq3, hn, h2.1, rest, .inl ⟨?_, e2, e3⟩⟩
    intro z
    rw [if_pos z] at hq4
    cases hq4
  · obtain ⟨q, hq, hq2, hq3, hq4⟩ := shape_get p n 1 e1
    refine ⟨q, n, c, t, hq, hq2, hq3, hn, h2.1, rest, .inr ⟨?_, m, r', e2, e3, e4, e5⟩⟩
    by_cases z : q ∈ shapeL
    · exact z
    · rw [if_neg z] at hq4
      cases hq4

end CM

end

section
set_option autoImplicit false
namespace CM
open Vbchaj

/-- a client's place in the order -/
theorem before_split {s : State} (G : Good s) {c : Client} (hc : c ∈ s.clients) : ∃ a b, s.clients = a ++ c :: b ∧ beforeOf s.clients c = a := by
  obtain ⟨a, b, e⟩ := List.append_of_mem hc
  refine ⟨a, b, e, ?_⟩
  have so := G.csort
  rw [e] at so ⊢
  obtain ⟨h1, h2, h3⟩ := List.pairwise_append.mp so
  have h4 := List.pairwise_cons.mp h2
  unfold beforeOf
  rw [List.filter_append, List.filter_cons]
  have e1 : a.filter (fun x => sooner x c) = a := by
    apply List.filter_eq_self.mpr
    intro x hx
    exact h3 x hx c (by simp)
  have e2 : b.filter (fun x => sooner x c) = [] := by
    apply List.filter_eq_nil_iff.mpr
    intro x hx h
    have := sooner_asym (h4.1 x hx)
    rw [h] at this; cases this
  rw [e1, e2, sooner_irr]
  simp

theorem keysOf_append (a b : List Client) : keysOf (a ++ b) = keysOf a ++ keysOf b := by simp [keysOf]
theorem keysOf_cons (c : Client) (b : List Client) : keysOf (c :: b) = c.key :: keysOf b := rfl

/-- those moved before a client -/
theorem moved_before_c {s : State} (G : Good s) {c : Client} (hc : c ∈ s.clients) :
    ∃ a b, s.clients = a ++ c :: b ∧ beforeOf s.clients c = a ∧
      keysOf (movedOf s.members (beforeOf s.clients c)) = movedK (roomOf s.members) (tkOf s.clients) (keysOf a) ∧
      (movedK (roomOf s.members) (tkOf s.clients) (keysOf s.clients)).filter (fun k => (keysOf a).contains k) = movedK (roomOf s.members) (tkOf s.clients) (keysOf a) := by
  obtain ⟨a, b, e, eb⟩ := before_split G hc
  refine ⟨a, b, e, eb, ?_, ?_⟩
  · rw [eb]
    exact keys_movedOf (G.env.sub (by rw [e]; exact List.sublist_append_left _ _))
  · have := G.cnd
    rw [e, keysOf_append] at this
    rw [e, keysOf_append]
    exact moved_before _ _ _ _ this

theorem isMoved_iff {s : State} (G : Good s) (c : Client) : isMoved s c = true ↔ c.key ∈ movedK (roomOf s.members) (tkOf s.clients) (keysOf s.clients) := by
  rw [← keys_movedOf G.env]
  unfold isMoved keysOf
  simp [List.any_eq_true]

/-- why: what is least among the sets that prove it, told rising -/
theorem why_tells {s : State} (G : Good s) {c : Client} (hc : c ∈ s.clients) (hl : isMoved s c = false) {a b : List Client} (e : s.clients = a ++ c :: b) {R : List Nat}
    (hR : WhyL (roomOf s.members) (tkOf s.clients) (movedK (roomOf s.members) (tkOf s.clients) (keysOf a)) c.key R) (hs : R.Pairwise (· < ·)) :
    whySet s.members s.clients c = R := by
  obtain ⟨a', b', e', eb, ek, _⟩ := moved_before_c G hc
  have nd := G.cnd
  have ea : a' = a := by
    have h1 := before_split G hc
    obtain ⟨a1, b1, e1, h2⟩ := h1
    have : beforeOf s.clients c = a := by
      have so := G.csort
      rw [e] at so ⊢
      obtain ⟨h1, h2, h3⟩ := List.pairwise_append.mp so
      have h4 := List.pairwise_cons.mp h2
      unfold beforeOf
      rw [List.filter_append, List.filter_cons]
      have e1 : a.filter (fun x => sooner x c) = a := by
        apply List.filter_eq_self.mpr
        intro x hx
        exact h3 x hx c (by simp)
      have e2 : b.filter (fun x => sooner x c) = [] := by
        apply List.filter_eq_nil_iff.mpr
        intro x hx h
        have := sooner_asym (h4.1 x hx)
        rw [h] at this; cases this
      rw [e1, e2, sooner_irr]
      simp
    rw [← eb, this]
  rw [ea] at ek eb
  have Ea : Env s.members (tkOf s.clients) a := G.env.sub (by rw [e]; exact List.sublist_append_left _ _)
  have Eb : Env s.members (tkOf s.clients) (movedOf s.members a) := Ea.sub (movedOf_sub _ _)
  have kb : keysOf (movedOf s.members a) = movedK (roomOf s.members) (tkOf s.clients) (keysOf a) := keys_movedOf Ea
  have hnl : c.key ∉ movedK (roomOf s.members) (tkOf s.clients) (keysOf s.clients) := by
    intro h
    rw [← isMoved_iff G] at h
    rw [h] at hl; cases hl
  have hsp : keysOf s.clients = keysOf a ++ c.key :: keysOf b := by rw [e, keysOf_append, keysOf_cons]
  have hn : c.key ∉ keysOf (movedOf s.members a) := by
    intro h
    have h2 := ((movedOf_sub s.members a).map fun c : Client => c.key).subset h
    rw [hsp] at nd
    exact (List.nodup_append.mp nd).2.2 c.key h2 c.key (by simp) rfl
  have cl : ¬ Can (roomOf s.members) (tkOf s.clients) (c.key :: keysOf (movedOf s.members a)) := by
    rw [kb]
    rw [hsp] at hnl
    exact left_not _ _ _ _ _ hnl
  have cb : Can (roomOf s.members) (tkOf s.clients) (keysOf (movedOf s.members a)) := by
    rw [kb]; exact moved_can _ _ _
  have w := why_ok (c := c) Eb (G.env.tks c hc) hn cb cl
  unfold whySet
  rw [eb]
  simp only
  rw [kb] at w
  exact w.tells hR hs

/-- check -/
theorem proves_eq {s : State} (G : Good s) {c : Client} (hc : c ∈ s.clients) {a b : List Client} (e : s.clients = a ++ c :: b) (ea : beforeOf s.clients c = a) (l : List Nat) :
    proves s.members s.clients c l = (c.takers.all (fun m => l.contains m) && (keptC (tkOf s.clients) (movedK (roomOf s.members) (tkOf s.clients) (keysOf a)) l == total (roomOf s.members) l)) := by
  unfold proves inside
  rw [ea, roomIn_eq]
  have Ea : Env s.members (tkOf s.clients) a := G.env.sub (by rw [e]; exact List.sublist_append_left _ _)
  rw [kept_eq (Ea.sub (movedOf_sub s.members a)).tks, keys_movedOf Ea]

theorem bound_eq {s : State} (G : Good s) (l : List Nat) : boundOf s.members s.clients l = boundK (roomOf s.members) (tkOf s.clients) (keysOf s.clients) l :=
  boundOf_eq G.env.tks l

/-- cover -/
theorem cover_tells {s : State} (G : Good s) {R : List Nat} (hR : CoverL (roomOf s.members) (tkOf s.clients) (keysOf s.clients) R) (hs : R.Pairwise (· < ·)) : coverOf s.members s.clients = R := by
  unfold coverOf
  exact (cover_ok G.env).tells hR hs

theorem newIn_eq (a b : List Client) : newIn a b = (keysOf a).filter fun k => !(keysOf b).contains k := rfl

theorem without_keys_k {s : State} (G : Good s) (k : Nat) :
    keysOf (movedOf s.members (s.clients.filter fun x => x.key != k)) = movedK (roomOf s.members) (tkOf s.clients) ((keysOf s.clients).filter fun x => x != k) := by
  rw [keys_movedOf (G.env.sub List.filter_sublist)]
  congr 1
  unfold keysOf
  rw [List.filter_map]
  rfl

def inc (room : Nat → Nat) (k : Nat) : Nat → Nat := fun x => if x = k then room x + 1 else room x
theorem roomOf_inc (ms : List Member) (k : Nat) (hk : k ∈ ms.map fun m => m.key) : roomOf (ms.map fun x => if x.key = k then { x with room := x.room + 1 } else x) = inc (roomOf ms) k := by
  funext x
  unfold inc roomOf
  induction ms with
  | nil => simp at hk
  | cons y ms ih =>
    simp only [List.map_cons, List.find?_cons]
    have e1 : (if y.key = k then ({ y with room := y.room + 1 } : Member) else y).key = y.key := by split <;> rfl
    rw [e1]
    by_cases h : y.key = x
    · have e : (y.key == x) = true := by simpa using h
      rw [e]
      simp only
      by_cases h2 : y.key = k
      · rw [if_pos h2, if_pos (by rw [← h, h2])]
      · rw [if_neg h2, if_neg (by rw [← h]; exact h2)]
    · have e : (y.key == x) = false := by simpa using h
      rw [e]
      simp only
      by_cases hk2 : k ∈ ms.map fun m => m.key
      · exact ih hk2
      · have hyk : y.key = k := by
          rcases List.mem_cons.mp hk with z | z
          · exact z.symm
          · exact absurd z hk2
        have hx : x ≠ k := fun z => h (hyk.trans z.symm)
        rw [if_neg hx]
        have : ms.map (fun x => if x.key = k then ({ x with room := x.room + 1 } : Member) else x) = ms := by
          conv => rhs; rw [← List.map_id ms]
          apply List.map_congr_left
          intro m hm
          have : m.key ≠ k := fun z => hk2 (List.mem_map.mpr ⟨m, hm, z⟩)
          simp [this]
        rw [this]

theorem roomier_keys {s : State} (G : Good s) {k : Nat} (hk : k ∈ s.members.map fun m => m.key) :
    keysOf (movedOf (s.members.map fun x => if x.key = k then { x with room := x.room + 1 } else x) s.clients) = movedK (inc (roomOf s.members) k) (tkOf s.clients) (keysOf s.clients) := by
  have E : Env (s.members.map fun x => if x.key = k then ({ x with room := x.room + 1 } : Member) else x) (tkOf s.clients) s.clients := by
    refine ⟨G.env.zero, G.env.tks, ?_, G.env.nd⟩
    intro j m hm
    have := G.env.inM j m hm
    rw [List.map_map]
    have e : s.members.map ((fun m : Member => m.key) ∘ fun x => if x.key = k then ({ x with room := x.room + 1 } : Member) else x) = s.members.map fun m => m.key := by
      apply List.map_congr_left
      intro m _
      simp only [Function.comp]
      split <;> rfl
    rw [e]; exact this
  rw [keys_movedOf E, roomOf_inc _ _ hk]

theorem first_keys {s : State} (G : Good s) {c : Client} (hc : c ∈ s.clients) :
    keysOf (movedOf s.members (c :: s.clients.filter fun x => x.key != c.key)) = movedK (roomOf s.members) (tkOf s.clients) (c.key :: (keysOf s.clients).filter fun x => x != c.key) := by
  have E : Env s.members (tkOf s.clients) (c :: s.clients.filter fun x => x.key != c.key) := by
    refine ⟨G.env.zero, ?_, G.env.inM, ?_⟩
    · intro d hd
      rcases List.mem_cons.mp hd with hd | hd
      · subst hd; exact G.env.tks _ hc
      · exact G.env.tks d (List.mem_filter.mp hd).1
    · rw [keysOf_cons]
      refine List.nodup_cons.mpr ⟨?_, G.cnd.sublist (List.filter_sublist.map _)⟩
      intro h
      obtain ⟨d, hd, e⟩ := List.mem_map.mp h
      have := (List.mem_filter.mp hd).2
      simp at this
      exact this e
  rw [keys_movedOf E, keysOf_cons]
  congr 2
  unfold keysOf
  rw [List.filter_map]
  rfl

/-- may -/
theorem mayBe_iff {s : State} (G : Good s) {c : Client} (hc : c ∈ s.clients) (m : Nat) :
    mayBe s c m = true ↔ c.key ∈ movedK (roomOf s.members) (tkOf s.clients) (keysOf s.clients) ∧ m ∈ tkOf s.clients c.key ∧
      Can (roomOf s.members) (updT (tkOf s.clients) c.key [m]) (movedK (roomOf s.members) (tkOf s.clients) (keysOf s.clients)) := by
  have E := G.env
  unfold mayBe
  rw [Bool.and_eq_true, Bool.and_eq_true, Bool.and_eq_true, decide_eq_true_eq, isMoved_iff G]
  have e1 : c.takers.contains m = true ↔ m ∈ tkOf s.clients c.key := by
    rw [E.tks c hc]; simp
  rw [e1]
  have Ef : Env (without s.members m) (tkOf s.clients) ((movedOf s.members s.clients).filter fun x => x.key != c.key) :=
    ((E.sub (movedOf_sub _ _)).sub List.filter_sublist).without m
  rw [canAll_iff Ef, roomOf_without]
  have ek : keysOf ((movedOf s.members s.clients).filter fun x => x.key != c.key) = (movedK (roomOf s.members) (tkOf s.clients) (keysOf s.clients)).filter fun x => !(x == c.key) := by
    rw [← keys_movedOf E]
    unfold keysOf
    rw [List.filter_map]
    rfl
  rw [ek]
  have nd : (movedK (roomOf s.members) (tkOf s.clients) (keysOf s.clients)).Nodup := G.cnd.sublist (moved_sub _ _ _)
  generalize movedK (roomOf s.members) (tkOf s.clients) (keysOf s.clients) = M at nd ⊢
  have hn : c.key ∉ M.filter fun x => !(x == c.key) := by
    intro h
    have := (List.mem_filter.mp h).2
    simp at this
  have pm : c.key ∈ M → (c.key :: M.filter fun x => !(x == c.key)).Perm M := fun h1 => by
    apply (List.perm_ext_iff_of_nodup (List.nodup_cons.mpr ⟨hn, nd.sublist List.filter_sublist⟩) nd).mpr
    intro x
    rw [List.mem_cons, List.mem_filter]
    constructor
    · rintro (h | h)
      · rw [h]; exact h1
      · exact h.1
    · intro h
      by_cases z : x = c.key
      · exact .inl z
      · exact .inr ⟨h, by simp [z]⟩
  have cf := can_fix (roomOf s.members) (tkOf s.clients) c.key m _ hn
  constructor
  · rintro ⟨h1, h2, h3⟩
    exact ⟨h1, h2, (Can.perm_iff (pm h1)).mp (cf.mpr h3)⟩
  · rintro ⟨h1, h2, h3⟩
    exact ⟨h1, h2, cf.mp ((Can.perm_iff (pm h1)).mpr h3)⟩
end CM

end

section
set_option autoImplicit false
namespace CM

/-- where no place was found, what was reached is the least set that proves it -/
theorem BI.why {F P : List (Nat × Nat)} {tk : Nat → List Nat} {c : Nat} {C : List (Nat × Nat)} (hP : (keysA P).Nodup) (hin : ∀ k ∈ act P [], val P k ∈ tk k)
    (hc : c ∉ keysA P) (h : BI P [] tk c (tk c) C C.length) (hf : ∀ m ∈ keysA C, val F m = 0) : WhyL (cap F P []) tk (keysA P) c (keysA C) := by
  have fit : Fits (cap F P []) tk (keysA P) (val P) := by
    refine ⟨fun k hk => hin k (by rw [act_nil]; exact hk), fun m => ?_⟩
    unfold cap
    rw [act_nil]
    omega
  have cl : Closed tk (keysA P) (val P) (keysA C) := by
    intro k hk hv m hm
    obtain ⟨j, hj⟩ := List.mem_iff_getElem?.mp hv
    have hjl : j < C.length := by
      have := (List.getElem?_eq_some_iff.mp hj).1
      simpa [keysA] using this
    exact h.closed j hjl k (by rw [act_nil]; exact hk) hj m hm
  have full : ∀ m ∈ keysA C, cnt (val P) (keysA P) m = cap F P [] m := by
    intro m hm
    unfold cap
    rw [hf m hm, act_nil]
    omega
  refine ⟨⟨h.want, kept_full fit h.nd cl full⟩, h.nd, ?_⟩
  intro S hS hp
  have back := fit.back hS hp.2
  have all : ∀ (i m : Nat), (keysA C)[i]? = some m → m ∈ S := by
    intro i
    induction i using Nat.strongRecOn with
    | _ i ih =>
      intro m hm
      rw [keysA_get, Option.map_eq_some_iff] at hm
      obtain ⟨x, hx, e⟩ := hm
      rcases h.src i x.1 x.2 hx with ⟨_, h1⟩ | ⟨h1, h2, j, h3, h4⟩
      · exact hp.1 m (e ▸ h1)
      · rw [act_nil] at h1
        exact back x.2 h1 (ih j h3 _ h4) m (e ▸ h2)
  intro m hm
  obtain ⟨i, hi⟩ := List.mem_iff_getElem?.mp hm
  exact all i m hi

/-- a set that has the least ones' two marks is the least, whatever way it was found: for a search through sets -/
theorem whyL_of {room : Nat → Nat} {tk : Nat → List Nat} {B : List Nat} {c : Nat} {R R' : List Nat} (h : WhyL room tk B c R) (hn : R'.Nodup) (hp : ProvesL room tk B c R') (hs : ∀ m ∈ R', m ∈ R) : WhyL room tk B c R' :=
  ⟨hp, hn, fun S h1 h2 m hm => h.least S h1 h2 m (hs m hm)⟩
theorem coverL_of {room : Nat → Nat} {tk : Nat → List Nat} {ks : List Nat} {R R' : List Nat} (h : CoverL room tk ks R) (hn : R'.Nodup) (hp : boundK room tk ks R' = (movedK room tk ks).length) (hs : ∀ m ∈ R', m ∈ R) : CoverL room tk ks R' :=
  ⟨hp, hn, fun S h1 h2 m hm => h.least S h1 h2 m (hs m hm)⟩
end CM

end

section
set_option autoImplicit false
namespace CM

/-- from a member with free room the client gets a place -/
theorem BI.gave {F P : List (Nat × Nat)} {S : List Nat} {tk : Nat → List Nat} {c : Nat} {W : List Nat} {C : List (Nat × Nat)} {n : Nat} (hP : (keysA P).Nodup)
    (hin : ∀ k ∈ act P S, val P k ∈ tk k) (hc : c ∉ keysA P) (hS : c ∉ S) (h : BI P S tk c W C n) {i last : Nat} (hi : (keysA C)[i]? = some last) (hF : last ∈ keysA F) (hl : 0 < val F last) :
    ∃ F' P', Gave F P S tk c W F' P' := by
  have all : ∀ (j m : Nat) (Q : List (Nat × Nat)), (keysA C)[j]? = some m → SH P S tk C last Q j m → ∃ F' P', Gave F P S tk c W F' P' := by
    intro j
    induction j using Nat.strongRecOn with
    | _ j ih =>
      intro m Q hj sh
      rw [keysA_get, Option.map_eq_some_iff] at hj
      obtain ⟨x, hx, e⟩ := hj
      rcases h.src j x.1 x.2 hx with ⟨_, h1⟩ | ⟨h1, h2, j2, h3, h4⟩
      · exact ⟨_, _, sh.done hc hS (e ▸ h1) hF hl⟩
      · obtain ⟨_, sh2⟩ := sh.step hP h.nd h1 (e ▸ h2) h3 h4
        exact ih j2 h3 _ _ h4 sh2
  exact all i last P hi (SH.start hin hi)

/-- where the client can't be placed besides, all that is reached is full -/
theorem BI.full {F P : List (Nat × Nat)} {S : List Nat} {tk : Nat → List Nat} {c : Nat} {W : List Nat} {C : List (Nat × Nat)} {n : Nat} (hP : (keysA P).Nodup)
    (hin : ∀ k ∈ act P S, val P k ∈ tk k) (hc : c ∉ keysA P) (hS : c ∉ S) (h : BI P S tk c W C n) (hF : ∀ m ∈ keysA C, m ∈ keysA F) (hn : ¬ Can (cap F P S) (updT tk c W) (c :: act P S)) :
    ∀ m ∈ keysA C, val F m = 0 := by
  intro m hm
  obtain ⟨i, hi⟩ := List.mem_iff_getElem?.mp hm
  by_cases hz : val F m = 0
  · exact hz
  · obtain ⟨F', P', g⟩ := h.gave hP hin hc hS hi (hF m hm) (by omega)
    exact absurd (g.can hc hS) hn

/-- what is reached is closed: whoever is placed there has all takers there -/
theorem BI.clos {P : List (Nat × Nat)} {tk : Nat → List Nat} {c : Nat} {W : List Nat} {C : List (Nat × Nat)} (h : BI P [] tk c W C C.length) : Closed tk (keysA P) (val P) (keysA C) := by
  intro k hk hv m hm
  obtain ⟨j, hj⟩ := List.mem_iff_getElem?.mp hv
  have hjl : j < C.length := by
    have := (List.getElem?_eq_some_iff.mp hj).1
    simpa [keysA] using this
  exact h.closed j hjl k (by rw [act_nil]; exact hk) hj m hm

/-- what is reached stays within any set that holds the client's takers and goes on -/
theorem BI.within {P : List (Nat × Nat)} {tk : Nat → List Nat} {c : Nat} {C : List (Nat × Nat)} {n : Nat} (h : BI P [] tk c (tk c) C n) {S : List Nat} (h1 : ∀ m ∈ tk c, m ∈ S) (back : Closed tk (keysA P) (val P) S) : ∀ m ∈ keysA C, m ∈ S := by
  have all : ∀ (i m : Nat), (keysA C)[i]? = some m → m ∈ S := by
    intro i
    induction i using Nat.strongRecOn with
    | _ i ih =>
      intro m hm
      rw [keysA_get, Option.map_eq_some_iff] at hm
      obtain ⟨x, hx, e⟩ := hm
      rcases h.src i x.1 x.2 hx with ⟨_, h2⟩ | ⟨h2, h3, j, h4, h5⟩
      · exact h1 m (e ▸ h2)
      · rw [act_nil] at h2
        exact back x.2 h2 (ih j h4 _ h5) m (e ▸ h3)
  intro m hm
  obtain ⟨i, hi⟩ := List.mem_iff_getElem?.mp hm
  exact all i m hi

/-- the members reached from the takers of all that are left -/
theorem cover_of {room : Nat → Nat} {tk : Nat → List Nat} {F P : List (Nat × Nat)} {ks : List Nat} (mi : MovI room tk F P ks) (nd : ks.Nodup) {R : List Nat} (hR : R.Nodup)
    (h1 : ∀ c ∈ ks, c ∉ movedK room tk ks → ∃ C, BI P [] tk c (tk c) C C.length ∧ ∀ m ∈ keysA C, m ∈ R)
    (h2 : ∀ m ∈ R, ∃ c ∈ ks, c ∉ movedK room tk ks ∧ ∃ C, BI P [] tk c (tk c) C C.length ∧ m ∈ keysA C) : CoverL room tk ks R := by
  have hsub := moved_sub room tk ks
  have hleft := left_not_all room tk ks nd
  have ca : cap F P [] = room := cap_fun mi.caps
  have hin : ∀ k ∈ act P [], val P k ∈ tk k := mi.ok.into
  have keys := mi.keys
  have ndP := mi.ok.ndP
  have full : ∀ m ∈ R, cnt (val P) (keysA P) m = room m := by
    intro m hm
    obtain ⟨c, hc, hcm, C, b, hmC⟩ := h2 m hm
    have hcP : c ∉ keysA P := by rw [keys]; exact hcm
    have hn : ¬ Can (cap F P []) (updT tk c (tk c)) (c :: act P []) := by
      rw [ca, updT_self, act_nil, keys]
      exact hleft c hc hcm
    have hF : ∀ m ∈ keysA C, m ∈ keysA F := b.sub (fun m hm => mi.ok.inF c m hm) (fun k _ m hm => mi.ok.inF k m hm)
    have z := b.full ndP hin hcP (by simp) hF hn m hmC
    have e := mi.caps m
    unfold cap at e
    rw [act_nil] at e
    omega
  have fit : Fits room tk (keysA P) (val P) := by
    refine ⟨fun k hk => hin k (by rw [act_nil]; exact hk), fun m => ?_⟩
    have e := mi.caps m
    unfold cap at e
    rw [act_nil] at e
    omega
  have cl : Closed tk (keysA P) (val P) R := by
    intro k hk hv m hm
    obtain ⟨c, hc, hcm, C, b, hmC⟩ := h2 _ hv
    obtain ⟨C', b', hC'⟩ := h1 c hc hcm
    exact hC' m (b'.clos k hk (b.within (fun m hm => b'.want m hm) b'.clos _ hmC) m hm)
  have kf := kept_full fit hR cl full
  generalize hM : movedK room tk ks = M at hsub hleft keys h1 h2
  have sp := split_perm M ks hsub nd
  have hlk : ∀ k ∈ ks.filter (fun k => !M.contains k), ∀ m ∈ tk k, m ∈ R := by
    intro k hk m hm
    obtain ⟨hk1, hk2⟩ := List.mem_filter.mp hk
    have hk3 : k ∉ M := by simpa using hk2
    obtain ⟨C, b, hC⟩ := h1 k hk1 hk3
    exact hC m (b.want m hm)
  have kl := kept_all.mpr hlk
  have len : ks.length = M.length + (ks.filter (fun k => !M.contains k)).length := by
    rw [sp.length_eq]; simp
  refine ⟨?_, hR, ?_⟩
  · unfold boundK
    have kM : keptC tk M R = total room R := by rw [← keys]; exact kf
    rw [keptC_perm sp, keptC_append, kl, kM, hM]
    have b3 := keptC_le tk M R
    rw [kM] at b3
    omega
  · intro S hS hb m hm
    rw [hM] at hb
    unfold boundK at hb
    rw [keptC_perm sp, keptC_append] at hb
    have b1 := keptC_le tk (ks.filter (fun k => !M.contains k)) S
    have b2 := fit.kept_le hS
    rw [keys] at b2
    have b3 := keptC_le tk M S
    have f1 : keptC tk M S = total room S := by omega
    have f2 : keptC tk (ks.filter (fun k => !M.contains k)) S = (ks.filter (fun k => !M.contains k)).length := by omega
    have hcl := fit.back hS (by rw [keys]; exact f1)
    obtain ⟨c, hc, hcm, C, b, hmC⟩ := h2 m hm
    have hcf : c ∈ ks.filter (fun k => !M.contains k) := List.mem_filter.mpr ⟨hc, by simpa using hcm⟩
    exact b.within (fun m hm => kept_all.mp f2 c hcf m hm) hcl m hmC
end CM

end

section
set_option autoImplicit false
namespace CM

theorem total_perm {h : Nat → Nat} {a b : List Nat} (p : a.Perm b) : total h a = total h b := by
  induction p with
  | nil => rfl
  | cons x _ ih =>
    show h x + total h _ = h x + total h _
    rw [ih]
  | swap x y l =>
    show h y + (h x + total h l) = h x + (h y + total h l)
    omega
  | trans _ _ i1 i2 => exact i1.trans i2
theorem keptC_set {tk : Nat → List Nat} {B a b : List Nat} (h : ∀ x, x ∈ a ↔ x ∈ b) : keptC tk B a = keptC tk B b := by
  unfold keptC
  congr 1
  funext k
  congr 1
  funext m
  rw [Bool.eq_iff_iff]
  simp [h m]
theorem WhyL.perm {room : Nat → Nat} {tk : Nat → List Nat} {B : List Nat} {c : Nat} {R R' : List Nat} (h : WhyL room tk B c R) (p : R.Perm R') : WhyL room tk B c R' :=
  ⟨⟨fun m hm => p.mem_iff.mp (h.pr.1 m hm), by rw [← total_perm p, ← keptC_set fun x => p.mem_iff]; exact h.pr.2⟩, p.nodup_iff.mp h.nd, fun S h1 h2 m hm => h.least S h1 h2 m (p.mem_iff.mpr hm)⟩
theorem CoverL.perm {room : Nat → Nat} {tk : Nat → List Nat} {ks : List Nat} {R R' : List Nat} (h : CoverL room tk ks R) (p : R.Perm R') : CoverL room tk ks R' := by
  refine ⟨?_, p.nodup_iff.mp h.nd, fun S h1 h2 m hm => h.least S h1 h2 m (p.mem_iff.mpr hm)⟩
  have := h.bd
  unfold boundK at this ⊢
  rw [← total_perm p, ← keptC_set fun x => p.mem_iff]
  exact this
theorem sorted_nats {ys : List Int} {l : List Nat} (hp : ys.Perm (l.map fun n : Nat => (n : Int))) (hs : ys.Pairwise (· ≤ ·)) (nd : l.Nodup) : ∃ R : List Nat, ys = R.map (fun n : Nat => (n : Int)) ∧ R.Perm l ∧ R.Pairwise (· < ·) := by
  have e : ys = (ys.map Int.toNat).map (fun n : Nat => (n : Int)) := by
    rw [List.map_map]
    conv => lhs; rw [← List.map_id ys]
    apply List.map_congr_left
    intro z hz
    obtain ⟨n, _, rfl⟩ := List.mem_map.mp (hp.mem_iff.mp hz)
    simp
  have p2 : (ys.map Int.toNat).Perm l := by
    have := hp.map Int.toNat
    rw [List.map_map] at this
    have e2 : l.map (Int.toNat ∘ fun n : Nat => (n : Int)) = l := by
      conv => rhs; rw [← List.map_id l]
      apply List.map_congr_left
      intro n _
      simp
    rw [e2] at this
    exact this
  refine ⟨_, e, p2, ?_⟩
  have nd2 := p2.nodup_iff.mpr nd
  rw [e] at hs
  have h1 := List.pairwise_map.mp hs
  exact (h1.and nd2).imp fun {a b} h => by
    have h2 := h.1
    have h3 := h.2
    have : a ≠ b := h3
    omega
/-- whether the next one is moved -/
theorem moved_here {room : Nat → Nat} {tk : Nat → List Nat} {a b : List Nat} {k : Nat} (hn : (a ++ k :: b).Nodup) : k ∈ movedK room tk (a ++ k :: b) ↔ Can room tk (k :: movedK room tk a) := by
  refine ⟨moved_yes room tk a k b hn, fun h => ?_⟩
  by_cases hk : k ∈ movedK room tk (a ++ k :: b)
  · exact hk
  · exact absurd h (left_not room tk a k b hk)
end CM

end

section
set_option autoImplicit false
namespace CM
open Vbchaj

def natPairs (ns : List Int) : List (Nat × Nat) := (pairsOf ns).map fun x => (x.1.toNat, x.2.toNat)
theorem pairsOf_flat : ∀ ns : List Int, ns.length % 2 = 0 → ns = (pairsOf ns).flatMap fun x => [x.1, x.2]
  | [], _ => rfl
  | [x], h => by simp at h
  | x :: y :: l, h => by
    have ih := pairsOf_flat l (by simp only [List.length_cons] at h; omega)
    show x :: y :: l = x :: y :: (pairsOf l).flatMap fun x => [x.1, x.2]
    rw [← ih]
theorem natPairs_flat {ns : List Int} (h : ns.length % 2 = 0) (hk : ns.all keyed = true) : ns = (natPairs ns).flatMap fun x => [(x.1 : Int), (x.2 : Int)] := by
  have e := pairsOf_flat ns h
  have hall : ∀ x ∈ pairsOf ns, ((x.1.toNat : Nat) : Int) = x.1 ∧ ((x.2.toNat : Nat) : Int) = x.2 := by
    intro x hx
    have m1 : x.1 ∈ ns := by rw [e]; exact List.mem_flatMap.mpr ⟨x, hx, by simp⟩
    have m2 : x.2 ∈ ns := by rw [e]; exact List.mem_flatMap.mpr ⟨x, hx, by simp⟩
    exact ⟨((keyed_iff _).mp (List.all_eq_true.mp hk _ m1)).2.2, ((keyed_iff _).mp (List.all_eq_true.mp hk _ m2)).2.2⟩
  conv => lhs; rw [e]
  unfold natPairs
  rw [List.flatMap_map]
  generalize pairsOf ns = l at hall
  clear e
  induction l with
  | nil => rfl
  | cons x l ih =>
    rw [List.flatMap_cons, List.flatMap_cons, ih (fun y hy => hall y (by simp [hy])), (hall x (by simp)).1, (hall x (by simp)).2]
theorem natPairs_len {ns : List Int} (h : ns.length % 2 = 0) : 2 * (natPairs ns).length = ns.length := by
  have e := congrArg List.length (pairsOf_flat ns h)
  have e2 : ∀ l : List (Int × Int), (l.flatMap fun x => [x.1, x.2]).length = 2 * l.length := by
    intro l
    induction l with
    | nil => rfl
    | cons x l ih =>
      rw [List.flatMap_cons, List.length_append, ih]
      simp only [List.length_cons, List.length_nil]
      omega
  rw [e2] at e
  unfold natPairs
  rw [List.length_map]
  omega
/-- isPlan's word, in keys -/
theorem right_iff {s : State} (G : Good s) (p : List (Nat × Nat)) (hkey : p.map (fun x => x.1) = keysOf (movedOf s.members s.clients)) :
    rightPlan s p = ((((p.map fun x => x.1).zip (p.map fun x => x.2)).all fun x => (tkOf s.clients x.1).contains x.2) && (p.map fun x => x.2).all fun m => decide ((p.map fun x => x.2).count m ≤ roomOf s.members m)) := by
  unfold rightPlan
  simp only
  have e1 : ((p.map fun x => x.1) == keysOf (movedOf s.members s.clients)) = true := by
    rw [hkey]
    exact beq_self_eq_true _
  rw [e1, Bool.true_and]
  have hin : ∀ c ∈ movedOf s.members s.clients, c ∈ s.clients := fun c hc => (movedOf_sub s.members s.clients).subset hc
  have e2 : ∀ (cs : List Client) (p : List (Nat × Nat)), (∀ c ∈ cs, c ∈ s.clients) → p.map (fun x => x.1) = keysOf cs →
      ((cs.zip p).all fun x => x.1.takers.contains x.2.2) = (((p.map fun x => x.1).zip (p.map fun x => x.2)).all fun x => (tkOf s.clients x.1).contains x.2) := by
    intro cs
    induction cs with
    | nil =>
      intro p _ h
      cases p with
      | nil => rfl
      | cons x p => cases h
    | cons c cs ih =>
      intro p hc h
      cases p with
      | nil => cases h
      | cons x p =>
        have h1 : x.1 = c.key := (List.cons.inj h).1
        have h2 := (List.cons.inj h).2
        have := ih p (fun d hd => hc d (by simp [hd])) h2
        simp only [List.zip_cons_cons, List.map_cons, List.all_cons]
        rw [this, h1, G.env.tks c (hc c (by simp))]
  rw [e2 _ p hin hkey]
  have htak : ∀ m, takenAt p m = (p.map fun x => x.2).count m := by
    intro m
    rw [takenAt_eq]
    unfold List.count
    rw [List.countP_map]
    rfl
  cases hall : ((p.map fun x => x.1).zip (p.map fun x => x.2)).all fun x => (tkOf s.clients x.1).contains x.2 with
  | false => rfl
  | true =>
    rw [Bool.true_and, Bool.true_and]
    have hms : ∀ m ∈ p.map (fun x => x.2), m ∈ s.members.map fun m => m.key := by
      intro m hm
      obtain ⟨x, hx, rfl⟩ := List.mem_map.mp hm
      have hz : (x.1, x.2) ∈ (p.map fun x => x.1).zip (p.map fun x => x.2) := by
        rw [List.zip_map', List.mem_map]
        exact ⟨x, hx, rfl⟩
      have := List.all_eq_true.mp hall _ hz
      exact tkOf_in G x.1 x.2 (by simpa using this)
    have hroom : ∀ m ∈ s.members, roomOf s.members m.key = m.room := by
      intro m hm
      unfold roomOf
      cases hf : s.members.find? fun x => x.key == m.key with
      | none => exact absurd hm (fun hm => by simpa using List.find?_eq_none.mp hf m hm)
      | some y =>
        have h1 := List.mem_of_find?_eq_some hf
        have h2 : y.key = m.key := by simpa using List.find?_some hf
        have : y = m := by
          have nd := G.mnd
          obtain ⟨i, hi, ei⟩ := List.mem_iff_getElem.mp h1
          obtain ⟨j, hj, ej⟩ := List.mem_iff_getElem.mp hm
          have h3 : (s.members.map fun m => m.key)[i]'(by simpa using hi) = (s.members.map fun m => m.key)[j]'(by simpa using hj) := by
            rw [List.getElem_map, List.getElem_map, ei, ej, h2]
          have h4 := (List.getElem_inj nd).mp h3
          subst h4
          rw [← ei, ← ej]
        rw [this]
    rw [Bool.eq_iff_iff, List.all_eq_true, List.all_eq_true]
    constructor
    · intro h m hm
      obtain ⟨y, hy, e⟩ := List.mem_map.mp (hms m hm)
      have := h y hy
      rw [decide_eq_true_eq, htak, ← hroom y hy, e] at this
      exact decide_eq_true this
    · intro h m hm
      rw [decide_eq_true_eq, htak, ← hroom m hm]
      by_cases hk : m.key ∈ p.map fun x => x.2
      · exact of_decide_eq_true (h _ hk)
      · rw [List.count_eq_zero.mpr hk]
        omega
theorem right_no {s : State} (p : List (Nat × Nat)) (hkey : p.map (fun x => x.1) ≠ keysOf (movedOf s.members s.clients)) : rightPlan s p = false := by
  unfold rightPlan
  simp only
  have e1 : ((p.map fun x => x.1) == keysOf (movedOf s.members s.clients)) = false := beq_eq_false_iff_ne.mpr hkey
  rw [e1, Bool.false_and]
end CM

end

section
namespace CW
open PySem PySem.Spec PyProof.Rows L2
section
variable {X : Cx}
/-- a constant of the module's top -/
theorem pe_const {x : Str} {v : V} {pos : Pos} (hg : Gl X x) (h : ∃ u, X.mg x = some u ∧ RelV v u) (hd : (x == ("__debug__" : Str)) = false := by decide) : PE X (.Name x pos) (tC v) := by
  obtain ⟨u, a, b⟩ := h
  exact pe_glob hg a b hd
theorem first_sub (val : Nat → Int) : ∀ i, (firstMet val i).Sublist ((List.range i).map val)
  | 0 => List.Sublist.slnil
  | i + 1 => by
    rw [firstMet_succ, List.range_succ, List.map_append]
    have ih := first_sub val i
    unfold step_dedup
    split
    · exact ih.trans (List.sublist_append_left _ _)
    · exact ih.append (List.Sublist.refl _)
theorem first_nd (val : Nat → Int) : ∀ i, (firstMet val i).Nodup
  | 0 => List.nodup_nil
  | i + 1 => by
    have ih := first_nd val i
    rw [firstMet_succ]
    unfold step_dedup
    split
    · exact ih
    · rename_i h
      refine List.nodup_append.mpr ⟨ih, by simp, fun a ha b hb e => ?_⟩
      have hb' := List.mem_singleton.mp hb
      subst e
      apply h
      rw [List.any_eq_true]
      exact ⟨a, ha, by rw [hb']; exact beq_self_eq_true _⟩
theorem range_get (ns : List Int) : (List.range ns.length).map (fun i => ns.getD i 0) = ns := by
  apply List.ext_getElem
  · simp
  · intro i h1 h2
    simp [List.getElem?_eq_getElem h2]
theorem first_len (ns : List Int) : (firstMet (fun i => ns.getD i 0) ns.length).length < ns.length ↔ ¬ ns.Nodup := by
  have hs := first_sub (fun i => ns.getD i 0) ns.length
  rw [range_get] at hs
  have hle := hs.length_le
  constructor
  · intro h hn
    have e := RZ.firstMet_nodup hn ns.length (Nat.le_refl _)
    rw [e, List.take_length] at h
    omega
  · intro h
    by_cases e : (firstMet (fun i => ns.getD i 0) ns.length).length = ns.length
    · exact absurd (hs.eq_of_length e ▸ first_nd _ _) h
    · omega
/-- len(set(xs)) of whole numbers: below the length just where one stands twice -/
def tLenSetG (K : PySem.W.Frag) (ta : TE) : TE := fun σ H Q => ta σ H fun x H1 => ∃ (l : Addr) (ns : List Int), x = .ref l ∧ SqL K H1 l (ns.map V.int) ∧ ns.length ≤ 4000 ∧
  ∀ n : Nat, (n < ns.length ↔ ¬ ns.Nodup) → Q (.int n) H1
theorem pe_lenSetG {a : Expr} {ta : TE} {p p2 q pos : Pos} (hg : Gl X "len") (hm : X.mg "len" = none) (hg2 : Gl X "set") (hm2 : X.mg "set" = none) (ha : PE X a ta) (hc : X.calm = true := by rfl) (na : starEach [a] X.env = (false, eval a X.env) :: starEach [] X.env := by rfl) :
    PE X (.Call (.Name "len" p) [.Call (.Name "set" p2) [a] [] q] [] pos) (tLenSetG X.K ta) := by
  constructor
  intro pins s σ H Q I h
  refine Call_ ?_
  refine ld_blt I hg hm boot_len ?_
  refine PyProof.Rows.callWith_builtin1 (args_cons ?_ rfl) rfl rfl
  refine Call_ ?_
  refine ld_blt I hg2 hm2 boot_set ?_
  refine PyProof.Rows.callWith_type1 (args_cons ?_ na) na rfl
  refine thn (ha.run pins s σ H _ I h) ?_
  rintro v s1 ⟨x, H1, I1, r1, l, ns, rfl, hq, hl, q1⟩
  refine args_nil ?_
  cases r1
  obtain ⟨its, r, pl, hz⟩ := I1.list hq
  have len1 : its.toArray.size = ns.length := by
    have := r.length
    simp only [List.length_map] at this
    simp [this]
  have hints : IntsAre its.toArray.toList ns := by simpa using RZ.intsAre_vals r
  have small : its.toArray.size + 1 < scanBound := by
    rw [len1]
    unfold scanBound
    omega
  refine call_set_list (I1.ok.hd hc) pl.isList hints small ?_
  intro h' tk hS hk
  refine args_nil ?_
  rw [len1] at hS
  have q2 := q1 _ (first_len ns)
  have q3 := firstMet_length_le (fun i => ns.getD i 0) ns.length
  generalize firstMet (fun i => ns.getD i 0) ns.length = ms at hS q2 q3
  obtain ⟨o, es, ep, t, ho, hex, hd, _, _, _, hf, hn⟩ := hS
  have I2 : Inv X pins σ H1 { s1 with heap := h', toks := tk } := I1.kept fun b ob e => hk b ob (Heap.lt_size e) e
  refine call_len_set ho hex hd hf ?_ ⟨.int ms.length, H1, I2.tok _, ⟨_, by rw [hn]⟩, q2⟩
  rw [hn]
  omega
end
end CW

end

section
namespace CW
open PySem PySem.Spec PyProof.Rows L2
section
variable {K : PySem.W.Frag}
theorem wipe_one (σ : L2.St) (i : Nat) (x : V) : wipe ((wipe σ [i]).set i (some x)) [i] = wipe σ [i] := by
  show ((σ.set i none).set i (some x)).set i none = σ.set i none
  rw [List.set_set, List.set_set]
theorem same_upd {H : Hp} {p : Addr} {o : HO} (h : H p = none) : Same H (upd H p o) := fun b x e => by
  rw [upd_ne (ne_of_none e h)]
  exact e
theorem take_fm {xs : List V} {p : V → Bool} {f : V → V} {i : Nat} {x : V} (h : xs[i]? = some x) :
    ((xs.take (i + 1)).filter p).map f = ((xs.take i).filter p).map f ++ (if p x = true then [f x] else []) := by
  rw [List.take_add_one, h, List.filter_append, List.map_append]
  congr 1
  show (List.filter p [x]).map f = _
  rw [List.filter_cons, List.filter_nil]
  split <;> rfl
/-! ### a reading's first part in view -/
theorem go_yes {σ : L2.St} {H : Hp} {Q : Bool → Hp → Prop} (h : Q true H) : tYes σ H Q := h
theorem go_seq {t u : TS} {D : Ends} {σ : L2.St} {H : Hp} (h : t { D with nx := u D } σ H) : tSeq t u D σ H := h
theorem go_drop {te : TE} {D : Ends} {σ : L2.St} {H : Hp} (h : te σ H fun _ H1 => D.nx σ H1) : tDrop te D σ H := h
theorem go_asg {te : TE} {g : TG} {D : Ends} {σ : L2.St} {H : Hp} (h : te σ H fun x H1 => g x σ H1 D.nx) : tAsg te g D σ H := h
theorem go_ret {te : TE} {D : Ends} {σ : L2.St} {H : Hp} (h : te σ H D.rt) : tRet te D σ H := h
theorem go_if {c : TT} {t u : TS} {D : Ends} {σ : L2.St} {H : Hp} (h : c σ H fun b H1 => if b = true then t D σ H1 else u D σ H1) : tIfS c t u D σ H := h
theorem go_test {t : TE} {σ : L2.St} {H : Hp} {Q : Bool → Hp → Prop} (h : t σ H fun x H' => ∃ k, x = .bl k ∧ Q k H') : tTest t σ H Q := h
theorem go_tb {t : TE} {σ : L2.St} {H : Hp} {Q : Bool → Hp → Prop} (h : t σ H fun x H1 => ∃ c, x = .bl c ∧ Q c H1) : tB t σ H Q := h
theorem go_and {t u : TT} {σ : L2.St} {H : Hp} {Q : Bool → Hp → Prop} (h : t σ H fun c H1 => if c = true then u σ H1 Q else Q false H1) : tAnd t u σ H Q := h
theorem go_or {t u : TT} {σ : L2.St} {H : Hp} {Q : Bool → Hp → Prop} (h : t σ H fun c H1 => if c = true then Q true H1 else u σ H1 Q) : tOr t u σ H Q := h
theorem go_not {t : TT} {σ : L2.St} {H : Hp} {Q : Bool → Hp → Prop} (h : t σ H fun c H1 => Q (!c) H1) : tNot t σ H Q := h
theorem go_pop1 {td ty : TE} {σ : L2.St} {H : Hp} {Q : VK} (h : td σ H fun x H1 => ∃ a, x = .ref a ∧ IsD H1 a ∧ ty σ H1 fun y H2 => ∃ kvs k v, H2 a = some (.dK kvs) ∧ y = kV k ∧ valV kvs k = some v ∧ Q v (upd H2 a (.dK (dropK kvs k)))) : tDPop1 td ty σ H Q := h
theorem go_dget {td ty : TE} {σ : L2.St} {H : Hp} {Q : VK} (h : td σ H fun x H1 => ty σ H1 fun y H2 => ∃ a v, x = .ref a ∧ DGet H2 a y (some v) ∧ Q v H2) : tDGet td ty σ H Q := h
theorem go_op {r : R2} {ta tb : TE} {σ : L2.St} {H : Hp} {Q : VK} (h : ta σ H fun x H1 => tb σ H1 fun y H2 => r x y H2 Q) : tOp r ta tb σ H Q := h
theorem go_cons {ta : TE} {tr : TA} {σ : L2.St} {H : Hp} {Q : List V → Hp → Prop} (h : ta σ H fun x H1 => tr σ H1 fun xs H2 => Q (x :: xs) H2) : tCons ta tr σ H Q := h
theorem go_lst {t : TA} {σ : L2.St} {H : Hp} {Q : VK} (h : t σ H fun xs H1 => xs.length ≤ sizeLine ∧ ∀ p, H1 p = none → Q (.ref p) (upd H1 p (.lst xs))) : tLst t σ H Q := h
theorem go_tup {t : TA} {σ : L2.St} {H : Hp} {Q : VK} (h : t σ H fun xs H1 => xs.length ≤ sizeLine ∧ ∀ p, H1 p = none → Q (.ref p) (upd H1 p (.tup xs))) : tTup t σ H Q := h
theorem go_cb {r : List V → Hp → VK → Prop} {t : TA} {σ : L2.St} {H : Hp} {Q : VK} (h : t σ H fun vs H1 => r vs H1 Q) : tCB r t σ H Q := h
theorem go_daug {td ty tv : TE} {rd : V → V → Hp → VK → Prop} {D : Ends} {σ : L2.St} {H : Hp} (h : td σ H fun x H1 => ty σ H1 fun y H2 => ∃ a v, x = .ref a ∧ DGet H2 a y (some v) ∧ tv σ H2 fun y2 H3 => rd v y2 H3 fun z H4 => ∃ H5, DPut H4 a y z H5 ∧ D.nx σ H5) : sDAug td ty tv rd D σ H := h
theorem go_call {sp : Sp} {dvs : List V} {E : XK} {t : TA} {σ : L2.St} {H : Hp} {Q : VK} (h : t σ H fun vs H1 => sp (vs ++ dvs) H1 Q E) : tCall sp dvs E t σ H Q := h
/-- [f(x) for x in xs if p(x)] over a list, where neither changes anything -/
theorem lc_pure {a D : Addr} {xs : List V} {i : Nat} {σ : L2.St} {H1 : Hp} {tt : TT} {te : TE} {Q : Hp → Prop} (p : V → Bool) (f : V → V) (hD : H1 D = none) (hs : SqL K H1 a xs) (hl : xs.length < sizeLine)
    (ht : ∀ x ∈ xs, ∀ (H' : Hp) (Q' : Bool → Hp → Prop), Same H1 H' → Q' (p x) H' → tt ((wipe σ [i]).set i (some x)) H' Q')
    (he : ∀ x ∈ xs, ∀ (H' : Hp) (Q' : VK), Same H1 H' → Q' (f x) H' → te ((wipe σ [i]).set i (some x)) H' Q')
    (hq : Q (upd H1 D (.lst ((xs.filter p).map f)))) :
    ∃ W : Nat → Nat → Hp → Prop, (∃ m, W 0 m (upd H1 D (.lst []))) ∧ ∀ j m H, W j m H →
      ((Itl K a).stop j H ∧ Q H) ∨ ((Itl K a).go j H ∧ ∃ Nx : Hp → Prop, (∀ H', Nx H' → ∃ m', m' < m ∧ W (j + 1) m' H') ∧ ∀ x H', (Itl K a).yld j H x H' → gName i x (wipe σ [i]) H' fun σ2 H2 => wipe σ2 [i] = wipe σ [i] ∧ tt σ2 H2 fun b H3 =>
        if b = true then te σ2 H3 fun y H4 => ∃ acc, H4 D = some (.lst acc) ∧ acc.length < sizeLine ∧ Nx (upd H4 D (.lst (acc ++ [y]))) else Nx H3) := by
  refine lc_list (K := K) (a := a) (xs := xs) (fun j H' => H' = upd H1 D (.lst (((xs.take j).filter p).map f))) rfl (fun j H' _ e => ?_) (fun j x H' hx e => ?_) (fun H' e => ?_)
  · rw [e]
    exact (same_upd hD).seq hs
  · subst e
    have sm : Same H1 (upd H1 D (.lst (((xs.take j).filter p).map f))) := same_upd hD
    have hm : x ∈ xs := List.mem_of_getElem? hx
    refine ⟨wipe_one σ i x, ht x hm _ _ sm ?_⟩
    have e1 := take_fm (p := p) (f := f) hx
    cases hp : p x with
    | true =>
      rw [if_pos rfl]
      refine he x hm _ _ sm ⟨_, upd_same, ?_, ?_⟩
      · rw [List.length_map]
        have h1 : ((xs.take j).filter p).length ≤ xs.length := Nat.le_trans (List.length_filter_le _ _) (List.length_take_le' _ _)
        exact Nat.lt_of_le_of_lt h1 hl
      · rw [upd_upd, e1, hp]
        rfl
    | false =>
      rw [if_neg Bool.false_ne_true, e1, hp]
      simp
  · subst e
    rw [List.take_length]
    exact hq
/-- .. with no if -/
theorem lc_pure1 {a D : Addr} {xs : List V} {i : Nat} {σ : L2.St} {H1 : Hp} {te : TE} {Q : Hp → Prop} (f : V → V) (hD : H1 D = none) (hs : SqL K H1 a xs) (hl : xs.length < sizeLine)
    (he : ∀ x ∈ xs, ∀ (H' : Hp) (Q' : VK), Same H1 H' → Q' (f x) H' → te ((wipe σ [i]).set i (some x)) H' Q')
    (hq : Q (upd H1 D (.lst (xs.map f)))) :
    ∃ W : Nat → Nat → Hp → Prop, (∃ m, W 0 m (upd H1 D (.lst []))) ∧ ∀ j m H, W j m H →
      ((Itl K a).stop j H ∧ Q H) ∨ ((Itl K a).go j H ∧ ∃ Nx : Hp → Prop, (∀ H', Nx H' → ∃ m', m' < m ∧ W (j + 1) m' H') ∧ ∀ x H', (Itl K a).yld j H x H' → gName i x (wipe σ [i]) H' fun σ2 H2 => wipe σ2 [i] = wipe σ [i] ∧ tYes σ2 H2 fun b H3 =>
        if b = true then te σ2 H3 fun y H4 => ∃ acc, H4 D = some (.lst acc) ∧ acc.length < sizeLine ∧ Nx (upd H4 D (.lst (acc ++ [y]))) else Nx H3) := by
  refine lc_pure (fun _ => true) f hD hs hl (fun x _ H' Q' _ q => q) he ?_
  have : xs.filter (fun _ => true) = xs := List.filter_eq_self.mpr (fun _ _ => rfl)
  rw [this]
  exact hq
/-- a dict's keys -/
def keysV (kvs : List (Key × V)) : List V := kvs.map fun kv => kV kv.1
theorem keysV_get {kvs : List (Key × V)} {i : Nat} {k : Key} {v : V} (h : kvs[i]? = some (k, v)) : (keysV kvs)[i]? = some (kV k) := by
  unfold keysV
  rw [List.getElem?_map, h]
  rfl
/-- [f(k) for k in d if p(k)] over a dict, where neither changes anything -/
theorem lk_pure {td : TE} {tt : TT} {te : TE} {i : Nat} {σ : L2.St} {H : Hp} {Q : VK} (d : Addr) (kvs : List (Key × V)) (p : V → Bool) (f : V → V) (hd : H d = some (.dK kvs)) (hl : kvs.length < sizeLine)
    (htd : ∀ (H' : Hp) (Q' : VK), (∀ b, b ≠ d → H' b = H b) → Q' (.ref d) H' → td σ H' Q')
    (ht : ∀ x ∈ keysV kvs, ∀ (H' : Hp) (Q' : Bool → Hp → Prop), (∀ b o, b ≠ d → H b = some o → H' b = some o) → (∃ od, H' d = some (.frz od (.dK kvs))) → Q' (p x) H' → tt ((wipe σ [i]).set i (some x)) H' Q')
    (he : ∀ x ∈ keysV kvs, ∀ (H' : Hp) (Q' : VK), (∀ b o, b ≠ d → H b = some o → H' b = some o) → (∃ od, H' d = some (.frz od (.dK kvs))) → Q' (f x) H' → te ((wipe σ [i]).set i (some x)) H' Q')
    (hq : ∀ D, H D = none → Q (.ref D) (upd H D (.lst (((keysV kvs).filter p).map f)))) : tLockE (tLc (iKeys td) (gName i) tt te [i]) σ H Q := by
  refine ⟨d, .dK kvs, hd, trivial, fun od => ?_⟩
  refine htd _ _ (fun b hb => upd_ne hb) ?_
  refine ⟨d, od, rfl, .inl ⟨kvs, upd_same, fun D hD => ?_⟩⟩
  have hDd : D ≠ d := fun e => by rw [e, upd_same] at hD; cases hD
  have hD0 : H D = none := by rwa [upd_ne hDd] at hD
  refine ⟨fun j m H' => m = kvs.length - j ∧ j ≤ kvs.length ∧ H' = upd (upd H d (.frz od (.dK kvs))) D (.lst ((((keysV kvs).take j).filter p).map f)), ⟨_, rfl, Nat.zero_le _, rfl⟩, ?_⟩
  rintro j m H' ⟨rfl, hj, rfl⟩
  have hfz : (upd (upd H d (.frz od (.dK kvs))) D (.lst ((((keysV kvs).take j).filter p).map f))) d = some (.frz od (.dK kvs)) := by
    rw [upd_ne hDd.symm, upd_same]
  by_cases hlt : j < kvs.length
  · refine .inr ⟨⟨hfz, hlt⟩, fun H2 => H2 = upd (upd H d (.frz od (.dK kvs))) D (.lst ((((keysV kvs).take (j + 1)).filter p).map f)), fun H2 e => ⟨kvs.length - (j + 1), by omega, rfl, hlt, e⟩, ?_⟩
    rintro x H2 ⟨rfl, k, v, hk, rfl⟩
    have hx := keysV_get hk
    have hm : kV k ∈ keysV kvs := List.mem_of_getElem? hx
    have fr : ∀ b o, b ≠ d → H b = some o → (upd (upd H d (.frz od (.dK kvs))) D (.lst ((((keysV kvs).take j).filter p).map f))) b = some o := fun b o hb e => by
      rw [upd_ne (ne_of_none e hD0), upd_ne hb]
      exact e
    refine ⟨wipe_one σ i _, ht _ hm _ _ fr ⟨od, hfz⟩ ?_⟩
    have e1 := take_fm (p := p) (f := f) hx
    cases hp : p (kV k) with
    | true =>
      rw [if_pos rfl]
      refine he _ hm _ _ fr ⟨od, hfz⟩ ⟨_, upd_same, ?_, ?_⟩
      · rw [List.length_map]
        have h1 : (((keysV kvs).take j).filter p).length ≤ (keysV kvs).length := Nat.le_trans (List.length_filter_le _ _) (List.length_take_le' _ _)
        have h2 : (keysV kvs).length = kvs.length := by simp [keysV]
        omega
      · rw [upd_upd, e1, hp]
        rfl
    | false =>
      rw [if_neg Bool.false_ne_true, e1, hp]
      simp
  · have ej : j = kvs.length := by omega
    subst ej
    refine .inl ⟨⟨hfz, Nat.le_refl _⟩, hfz, ?_⟩
    have e2 : (keysV kvs).take kvs.length = keysV kvs := List.take_of_length_le (by simp [keysV])
    rw [e2]
    have e3 : upd (upd (upd H d (.frz od (.dK kvs))) D (.lst (((keysV kvs).filter p).map f))) d (.dK kvs) = upd H D (.lst (((keysV kvs).filter p).map f)) := by
      funext b
      by_cases hb : b = d
      · subst hb
        rw [upd_same, upd_ne hDd.symm, hd]
      · rw [upd_ne hb]
        by_cases hb2 : b = D
        · subst hb2
          rw [upd_same, upd_same]
        · rw [upd_ne hb2, upd_ne hb2, upd_ne hb]
    rw [e3]
    exact hq D hD0
/-- for k in d: under a lock; the turns go by a word of one's own -/
theorem for_keys {d : Addr} {od : Obj} {kvs : List (Key × V)} {g : TG} {tb : TS} {D : Ends} {σ0 : L2.St} {H0 : Hp} (Pv : Nat → L2.St → Hp → Prop) (h0 : Pv 0 σ0 H0)
    (hl : ∀ i σ H, i ≤ kvs.length → Pv i σ H → H d = some (.frz od (.dK kvs)))
    (hs : ∀ i k v σ H, kvs[i]? = some (k, v) → Pv i σ H → g (kV k) σ H fun σ2 H2 => tb { D with nx := Pv (i + 1), ct := Pv (i + 1), bk := D.nx } σ2 H2)
    (hd : ∀ σ H, Pv kvs.length σ H → D.nx σ H) :
    ∃ Wd : Nat → Nat → L2.St → Hp → Prop, (∃ n, Wd 0 n σ0 H0) ∧ ∀ i n σ H, Wd i n σ H →
      ((Itk d od kvs).stop i H ∧ D.nx σ H) ∨ ((Itk d od kvs).go i H ∧ ∃ Nx : L2.St → Hp → Prop, (∀ σ' H', Nx σ' H' → ∃ n', n' < n ∧ Wd (i + 1) n' σ' H') ∧ ∀ y H', (Itk d od kvs).yld i H y H' → g y σ H' fun σ2 H2 => tb { D with nx := Nx, ct := Nx, bk := D.nx } σ2 H2) := by
  refine ⟨fun i n σ H => n = kvs.length - i ∧ i ≤ kvs.length ∧ Pv i σ H, ⟨_, rfl, Nat.zero_le _, h0⟩, fun i n σ H hw => ?_⟩
  obtain ⟨rfl, hi, pv⟩ := hw
  have hz := hl i σ H hi pv
  by_cases c : i < kvs.length
  · refine .inr ⟨⟨hz, c⟩, Pv (i + 1), fun σ' H' q => ⟨kvs.length - (i + 1), by omega, rfl, c, q⟩, ?_⟩
    rintro y H' ⟨rfl, k, v, hk, rfl⟩
    exact hs i k v σ _ hk pv
  · have e : i = kvs.length := by omega
    subst e
    exact .inl ⟨⟨hz, Nat.le_refl _⟩, hd σ H pv⟩
end
end CW

end

section
namespace CW
open PySem PySem.Spec PyProof.Rows L2
/-! ### slices with a step of two -/
def picks {α : Type} (r : List Nat) (xs : List α) : List α := r.filterMap fun i => xs[i]?
theorem vals_picks {xs : List V} {us : List Value} (h : Vals xs us) : ∀ r : List Nat, Vals (picks r xs) (picks r us)
  | [] => .nil
  | i :: r => by
    have ih := vals_picks h r
    unfold picks at ih ⊢
    rw [List.filterMap_cons, List.filterMap_cons]
    cases e : xs[i]? with
    | none =>
      rw [h.none_of e]
      exact ih
    | some x =>
      obtain ⟨u, eu, ru⟩ := h.get e
      rw [eu]
      exact .cons ru ih
def steps (c : Int) (n : Nat) : List Nat := sliceRange (sliceBounds (some c) none (some 2) n).1 (sliceBounds (some c) none (some 2) n).2.1 (sliceBounds (some c) none (some 2) n).2.2
theorem steps_eq (c : Nat) (m : Nat) (hc : c = 0 ∨ c = 1) : steps c (2 * m) = (List.range m).map fun k => c + 2 * k := by
  unfold steps sliceBounds sliceRange
  simp only [Option.getD_some]
  have h2 : (2 : Int) > 0 := by decide
  rw [if_pos h2, if_pos h2, if_pos h2]
  have e0 : ¬ ((c : Int) < 0) := by omega
  rw [if_neg e0]
  by_cases hm : m = 0
  · subst hm
    rcases hc with rfl | rfl <;> first | (simp; done) | (simp; decide)
  · have e1 : max (0 : Int) (min (c : Int) ((2 * m : Nat) : Int)) = (c : Int) := by omega
    rw [e1]
    have e2 : (c : Int) < ((2 * m : Nat) : Int) := by omega
    rw [if_pos e2]
    have e3 : (((2 * m : Nat) : Int) - c + 2 - 1) / 2 = (m : Int) := by omega
    rw [e3, Int.toNat_natCast]
    apply List.map_congr_left
    intro k _
    omega
theorem picks_two {α β : Type} (f g : β → α) (ps : List β) : picks ((List.range ps.length).map fun k => 0 + 2 * k) (ps.flatMap fun x => [f x, g x]) = ps.map f ∧ picks ((List.range ps.length).map fun k => 1 + 2 * k) (ps.flatMap fun x => [f x, g x]) = ps.map g := by
  have key : ∀ (ps : List β) (k : Nat), (ps.flatMap fun x => [f x, g x])[0 + 2 * k]? = (ps[k]?).map f ∧ (ps.flatMap fun x => [f x, g x])[1 + 2 * k]? = (ps[k]?).map g := by
    intro ps
    induction ps with
    | nil => intro k; simp
    | cons x ps ih =>
      intro k
      rw [List.flatMap_cons]
      cases k with
      | zero => exact ⟨rfl, rfl⟩
      | succ k =>
        obtain ⟨h1, h2⟩ := ih k
        rw [show 0 + 2 * (k + 1) = (0 + 2 * k) + 2 by omega, show 1 + 2 * (k + 1) = (1 + 2 * k) + 2 by omega]
        exact ⟨h1, h2⟩
  have all : ∀ (h : β → α) (c : Nat), (∀ k, (ps.flatMap fun x => [f x, g x])[c + 2 * k]? = (ps[k]?).map h) → picks ((List.range ps.length).map fun k => c + 2 * k) (ps.flatMap fun x => [f x, g x]) = ps.map h := by
    intro h c hk
    unfold picks
    rw [List.filterMap_map]
    have e : (fun i => (ps.flatMap fun x => [f x, g x])[i]?) ∘ (fun k => c + 2 * k) = fun k => (ps[k]?).map h := funext fun k => hk k
    rw [e]
    have e2 : ∀ l : List β, (List.range l.length).filterMap (fun k => (l[k]?).map h) = l.map h := by
      intro l
      induction l with
      | nil => rfl
      | cons y l ih =>
        rw [List.length_cons, List.range_succ_eq_map, List.filterMap_cons]
        show h y :: ((List.range l.length).map Nat.succ).filterMap (fun k => ((y :: l)[k]?).map h) = h y :: l.map h
        rw [List.filterMap_map]
        congr 1
    exact e2 ps
  exact ⟨all f 0 fun k => (key ps k).1, all g 1 fun k => (key ps k).2⟩
def tStep (K : PySem.W.Frag) (c : Int) (te : TE) : TE := fun σ H Q => te σ H fun x H1 => ∃ a xs, x = .ref a ∧ SqL K H1 a xs ∧ ∀ p, H1 p = none → Q (.ref p) (upd H1 p (.lst (picks (steps c xs.length) xs)))
theorem picks_le {α : Type} (r : List Nat) (xs : List α) : (picks r xs).length ≤ r.length := List.length_filterMap_le _ _
theorem steps_le (c : Int) (n : Nat) (h : 0 ≤ c) : (steps c n).length ≤ n := by
  unfold steps
  refine sliceRange_length_le _ _ _ _ (fun _ => ?_) (fun z => absurd (show (2 : Int) > 0 by decide) z)
  unfold sliceBounds
  simp only [Option.getD_some]
  rw [if_pos (show (2 : Int) > 0 by decide), if_pos (show (2 : Int) > 0 by decide)]
  omega
section
variable {X : Cx}
theorem pe_step {e : Expr} {te : TE} {c : Int} {k k2 : Nat} {p1 p2 p3 pos : Pos} (h0 : 0 ≤ c) (he : PE X e te) : PE X (.Subscript e (.Slice (some (.Constant (.int c) k p1)) none (some (.Constant (.int 2) k2 p2)) p3) pos) (tStep X.K c te) := by
  refine ⟨fun pins s σ H Q I h => ?_⟩
  refine Subscript_ (thn (he.run pins s σ H _ I h) fun v s1 ⟨x, H1, I1, r1, q1⟩ => ?_)
  obtain ⟨a, xs, ex, hx, q⟩ := q1
  subst ex
  cases r1
  have hlo : PO X (some (.Constant (.int c) k p1)) (tPart (tC (.int c))) := po_some pe_int
  have hst : PO X (some (.Constant (.int 2) k2 p2)) (tPart (tC (.int 2))) := po_some pe_int
  refine wpAny_Slice (thn (hlo.run pins s1 σ H1 (fun o H2 => o = some c ∧ H2 = H1) I1 ⟨c, rfl, rfl, rfl⟩) fun vl s2 ⟨l, H2, I2, pl, el, e2⟩ => ?_)
  subst el e2
  refine thn (po_none.run pins s2 σ H2 (fun o H3 => o = none ∧ H3 = H2) I2 ⟨rfl, rfl⟩) fun vu s3 ⟨u, H3, I3, pu, eu, e3⟩ => ?_
  subst eu e3
  refine thn (hst.run pins s3 σ H3 (fun o H4 => o = some 2 ∧ H4 = H3) I3 ⟨2, rfl, rfl, rfl⟩) fun vs s4 ⟨o, H4, I4, ps, eo, e4⟩ => ?_
  subst eo e4
  have I5 : Inv X pins σ H4 { s4 with heap := s4.heap.push { cls := .type "slice", data := .fields #[vl, vu, vs] } } := I4.kept (t' := s4.toks) fun b ob q => Heap.get?_push_of_some _ q
  obtain ⟨its, r, ht, hz⟩ := I5.list hx
  have hlen := r.length
  show wpAny (model X.prog X.w) X.A (subscriptTail e (.Slice (some (.Constant (.int c) k p1)) none (some (.Constant (.int 2) k2 p2)) p3) (.ref a) (.ref s4.heap.objs.size)) (EP X pins σ Q) X.xe { s4 with heap := s4.heap.push { cls := .type "slice", data := .fields #[vl, vu, vs] } }
  refine tail_any (ops := [.ref a, .ref s4.heap.objs.size]) ht.isList.typeIs (PySem.slot_list_getitem.lookup) ?_ (by with_unfolding_all rfl)
  refine wpAny_getItem_list_slice ht.isList (Heap.IsSliceOf.new _ vl vu vs) pl pu ps (by decide) ?_ (by rw [List.size_toArray]; omega)
  have epk : slicePick its.toArray (some c) none (some 2) = (picks (steps c xs.length) its).toArray := by
    have e0 : (fun i : Nat => its.toArray[i]?) = fun i => its[i]? := by
      funext i
      simp
    unfold slicePick picks steps
    rw [List.size_toArray, hlen, e0]
  rw [epk]
  refine ⟨.ref _, _, I5.laid (t' := s4.toks) (o := .lst (picks (steps c xs.length) xs)) (fun b ob q => Heap.get?_push_of_some _ q) (Nat.le_refl _) ?_, rfl, q _ (I5.hok.fresh (Nat.le_refl _))⟩
  refine ⟨?_, _, 0, vals_picks r _, Heap.get?_push_size _ rfl⟩
  have h1 := picks_le (steps c xs.length) xs
  have h2 := steps_le c xs.length h0
  omega
/-! ### for k in d, where d is locked from here on for good (a dict that nothing changes any more) -/
def iKeysL (td : TE) : TI := fun σ H R => td σ H fun x H1 => ∃ d kvs, x = .ref d ∧ H1 d = some (.dK kvs) ∧ ∀ od, R (Itk d od kvs) (upd H1 d (.frz od (.dK kvs)))
theorem pi_keysL {tg e : Expr} {td : TE} (he : PE X e td) : PI X tg e (iKeysL td) := by
  refine ⟨fun pins s σ H R I h => ?_⟩
  refine thn (he.run pins s σ H _ I h) fun u s1 ⟨x, H1, I1, rx, d, kvs, ex, hd, q⟩ => ?_
  subst ex
  obtain rfl : u = Value.ref d := rx
  obtain ⟨od, I2⟩ := I1.lock hd trivial
  obtain ⟨hs, hgd, hx, es, ep, vs, hdt, hsz, kv, hm⟩ := I2.frzK upd_same
  refine iter_keys hs hgd hx hdt (pi_one (tk := s1.toks) I2 _ (turn_keys _ hdt) ⟨_, Heap.get?_push_size _ rfl, rfl, ?_⟩ (q od))
  rw [hsz] <;> rfl
end
section
variable {K : PySem.W.Frag}
/-- [f(x) for x in .. if p(x)], where both may make new things -/
theorem lcw_sm {J : It} {n : Nat} {G : Hp → Prop} {Y : Nat → Hp → V → Hp → Prop} {xs : List V} {D : Addr} {i : Nat} {σ : L2.St} {H1 : Hp} {tt : TT} {te : TE} {Q : Hp → Prop} (w : Walk J n G Y) (hY : ∀ i H x H', Y i H x H' → H' = H ∧ xs[i]? = some x) (hn : n = xs.length)
    (hG : ∀ H', Same H1 H' → G H') (p : V → Bool) (f : V → V) (hD : H1 D = none) (hl : xs.length < sizeLine)
    (ht : ∀ x ∈ xs, ∀ (H' : Hp) (Q' : Bool → Hp → Prop), Same H1 H' → (∀ H2, Same H' H2 → Q' (p x) H2) → tt ((wipe σ [i]).set i (some x)) H' Q')
    (he : ∀ x ∈ xs, ∀ (H' : Hp) (Q' : VK), Same H1 H' → (∀ H2, Same H' H2 → Q' (f x) H2) → te ((wipe σ [i]).set i (some x)) H' Q')
    (hq : ∀ H', Same H1 H' → H' D = some (.lst ((xs.filter p).map f)) → Q H') :
    ∃ W : Nat → Nat → Hp → Prop, (∃ m, W 0 m (upd H1 D (.lst []))) ∧ ∀ j m H, W j m H →
      (J.stop j H ∧ Q H) ∨ (J.go j H ∧ ∃ Nx : Hp → Prop, (∀ H', Nx H' → ∃ m', m' < m ∧ W (j + 1) m' H') ∧ ∀ x H', J.yld j H x H' → gName i x (wipe σ [i]) H' fun σ2 H2 => wipe σ2 [i] = wipe σ [i] ∧ tt σ2 H2 fun b H3 =>
        if b = true then te σ2 H3 fun y H4 => ∃ acc, H4 D = some (.lst acc) ∧ acc.length < sizeLine ∧ Nx (upd H4 D (.lst (acc ++ [y]))) else Nx H3) := by
  subst hn
  refine lc_it w (fun j H' => Same H1 H' ∧ H' D = some (.lst (((xs.take j).filter p).map f))) ⟨same_upd hD, upd_same⟩ (fun j H' _ h => hG H' h.1) (fun j x H' H2 hj h y => ?_) (fun H' h => ?_)
  · obtain ⟨e0, hx⟩ := hY _ _ _ _ y
    subst e0
    have hm : x ∈ xs := List.mem_of_getElem? hx
    refine ⟨wipe_one σ i x, ht x hm _ _ h.1 fun H3 s3 => ?_⟩
    have e1 := take_fm (p := p) (f := f) hx
    cases hp : p x with
    | true =>
      rw [if_pos rfl]
      refine he x hm _ _ (h.1.trans s3) fun H4 s4 => ⟨_, s4 _ _ (s3 _ _ h.2), ?_, fun b o e => ?_, ?_⟩
      · rw [List.length_map]
        have h1 : ((xs.take j).filter p).length ≤ xs.length := Nat.le_trans (List.length_filter_le _ _) (List.length_take_le' _ _)
        exact Nat.lt_of_le_of_lt h1 hl
      · rw [upd_ne (ne_of_none e hD)]
        exact s4 _ _ (s3 _ _ (h.1 _ _ e))
      · rw [upd_same, e1, hp]
        rfl
    | false =>
      rw [if_neg Bool.false_ne_true]
      refine ⟨h.1.trans s3, ?_⟩
      rw [e1, hp]
      simpa using s3 _ _ h.2
  · rw [List.take_length] at h
    exact hq H' h.1 h.2
theorem lc_sm {a D : Addr} {xs : List V} {i : Nat} {σ : L2.St} {H1 : Hp} {tt : TT} {te : TE} {Q : Hp → Prop} (p : V → Bool) (f : V → V) (hD : H1 D = none) (hs : SqL K H1 a xs) (hl : xs.length < sizeLine)
    (ht : ∀ x ∈ xs, ∀ (H' : Hp) (Q' : Bool → Hp → Prop), Same H1 H' → (∀ H2, Same H' H2 → Q' (p x) H2) → tt ((wipe σ [i]).set i (some x)) H' Q')
    (he : ∀ x ∈ xs, ∀ (H' : Hp) (Q' : VK), Same H1 H' → (∀ H2, Same H' H2 → Q' (f x) H2) → te ((wipe σ [i]).set i (some x)) H' Q')
    (hq : ∀ H', Same H1 H' → H' D = some (.lst ((xs.filter p).map f)) → Q H') :
    ∃ W : Nat → Nat → Hp → Prop, (∃ m, W 0 m (upd H1 D (.lst []))) ∧ ∀ j m H, W j m H →
      ((Itl K a).stop j H ∧ Q H) ∨ ((Itl K a).go j H ∧ ∃ Nx : Hp → Prop, (∀ H', Nx H' → ∃ m', m' < m ∧ W (j + 1) m' H') ∧ ∀ x H', (Itl K a).yld j H x H' → gName i x (wipe σ [i]) H' fun σ2 H2 => wipe σ2 [i] = wipe σ [i] ∧ tt σ2 H2 fun b H3 =>
        if b = true then te σ2 H3 fun y H4 => ∃ acc, H4 D = some (.lst acc) ∧ acc.length < sizeLine ∧ Nx (upd H4 D (.lst (acc ++ [y]))) else Nx H3) :=
  lcw_sm walk_list (fun _ _ _ _ y => y) rfl (fun H' s => s.seq hs) p f hD hl ht he hq
theorem lck_sm {d D : Addr} {od : Obj} {kvs : List (Key × V)} {i : Nat} {σ : L2.St} {H1 : Hp} {tt : TT} {te : TE} {Q : Hp → Prop} (p : V → Bool) (f : V → V) (hD : H1 D = none) (hd : H1 d = some (.frz od (.dK kvs))) (hl : kvs.length < sizeLine)
    (ht : ∀ x ∈ keysV kvs, ∀ (H' : Hp) (Q' : Bool → Hp → Prop), Same H1 H' → (∀ H2, Same H' H2 → Q' (p x) H2) → tt ((wipe σ [i]).set i (some x)) H' Q')
    (he : ∀ x ∈ keysV kvs, ∀ (H' : Hp) (Q' : VK), Same H1 H' → (∀ H2, Same H' H2 → Q' (f x) H2) → te ((wipe σ [i]).set i (some x)) H' Q')
    (hq : ∀ H', Same H1 H' → H' D = some (.lst (((keysV kvs).filter p).map f)) → Q H') :
    ∃ W : Nat → Nat → Hp → Prop, (∃ m, W 0 m (upd H1 D (.lst []))) ∧ ∀ j m H, W j m H →
      ((Itk d od kvs).stop j H ∧ Q H) ∨ ((Itk d od kvs).go j H ∧ ∃ Nx : Hp → Prop, (∀ H', Nx H' → ∃ m', m' < m ∧ W (j + 1) m' H') ∧ ∀ x H', (Itk d od kvs).yld j H x H' → gName i x (wipe σ [i]) H' fun σ2 H2 => wipe σ2 [i] = wipe σ [i] ∧ tt σ2 H2 fun b H3 =>
        if b = true then te σ2 H3 fun y H4 => ∃ acc, H4 D = some (.lst acc) ∧ acc.length < sizeLine ∧ Nx (upd H4 D (.lst (acc ++ [y]))) else Nx H3) :=
  lcw_sm walk_keys (fun i H x H' y => by
    obtain ⟨e, k, v, hk, ex⟩ := y
    exact ⟨e, by rw [ex]; exact keysV_get hk⟩) (by simp [keysV]) (fun H' s => s _ _ hd) p f hD (by simpa [keysV] using hl) ht he hq
theorem unlock_same {H H' : Hp} {d : Addr} {od : Obj} {u : HO} (h : H d = some u) (s : Same (upd H d (.frz od u)) H') : Same H (upd H' d u) := fun b o e => by
  by_cases hb : b = d
  · subst hb
    rw [upd_same, ← e, h]
  · rw [upd_ne hb]
    refine s b o ?_
    rw [upd_ne hb]
    exact e
end
end CW

end

section
namespace CW
open PySem PySem.Spec PyProof.Rows L2
def topS (i : Nat) : Stmt := PySem.Challenge.pw_clientmoves_s01_answers.main.body.getD i (.Pass ⟨0, 0, 0, 0⟩)
abbrev s_is_key : Stmt := topS 14
abbrev N_is_key : List Str := ["number"]
theorem sc_is_key : FnScope N_is_key ["number"] (defScope s_is_key) := ⟨rfl, rfl, rfl, by decide +kernel, rfl, by decide +kernel, by decide +kernel⟩
abbrev s_is_room : Stmt := topS 15
abbrev N_is_room : List Str := ["number"]
theorem sc_is_room : FnScope N_is_room ["number"] (defScope s_is_room) := ⟨rfl, rfl, rfl, by decide +kernel, rfl, by decide +kernel, by decide +kernel⟩
abbrev s_is_order : Stmt := topS 16
abbrev N_is_order : List Str := ["number"]
theorem sc_is_order : FnScope N_is_order ["number"] (defScope s_is_order) := ⟨rfl, rfl, rfl, by decide +kernel, rfl, by decide +kernel, by decide +kernel⟩
abbrev s_is_list_of_keys : Stmt := topS 17
abbrev N_is_list_of_keys : List Str := ["numbers", "number"]
theorem sc_is_list_of_keys : FnScope N_is_list_of_keys ["numbers"] (defScope s_is_list_of_keys) := ⟨rfl, rfl, rfl, by decide +kernel, rfl, by decide +kernel, by decide +kernel⟩
abbrev s_is_list_of_places : Stmt := topS 18
abbrev N_is_list_of_places : List Str := ["numbers", "number"]
theorem sc_is_list_of_places : FnScope N_is_list_of_places ["numbers"] (defScope s_is_list_of_places) := ⟨rfl, rfl, rfl, by decide +kernel, rfl, by decide +kernel, by decide +kernel⟩
abbrev s_has_one_twice : Stmt := topS 19
abbrev N_has_one_twice : List Str := ["numbers"]
theorem sc_has_one_twice : FnScope N_has_one_twice ["numbers"] (defScope s_has_one_twice) := ⟨rfl, rfl, rfl, by decide +kernel, rfl, by decide +kernel, by decide +kernel⟩
abbrev s_Plan_init : Stmt := inClass (topS 21) 0
abbrev N_Plan_init : List Str := ["self", "rooms", "takers"]
theorem sc_Plan_init : FnScope N_Plan_init ["self", "rooms", "takers"] (defScope s_Plan_init) := ⟨rfl, rfl, rfl, by decide +kernel, rfl, by decide +kernel, by decide +kernel⟩
abbrev s_Plan_give_place : Stmt := inClass (topS 21) 1
abbrev N_Plan_give_place : List Str := ["self", "client", "wanted", "comers", "member"]
theorem sc_Plan_give_place : FnScope N_Plan_give_place ["self", "client", "wanted"] (defScope s_Plan_give_place) := ⟨rfl, rfl, rfl, by decide +kernel, rfl, by decide +kernel, by decide +kernel⟩
abbrev s_Plan_comers_for : Stmt := inClass (topS 21) 2
abbrev N_Plan_comers_for : List Str := ["self", "client", "wanted", "comers", "member", "reached", "at"]
theorem sc_Plan_comers_for : FnScope N_Plan_comers_for ["self", "client", "wanted"] (defScope s_Plan_comers_for) := ⟨rfl, rfl, rfl, by decide +kernel, rfl, by decide +kernel, by decide +kernel⟩
abbrev s_Plan_reach_on : Stmt := inClass (topS 21) 3
abbrev N_Plan_reach_on : List Str := ["self", "member", "comers", "reached", "client", "taker"]
theorem sc_Plan_reach_on : FnScope N_Plan_reach_on ["self", "member", "comers", "reached"] (defScope s_Plan_reach_on) := ⟨rfl, rfl, rfl, by decide +kernel, rfl, by decide +kernel, by decide +kernel⟩
abbrev s_Plan_shift : Stmt := inClass (topS 21) 4
abbrev N_Plan_shift : List Str := ["self", "client", "last", "comers", "member", "comer", "before"]
theorem sc_Plan_shift : FnScope N_Plan_shift ["self", "client", "last", "comers"] (defScope s_Plan_shift) := ⟨rfl, rfl, rfl, by decide +kernel, rfl, by decide +kernel, by decide +kernel⟩
abbrev s_Plan_settle : Stmt := inClass (topS 21) 5
abbrev N_Plan_settle : List Str := ["self", "client", "before", "taker"]
theorem sc_Plan_settle : FnScope N_Plan_settle ["self", "client"] (defScope s_Plan_settle) := ⟨rfl, rfl, rfl, by decide +kernel, rfl, by decide +kernel, by decide +kernel⟩
abbrev s_moved_clients : Stmt := topS 22
abbrev N_moved_clients : List Str := ["plan", "clients", "moved", "client"]
theorem sc_moved_clients : FnScope N_moved_clients ["plan", "clients"] (defScope s_moved_clients) := ⟨rfl, rfl, rfl, by decide +kernel, rfl, by decide +kernel, by decide +kernel⟩
abbrev s_moved_of : Stmt := topS 23
abbrev N_moved_of : List Str := ["house", "clients"]
theorem sc_moved_of : FnScope N_moved_of ["house", "clients"] (defScope s_moved_of) := ⟨rfl, rfl, rfl, by decide +kernel, rfl, by decide +kernel, by decide +kernel⟩
abbrev s_places_told : Stmt := topS 24
abbrev N_places_told : List Str := ["house", "plan", "moved", "client"]
theorem sc_places_told : FnScope N_places_told ["house"] (defScope s_places_told) := ⟨rfl, rfl, rfl, by decide +kernel, rfl, by decide +kernel, by decide +kernel⟩
abbrev s_clients_left : Stmt := topS 25
abbrev N_clients_left : List Str := ["house", "clients", "moved", "client"]
theorem sc_clients_left : FnScope N_clients_left ["house"] (defScope s_clients_left) := ⟨rfl, rfl, rfl, by decide +kernel, rfl, by decide +kernel, by decide +kernel⟩
abbrev s_can_go_to : Stmt := topS 26
abbrev N_can_go_to : List Str := ["house", "moved", "client", "member", "takers"]
theorem sc_can_go_to : FnScope N_can_go_to ["house", "moved", "client", "member"] (defScope s_can_go_to) := ⟨rfl, rfl, rfl, by decide +kernel, rfl, by decide +kernel, by decide +kernel⟩
abbrev s_is_placing : Stmt := topS 27
abbrev N_is_placing : List Str := ["house", "clients", "members", "client", "member"]
theorem sc_is_placing : FnScope N_is_placing ["house", "clients", "members"] (defScope s_is_placing) := ⟨rfl, rfl, rfl, by decide +kernel, rfl, by decide +kernel, by decide +kernel⟩
abbrev s_refusal_of_member : Stmt := topS 29
abbrev N_refusal_of_member : List Str := ["house", "key"]
theorem sc_refusal_of_member : FnScope N_refusal_of_member ["house", "key"] (defScope s_refusal_of_member) := ⟨rfl, rfl, rfl, by decide +kernel, rfl, by decide +kernel, by decide +kernel⟩
abbrev s_refusal_of_client : Stmt := topS 30
abbrev N_refusal_of_client : List Str := ["house", "key"]
theorem sc_refusal_of_client : FnScope N_refusal_of_client ["house", "key"] (defScope s_refusal_of_client) := ⟨rfl, rfl, rfl, by decide +kernel, rfl, by decide +kernel, by decide +kernel⟩
abbrev s_refusal_of_members : Stmt := topS 31
abbrev N_refusal_of_members : List Str := ["house", "keys"]
theorem sc_refusal_of_members : FnScope N_refusal_of_members ["house", "keys"] (defScope s_refusal_of_members) := ⟨rfl, rfl, rfl, by decide +kernel, rfl, by decide +kernel, by decide +kernel⟩
abbrev s_add_member : Stmt := topS 33
abbrev N_add_member : List Str := ["house", "key", "room"]
theorem sc_add_member : FnScope N_add_member ["house", "key", "room"] (defScope s_add_member) := ⟨rfl, rfl, rfl, by decide +kernel, rfl, by decide +kernel, by decide +kernel⟩
abbrev s_add_client : Stmt := topS 34
abbrev N_add_client : List Str := ["house", "key", "order", "takers"]
theorem sc_add_client : FnScope N_add_client ["house", "key", "order", "takers"] (defScope s_add_client) := ⟨rfl, rfl, rfl, by decide +kernel, rfl, by decide +kernel, by decide +kernel⟩
abbrev s_end_member : Stmt := topS 35
abbrev N_end_member : List Str := ["house", "key", "refusal"]
theorem sc_end_member : FnScope N_end_member ["house", "key"] (defScope s_end_member) := ⟨rfl, rfl, rfl, by decide +kernel, rfl, by decide +kernel, by decide +kernel⟩
abbrev s_drop_client : Stmt := topS 36
abbrev N_drop_client : List Str := ["house", "key", "refusal"]
theorem sc_drop_client : FnScope N_drop_client ["house", "key"] (defScope s_drop_client) := ⟨rfl, rfl, rfl, by decide +kernel, rfl, by decide +kernel, by decide +kernel⟩
abbrev s_change_room : Stmt := topS 37
abbrev N_change_room : List Str := ["house", "key", "room", "before"]
theorem sc_change_room : FnScope N_change_room ["house", "key", "room"] (defScope s_change_room) := ⟨rfl, rfl, rfl, by decide +kernel, rfl, by decide +kernel, by decide +kernel⟩
abbrev s_change_order : Stmt := topS 38
abbrev N_change_order : List Str := ["house", "key", "order", "before"]
theorem sc_change_order : FnScope N_change_order ["house", "key", "order"] (defScope s_change_order) := ⟨rfl, rfl, rfl, by decide +kernel, rfl, by decide +kernel, by decide +kernel⟩
abbrev s_change_takers : Stmt := topS 39
abbrev N_change_takers : List Str := ["house", "key", "takers"]
theorem sc_change_takers : FnScope N_change_takers ["house", "key", "takers"] (defScope s_change_takers) := ⟨rfl, rfl, rfl, by decide +kernel, rfl, by decide +kernel, by decide +kernel⟩
abbrev s_move_clients : Stmt := topS 40
abbrev N_move_clients : List Str := ["house", "told", "client", "member"]
theorem sc_move_clients : FnScope N_move_clients ["house"] (defScope s_move_clients) := ⟨rfl, rfl, rfl, by decide +kernel, rfl, by decide +kernel, by decide +kernel⟩
abbrev s_tell_without : Stmt := topS 42
abbrev N_tell_without : List Str := ["house", "key", "refusal", "clients", "others", "client"]
theorem sc_tell_without : FnScope N_tell_without ["house", "key"] (defScope s_tell_without) := ⟨rfl, rfl, rfl, by decide +kernel, rfl, by decide +kernel, by decide +kernel⟩
abbrev s_tell_roomier : Stmt := topS 43
abbrev N_tell_roomier : List Str := ["house", "key", "refusal", "clients", "rooms"]
theorem sc_tell_roomier : FnScope N_tell_roomier ["house", "key"] (defScope s_tell_roomier) := ⟨rfl, rfl, rfl, by decide +kernel, rfl, by decide +kernel, by decide +kernel⟩
abbrev s_tell_first : Stmt := topS 44
abbrev N_tell_first : List Str := ["house", "key", "refusal", "clients", "others", "client"]
theorem sc_tell_first : FnScope N_tell_first ["house", "key"] (defScope s_tell_first) := ⟨rfl, rfl, rfl, by decide +kernel, rfl, by decide +kernel, by decide +kernel⟩
abbrev s_told_but : Stmt := topS 45
abbrev N_told_but : List Str := ["some", "others", "clients", "client"]
theorem sc_told_but : FnScope N_told_but ["some", "others"] (defScope s_told_but) := ⟨rfl, rfl, rfl, by decide +kernel, rfl, by decide +kernel, by decide +kernel⟩
abbrev s_tell_why : Stmt := topS 47
abbrev N_tell_why : List Str := ["house", "key", "refusal", "plan", "members"]
theorem sc_tell_why : FnScope N_tell_why ["house", "key"] (defScope s_tell_why) := ⟨rfl, rfl, rfl, by decide +kernel, rfl, by decide +kernel, by decide +kernel⟩
abbrev s_tell_check : Stmt := topS 48
abbrev N_tell_check : List Str := ["house", "key", "members", "refusal"]
theorem sc_tell_check : FnScope N_tell_check ["house", "key", "members"] (defScope s_tell_check) := ⟨rfl, rfl, rfl, by decide +kernel, rfl, by decide +kernel, by decide +kernel⟩
abbrev s_tell_bound : Stmt := topS 49
abbrev N_tell_bound : List Str := ["house", "members", "refusal", "strangers", "client"]
theorem sc_tell_bound : FnScope N_tell_bound ["house", "members"] (defScope s_tell_bound) := ⟨rfl, rfl, rfl, by decide +kernel, rfl, by decide +kernel, by decide +kernel⟩
abbrev s_tell_cover : Stmt := topS 50
abbrev N_tell_cover : List Str := ["house", "plan", "clients", "moved", "covered", "client", "member"]
theorem sc_tell_cover : FnScope N_tell_cover ["house"] (defScope s_tell_cover) := ⟨rfl, rfl, rfl, by decide +kernel, rfl, by decide +kernel, by decide +kernel⟩
abbrev s_keeps : Stmt := topS 51
abbrev N_keeps : List Str := ["house", "members", "client", "taker"]
theorem sc_keeps : FnScope N_keeps ["house", "members", "client"] (defScope s_keeps) := ⟨rfl, rfl, rfl, by decide +kernel, rfl, by decide +kernel, by decide +kernel⟩
abbrev s_rooms_together : Stmt := topS 52
abbrev N_rooms_together : List Str := ["house", "members", "member"]
theorem sc_rooms_together : FnScope N_rooms_together ["house", "members"] (defScope s_rooms_together) := ⟨rfl, rfl, rfl, by decide +kernel, rfl, by decide +kernel, by decide +kernel⟩
abbrev s_proves : Stmt := topS 53
abbrev N_proves : List Str := ["house", "members", "client", "moved", "kept", "other"]
theorem sc_proves : FnScope N_proves ["house", "members", "client"] (defScope s_proves) := ⟨rfl, rfl, rfl, by decide +kernel, rfl, by decide +kernel, by decide +kernel⟩
abbrev s_House_init : Stmt := inClass (topS 55) 0
abbrev N_House_init : List Str := ["self"]
theorem sc_House_init : FnScope N_House_init ["self"] (defScope s_House_init) := ⟨rfl, rfl, rfl, by decide +kernel, rfl, by decide +kernel, by decide +kernel⟩
abbrev s_House_has_members : Stmt := inClass (topS 55) 1
abbrev N_House_has_members : List Str := ["self", "keys", "key"]
theorem sc_House_has_members : FnScope N_House_has_members ["self", "keys"] (defScope s_House_has_members) := ⟨rfl, rfl, rfl, by decide +kernel, rfl, by decide +kernel, by decide +kernel⟩
abbrev s_House_is_taker : Stmt := inClass (topS 55) 2
abbrev N_House_is_taker : List Str := ["self", "member", "client"]
theorem sc_House_is_taker : FnScope N_House_is_taker ["self", "member"] (defScope s_House_is_taker) := ⟨rfl, rfl, rfl, by decide +kernel, rfl, by decide +kernel, by decide +kernel⟩
abbrev s_House_clients_in_order : Stmt := inClass (topS 55) 3
abbrev N_House_clients_in_order : List Str := ["self", "pairs", "client", "pair"]
theorem sc_House_clients_in_order : FnScope N_House_clients_in_order ["self"] (defScope s_House_clients_in_order) := ⟨rfl, rfl, rfl, by decide +kernel, rfl, by decide +kernel, by decide +kernel⟩
abbrev s_House_clients_before : Stmt := inClass (topS 55) 4
abbrev N_House_clients_before : List Str := ["self", "client", "clients"]
theorem sc_House_clients_before : FnScope N_House_clients_before ["self", "client"] (defScope s_House_clients_before) := ⟨rfl, rfl, rfl, by decide +kernel, rfl, by decide +kernel, by decide +kernel⟩
abbrev s_House_forget_client : Stmt := inClass (topS 55) 5
abbrev N_House_forget_client : List Str := ["self", "client"]
theorem sc_House_forget_client : FnScope N_House_forget_client ["self", "client"] (defScope s_House_forget_client) := ⟨rfl, rfl, rfl, by decide +kernel, rfl, by decide +kernel, by decide +kernel⟩
abbrev s_tell_moved : Stmt := topS 57
abbrev N_tell_moved : List Str := ["house", "told", "numbers", "client", "member"]
theorem sc_tell_moved : FnScope N_tell_moved ["house"] (defScope s_tell_moved) := ⟨rfl, rfl, rfl, by decide +kernel, rfl, by decide +kernel, by decide +kernel⟩
abbrev s_tell_left : Stmt := topS 58
abbrev N_tell_left : List Str := ["house", "clients"]
theorem sc_tell_left : FnScope N_tell_left ["house"] (defScope s_tell_left) := ⟨rfl, rfl, rfl, by decide +kernel, rfl, by decide +kernel, by decide +kernel⟩
abbrev s_tell_where : Stmt := topS 59
abbrev N_tell_where : List Str := ["house", "key", "refusal", "client", "member"]
theorem sc_tell_where : FnScope N_tell_where ["house", "key"] (defScope s_tell_where) := ⟨rfl, rfl, rfl, by decide +kernel, rfl, by decide +kernel, by decide +kernel⟩
abbrev s_tell_may : Stmt := topS 60
abbrev N_tell_may : List Str := ["house", "key", "member", "moved"]
theorem sc_tell_may : FnScope N_tell_may ["house", "key", "member"] (defScope s_tell_may) := ⟨rfl, rfl, rfl, by decide +kernel, rfl, by decide +kernel, by decide +kernel⟩
abbrev s_tell_isplan : Stmt := topS 61
abbrev N_tell_isplan : List Str := ["house", "places", "clients"]
theorem sc_tell_isplan : FnScope N_tell_isplan ["house", "places"] (defScope s_tell_isplan) := ⟨rfl, rfl, rfl, by decide +kernel, rfl, by decide +kernel, by decide +kernel⟩
abbrev s_tell_members : Stmt := topS 62
abbrev N_tell_members : List Str := ["house", "numbers", "member"]
theorem sc_tell_members : FnScope N_tell_members ["house"] (defScope s_tell_members) := ⟨rfl, rfl, rfl, by decide +kernel, rfl, by decide +kernel, by decide +kernel⟩
abbrev s_tell_clients : Stmt := topS 63
abbrev N_tell_clients : List Str := ["house", "numbers", "client", "takers"]
theorem sc_tell_clients : FnScope N_tell_clients ["house"] (defScope s_tell_clients) := ⟨rfl, rfl, rfl, by decide +kernel, rfl, by decide +kernel, by decide +kernel⟩
abbrev s_answers : Stmt := topS 88
abbrev N_answers : List Str := ["calls", "house", "told", "at", "call", "start", "numbers", "listed", "answer"]
theorem sc_answers : FnScope N_answers ["calls"] (defScope s_answers) := ⟨rfl, rfl, rfl, by decide +kernel, rfl, by decide +kernel, by decide +kernel⟩
abbrev s_answer_to : Stmt := topS 89
abbrev N_answer_to : List Str := ["house", "call", "numbers", "listed"]
theorem sc_answer_to : FnScope N_answer_to ["house", "call", "numbers", "listed"] (defScope s_answer_to) := ⟨rfl, rfl, rfl, by decide +kernel, rfl, by decide +kernel, by decide +kernel⟩
abbrev s_change : Stmt := topS 90
abbrev N_change : List Str := ["house", "call", "numbers", "listed"]
theorem sc_change : FnScope N_change ["house", "call", "numbers", "listed"] (defScope s_change) := ⟨rfl, rfl, rfl, by decide +kernel, rfl, by decide +kernel, by decide +kernel⟩
abbrev s_tell : Stmt := topS 91
abbrev N_tell : List Str := ["house", "call", "numbers", "listed"]
theorem sc_tell : FnScope N_tell ["house", "call", "numbers", "listed"] (defScope s_tell) := ⟨rfl, rfl, rfl, by decide +kernel, rfl, by decide +kernel, by decide +kernel⟩
abbrev s_tell_reasons : Stmt := topS 92
abbrev N_tell_reasons : List Str := ["house", "call", "numbers", "listed"]
theorem sc_tell_reasons : FnScope N_tell_reasons ["house", "call", "numbers", "listed"] (defScope s_tell_reasons) := ⟨rfl, rfl, rfl, by decide +kernel, rfl, by decide +kernel, by decide +kernel⟩
/-- where the top has put its classes and defs -/
structure Adr where
  C_Plan : Addr
  C_House : Addr
  f_is_key : Addr
  d_is_key : FuncData
  f_is_room : Addr
  d_is_room : FuncData
  f_is_order : Addr
  d_is_order : FuncData
  f_is_list_of_keys : Addr
  d_is_list_of_keys : FuncData
  f_is_list_of_places : Addr
  d_is_list_of_places : FuncData
  f_has_one_twice : Addr
  d_has_one_twice : FuncData
  f_Plan_init : Addr
  d_Plan_init : FuncData
  f_Plan_give_place : Addr
  d_Plan_give_place : FuncData
  f_Plan_comers_for : Addr
  d_Plan_comers_for : FuncData
  f_Plan_reach_on : Addr
  d_Plan_reach_on : FuncData
  f_Plan_shift : Addr
  d_Plan_shift : FuncData
  f_Plan_settle : Addr
  d_Plan_settle : FuncData
  f_moved_clients : Addr
  d_moved_clients : FuncData
  f_moved_of : Addr
  d_moved_of : FuncData
  f_places_told : Addr
  d_places_told : FuncData
  f_clients_left : Addr
  d_clients_left : FuncData
  f_can_go_to : Addr
  d_can_go_to : FuncData
  f_is_placing : Addr
  d_is_placing : FuncData
  f_refusal_of_member : Addr
  d_refusal_of_member : FuncData
  f_refusal_of_client : Addr
  d_refusal_of_client : FuncData
  f_refusal_of_members : Addr
  d_refusal_of_members : FuncData
  f_add_member : Addr
  d_add_member : FuncData
  f_add_client : Addr
  d_add_client : FuncData
  f_end_member : Addr
  d_end_member : FuncData
  f_drop_client : Addr
  d_drop_client : FuncData
  f_change_room : Addr
  d_change_room : FuncData
  f_change_order : Addr
  d_change_order : FuncData
  f_change_takers : Addr
  d_change_takers : FuncData
  f_move_clients : Addr
  d_move_clients : FuncData
  f_tell_without : Addr
  d_tell_without : FuncData
  f_tell_roomier : Addr
  d_tell_roomier : FuncData
  f_tell_first : Addr
  d_tell_first : FuncData
  f_told_but : Addr
  d_told_but : FuncData
  f_tell_why : Addr
  d_tell_why : FuncData
  f_tell_check : Addr
  d_tell_check : FuncData
  f_tell_bound : Addr
  d_tell_bound : FuncData
  f_tell_cover : Addr
  d_tell_cover : FuncData
  f_keeps : Addr
  d_keeps : FuncData
  f_rooms_together : Addr
  d_rooms_together : FuncData
  f_proves : Addr
  d_proves : FuncData
  f_House_init : Addr
  d_House_init : FuncData
  f_House_has_members : Addr
  d_House_has_members : FuncData
  f_House_is_taker : Addr
  d_House_is_taker : FuncData
  f_House_clients_in_order : Addr
  d_House_clients_in_order : FuncData
  f_House_clients_before : Addr
  d_House_clients_before : FuncData
  f_House_forget_client : Addr
  d_House_forget_client : FuncData
  f_tell_moved : Addr
  d_tell_moved : FuncData
  f_tell_left : Addr
  d_tell_left : FuncData
  f_tell_where : Addr
  d_tell_where : FuncData
  f_tell_may : Addr
  d_tell_may : FuncData
  f_tell_isplan : Addr
  d_tell_isplan : FuncData
  f_tell_members : Addr
  d_tell_members : FuncData
  f_tell_clients : Addr
  d_tell_clients : FuncData
  f_answers : Addr
  d_answers : FuncData
  f_answer_to : Addr
  d_answer_to : FuncData
  f_change : Addr
  d_change : FuncData
  f_tell : Addr
  d_tell : FuncData
  f_tell_reasons : Addr
  d_tell_reasons : FuncData
  t_PLAIN_NUMBERS : Addr
  t_WITH_LIST : Addr
structure Txt (K : PySem.W.Frag) (mg : Str → Option Value) (A : Adr) : Prop where
  cl_Plan : Cls K A.C_Plan
  mk_Plan : Mk K A.C_Plan A.f_Plan_init
  g_Plan : mg "Plan" = some (.ref A.C_Plan)
  a_Plan_free : NoAttr K A.C_Plan "free"
  a_Plan_takers : NoAttr K A.C_Plan "takers"
  a_Plan_places : NoAttr K A.C_Plan "places"
  a_Plan_settled : NoAttr K A.C_Plan "settled"
  cl_House : Cls K A.C_House
  mk_House : Mk K A.C_House A.f_House_init
  g_House : mg "House" = some (.ref A.C_House)
  a_House_rooms : NoAttr K A.C_House "rooms"
  a_House_orders : NoAttr K A.C_House "orders"
  a_House_takers : NoAttr K A.C_House "takers"
  F_is_key : Fun K "is_key" "is_key" s_is_key A.f_is_key A.d_is_key
  b_is_key : Binds K A.d_is_key ["number"] []
  g_is_key : mg "is_key" = some (.ref A.f_is_key)
  F_is_room : Fun K "is_room" "is_room" s_is_room A.f_is_room A.d_is_room
  b_is_room : Binds K A.d_is_room ["number"] []
  g_is_room : mg "is_room" = some (.ref A.f_is_room)
  F_is_order : Fun K "is_order" "is_order" s_is_order A.f_is_order A.d_is_order
  b_is_order : Binds K A.d_is_order ["number"] []
  g_is_order : mg "is_order" = some (.ref A.f_is_order)
  F_is_list_of_keys : Fun K "is_list_of_keys" "is_list_of_keys" s_is_list_of_keys A.f_is_list_of_keys A.d_is_list_of_keys
  b_is_list_of_keys : Binds K A.d_is_list_of_keys ["numbers"] []
  g_is_list_of_keys : mg "is_list_of_keys" = some (.ref A.f_is_list_of_keys)
  F_is_list_of_places : Fun K "is_list_of_places" "is_list_of_places" s_is_list_of_places A.f_is_list_of_places A.d_is_list_of_places
  b_is_list_of_places : Binds K A.d_is_list_of_places ["numbers"] []
  g_is_list_of_places : mg "is_list_of_places" = some (.ref A.f_is_list_of_places)
  F_has_one_twice : Fun K "has_one_twice" "has_one_twice" s_has_one_twice A.f_has_one_twice A.d_has_one_twice
  b_has_one_twice : Binds K A.d_has_one_twice ["numbers"] []
  g_has_one_twice : mg "has_one_twice" = some (.ref A.f_has_one_twice)
  F_Plan_init : Fun K "__init__" "Plan.__init__" s_Plan_init A.f_Plan_init A.d_Plan_init
  b_Plan_init : Binds K A.d_Plan_init ["self", "rooms", "takers"] []
  F_Plan_give_place : Fun K "give_place" "Plan.give_place" s_Plan_give_place A.f_Plan_give_place A.d_Plan_give_place
  b_Plan_give_place : Binds K A.d_Plan_give_place ["self", "client", "wanted"] []
  m_Plan_give_place : Meth K A.C_Plan "give_place" A.f_Plan_give_place
  F_Plan_comers_for : Fun K "comers_for" "Plan.comers_for" s_Plan_comers_for A.f_Plan_comers_for A.d_Plan_comers_for
  b_Plan_comers_for : Binds K A.d_Plan_comers_for ["self", "client", "wanted"] []
  m_Plan_comers_for : Meth K A.C_Plan "comers_for" A.f_Plan_comers_for
  F_Plan_reach_on : Fun K "reach_on" "Plan.reach_on" s_Plan_reach_on A.f_Plan_reach_on A.d_Plan_reach_on
  b_Plan_reach_on : Binds K A.d_Plan_reach_on ["self", "member", "comers", "reached"] []
  m_Plan_reach_on : Meth K A.C_Plan "reach_on" A.f_Plan_reach_on
  F_Plan_shift : Fun K "shift" "Plan.shift" s_Plan_shift A.f_Plan_shift A.d_Plan_shift
  b_Plan_shift : Binds K A.d_Plan_shift ["self", "client", "last", "comers"] []
  m_Plan_shift : Meth K A.C_Plan "shift" A.f_Plan_shift
  F_Plan_settle : Fun K "settle" "Plan.settle" s_Plan_settle A.f_Plan_settle A.d_Plan_settle
  b_Plan_settle : Binds K A.d_Plan_settle ["self", "client"] []
  m_Plan_settle : Meth K A.C_Plan "settle" A.f_Plan_settle
  F_moved_clients : Fun K "moved_clients" "moved_clients" s_moved_clients A.f_moved_clients A.d_moved_clients
  b_moved_clients : Binds K A.d_moved_clients ["plan", "clients"] []
  g_moved_clients : mg "moved_clients" = some (.ref A.f_moved_clients)
  F_moved_of : Fun K "moved_of" "moved_of" s_moved_of A.f_moved_of A.d_moved_of
  b_moved_of : Binds K A.d_moved_of ["house", "clients"] []
  g_moved_of : mg "moved_of" = some (.ref A.f_moved_of)
  F_places_told : Fun K "places_told" "places_told" s_places_told A.f_places_told A.d_places_told
  b_places_told : Binds K A.d_places_told ["house"] []
  g_places_told : mg "places_told" = some (.ref A.f_places_told)
  F_clients_left : Fun K "clients_left" "clients_left" s_clients_left A.f_clients_left A.d_clients_left
  b_clients_left : Binds K A.d_clients_left ["house"] []
  g_clients_left : mg "clients_left" = some (.ref A.f_clients_left)
  F_can_go_to : Fun K "can_go_to" "can_go_to" s_can_go_to A.f_can_go_to A.d_can_go_to
  b_can_go_to : Binds K A.d_can_go_to ["house", "moved", "client", "member"] []
  g_can_go_to : mg "can_go_to" = some (.ref A.f_can_go_to)
  F_is_placing : Fun K "is_placing" "is_placing" s_is_placing A.f_is_placing A.d_is_placing
  b_is_placing : Binds K A.d_is_placing ["house", "clients", "members"] []
  g_is_placing : mg "is_placing" = some (.ref A.f_is_placing)
  F_refusal_of_member : Fun K "refusal_of_member" "refusal_of_member" s_refusal_of_member A.f_refusal_of_member A.d_refusal_of_member
  b_refusal_of_member : Binds K A.d_refusal_of_member ["house", "key"] []
  g_refusal_of_member : mg "refusal_of_member" = some (.ref A.f_refusal_of_member)
  F_refusal_of_client : Fun K "refusal_of_client" "refusal_of_client" s_refusal_of_client A.f_refusal_of_client A.d_refusal_of_client
  b_refusal_of_client : Binds K A.d_refusal_of_client ["house", "key"] []
  g_refusal_of_client : mg "refusal_of_client" = some (.ref A.f_refusal_of_client)
  F_refusal_of_members : Fun K "refusal_of_members" "refusal_of_members" s_refusal_of_members A.f_refusal_of_members A.d_refusal_of_members
  b_refusal_of_members : Binds K A.d_refusal_of_members ["house", "keys"] []
  g_refusal_of_members : mg "refusal_of_members" = some (.ref A.f_refusal_of_members)
  F_add_member : Fun K "add_member" "add_member" s_add_member A.f_add_member A.d_add_member
  b_add_member : Binds K A.d_add_member ["house", "key", "room"] []
  g_add_member : mg "add_member" = some (.ref A.f_add_member)
  F_add_client : Fun K "add_client" "add_client" s_add_client A.f_add_client A.d_add_client
  b_add_client : Binds K A.d_add_client ["house", "key", "order", "takers"] []
  g_add_client : mg "add_client" = some (.ref A.f_add_client)
  F_end_member : Fun K "end_member" "end_member" s_end_member A.f_end_member A.d_end_member
  b_end_member : Binds K A.d_end_member ["house", "key"] []
  g_end_member : mg "end_member" = some (.ref A.f_end_member)
  F_drop_client : Fun K "drop_client" "drop_client" s_drop_client A.f_drop_client A.d_drop_client
  b_drop_client : Binds K A.d_drop_client ["house", "key"] []
  g_drop_client : mg "drop_client" = some (.ref A.f_drop_client)
  F_change_room : Fun K "change_room" "change_room" s_change_room A.f_change_room A.d_change_room
  b_change_room : Binds K A.d_change_room ["house", "key", "room"] []
  g_change_room : mg "change_room" = some (.ref A.f_change_room)
  F_change_order : Fun K "change_order" "change_order" s_change_order A.f_change_order A.d_change_order
  b_change_order : Binds K A.d_change_order ["house", "key", "order"] []
  g_change_order : mg "change_order" = some (.ref A.f_change_order)
  F_change_takers : Fun K "change_takers" "change_takers" s_change_takers A.f_change_takers A.d_change_takers
  b_change_takers : Binds K A.d_change_takers ["house", "key", "takers"] []
  g_change_takers : mg "change_takers" = some (.ref A.f_change_takers)
  F_move_clients : Fun K "move_clients" "move_clients" s_move_clients A.f_move_clients A.d_move_clients
  b_move_clients : Binds K A.d_move_clients ["house"] []
  g_move_clients : mg "move_clients" = some (.ref A.f_move_clients)
  F_tell_without : Fun K "tell_without" "tell_without" s_tell_without A.f_tell_without A.d_tell_without
  b_tell_without : Binds K A.d_tell_without ["house", "key"] []
  g_tell_without : mg "tell_without" = some (.ref A.f_tell_without)
  F_tell_roomier : Fun K "tell_roomier" "tell_roomier" s_tell_roomier A.f_tell_roomier A.d_tell_roomier
  b_tell_roomier : Binds K A.d_tell_roomier ["house", "key"] []
  g_tell_roomier : mg "tell_roomier" = some (.ref A.f_tell_roomier)
  F_tell_first : Fun K "tell_first" "tell_first" s_tell_first A.f_tell_first A.d_tell_first
  b_tell_first : Binds K A.d_tell_first ["house", "key"] []
  g_tell_first : mg "tell_first" = some (.ref A.f_tell_first)
  F_told_but : Fun K "told_but" "told_but" s_told_but A.f_told_but A.d_told_but
  b_told_but : Binds K A.d_told_but ["some", "others"] []
  g_told_but : mg "told_but" = some (.ref A.f_told_but)
  F_tell_why : Fun K "tell_why" "tell_why" s_tell_why A.f_tell_why A.d_tell_why
  b_tell_why : Binds K A.d_tell_why ["house", "key"] []
  g_tell_why : mg "tell_why" = some (.ref A.f_tell_why)
  F_tell_check : Fun K "tell_check" "tell_check" s_tell_check A.f_tell_check A.d_tell_check
  b_tell_check : Binds K A.d_tell_check ["house", "key", "members"] []
  g_tell_check : mg "tell_check" = some (.ref A.f_tell_check)
  F_tell_bound : Fun K "tell_bound" "tell_bound" s_tell_bound A.f_tell_bound A.d_tell_bound
  b_tell_bound : Binds K A.d_tell_bound ["house", "members"] []
  g_tell_bound : mg "tell_bound" = some (.ref A.f_tell_bound)
  F_tell_cover : Fun K "tell_cover" "tell_cover" s_tell_cover A.f_tell_cover A.d_tell_cover
  b_tell_cover : Binds K A.d_tell_cover ["house"] []
  g_tell_cover : mg "tell_cover" = some (.ref A.f_tell_cover)
  F_keeps : Fun K "keeps" "keeps" s_keeps A.f_keeps A.d_keeps
  b_keeps : Binds K A.d_keeps ["house", "members", "client"] []
  g_keeps : mg "keeps" = some (.ref A.f_keeps)
  F_rooms_together : Fun K "rooms_together" "rooms_together" s_rooms_together A.f_rooms_together A.d_rooms_together
  b_rooms_together : Binds K A.d_rooms_together ["house", "members"] []
  g_rooms_together : mg "rooms_together" = some (.ref A.f_rooms_together)
  F_proves : Fun K "proves" "proves" s_proves A.f_proves A.d_proves
  b_proves : Binds K A.d_proves ["house", "members", "client"] []
  g_proves : mg "proves" = some (.ref A.f_proves)
  F_House_init : Fun K "__init__" "House.__init__" s_House_init A.f_House_init A.d_House_init
  b_House_init : Binds K A.d_House_init ["self"] []
  F_House_has_members : Fun K "has_members" "House.has_members" s_House_has_members A.f_House_has_members A.d_House_has_members
  b_House_has_members : Binds K A.d_House_has_members ["self", "keys"] []
  m_House_has_members : Meth K A.C_House "has_members" A.f_House_has_members
  F_House_is_taker : Fun K "is_taker" "House.is_taker" s_House_is_taker A.f_House_is_taker A.d_House_is_taker
  b_House_is_taker : Binds K A.d_House_is_taker ["self", "member"] []
  m_House_is_taker : Meth K A.C_House "is_taker" A.f_House_is_taker
  F_House_clients_in_order : Fun K "clients_in_order" "House.clients_in_order" s_House_clients_in_order A.f_House_clients_in_order A.d_House_clients_in_order
  b_House_clients_in_order : Binds K A.d_House_clients_in_order ["self"] []
  m_House_clients_in_order : Meth K A.C_House "clients_in_order" A.f_House_clients_in_order
  F_House_clients_before : Fun K "clients_before" "House.clients_before" s_House_clients_before A.f_House_clients_before A.d_House_clients_before
  b_House_clients_before : Binds K A.d_House_clients_before ["self", "client"] []
  m_House_clients_before : Meth K A.C_House "clients_before" A.f_House_clients_before
  F_House_forget_client : Fun K "forget_client" "House.forget_client" s_House_forget_client A.f_House_forget_client A.d_House_forget_client
  b_House_forget_client : Binds K A.d_House_forget_client ["self", "client"] []
  m_House_forget_client : Meth K A.C_House "forget_client" A.f_House_forget_client
  F_tell_moved : Fun K "tell_moved" "tell_moved" s_tell_moved A.f_tell_moved A.d_tell_moved
  b_tell_moved : Binds K A.d_tell_moved ["house"] []
  g_tell_moved : mg "tell_moved" = some (.ref A.f_tell_moved)
  F_tell_left : Fun K "tell_left" "tell_left" s_tell_left A.f_tell_left A.d_tell_left
  b_tell_left : Binds K A.d_tell_left ["house"] []
  g_tell_left : mg "tell_left" = some (.ref A.f_tell_left)
  F_tell_where : Fun K "tell_where" "tell_where" s_tell_where A.f_tell_where A.d_tell_where
  b_tell_where : Binds K A.d_tell_where ["house", "key"] []
  g_tell_where : mg "tell_where" = some (.ref A.f_tell_where)
  F_tell_may : Fun K "tell_may" "tell_may" s_tell_may A.f_tell_may A.d_tell_may
  b_tell_may : Binds K A.d_tell_may ["house", "key", "member"] []
  g_tell_may : mg "tell_may" = some (.ref A.f_tell_may)
  F_tell_isplan : Fun K "tell_isplan" "tell_isplan" s_tell_isplan A.f_tell_isplan A.d_tell_isplan
  b_tell_isplan : Binds K A.d_tell_isplan ["house", "places"] []
  g_tell_isplan : mg "tell_isplan" = some (.ref A.f_tell_isplan)
  F_tell_members : Fun K "tell_members" "tell_members" s_tell_members A.f_tell_members A.d_tell_members
  b_tell_members : Binds K A.d_tell_members ["house"] []
  g_tell_members : mg "tell_members" = some (.ref A.f_tell_members)
  F_tell_clients : Fun K "tell_clients" "tell_clients" s_tell_clients A.f_tell_clients A.d_tell_clients
  b_tell_clients : Binds K A.d_tell_clients ["house"] []
  g_tell_clients : mg "tell_clients" = some (.ref A.f_tell_clients)
  F_answers : Fun K "answers" "answers" s_answers A.f_answers A.d_answers
  b_answers : Binds K A.d_answers ["calls"] []
  g_answers : mg "answers" = some (.ref A.f_answers)
  F_answer_to : Fun K "answer_to" "answer_to" s_answer_to A.f_answer_to A.d_answer_to
  b_answer_to : Binds K A.d_answer_to ["house", "call", "numbers", "listed"] []
  g_answer_to : mg "answer_to" = some (.ref A.f_answer_to)
  F_change : Fun K "change" "change" s_change A.f_change A.d_change
  b_change : Binds K A.d_change ["house", "call", "numbers", "listed"] []
  g_change : mg "change" = some (.ref A.f_change)
  F_tell : Fun K "tell" "tell" s_tell A.f_tell A.d_tell
  b_tell : Binds K A.d_tell ["house", "call", "numbers", "listed"] []
  g_tell : mg "tell" = some (.ref A.f_tell)
  F_tell_reasons : Fun K "tell_reasons" "tell_reasons" s_tell_reasons A.f_tell_reasons A.d_tell_reasons
  b_tell_reasons : Binds K A.d_tell_reasons ["house", "call", "numbers", "listed"] []
  g_tell_reasons : mg "tell_reasons" = some (.ref A.f_tell_reasons)
  c_OUT_OF_RANGE : ∃ u, mg "OUT_OF_RANGE" = some u ∧ RelV (.int (-1)) u
  c_KEY_IS_USED : ∃ u, mg "KEY_IS_USED" = some u ∧ RelV (.int (-2)) u
  c_ONE_TWICE : ∃ u, mg "ONE_TWICE" = some u ∧ RelV (.int (-3)) u
  c_NOT_THERE : ∃ u, mg "NOT_THERE" = some u ∧ RelV (.int (-4)) u
  c_IS_MOVED : ∃ u, mg "IS_MOVED" = some u ∧ RelV (.int (-6)) u
  c_IS_A_TAKER : ∃ u, mg "IS_A_TAKER" = some u ∧ RelV (.int (-7)) u
  c_HOUSE_IS_FULL : ∃ u, mg "HOUSE_IS_FULL" = some u ∧ RelV (.int (-9)) u
  c_HIGHEST_KEY : ∃ u, mg "HIGHEST_KEY" = some u ∧ RelV (.int (1000000000)) u
  c_HIGHEST_ROOM : ∃ u, mg "HIGHEST_ROOM" = some u ∧ RelV (.int (16)) u
  c_HIGHEST_ORDER : ∃ u, mg "HIGHEST_ORDER" = some u ∧ RelV (.int (1000000)) u
  c_MOST_MEMBERS : ∃ u, mg "MOST_MEMBERS" = some u ∧ RelV (.int (8)) u
  c_MOST_CLIENTS : ∃ u, mg "MOST_CLIENTS" = some u ∧ RelV (.int (16)) u
  c_MOST_PLACES : ∃ u, mg "MOST_PLACES" = some u ∧ RelV (.int (32)) u
  c_MEMBER : ∃ u, mg "MEMBER" = some u ∧ RelV (.int (0)) u
  c_CLIENT : ∃ u, mg "CLIENT" = some u ∧ RelV (.int (1)) u
  c_GONE : ∃ u, mg "GONE" = some u ∧ RelV (.int (2)) u
  c_DROP : ∃ u, mg "DROP" = some u ∧ RelV (.int (3)) u
  c_ROOM : ∃ u, mg "ROOM" = some u ∧ RelV (.int (4)) u
  c_ORDER : ∃ u, mg "ORDER" = some u ∧ RelV (.int (5)) u
  c_TAKERS : ∃ u, mg "TAKERS" = some u ∧ RelV (.int (6)) u
  c_MOVE : ∃ u, mg "MOVE" = some u ∧ RelV (.int (7)) u
  c_MOVED : ∃ u, mg "MOVED" = some u ∧ RelV (.int (8)) u
  c_LEFT : ∃ u, mg "LEFT" = some u ∧ RelV (.int (9)) u
  c_WHERE : ∃ u, mg "WHERE" = some u ∧ RelV (.int (10)) u
  c_WHY : ∃ u, mg "WHY" = some u ∧ RelV (.int (11)) u
  c_CHECK : ∃ u, mg "CHECK" = some u ∧ RelV (.int (12)) u
  c_BOUND : ∃ u, mg "BOUND" = some u ∧ RelV (.int (13)) u
  c_COVER : ∃ u, mg "COVER" = some u ∧ RelV (.int (14)) u
  c_WITHOUT : ∃ u, mg "WITHOUT" = some u ∧ RelV (.int (15)) u
  c_ROOMIER : ∃ u, mg "ROOMIER" = some u ∧ RelV (.int (16)) u
  c_FIRST : ∃ u, mg "FIRST" = some u ∧ RelV (.int (17)) u
  c_MAY : ∃ u, mg "MAY" = some u ∧ RelV (.int (18)) u
  c_ISPLAN : ∃ u, mg "ISPLAN" = some u ∧ RelV (.int (19)) u
  c_MEMBERS : ∃ u, mg "MEMBERS" = some u ∧ RelV (.int (20)) u
  c_PLAIN_NUMBERS : ∃ u, mg "PLAIN_NUMBERS" = some u ∧ RelV (.ref A.t_PLAIN_NUMBERS) u
  s_PLAIN_NUMBERS : ∀ H, SqT K H A.t_PLAIN_NUMBERS ([(2 : Int), (2 : Int), (1 : Int), (1 : Int), (2 : Int), (2 : Int), (1 : Int), (0 : Int), (0 : Int), (0 : Int), (1 : Int), (1 : Int), (1 : Int), (0 : Int), (0 : Int), (1 : Int), (1 : Int), (1 : Int), (2 : Int), (0 : Int), (0 : Int), (0 : Int)].map V.int)
  c_WITH_LIST : ∃ u, mg "WITH_LIST" = some u ∧ RelV (.ref A.t_WITH_LIST) u
  s_WITH_LIST : ∀ H, SqT K H A.t_WITH_LIST ([(1 : Int), (6 : Int), (12 : Int), (13 : Int), (19 : Int)].map V.int)
  n_all : mg "all" = none
  n_any : mg "any" = none
  n_dict : mg "dict" = none
  n_len : mg "len" = none
  n_list : mg "list" = none
  n_set : mg "set" = none
  n_sorted : mg "sorted" = none
  n_sum : mg "sum" = none
  n_zip : mg "zip" = none
end CW

end

section
namespace CW
open PySem PySem.Spec PyProof.Rows L2 CM
/-! ### tables in the heap -/
def nV (n : Nat) : V := .int (n : Int)
def enc {α : Type} (g : α → V) (l : List (Nat × α)) : List (Key × V) := l.map fun x => ((Sum.inl (x.1 : Int) : Key), g x.2)
abbrev kN (k : Nat) : Key := Sum.inl (k : Int)
theorem kN_eq {a b : Nat} : ((Sum.inl (a : Int) : Key) = Sum.inl (b : Int)) ↔ a = b := by
  constructor
  · intro h
    have := Sum.inl.inj h
    omega
  · rintro rfl; rfl
theorem valV_enc {α : Type} (g : α → V) (l : List (Nat × α)) (k : Nat) : valV (enc g l) (kN k) = (aget l k).map g := by
  induction l with
  | nil => rfl
  | cons x l ih =>
    rw [aget_cons]
    by_cases h : x.1 = k
    · rw [if_pos h]
      exact valV_pos (p := (((Sum.inl (x.1 : Int) : Key), g x.2) : Key × V)) (kN_eq.mpr h)
    · rw [if_neg h]
      exact (valV_neg (p := (((Sum.inl (x.1 : Int) : Key), g x.2) : Key × V)) (fun e => h (kN_eq.mp e))).trans ih
theorem any_enc {α : Type} (g : α → V) (l : List (Nat × α)) (k : Nat) : ((enc g l).any fun kv => decide (kv.1 = kN k)) = l.any fun x => x.1 == k := by
  unfold enc
  rw [List.any_map]
  congr 1
  funext x
  show decide ((Sum.inl (x.1 : Int) : Key) = Sum.inl (k : Int)) = (x.1 == k)
  rw [Bool.eq_iff_iff, decide_eq_true_eq, beq_iff_eq]
  exact kN_eq
theorem putK_enc {α : Type} (g : α → V) (l : List (Nat × α)) (k : Nat) (v : α) : putK (enc g l) (kN k) (g v) = enc g (aput l k v) := by
  unfold putK aput
  rw [any_enc]
  split
  · unfold enc
    rw [List.map_map, List.map_map]
    apply List.map_congr_left
    intro x _
    simp only [Function.comp]
    by_cases h : x.1 = k
    · rw [if_pos (kN_eq.mpr h), if_pos h]
    · rw [if_neg (fun e => h (kN_eq.mp e)), if_neg h]
  · simp [enc]
theorem dropK_enc {α : Type} (g : α → V) (l : List (Nat × α)) (k : Nat) : dropK (enc g l) (kN k) = enc g (adrop l k) := by
  unfold dropK adrop enc
  rw [List.filter_map]
  congr 1
  apply List.filter_congr
  intro x _
  show decide ((Sum.inl (x.1 : Int) : Key) ≠ Sum.inl (k : Int)) = !(x.1 == k)
  rw [Bool.eq_iff_iff, decide_eq_true_eq, Bool.not_eq_true', beq_eq_false_iff_ne, ne_eq, ne_eq, kN_eq]
theorem enc_len {α : Type} (g : α → V) (l : List (Nat × α)) : (enc g l).length = l.length := by simp [enc]
theorem enc_get {α : Type} {g : α → V} {l : List (Nat × α)} {i : Nat} {k : Key} {v : V} (h : (enc g l)[i]? = some (k, v)) : ∃ x, l[i]? = some x ∧ k = kN x.1 ∧ v = g x.2 := by
  unfold enc at h
  rw [List.getElem?_map] at h
  cases e : l[i]? with
  | none => rw [e] at h; cases h
  | some x =>
    rw [e] at h
    have := Option.some.inj h
    exact ⟨x, rfl, (congrArg Prod.fst this).symm, (congrArg Prod.snd this).symm⟩
/-! ### the house in the heap -/
structure HA where
  p : Addr
  dr : Addr
  dO : Addr
  dt : Addr
  z : Addr
abbrev TT3 := List (Nat × Addr × List Nat)
def tV (x : Addr × List Nat) : V := .ref x.1
def hF (a : HA) : List (Str × V) := [("rooms", .ref a.dr), ("orders", .ref a.dO), ("takers", .ref a.dt)]
theorem lk_here {k : Str} {v : V} {r : List (Str × V)} : List.lookup k ((k, v) :: r) = some v := by
  have e : (k == k) = true := beq_self_eq_true k
  simp only [List.lookup, e]
theorem lk_past {k g : Str} {v : V} {r : List (Str × V)} (h : (k == g) = false) : List.lookup k ((g, v) :: r) = List.lookup k r := by
  simp only [List.lookup, h]
theorem hF_rooms (a : HA) : (hF a).lookup ("rooms" : Str) = some (.ref a.dr) := lk_here
theorem hF_orders (a : HA) : (hF a).lookup ("orders" : Str) = some (.ref a.dO) := (lk_past (by decide +kernel)).trans lk_here
theorem hF_takers (a : HA) : (hF a).lookup ("takers" : Str) = some (.ref a.dt) := (lk_past (by decide +kernel)).trans ((lk_past (by decide +kernel)).trans lk_here)
theorem hF_no (a : HA) {m : Str} (h1 : (m == ("rooms" : Str)) = false) (h2 : (m == ("orders" : Str)) = false) (h3 : (m == ("takers" : Str)) = false) : (hF a).lookup m = none :=
  (lk_past h1).trans ((lk_past h2).trans ((lk_past h3).trans rfl))
structure HouseAt (C : Addr) (H : Hp) (a : HA) (R O : List (Nat × Nat)) (T : TT3) : Prop where
  ob : ∃ dx, H a.p = some (.ins C dx (hF a))
  rc : H a.dr = some (.dK (enc nV R))
  oc : H a.dO = some (.dK (enc nV O))
  tc : H a.dt = some (.dK (enc tV T))
  tl : ∀ x ∈ T, H x.2.1 = some (.lst (x.2.2.map nV))
  d1 : a.dr ≠ a.dO
  d2 : a.dr ≠ a.dt
  d3 : a.dO ≠ a.dt
  nz : ∀ x ∈ T, x.2.1 ≠ a.z
section
variable {C : Addr} {H H' : Hp} {a : HA} {R O : List (Nat × Nat)} {T : TT3} {K : PySem.W.Frag} {mg : Str → Option Value} {A : Adr}
theorem HouseAt.same (h : HouseAt C H a R O T) (s : Same H H') : HouseAt C H' a R O T := by
  obtain ⟨dx, h1⟩ := h.ob
  exact ⟨⟨dx, s _ _ h1⟩, s _ _ h.rc, s _ _ h.oc, s _ _ h.tc, fun x hx => s _ _ (h.tl x hx), h.d1, h.d2, h.d3, h.nz⟩
theorem same_new {p : Addr} {o : HO} (h : H p = none) : Same H (upd H p o) := fun b x e => by
  rw [upd_ne (ne_of_none e h)]
  exact e
theorem HouseAt.pr (h : HouseAt C H a R O T) : a.p ≠ a.dr := by
  obtain ⟨dx, h1⟩ := h.ob
  exact ne_of h1 h.rc (by intro z; cases z)
theorem HouseAt.po (h : HouseAt C H a R O T) : a.p ≠ a.dO := by
  obtain ⟨dx, h1⟩ := h.ob
  exact ne_of h1 h.oc (by intro z; cases z)
theorem HouseAt.pt (h : HouseAt C H a R O T) : a.p ≠ a.dt := by
  obtain ⟨dx, h1⟩ := h.ob
  exact ne_of h1 h.tc (by intro z; cases z)
/-- the rooms' dict is another -/
theorem HouseAt.setR (h : HouseAt C H a R O T) (R' : List (Nat × Nat)) : HouseAt C (upd H a.dr (.dK (enc nV R'))) a R' O T := by
  obtain ⟨dx, h1⟩ := h.ob
  refine ⟨⟨dx, by rw [upd_ne h.pr]; exact h1⟩, upd_same, by rw [upd_ne h.d1.symm]; exact h.oc, by rw [upd_ne h.d2.symm]; exact h.tc, fun x hx => ?_, h.d1, h.d2, h.d3, h.nz⟩
  rw [upd_ne (ne_of (h.tl x hx) h.rc (by intro z; cases z))]
  exact h.tl x hx
theorem HouseAt.setO (h : HouseAt C H a R O T) (O' : List (Nat × Nat)) : HouseAt C (upd H a.dO (.dK (enc nV O'))) a R O' T := by
  obtain ⟨dx, h1⟩ := h.ob
  refine ⟨⟨dx, by rw [upd_ne h.po]; exact h1⟩, by rw [upd_ne h.d1]; exact h.rc, upd_same, by rw [upd_ne h.d3.symm]; exact h.tc, fun x hx => ?_, h.d1, h.d2, h.d3, h.nz⟩
  rw [upd_ne (ne_of (h.tl x hx) h.oc (by intro z; cases z))]
  exact h.tl x hx
theorem HouseAt.setT (h : HouseAt C H a R O T) (T' : TT3) (ht : ∀ x ∈ T', H x.2.1 = some (.lst (x.2.2.map nV))) (hz : ∀ x ∈ T', x.2.1 ≠ a.z) : HouseAt C (upd H a.dt (.dK (enc tV T'))) a R O T' := by
  obtain ⟨dx, h1⟩ := h.ob
  refine ⟨⟨dx, by rw [upd_ne h.pt]; exact h1⟩, by rw [upd_ne h.d2]; exact h.rc, by rw [upd_ne h.d3]; exact h.oc, upd_same, fun x hx => ?_, h.d1, h.d2, h.d3, hz⟩
  rw [upd_ne (ne_of (ht x hx) h.tc (by intro z; cases z))]
  exact ht x hx
/-- reading the house's fields -/
theorem fld_rooms (T' : Txt K mg A) {i : Nat} {σ : L2.St} {Q : VK} (h : HouseAt A.C_House H a R O T) (hi : σ[i]? = some (some (.ref a.p))) (q : Q (.ref a.dr) H) : tFld K (tVar i) "rooms" σ H Q := by
  obtain ⟨dx, h1⟩ := h.ob
  exact ⟨_, hi, a.p, A.C_House, dx, _, _, rfl, h1, T'.cl_House, T'.a_House_rooms, hF_rooms a, q⟩
theorem fld_orders (T' : Txt K mg A) {i : Nat} {σ : L2.St} {Q : VK} (h : HouseAt A.C_House H a R O T) (hi : σ[i]? = some (some (.ref a.p))) (q : Q (.ref a.dO) H) : tFld K (tVar i) "orders" σ H Q := by
  obtain ⟨dx, h1⟩ := h.ob
  exact ⟨_, hi, a.p, A.C_House, dx, _, _, rfl, h1, T'.cl_House, T'.a_House_orders, hF_orders a, q⟩
theorem fld_takers (T' : Txt K mg A) {i : Nat} {σ : L2.St} {Q : VK} (h : HouseAt A.C_House H a R O T) (hi : σ[i]? = some (some (.ref a.p))) (q : Q (.ref a.dt) H) : tFld K (tVar i) "takers" σ H Q := by
  obtain ⟨dx, h1⟩ := h.ob
  exact ⟨_, hi, a.p, A.C_House, dx, _, _, rfl, h1, T'.cl_House, T'.a_House_takers, hF_takers a, q⟩
/-- the house holds a state -/
def HS (C : Addr) (s : Vbchaj.State) (H : Hp) (a : HA) : Prop := Good s ∧ ∃ R O T, HouseAt C H a R O T ∧ Abs s R O T
theorem HS.same {s : Vbchaj.State} (h : HS C s H a) (e : Same H H') : HS C s H' a := by
  obtain ⟨g, R, O, T, h1, h2⟩ := h
  exact ⟨g, R, O, T, h1.same e, h2⟩
/-- a call's promise: the state behind it, and a new list of what it answers; nothing but the house's own is changed -/
def Ans (C : Addr) (H : Hp) (a : HA) (r : Vbchaj.State × List Int) (Q : VK) : Prop := ∀ (H' : Hp) (l : Addr), HS C r.1 H' a → H l = none → H' l = some (.lst (r.2.map V.int)) →
  (∀ b o, H b = some o → b ≠ a.dr → b ≠ a.dO → b ≠ a.dt → H' b = some o) → Q (.ref l) H'
theorem Ans.plain {s : Vbchaj.State} {xs : List Int} {Q : VK} (q : Ans C H a (s, xs) Q) (h : HS C s H a) {l : Addr} (hl : H l = none) : Q (.ref l) (upd H l (.lst (xs.map V.int))) :=
  q _ l (h.same (same_new hl)) hl upd_same fun b o e _ _ _ => same_new hl b o e
end
end CW

end

section
namespace CW
open PySem PySem.Spec PyProof.Rows L2 CM
variable {P : Program} {w : World} {K : PySem.W.Frag} {mg : Str → Option Value} {base : Heap} {A : Adr}
/-- a number within two others -/
def spIs (f : Int → Bool) : Sp := fun vs H Q _ => ∃ n : Int, vs = [.int n] ∧ Q (.bl (f n)) H
theorem chain_end {lo hi n : Int} {H : Hp} {Q : VK} (q : Q (.bl (decide (lo ≤ n) && decide (n ≤ hi))) H) : if decide (lo ≤ n) = true then Q (.bl (decide (n ≤ hi))) H else Q (.bl false) H := by
  by_cases h : lo ≤ n
  · rw [if_pos (decide_eq_true h)]
    simpa [h] using q
  · rw [if_neg (by simpa using h)]
    simpa [h] using q
theorem ok_is_key (T : Txt K mg A) : FnOk P w K mg base CX0 1 A.f_is_key A.d_is_key ["number"] (spIs Vbchaj.keyed) := by
  refine T.F_is_key.ok sc_is_key (fun vs H Q E h => ?_) (fun cdv A' outer s H vs Q E hr h => ?_)
  · obtain ⟨n, rfl, _⟩ := h
    rfl
  · obtain ⟨n, rfl, q⟩ := h
    refine ⟨_, (pss_one (ps_ret (pe_chain op_le op_le pe_int (pv 0) (pe_const (by rfl) T.c_HIGHEST_KEY)))), ?_⟩
    refine ⟨_, rfl, _, _, rfl, rfl, _, rfl, ?_⟩
    have e := chain_end (lo := 1) (hi := 1000000000) (n := n) (H := H) (Q := Q) q
    split
    · rename_i h
      rw [if_pos h] at e
      exact ⟨_, _, rfl, rfl, e⟩
    · rename_i h
      rw [if_neg h] at e
      exact e
theorem ok_is_room (T : Txt K mg A) : FnOk P w K mg base CX0 1 A.f_is_room A.d_is_room ["number"] (spIs fun n => Vbchaj.within n 0 Vbchaj.ROOM) := by
  refine T.F_is_room.ok sc_is_room (fun vs H Q E h => ?_) (fun cdv A' outer s H vs Q E hr h => ?_)
  · obtain ⟨n, rfl, _⟩ := h
    rfl
  · obtain ⟨n, rfl, q⟩ := h
    refine ⟨_, (pss_one (ps_ret (pe_chain op_le op_le pe_int (pv 0) (pe_const (by rfl) T.c_HIGHEST_ROOM)))), ?_⟩
    refine ⟨_, rfl, _, _, rfl, rfl, _, rfl, ?_⟩
    have e := chain_end (lo := 0) (hi := 16) (n := n) (H := H) (Q := Q) q
    split
    · rename_i h
      rw [if_pos h] at e
      exact ⟨_, _, rfl, rfl, e⟩
    · rename_i h
      rw [if_neg h] at e
      exact e
theorem ok_is_order (T : Txt K mg A) : FnOk P w K mg base CX0 1 A.f_is_order A.d_is_order ["number"] (spIs fun n => Vbchaj.within n 0 Vbchaj.ORDER) := by
  refine T.F_is_order.ok sc_is_order (fun vs H Q E h => ?_) (fun cdv A' outer s H vs Q E hr h => ?_)
  · obtain ⟨n, rfl, _⟩ := h
    rfl
  · obtain ⟨n, rfl, q⟩ := h
    refine ⟨_, (pss_one (ps_ret (pe_chain op_le op_le pe_int (pv 0) (pe_const (by rfl) T.c_HIGHEST_ORDER)))), ?_⟩
    refine ⟨_, rfl, _, _, rfl, rfl, _, rfl, ?_⟩
    have e := chain_end (lo := 0) (hi := 1000000) (n := n) (H := H) (Q := Q) q
    split
    · rename_i h
      rw [if_pos h] at e
      exact ⟨_, _, rfl, rfl, e⟩
    · rename_i h
      rw [if_neg h] at e
      exact e
/-- a list of whole numbers is asked; it stands, and so does all else -/
def spList (K : PySem.W.Frag) (f : List Int → Bool) : Sp := fun vs H Q _ => ∃ (l : Addr) (ns : List Int), vs = [.ref l] ∧ H l = some (.lst (ns.map V.int)) ∧ ns.length ≤ 40 ∧ ∀ H', Same H H' → Q (.bl (f ns)) H'

def keyedV : V → V
  | .int n => .bl (Vbchaj.keyed n)
  | _ => .non
theorem small40 {n : Nat} (h : n ≤ 40) : n < sizeLine := Nat.lt_of_le_of_lt h (by decide)
theorem ok_is_list_of_keys (T : Txt K mg A) : FnOk P w K mg base CX0 2 A.f_is_list_of_keys A.d_is_list_of_keys ["numbers"] (spList K Vbchaj.listed) := by
  refine T.F_is_list_of_keys.ok sc_is_list_of_keys (fun vs H Q E h => ?_) (fun cdv A' outer s H vs Q E hr h => ?_)
  · obtain ⟨l, n, rfl, _⟩ := h
    rfl
  · obtain ⟨l, ns, rfl, hl, hn, q⟩ := h
    have hu := hu_of hr
    refine ⟨_, (pss_one (ps_ret (pe_and (pe_cmpR op_le (pe_callB call_len_seq (by rfl) T.n_len PySem.boot_len (pa_cons (pv 0) pa_nil)) (pe_const (by rfl) T.c_MOST_MEMBERS) (nomark _)) (pe_one (pe_callB (cr_all rfl) (by rfl) T.n_all (by decide +kernel) (pa_cons (pe_lc (own := [("number", 1)]) (g := gName 1) (tt := tYes) (te := _) (by rfl) sc_is_list_of_keys.nd (pi_list (pv 0)) (blkOk_by (own := [("number", 1)]) (N := N_is_list_of_keys) (sc := defScope s_is_list_of_keys) (by decide +kernel)) (fun _ _ _ _ _ => by exact (pg_name (i := 1) sc_is_list_of_keys.nd rfl (Or.inl rfl))) (fun _ _ _ _ _ => by exact pts_nil) (fun _ _ _ _ _ => by exact (pe_call (ok_is_key T) (hr.mono (by decide)) (by rfl) T.g_is_key T.F_is_key.kp T.b_is_key .nil pass0 (pa_cons (pv 1) pa_nil)))) pa_nil)))))), ?_⟩
    refine ⟨_, rfl, _, _, rfl, .inl (SqL.of hl), _, _, rfl, rfl, _, rfl, ?_⟩
    split
    · rename_i h8
      refine ⟨_, rfl, l, rfl, ⟨_, SqL.of hl⟩, fun D hD => lc_pure1 keyedV hD (SqL.of hl) (small40 (by simpa using hn)) ?_ ?_⟩
      · intro x hx H' Q' _ q'
        obtain ⟨n, _, rfl⟩ := List.mem_map.mp hx
        exact ⟨_, rfl, n, rfl, q'⟩
      · refine ⟨D, ns.map Vbchaj.keyed, rfl, SqL.of (Eq.trans upd_same ?_), ?_⟩
        · rw [List.map_map, List.map_map]
          rfl
        · have e : Vbchaj.listed ns = (ns.map Vbchaj.keyed).all id := by
            have h8' : ns.length ≤ 8 := by
              rw [List.length_map] at h8
              have := of_decide_eq_true h8
              omega
            unfold Vbchaj.listed
            rw [decide_eq_true (show ns.length ≤ Vbchaj.MEMBERS from h8'), Bool.true_and, List.all_map]
            rfl
          rw [← e]
          exact q _ (same_new hD)
    · rename_i h8
      have e : Vbchaj.listed ns = false := by
        have h8' : ¬ ns.length ≤ 8 := by
          intro z
          apply h8
          rw [List.length_map]
          exact decide_eq_true (by omega)
        unfold Vbchaj.listed
        rw [decide_eq_false (show ¬ ns.length ≤ Vbchaj.MEMBERS from h8'), Bool.false_and]
      rw [← e]
      exact q H (Same.refl H)
theorem ok_is_list_of_places (T : Txt K mg A) : FnOk P w K mg base CX0 2 A.f_is_list_of_places A.d_is_list_of_places ["numbers"] (spList K fun l => decide (l.length % 2 = 0) && (decide (l.length ≤ 2 * Vbchaj.CLIENTS) && l.all Vbchaj.keyed)) := by
  refine T.F_is_list_of_places.ok sc_is_list_of_places (fun vs H Q E h => ?_) (fun cdv A' outer s H vs Q E hr h => ?_)
  · obtain ⟨l, n, rfl, _⟩ := h
    rfl
  · obtain ⟨l, ns, rfl, hl, hn, q⟩ := h
    have hu := hu_of hr
    refine ⟨_, (pss_cons (ps_if (PW.pt (pw_or (pt_cmpR op_gt (pe_callB call_len_seq (by rfl) T.n_len PySem.boot_len (pa_cons (pv 0) pa_nil)) (pe_const (by rfl) T.c_MOST_PLACES) (nomark _)) (pw_or1 (pt_cmpR op_eq (pe_op op_mod (pe_callB call_len_seq (by rfl) T.n_len PySem.boot_len (pa_cons (pv 0) pa_nil)) pe_int) pe_int (nomark _))))) (pss_one (ps_ret pe_bl)) pss_nil)
      (pss_one (ps_ret (pe_callB (cr_all rfl) (by rfl) T.n_all (by decide +kernel) (pa_cons (pe_lc (own := [("number", 1)]) (g := gName 1) (tt := tYes) (te := _) (by rfl) sc_is_list_of_places.nd (pi_list (pv 0)) (blkOk_by (own := [("number", 1)]) (N := N_is_list_of_places) (sc := defScope s_is_list_of_places) (by decide +kernel)) (fun _ _ _ _ _ => by exact (pg_name (i := 1) sc_is_list_of_places.nd rfl (Or.inl rfl))) (fun _ _ _ _ _ => by exact pts_nil) (fun _ _ _ _ _ => by exact (pe_call (ok_is_key T) (hr.mono (by decide)) (by rfl) T.g_is_key T.F_is_key.kp T.b_is_key .nil pass0 (pa_cons (pv 1) pa_nil)))) pa_nil))))), ?_⟩
    refine ⟨_, rfl, _, _, rfl, .inl (SqL.of hl), _, _, rfl, rfl, _, rfl, ?_⟩
    rw [List.length_map]
    by_cases h32 : ns.length ≤ 32
    · rw [decide_eq_false (show ¬ (32 : Int) < (ns.length : Int) by omega)]
      refine iteF ⟨_, rfl, _, _, rfl, .inl (SqL.of hl), _, _, rfl, rfl, (by show (0 : Int) < 2; decide), rfl, _, rfl, ?_⟩
      rw [List.length_map]
      have e0 : decide (V.int ((ns.length : Int) % 2) = V.int 1) = !decide (ns.length % 2 = 0) := by
        rw [Bool.eq_iff_iff, decide_eq_true_eq, Bool.not_eq_true', decide_eq_false_iff_not]
        constructor
        · intro h
          have := V.int.inj h
          omega
        · intro h
          congr 1
          omega
      by_cases h2 : ns.length % 2 = 0
      · rw [decide_eq_true h2] at e0
        refine (congrArg (fun b : Bool => if b = true then _ else _) e0).mpr ?_
        refine iteF ?_
        refine ⟨_, rfl, l, rfl, ⟨_, SqL.of hl⟩, fun D hD => lc_pure1 keyedV hD (SqL.of hl) (small40 (by simpa using hn)) ?_ ?_⟩
        · intro x hx H' Q' _ q'
          obtain ⟨n, _, rfl⟩ := List.mem_map.mp hx
          exact ⟨_, rfl, n, rfl, q'⟩
        · refine ⟨D, ns.map Vbchaj.keyed, rfl, SqL.of (Eq.trans upd_same ?_), ?_⟩
          · rw [List.map_map, List.map_map]
            rfl
          · have e : (decide (ns.length % 2 = 0) && (decide (ns.length ≤ 2 * Vbchaj.CLIENTS) && ns.all Vbchaj.keyed)) = (ns.map Vbchaj.keyed).all id := by
              rw [decide_eq_true h2, decide_eq_true (show ns.length ≤ 2 * Vbchaj.CLIENTS from h32), Bool.true_and, Bool.true_and, List.all_map]
              rfl
            rw [← e]
            exact q _ (same_new hD)
      · rw [decide_eq_false h2] at e0
        refine (congrArg (fun b : Bool => if b = true then _ else _) e0).mpr ?_
        refine iteT ?_
        have e : (decide (ns.length % 2 = 0) && (decide (ns.length ≤ 2 * Vbchaj.CLIENTS) && ns.all Vbchaj.keyed)) = false := by
          rw [decide_eq_false h2, Bool.false_and]
        rw [← e]
        exact q H (Same.refl H)
    · rw [decide_eq_true (show (32 : Int) < (ns.length : Int) by omega)]
      refine iteT (iteT ?_)
      have e : (decide (ns.length % 2 = 0) && (decide (ns.length ≤ 2 * Vbchaj.CLIENTS) && ns.all Vbchaj.keyed)) = false := by
        rw [decide_eq_false (show ¬ ns.length ≤ 2 * Vbchaj.CLIENTS from h32), Bool.false_and, Bool.and_false]
      rw [← e]
      exact q H (Same.refl H)
theorem ok_has_one_twice (T : Txt K mg A) : FnOk P w K mg base CX0 1 A.f_has_one_twice A.d_has_one_twice ["numbers"] (spList K fun l => !decide l.Nodup) := by
  refine T.F_has_one_twice.ok sc_has_one_twice (fun vs H Q E h => ?_) (fun cdv A' outer s H vs Q E hr h => ?_)
  · obtain ⟨l, n, rfl, _⟩ := h
    rfl
  · obtain ⟨l, ns, rfl, hl, hn, q⟩ := h
    have hu := hu_of hr
    refine ⟨_, (pss_one (ps_ret (pe_cmpR op_lt (pe_lenSetG (by rfl) T.n_len (by rfl) T.n_set (pv 0)) (pe_callB call_len_seq (by rfl) T.n_len PySem.boot_len (pa_cons (pv 0) pa_nil)) (nomark _)))), ?_⟩
    refine ⟨_, rfl, l, ns, rfl, SqL.of hl, by omega, fun n h => ?_⟩
    refine ⟨_, rfl, _, _, rfl, .inl (SqL.of hl), _, _, rfl, rfl, ?_⟩
    have e : decide ((n : Int) < ((ns.map V.int).length : Int)) = !decide ns.Nodup := by
      rw [List.length_map, Bool.eq_iff_iff, decide_eq_true_eq, Bool.not_eq_true', decide_eq_false_iff_not, ← h]
      omega
    show Q (.bl (decide ((n : Int) < ((ns.map V.int).length : Int)))) H
    rw [e]
    exact q H (Same.refl H)
end CW

end

section
namespace CW
open PySem PySem.Spec PyProof.Rows L2 CM
variable {P : Program} {w : World} {K : PySem.W.Frag} {mg : Str → Option Value} {base : Heap} {A : Adr}
theorem small1 {n : Nat} (h : n ≤ 100) : n < sizeLine := Nat.lt_of_le_of_lt h (by decide)
/-! ### House() -/
def spHInit (C : Addr) : Sp := fun vs H Q _ => ∃ (p dx : Addr), vs = [.ref p] ∧ H p = some (.ins C dx []) ∧
  ∀ (H' : Hp) (dr dO dt : Addr), (∀ z, HouseAt C H' ⟨p, dr, dO, dt, z⟩ [] [] []) → H dr = none → H dO = none → H dt = none → (∀ b o, H b = some o → b ≠ p → H' b = some o) → Q .non H'
theorem putF3 (a b c : V) : putF "takers" c (putF "orders" b (putF "rooms" a [])) = ([("rooms", a), ("orders", b), ("takers", c)] : List (Str × V)) := by
  have e1 : ¬ (("rooms" : Str) = "orders") := by decide +kernel
  have e2 : ¬ (("rooms" : Str) = "takers") := by decide +kernel
  have e3 : ¬ (("orders" : Str) = "takers") := by decide +kernel
  show putF "takers" c (putF "orders" b [(("rooms" : Str), a)]) = _
  have h1 : putF "orders" b [(("rooms" : Str), a)] = [(("rooms" : Str), a), ("orders", b)] := if_neg e1
  rw [h1]
  show (if ("rooms" : Str) = "takers" then _ else (("rooms" : Str), a) :: (if ("orders" : Str) = "takers" then _ else (("orders" : Str), b) :: [(("takers" : Str), c)])) = _
  rw [if_neg e2, if_neg e3]
theorem ok_House_init (T : Txt K mg A) : FnOk P w K mg base CX0 1 A.f_House_init A.d_House_init ["self"] (spHInit A.C_House) := by
  refine T.F_House_init.ok sc_House_init (fun vs H Q E h => ?_) (fun cdv A' outer s H vs Q E hr h => ?_)
  · obtain ⟨p, dx, rfl, _⟩ := h
    rfl
  · obtain ⟨p, dx, rfl, hp, q⟩ := h
    refine ⟨_, (pss_cons (ps_fld (pv 0) pe_dnewK rfl)
      (pss_cons (ps_fld (pv 0) pe_dnewK rfl)
      (pss_one (ps_fld (pv 0) pe_dnewK rfl)))), ?_⟩
    intro dr h1
    have n1 : p ≠ dr := ne_of_none hp h1
    refine ⟨_, rfl, p, A.C_House, dx, _, rfl, (by rw [upd_ne n1]; exact hp), T.cl_House, T.a_House_rooms, (by show 0 < 1000; decide), ?_⟩
    intro dO h2
    have n2 : p ≠ dO := ne_of_none upd_same h2
    rw [upd_ne n2.symm] at h2
    have n3 : dr ≠ dO := ne_of_none upd_same h2
    refine ⟨_, rfl, p, A.C_House, dx, _, rfl, (by rw [upd_ne n2, upd_same]), T.cl_House, T.a_House_orders, (by show 1 < 1000; decide), ?_⟩
    intro dt h3
    have n4 : p ≠ dt := ne_of_none upd_same h3
    rw [upd_ne n4.symm] at h3
    have n5 : dO ≠ dt := ne_of_none upd_same h3
    rw [upd_ne n5.symm, upd_ne n4.symm] at h3
    have n6 : dr ≠ dt := ne_of_none upd_same h3
    refine ⟨_, rfl, p, A.C_House, dx, _, rfl, (by rw [upd_ne n4, upd_same]), T.cl_House, T.a_House_takers, ?_, ?_⟩
    · have e1 : ¬ (("rooms" : Str) = "orders") := by decide +kernel
      have h1 : putF "orders" (.ref dO) [(("rooms" : Str), V.ref dr)] = [(("rooms" : Str), V.ref dr), ("orders", .ref dO)] := if_neg e1
      show (putF "orders" (.ref dO) [(("rooms" : Str), V.ref dr)]).length < 1000
      rw [h1]
      show 2 < 1000
      decide
    · rw [upd_ne n3.symm] at h2
      rw [upd_ne n6.symm] at h3
      refine q _ dr dO dt (fun z => ⟨⟨dx, Eq.trans upd_same (congrArg (fun l => some (HO.ins A.C_House dx l)) (putF3 _ _ _))⟩, ?_, ?_, ?_, by simp, n3, n6, n5, by simp⟩) h1 h2 h3 fun b o e hb => ?_
      · show upd _ p _ dr = _
        rw [upd_ne n1.symm, upd_ne n6, upd_ne n1.symm, upd_ne n3, upd_ne n1.symm, upd_same]
        rfl
      · show upd _ p _ dO = _
        rw [upd_ne n2.symm, upd_ne n5, upd_ne n2.symm, upd_same]
        rfl
      · show upd _ p _ dt = _
        rw [upd_ne n4.symm, upd_same]
        rfl
      · rw [upd_ne hb, upd_ne (ne_of_none e h3), upd_ne hb, upd_ne (ne_of_none e h2), upd_ne hb, upd_ne (ne_of_none e h1)]
        exact e

/-! ### has_members, is_taker, forget_client -/
def spHasM (C : Addr) : Sp := fun vs H Q _ => ∃ (a : HA) (R O : List (Nat × Nat)) (TT : TT3) (l : Addr) (ns : List Int), vs = [.ref a.p, .ref l] ∧ HouseAt C H a R O TT ∧ H l = some (.lst (ns.map V.int)) ∧ ns.length ≤ 40 ∧
  ∀ H', Same H H' → Q (.bl (ns.all fun n => (valV (enc nV R) (Sum.inl n)).isSome)) H'
def hasV (kvs : List (Key × V)) : V → V
  | .int n => .bl (valV kvs (Sum.inl n)).isSome
  | _ => .non
theorem ok_House_has_members (T : Txt K mg A) : FnOk P w K mg base CX0 1 A.f_House_has_members A.d_House_has_members ["self", "keys"] (spHasM A.C_House) := by
  refine T.F_House_has_members.ok sc_House_has_members (fun vs H Q E h => ?_) (fun cdv A' outer s H vs Q E hr h => ?_)
  · obtain ⟨a, R, O, TT, l, ns, rfl, _⟩ := h
    rfl
  · obtain ⟨a, R, O, TT, l, ns, rfl, hh, hl, hn, q⟩ := h
    have hu := hu_of hr
    refine ⟨_, (pss_one (ps_ret (pe_callB (cr_all rfl) (by rfl) T.n_all (by decide +kernel) (pa_cons (pe_lc (own := [("key", 2)]) (g := gName 2) (tt := tYes) (te := (tDIn (tVar 2) (tFld K (tVar 0) "rooms"))) (by rfl) sc_House_has_members.nd (pi_list (pv 1)) (blkOk_by (own := [("key", 2)]) (N := N_House_has_members) (sc := defScope s_House_has_members) (by decide +kernel)) (fun _ _ _ _ _ => by exact (pg_name (i := 2) sc_House_has_members.nd rfl (Or.inl rfl))) (fun _ _ _ _ _ => by exact pts_nil) (fun _ _ _ _ _ => by exact (pe_cmp (pc_din (by exact hu) (pv 2) (pe_fld (pv 0) (by rfl)))))) pa_nil)))), ?_⟩
    refine ⟨_, rfl, l, rfl, ⟨_, SqL.of hl⟩, fun D hD => lc_pure1 (hasV (enc nV R)) hD (SqL.of hl) (small40 (by simpa using hn)) ?_ ?_⟩
    · intro x hx H' Q' sm q'
      obtain ⟨n, _, rfl⟩ := List.mem_map.mp hx
      refine ⟨_, rfl, fld_rooms T (hh.same sm) rfl ?_⟩
      exact ⟨_, _, rfl, DGet.k (k := Sum.inl n) (hh.same sm).rc, q'⟩
    · refine ⟨D, ns.map fun n => (valV (enc nV R) (Sum.inl n)).isSome, rfl, SqL.of (Eq.trans upd_same ?_), ?_⟩
      · rw [List.map_map, List.map_map]
        rfl
      · rw [List.all_map]
        exact q _ (same_new hD)
def spIsT (C : Addr) : Sp := fun vs H Q _ => ∃ (a : HA) (R O : List (Nat × Nat)) (TT : TT3) (m : Int), vs = [.ref a.p, .int m] ∧ HouseAt C H a R O TT ∧ TT.length ≤ 16 ∧ (keysA TT).Nodup ∧
  ∀ H', Same H H' → Q (.bl (TT.any fun x => x.2.2.any fun t => (t : Int) == m)) H'
theorem inV_nat (m : Int) (ts : List Nat) : inV (.int m) (ts.map nV) = ts.any fun t => (t : Int) == m := by
  unfold inV
  rw [List.any_map]
  rfl
theorem flat_nat (ts : List Nat) : (ts.map nV).all flatV = true := by
  rw [List.all_map, List.all_eq_true]
  intro x _
  rfl
def isTV (TT : TT3) (m : Int) : V → V
  | .int n => .bl (match aget TT n.toNat with | some x => x.2.any fun t => (t : Int) == m | none => false)
  | _ => .non
theorem keysV_enc {α : Type} (g : α → V) (l : List (Nat × α)) : keysV (enc g l) = (keysA l).map nV := by
  unfold keysV enc keysA
  rw [List.map_map, List.map_map]
  rfl
theorem ok_House_is_taker (T : Txt K mg A) : FnOk P w K mg base CX0 1 A.f_House_is_taker A.d_House_is_taker ["self", "member"] (spIsT A.C_House) := by
  refine T.F_House_is_taker.ok sc_House_is_taker (fun vs H Q E h => ?_) (fun cdv A' outer s H vs Q E hr h => ?_)
  · obtain ⟨a, R, O, TT, m, rfl, _⟩ := h
    rfl
  · obtain ⟨a, R, O, TT, m, rfl, hh, hz, hnd, q⟩ := h
    have hu := hu_of hr
    obtain ⟨dx, hob⟩ := hh.ob
    refine ⟨_, (pss_one (ps_ret (pe_callB (cr_any rfl) (by rfl) T.n_any (by decide +kernel) (pa_cons (pe_lock (pe_lc (own := [("client", 2)]) (g := gName 2) (tt := tYes) (te := (tOp (rIn K false) (tVar 1) (tDGet (tFld K (tVar 0) "takers") (tVar 2)))) (by rfl) sc_House_is_taker.nd (pi_keys (pe_fld (pv 0) (by rfl))) (blkOk_by (own := [("client", 2)]) (N := N_House_is_taker) (sc := defScope s_House_is_taker) (by decide +kernel)) (fun _ _ _ _ _ => by exact (pg_name (i := 2) sc_House_is_taker.nd rfl (Or.inl rfl))) (fun _ _ _ _ _ => by exact pts_nil) (fun _ _ _ _ _ => by exact (pe_cmpR op_in_seq (pv 1) (pe_dget (by exact hu) (pe_fld (pv 0) (by rfl)) (pv 2) (fun _ _ => rfl)) (by with_unfolding_all rfl))))) pa_nil)))), ?_⟩
    refine lk_pure a.dt (enc tV TT) (fun _ => true) (isTV TT m) hh.tc (by rw [enc_len]; exact small1 (by omega)) ?_ ?_ ?_ ?_
    · intro H' Q' e q'
      exact ⟨_, rfl, a.p, A.C_House, dx, _, _, rfl, (by rw [e _ hh.pt]; exact hob), T.cl_House, T.a_House_takers, hF_takers a, q'⟩
    · intro x _ H' Q' _ _ q'
      exact q'
    · intro x hx H' Q' e ⟨od, ez⟩ q'
      rw [keysV_enc] at hx
      obtain ⟨n, hn, rfl⟩ := List.mem_map.mp hx
      obtain ⟨y, hy⟩ := aget_key hn
      have hym := aget_some_mem _ _ _ hy
      have hl := hh.tl _ hym
      have hl' : H' y.1 = some (.lst (y.2.map nV)) := e _ _ (ne_of hl hh.tc (by intro z; cases z)) hl
      have hob' : H' a.p = some (.ins A.C_House dx (hF a)) := e _ _ hh.pt hob
      refine ⟨_, rfl, ?_⟩
      refine ⟨_, rfl, a.p, A.C_House, dx, _, _, rfl, hob', T.cl_House, T.a_House_takers, hF_takers a, ?_⟩
      refine ⟨_, rfl, a.dt, .ref y.1, rfl, .inl ⟨enc tV TT, kN n, .inr ⟨od, ez⟩, rfl, ?_⟩, ?_⟩
      · rw [valV_enc, hy]
        rfl
      · refine ⟨y.1, _, rfl, .inl (SqL.of hl'), rfl, flat_nat _, ?_⟩
        have e1 : isTV TT m (nV n) = .bl (inV (.int m) (y.2.map nV)) := by
          rw [inV_nat]
          show V.bl (match aget TT (n : Int).toNat with | some x => x.2.any fun t => (t : Int) == m | none => false) = _
          rw [Int.toNat_natCast, hy]
        rw [if_neg Bool.false_ne_true, ← e1]
        exact q'
    · intro D hD
      have e0 : (keysV (enc tV TT)).filter (fun _ => true) = keysV (enc tV TT) := List.filter_eq_self.mpr (fun _ _ => rfl)
      refine ⟨D, TT.map fun x => x.2.2.any fun t => (t : Int) == m, rfl, SqL.of (Eq.trans upd_same ?_), ?_⟩
      · rw [e0, keysV_enc]
        congr 2
        unfold keysA
        rw [List.map_map, List.map_map, List.map_map]
        apply List.map_congr_left
        intro x hx
        have hg : aget TT x.1 = some x.2 := aget_of_mem _ _ _ hnd hx
        show V.bl (match aget TT (x.1 : Int).toNat with | some x => x.2.any fun t => (t : Int) == m | none => false) = _
        rw [Int.toNat_natCast, hg]
        rfl
      · rw [List.any_map]
        exact q _ (same_new hD)
def spForget (C : Addr) : Sp := fun vs H Q _ => ∃ (a : HA) (R O : List (Nat × Nat)) (TT : TT3) (k : Nat), vs = [.ref a.p, .int k] ∧ HouseAt C H a R O TT ∧ k ∈ keysA O ∧ k ∈ keysA TT ∧
  ∀ H', HouseAt C H' a R (adrop O k) (adrop TT k) → (∀ b o, H b = some o → b ≠ a.dO → b ≠ a.dt → H' b = some o) → (∀ b, H b = none → H' b = none) → Q .non H'
theorem HouseAt.ksub {C : Addr} {H : Hp} {a : HA} {R O : List (Nat × Nat)} {TT : TT3} (h : HouseAt C H a R O TT) (k : Nat) : ∀ x ∈ adrop TT k, H x.2.1 = some (.lst (x.2.2.map nV)) := fun x hx => h.tl x (List.mem_filter.mp hx).1
theorem free_upd {H : Hp} {d b : Addr} {o u : HO} (h : H d = some o) (hb : H b = none) : (upd H d u) b = none := by
  rw [upd_ne (ne_of_none h hb).symm]
  exact hb
theorem ok_House_forget_client (T : Txt K mg A) : FnOk P w K mg base CX0 1 A.f_House_forget_client A.d_House_forget_client ["self", "client"] (spForget A.C_House) := by
  refine T.F_House_forget_client.ok sc_House_forget_client (fun vs H Q E h => ?_) (fun cdv A' outer s H vs Q E hr h => ?_)
  · obtain ⟨a, R, O, TT, m, rfl, _⟩ := h
    rfl
  · obtain ⟨a, R, O, TT, k, rfl, hh, hO, hT, q⟩ := h
    have hu := hu_of hr
    refine ⟨_, (pss_cons (ps_expr (pe_dpop1 (pe_fld (pv 0) (by rfl)) (pv 1) ⟨rfl, rfl, rfl, rfl⟩))
      (pss_one (ps_expr (pe_dpop1 (pe_fld (pv 0) (by rfl)) (pv 1) ⟨rfl, rfl, rfl, rfl⟩)))), ?_⟩
    refine go_seq (go_drop (go_pop1 (fld_orders T hh (by rfl) ?_)))
    obtain ⟨o1, ho1⟩ := aget_key hO
    obtain ⟨t1, ht1⟩ := aget_key hT
    refine ⟨a.dO, rfl, .inl ⟨_, .inl hh.oc⟩, _, rfl, enc nV O, kN k, nV o1, hh.oc, rfl, (by rw [valV_enc, ho1]; rfl), ?_⟩
    rw [dropK_enc]
    have h2 := hh.setO (adrop O k)
    refine go_drop (go_pop1 (fld_takers T h2 (by rfl) ?_))
    refine ⟨a.dt, rfl, .inl ⟨_, .inl h2.tc⟩, _, rfl, enc tV TT, kN k, tV t1, h2.tc, rfl, (by rw [valV_enc, ht1]; rfl), ?_⟩
    rw [dropK_enc]
    have h3 := h2.setT (adrop TT k) (h2.ksub k) (fun x hx => h2.nz x (List.mem_filter.mp hx).1)
    refine q _ h3 (fun b o e h4 h5 => ?_) (fun b e => ?_)
    · rw [upd_ne h5, upd_ne h4]
      exact e
    · exact free_upd h2.tc (free_upd hh.oc e)
end CW

end

section
namespace CW
open PySem PySem.Spec PyProof.Rows L2 CM
variable {P : Program} {w : World} {K : PySem.W.Frag} {mg : Str → Option Value} {base : Heap} {A : Adr}
/-- two numbers in a tuple -/
def two (H : Hp) : V → Int × Int
  | .ref t => match H t with
    | some (.tup [.int a, .int b]) => (a, b)
    | _ => (0, 0)
  | _ => (0, 0)
theorem two_of {H : Hp} {t : Addr} {a b : Int} (h : H t = some (.tup [.int a, .int b])) : two H (.ref t) = (a, b) := by
  simp only [two, h]
theorem order_eq {s : Vbchaj.State} {O : List (Nat × Nat)} {L : List (Int × Int)} (G : Good s) (h : (s.clients.map fun c => (c.key, c.order)).Perm O) (h2 : L.Perm (O.map fun x => ((x.2 : Int), (x.1 : Int))))
    (h3 : L.Pairwise fun x y => SrtO.lexB y x = false) : L.map (fun x => V.int x.2) = (Vbchaj.keysOf s.clients).map nV := by
  have e : L = s.clients.map fun c => ((c.order : Int), (c.key : Int)) := by
    refine List.Perm.eq_of_pairwise (le := fun x y => SrtO.lexB y x = false) ?_ h3 ?_ ?_
    · intro a b _ _ h5 h6
      have a1 := SrtO.lexB_no.mp h5
      have a2 := SrtO.lexB_no.mp h6
      have e1 : a.1 = b.1 := by omega
      have e2 : a.2 = b.2 := by omega
      exact Prod.ext e1 e2
    · refine List.pairwise_map.mpr (G.csort.imp fun {a b} h5 => ?_)
      refine SrtO.lexB_no.mpr ?_
      simp only [Vbchaj.sooner, Bool.or_eq_true, Bool.and_eq_true, decide_eq_true_eq, beq_iff_eq] at h5
      show ¬ ((b.order : Int) < a.order ∨ (b.order : Int) = a.order ∧ (b.key : Int) < a.key)
      omega
    · refine h2.trans ?_
      have := (h.map fun x => ((x.2 : Int), (x.1 : Int))).symm
      rw [List.map_map] at this
      exact this
  rw [e]
  unfold Vbchaj.keysOf
  rw [List.map_map, List.map_map]
  rfl
/-- the clients' keys in their order, a new list -/
def spOrder (C : Addr) : Sp := fun vs H Q _ => ∃ (a : HA) (R O : List (Nat × Nat)) (TT : TT3) (s : Vbchaj.State), vs = [.ref a.p] ∧ HouseAt C H a R O TT ∧ Good s ∧ (s.clients.map fun c => (c.key, c.order)).Perm O ∧
  ∀ H' l, Same H H' → H l = none → H' l = some (.lst ((Vbchaj.keysOf s.clients).map nV)) → Q (.ref l) H'
theorem ok_House_clients_in_order (T : Txt K mg A) : FnOk P w K mg base CX0 1 A.f_House_clients_in_order A.d_House_clients_in_order ["self"] (spOrder A.C_House) := by
  refine T.F_House_clients_in_order.ok sc_House_clients_in_order (fun vs H Q E h => ?_) (fun cdv A' outer s H vs Q E hr h => ?_)
  · obtain ⟨a, R, O, TT, s, rfl, _⟩ := h
    rfl
  · obtain ⟨a, R, O, TT, s, rfl, hh, G, hO, q⟩ := h
    have hu := hu_of hr
    obtain ⟨dx, hob⟩ := hh.ob
    have lenO : O.length ≤ 16 := by
      have := hO.length_eq
      rw [List.length_map] at this
      have := G.clen
      unfold Vbchaj.CLIENTS at this
      omega
    refine ⟨_, (pss_cons (ps_set (i := 1) sc_House_clients_in_order.nd rfl (Or.inl rfl) (pe_callB cr_sortedPO (by rfl) T.n_sorted (by decide +kernel) (pa_cons (pe_lock (pe_lc (own := [("client", 2)]) (g := gName 2) (tt := tYes) (te := (tTup (tCons (tDGet (tFld K (tVar 0) "orders") (tVar 2)) (tCons (tVar 2) tNil)))) (by rfl) sc_House_clients_in_order.nd (pi_keys (pe_fld (pv 0) (by rfl))) (blkOk_by (own := [("client", 2)]) (N := N_House_clients_in_order) (sc := defScope s_House_clients_in_order) (by decide +kernel)) (fun _ _ _ _ _ => by exact (pg_name (i := 2) sc_House_clients_in_order.nd rfl (Or.inl rfl))) (fun _ _ _ _ _ => by exact pts_nil) (fun _ _ _ _ _ => by exact (pe_tup (pa_cons (pe_dget (by exact hu) (pe_fld (pv 0) (by rfl)) (pv 2) (fun _ _ => rfl)) (pa_cons (pv 2) pa_nil)))))) pa_nil)))
      (pss_one (ps_ret (pe_lc (own := [("pair", 3)]) (g := gName 3) (tt := tYes) (te := (tOp (rIxT K) (tVar 3) (tC (V.int 1)))) (by rfl) sc_House_clients_in_order.nd (pi_list (pv 1)) (blkOk_by (own := [("pair", 3)]) (N := N_House_clients_in_order) (sc := defScope s_House_clients_in_order) (by decide +kernel)) (fun _ _ _ _ _ => by exact (pg_name (i := 3) sc_House_clients_in_order.nd rfl (Or.inl rfl))) (fun _ _ _ _ _ => by exact pts_nil) (fun _ _ _ _ _ => by exact (pe_ix ix_tup (pv 3) pe_int (fun _ _ => rfl))))))), ?_⟩
    refine go_seq (go_asg (go_cb (go_cons ?_)))
    refine ⟨a.dO, .dK (enc nV O), hh.oc, trivial, fun od => ?_⟩
    refine ⟨_, rfl, a.p, A.C_House, dx, _, _, rfl, (by rw [upd_ne hh.po]; exact hob), T.cl_House, T.a_House_orders, hF_orders a, ?_⟩
    refine ⟨a.dO, od, rfl, .inl ⟨enc nV O, upd_same, fun D hD => ?_⟩⟩
    have hDd : D ≠ a.dO := fun e => by rw [e, upd_same] at hD; cases hD
    have hD0 : H D = none := by rwa [upd_ne hDd] at hD
    refine ⟨fun j m H' => m = O.length - j ∧ j ≤ O.length ∧ H' a.dO = some (.frz od (.dK (enc nV O))) ∧ (∀ b o, b ≠ a.dO → H b = some o → H' b = some o) ∧
      ∃ ts : List Addr, H' D = some (.lst (ts.map V.ref)) ∧ ts.length = j ∧ ∀ i t, ts[i]? = some t → ∃ x : Nat × Nat, O[i]? = some x ∧ H' t = some (.tup [nV x.2, nV x.1]),
      ⟨_, rfl, Nat.zero_le _, by rw [upd_ne hDd.symm, upd_same], fun b o hb e => by rw [upd_ne (ne_of_none e hD0), upd_ne hb]; exact e, [], upd_same, rfl, fun (i : Nat) (t : Addr) h => by simp at h⟩, ?_⟩
    rintro j m H' ⟨rfl, hj, ez, fr, ts, hts, htl, htt⟩
    by_cases hlt : j < O.length
    · refine .inr ⟨⟨ez, by rw [enc_len]; exact hlt⟩, fun H2 => j + 1 ≤ O.length ∧ H2 a.dO = some (.frz od (.dK (enc nV O))) ∧ (∀ b o, b ≠ a.dO → H b = some o → H2 b = some o) ∧
        ∃ ts : List Addr, H2 D = some (.lst (ts.map V.ref)) ∧ ts.length = j + 1 ∧ ∀ i t, ts[i]? = some t → ∃ x : Nat × Nat, O[i]? = some x ∧ H2 t = some (.tup [nV x.2, nV x.1]), fun H2 e => ⟨O.length - (j + 1), by omega, rfl, e⟩, ?_⟩
      rintro x H2 ⟨rfl, k, v, hk, rfl⟩
      obtain ⟨x0, hx0, rfl, rfl⟩ := enc_get hk
      refine ⟨rfl, go_yes (iteT ?_)⟩
      have hg : aget O x0.1 = some x0.2 := by
        refine aget_of_mem _ _ _ ?_ (List.mem_of_getElem? hx0)
        have := keysA_perm hO
        rw [keysA_clients] at this
        exact this.nodup_iff.mp G.cnd
      refine go_tup (go_cons (go_dget ?_))
      refine ⟨_, rfl, a.p, A.C_House, dx, _, _, rfl, fr _ _ hh.po hob, T.cl_House, T.a_House_orders, hF_orders a, ?_⟩
      refine ⟨_, rfl, a.dO, nV x0.2, rfl, .inl ⟨enc nV O, kN x0.1, .inr ⟨od, ez⟩, rfl, (by rw [valV_enc, hg]; rfl)⟩, ?_⟩
      refine ⟨_, rfl, (by show 2 ≤ sizeLine; decide), fun t ht => ?_⟩
      have htD : D ≠ t := ne_of_none hts ht
      refine ⟨ts.map V.ref, by rw [upd_ne htD]; exact hts, by rw [List.length_map, htl]; exact small1 (by omega), ?_⟩
      refine ⟨hlt, by rw [upd_ne hDd.symm, upd_ne (ne_of_none ez ht)]; exact ez, fun b o hb e => ?_, ts ++ [t], ?_, by rw [List.length_append, htl]; rfl, fun i t' h => ?_⟩
      · rw [upd_ne (ne_of_none e hD0), upd_ne (ne_of_none (fr _ _ hb e) ht)]
        exact fr _ _ hb e
      · rw [upd_same, List.map_append]
        rfl
      · by_cases hi : i < ts.length
        · rw [List.getElem?_append_left hi] at h
          obtain ⟨y, h1, h2⟩ := htt i t' h
          refine ⟨y, h1, ?_⟩
          rw [upd_ne (ne_of h2 hts (by intro z; cases z)), upd_ne (ne_of_none h2 ht)]
          exact h2
        · have hi2 : i = ts.length := by
            have := (List.getElem?_eq_some_iff.mp h).1
            rw [List.length_append, List.length_singleton] at this
            omega
          subst hi2
          rw [List.getElem?_append_right (Nat.le_refl _), Nat.sub_self] at h
          obtain rfl : t = t' := Option.some.inj h
          refine ⟨x0, by rw [htl]; exact hx0, ?_⟩
          rw [upd_ne htD.symm, upd_same]
          rfl
    · have ej : j = O.length := by omega
      subst ej
      refine .inl ⟨⟨ez, by rw [enc_len]; exact Nat.le_refl _⟩, ez, ?_⟩
      -- sorted(..)
      have at_ts : ∀ t ∈ ts, ∃ x : Nat × Nat, H' t = some (.tup [nV x.2, nV x.1]) ∧ t ≠ a.dO := fun t ht => by
        obtain ⟨i, hi⟩ := List.mem_iff_getElem?.mp ht
        obtain ⟨x, _, h2⟩ := htt i t hi
        exact ⟨x, h2, ne_of h2 ez (by intro z; cases z)⟩
      refine ⟨D, ts.map V.ref, two H', rfl, SqL.of (by rw [upd_ne hDd]; exact hts), fun x hx => ?_, fun ys p hsrt hstb hp => ?_⟩
      · obtain ⟨t, ht, rfl⟩ := List.mem_map.mp hx
        obtain ⟨x, h2, h3⟩ := at_ts t ht
        refine ⟨t, rfl, ?_⟩
        rw [upd_ne h3, two_of h2]
        exact h2
      · have hys : ∀ y ∈ ys, ∃ t ∈ ts, y = .ref t := fun y hy => by
          obtain ⟨t, ht, e⟩ := List.mem_map.mp (hstb.perm.mem_iff.mp hy)
          exact ⟨t, ht, e.symm⟩
        have pne : p ≠ a.dO := fun e => by rw [e, upd_same] at hp; cases hp
        have lenys : ys.length ≤ 100 := by
          rw [hstb.perm.length_eq, List.length_map, htl]
          omega
        refine ⟨_, rfl, p, rfl, ⟨_, SqL.of upd_same⟩, fun D2 hD2 => lc_pure1 (fun x => V.int (two H' x).2) hD2 (SqL.of upd_same) (small1 lenys) ?_ ?_⟩
        · intro y hy H3 Q' sm q'
          obtain ⟨t, ht, rfl⟩ := hys y hy
          obtain ⟨x, h2, h3⟩ := at_ts t ht
          have h4 : H3 t = some (.tup [nV x.2, nV x.1]) := sm _ _ (by
            rw [upd_ne (ne_of_none (by rw [upd_ne h3]; exact h2) hp), upd_ne h3]
            exact h2)
          refine ⟨_, rfl, t, _, 1, nV x.1, rfl, rfl, SqT.of h4, atI_nat (j := 1) rfl, ?_⟩
          rw [two_of h2] at q'
          exact q'
        · have smf : Same H (upd (upd H' a.dO (.dK (enc nV O))) p (.lst ys)) := fun b o e => by
            by_cases hb : b = a.dO
            · subst hb
              rw [upd_ne pne.symm, upd_same]
              rw [hh.oc] at e
              exact e
            · have h5 : (upd H' a.dO (.dK (enc nV O))) b = some o := by
                rw [upd_ne hb]
                exact fr _ _ hb e
              rw [upd_ne (ne_of_none h5 hp)]
              exact h5
          refine q _ D2 (smf.trans (same_new hD2)) (smf.free hD2) (Eq.trans upd_same (congrArg (fun l => some (HO.lst l)) ?_))
          have e1 : ys.map (fun x => V.int (two H' x).2) = (ys.map (two H')).map fun x => V.int x.2 := by
            rw [List.map_map]
            rfl
          rw [e1]
          refine order_eq G hO ?_ (List.pairwise_map.mpr hsrt)
          refine (hstb.perm.map (two H')).trans (List.Perm.of_eq ?_)
          rw [List.map_map]
          apply List.ext_getElem?
          intro i
          rw [List.getElem?_map, List.getElem?_map]
          cases hi : ts[i]? with
          | none =>
            have h6 := List.getElem?_eq_none_iff.mp hi
            rw [List.getElem?_eq_none_iff.mpr (by omega)]
            rfl
          | some t =>
            obtain ⟨x, h1, h2⟩ := htt i t hi
            rw [h1]
            exact congrArg some (two_of h2)
end CW

end

section
namespace CW
open PySem PySem.Spec PyProof.Rows L2 CM
variable {P : Program} {w : World} {K : PySem.W.Frag} {mg : Str → Option Value} {base : Heap} {A : Adr}
section
variable {C : Addr} {H H1 : Hp} {a : HA} {s s' : Vbchaj.State} {xs : List Int} {Q : VK} {σ : L2.St}
theorem HS.free_of (hs : HS C s' H1 a) (fr : ∀ b o, H b = some o → b ≠ a.dr → b ≠ a.dO → b ≠ a.dt → H1 b = some o) {l : Addr} (hl : H1 l = none) : H l = none := by
  obtain ⟨_, R, O, T, hh, _⟩ := hs
  cases e : H l with
  | none => rfl
  | some o =>
    have n1 : l ≠ a.dr := (ne_of_none hh.rc hl).symm
    have n2 : l ≠ a.dO := (ne_of_none hh.oc hl).symm
    have n3 : l ≠ a.dt := (ne_of_none hh.tc hl).symm
    rw [fr l o e n1 n2 n3] at hl
    cases hl
theorem Ans.put (q : Ans C H a (s', xs) Q) (hs : HS C s' H1 a) (fr : ∀ b o, H b = some o → b ≠ a.dr → b ≠ a.dO → b ≠ a.dt → H1 b = some o) {l : Addr} (hl : H1 l = none) : Q (.ref l) (upd H1 l (.lst (xs.map V.int))) :=
  q _ l (hs.same (same_new hl)) (hs.free_of fr hl) upd_same fun b o e h1 h2 h3 => same_new hl b o (fr b o e h1 h2 h3)
theorem ret1 {z : Int} (hs : HS C s H a) (q : Ans C H a (s, [z]) Q) : tLst (tCons (tC (.int z)) tNil) σ H Q := ⟨(by show 1 ≤ sizeLine; decide), fun l hl => q.plain hs hl⟩
theorem Ans.same {H' : Hp} {r : Vbchaj.State × List Int} (q : Ans C H a r Q) (e : Same H H') : Ans C H' a r Q := fun H2 l hs hl hx fr => q H2 l hs (e.free hl) hx fun b o h1 h2 h3 h4 => fr b o (e b o h1) h2 h3 h4
theorem isSome_enc {α : Type} (g : α → V) (l : List (Nat × α)) (k : Nat) : (valV (enc g l) (kN k)).isSome = (aget l k).isSome := by
  rw [valV_enc]
  cases aget l k <;> rfl
theorem key_nat {z : Int} (h : Vbchaj.keyed z = true) : ∃ k : Nat, z = (k : Int) := ⟨z.toNat, ((keyed_iff z).mp h).2.2.symm⟩
theorem in_nat {z : Int} {n : Nat} (h : Vbchaj.within z 0 n = true) : ∃ k : Nat, z = (k : Int) := ⟨z.toNat, ((within0_iff z n).mp h).2.symm⟩
end
theorem listed_nats {ns : List Int} (h : Vbchaj.listed ns = true) : ns = (Vbchaj.nats ns).map (fun n : Nat => (n : Int)) := by
  have h2 : ns.all Vbchaj.keyed = true := by
    unfold Vbchaj.listed at h
    rw [Bool.and_eq_true] at h
    exact h.2
  unfold Vbchaj.nats
  rw [List.map_map]
  conv => lhs; rw [← List.map_id ns]
  apply List.map_congr_left
  intro z hz
  have := ((keyed_iff z).mp (List.all_eq_true.mp h2 z hz)).2.2
  simp only [id, Function.comp]
  exact this.symm
theorem nodup_nats {ns : List Int} (h : Vbchaj.listed ns = true) : decide ns.Nodup = Vbchaj.distinct (Vbchaj.nats ns) := by
  rw [Bool.eq_iff_iff, decide_eq_true_eq, distinct_iff]
  constructor
  · intro hn
    rw [listed_nats h] at hn
    exact (List.pairwise_map.mp hn).imp fun h e => h (by rw [e])
  · intro hn
    rw [listed_nats h]
    exact List.Pairwise.map _ (fun a b hab e => hab (by omega)) hn
theorem known_all {s : Vbchaj.State} {R O : List (Nat × Nat)} {TT : TT3} (G : Good s) (ab : Abs s R O TT) {ns : List Int} (h : Vbchaj.listed ns = true) :
    (ns.all fun n => (valV (enc nV R) (Sum.inl n)).isSome) = Vbchaj.known s ns := by
  have h2 : ns.all Vbchaj.keyed = true := by
    unfold Vbchaj.listed at h
    rw [Bool.and_eq_true] at h
    exact h.2
  unfold Vbchaj.known
  rw [Bool.eq_iff_iff, List.all_eq_true, List.all_eq_true]
  have e : ∀ z ∈ ns, (valV (enc nV R) (Sum.inl z)).isSome = (Vbchaj.memberAt s z.toNat).isSome := fun z hz => by
    obtain ⟨k, rfl⟩ := key_nat (List.all_eq_true.mp h2 z hz)
    rw [Int.toNat_natCast]
    rw [isSome_enc, ab.room G]
    cases Vbchaj.memberAt s k <;> rfl
  constructor
  · intro h3 z hz
    rw [← e z hz]
    exact h3 z hz
  · intro h3 z hz
    rw [e z hz]
    exact h3 z hz
theorem nats_vals {ns : List Int} (h : Vbchaj.listed ns = true) : ns.map V.int = (Vbchaj.nats ns).map nV := by
  conv => lhs; rw [listed_nats h]
  rw [List.map_map]
  rfl
end CW

end

section
namespace CW
open PySem PySem.Spec PyProof.Rows L2 CM
variable {P : Program} {w : World} {K : PySem.W.Frag} {mg : Str → Option Value} {base : Heap} {A : Adr}
/-! ### the refusals that calls share -/
def refM (s : Vbchaj.State) (key : Int) : List Int := if Vbchaj.keyed key = false then [-1] else match Vbchaj.memberAt s key.toNat with
  | none => [-4]
  | some _ => []
def refC (s : Vbchaj.State) (key : Int) : List Int := if Vbchaj.keyed key = false then [-1] else match Vbchaj.clientAt s key.toNat with
  | none => [-4]
  | some _ => []
def refL (s : Vbchaj.State) (l : List Int) : List Int := if Vbchaj.listed l = false then [-1] else if Vbchaj.distinct (Vbchaj.nats l) = false then [-3] else if Vbchaj.known s l = false then [-4] else []
theorem onM_no {s : Vbchaj.State} {key z : Int} {zs : List Int} (h : refM s key = z :: zs) (f : Vbchaj.Member → Vbchaj.State × List Int) : Vbchaj.onMember s key f = (s, z :: zs) := by
  unfold refM at h
  unfold Vbchaj.onMember
  split at h
  · rename_i h1
    rw [if_pos h1, h]
  · rename_i h1
    rw [if_neg h1]
    split at h
    · rename_i h2
      rw [h2, h]
    · cases h
theorem onM_yes {s : Vbchaj.State} {key : Int} (h : refM s key = []) : ∃ (k : Nat) (m : Vbchaj.Member), key = (k : Int) ∧ Vbchaj.keyed key = true ∧ Vbchaj.memberAt s k = some m ∧ m ∈ s.members ∧ m.key = k ∧ ∀ f, Vbchaj.onMember s key f = f m := by
  unfold refM at h
  split at h
  · cases h
  · rename_i h1
    have hk : Vbchaj.keyed key = true := by simpa using h1
    obtain ⟨k, rfl⟩ := key_nat hk
    rw [Int.toNat_natCast] at h
    cases hm : Vbchaj.memberAt s k with
    | none => rw [hm] at h; cases h
    | some m =>
      obtain ⟨h2, h3⟩ := memberAt_some hm
      refine ⟨k, m, rfl, hk, hm, h2, h3, fun f => ?_⟩
      unfold Vbchaj.onMember
      rw [if_neg h1, Int.toNat_natCast, hm]
theorem onC_no {s : Vbchaj.State} {key z : Int} {zs : List Int} (h : refC s key = z :: zs) (f : Vbchaj.Client → Vbchaj.State × List Int) : Vbchaj.onClient s key f = (s, z :: zs) := by
  unfold refC at h
  unfold Vbchaj.onClient
  split at h
  · rename_i h1
    rw [if_pos h1, h]
  · rename_i h1
    rw [if_neg h1]
    split at h
    · rename_i h2
      rw [h2, h]
    · cases h
theorem onC_yes {s : Vbchaj.State} {key : Int} (h : refC s key = []) : ∃ (k : Nat) (c : Vbchaj.Client), key = (k : Int) ∧ Vbchaj.keyed key = true ∧ Vbchaj.clientAt s k = some c ∧ c ∈ s.clients ∧ c.key = k ∧ ∀ f, Vbchaj.onClient s key f = f c := by
  unfold refC at h
  split at h
  · cases h
  · rename_i h1
    have hk : Vbchaj.keyed key = true := by simpa using h1
    obtain ⟨k, rfl⟩ := key_nat hk
    rw [Int.toNat_natCast] at h
    cases hm : Vbchaj.clientAt s k with
    | none => rw [hm] at h; cases h
    | some c =>
      obtain ⟨h2, h3⟩ := clientAt_some hm
      refine ⟨k, c, rfl, hk, hm, h2, h3, fun f => ?_⟩
      unfold Vbchaj.onClient
      rw [if_neg h1, Int.toNat_natCast, hm]
theorem onL_no {s : Vbchaj.State} {l : List Int} {z : Int} {zs : List Int} (h : refL s l = z :: zs) (f : List Nat → Vbchaj.State × List Int) : Vbchaj.onList s l f = (s, z :: zs) := by
  unfold refL at h
  unfold Vbchaj.onList
  split at h
  · rename_i h1
    rw [if_pos h1, h]
  · rename_i h1
    rw [if_neg h1]
    split at h
    · rename_i h2
      rw [if_pos h2, h]
    · rename_i h2
      rw [if_neg h2]
      split at h
      · rename_i h3
        rw [if_pos h3, h]
      · cases h
theorem onL_yes {s : Vbchaj.State} {l : List Int} (h : refL s l = []) : Vbchaj.listed l = true ∧ Vbchaj.distinct (Vbchaj.nats l) = true ∧ Vbchaj.known s l = true ∧ ∀ f, Vbchaj.onList s l f = f (Vbchaj.nats l) := by
  unfold refL at h
  split at h
  · cases h
  · rename_i h1
    split at h
    · cases h
    · rename_i h2
      split at h
      · cases h
      · rename_i h3
        refine ⟨by simpa using h1, by simpa using h2, by simpa using h3, fun f => ?_⟩
        unfold Vbchaj.onList
        rw [if_neg h1, if_neg h2, if_neg h3]
/-- a new list, nothing else changed -/
def NewL (H : Hp) (xs : List V) (Q : VK) : Prop := ∀ (H' : Hp) (l : Addr), Same H H' → H l = none → H' l = some (.lst xs) → Q (.ref l) H'
theorem NewL.put {H H1 : Hp} {xs : List V} {Q : VK} (q : NewL H xs Q) (s : Same H H1) {l : Addr} (hl : H1 l = none) : Q (.ref l) (upd H1 l (.lst xs)) := q _ l (s.trans (same_new hl)) (s.free hl) upd_same
theorem NewL.one {H H1 : Hp} {z : Int} {Q : VK} {σ : L2.St} (q : NewL H ([z].map V.int) Q) (s : Same H H1) : tLst (tCons (tC (.int z)) tNil) σ H1 Q := ⟨(by show 1 ≤ sizeLine; decide), fun l hl => q.put s hl⟩
theorem NewL.nil {H H1 : Hp} {Q : VK} (q : NewL H (([] : List Int).map V.int) Q) (s : Same H H1) : 0 ≤ sizeLine ∧ ∀ l, H1 l = none → Q (.ref l) (upd H1 l (.lst [])) := ⟨(by show 0 ≤ sizeLine; decide), fun l hl => q.put s hl⟩
theorem Ans.ref {C : Addr} {H H1 : Hp} {a : HA} {s : Vbchaj.State} {xs : List Int} {Q : VK} (q : Ans C H a (s, xs) Q) (hs : HS C s H a) {l : Addr} (sm : Same H H1) (hl0 : H l = none) (hl : H1 l = some (.lst (xs.map V.int))) : Q (.ref l) H1 :=
  q H1 l (hs.same sm) hl0 hl fun b o e _ _ _ => sm b o e
def spRefM (C : Addr) : Sp := fun vs H Q _ => ∃ (a : HA) (s : Vbchaj.State) (key : Int), vs = [.ref a.p, .int key] ∧ HS C s H a ∧ NewL H ((refM s key).map V.int) Q
def spRefC (C : Addr) : Sp := fun vs H Q _ => ∃ (a : HA) (s : Vbchaj.State) (key : Int), vs = [.ref a.p, .int key] ∧ HS C s H a ∧ NewL H ((refC s key).map V.int) Q
def spRefL (C : Addr) : Sp := fun vs H Q _ => ∃ (a : HA) (s : Vbchaj.State) (l : Addr) (ns : List Int), vs = [.ref a.p, .ref l] ∧ HS C s H a ∧ H l = some (.lst (ns.map V.int)) ∧ ns.length ≤ 40 ∧ NewL H ((refL s ns).map V.int) Q
theorem ok_refusal_of_member (T : Txt K mg A) : FnOk P w K mg base CX0 2 A.f_refusal_of_member A.d_refusal_of_member ["house", "key"] (spRefM A.C_House) := by
  refine T.F_refusal_of_member.ok sc_refusal_of_member (fun vs H Q E h => ?_) (fun cdv A' outer s H vs Q E hr h => ?_)
  · obtain ⟨a, s, k, rfl, _⟩ := h
    rfl
  · obtain ⟨a, s, key, rfl, hs, q⟩ := h
    have hu := hu_of hr
    obtain ⟨G, R, O, TT, hh, ab⟩ := id hs
    refine ⟨_, (pss_cons (ps_if (pt_not (pt_val (pe_call (ok_is_key T) (hr.mono (by decide)) (by rfl) T.g_is_key T.F_is_key.kp T.b_is_key .nil pass0 (pa_cons (pv 1) pa_nil)))) (pss_one (ps_ret (pe_lst (pa_cons (pe_const (by rfl) T.c_OUT_OF_RANGE) pa_nil)))) pss_nil)
      (pss_cons (ps_if (pt_cmp (pc_dnotin (by exact hu) (pv 1) (pe_fld (pv 0) (by rfl)))) (pss_one (ps_ret (pe_lst (pa_cons (pe_const (by rfl) T.c_NOT_THERE) pa_nil)))) pss_nil)
      (pss_one (ps_ret (pe_lst pa_nil))))), ?_⟩
    refine ⟨_, rfl, key, rfl, _, rfl, ?_⟩
    unfold refM at q
    cases hk : Vbchaj.keyed key with
    | false =>
      rw [hk] at q
      exact iteT (q.one (Same.refl H))
    | true =>
      rw [hk] at q
      refine iteF ?_
      obtain ⟨k, rfl⟩ := key_nat hk
      rw [Int.toNat_natCast] at q
      refine ⟨_, rfl, fld_rooms T hh rfl ⟨_, _, rfl, DGet.k (k := kN k) hh.rc, _, rfl, ?_⟩⟩
      rw [isSome_enc, ab.room G]
      cases hm : Vbchaj.memberAt s k with
      | none =>
        rw [hm] at q
        exact iteT (q.one (Same.refl H))
      | some m =>
        rw [hm] at q
        exact iteF (q.nil (Same.refl H))
theorem ok_refusal_of_client (T : Txt K mg A) : FnOk P w K mg base CX0 2 A.f_refusal_of_client A.d_refusal_of_client ["house", "key"] (spRefC A.C_House) := by
  refine T.F_refusal_of_client.ok sc_refusal_of_client (fun vs H Q E h => ?_) (fun cdv A' outer s H vs Q E hr h => ?_)
  · obtain ⟨a, s, k, rfl, _⟩ := h
    rfl
  · obtain ⟨a, s, key, rfl, hs, q⟩ := h
    have hu := hu_of hr
    obtain ⟨G, R, O, TT, hh, ab⟩ := id hs
    refine ⟨_, (pss_cons (ps_if (pt_not (pt_val (pe_call (ok_is_key T) (hr.mono (by decide)) (by rfl) T.g_is_key T.F_is_key.kp T.b_is_key .nil pass0 (pa_cons (pv 1) pa_nil)))) (pss_one (ps_ret (pe_lst (pa_cons (pe_const (by rfl) T.c_OUT_OF_RANGE) pa_nil)))) pss_nil)
      (pss_cons (ps_if (pt_cmp (pc_dnotin (by exact hu) (pv 1) (pe_fld (pv 0) (by rfl)))) (pss_one (ps_ret (pe_lst (pa_cons (pe_const (by rfl) T.c_NOT_THERE) pa_nil)))) pss_nil)
      (pss_one (ps_ret (pe_lst pa_nil))))), ?_⟩
    refine ⟨_, rfl, key, rfl, _, rfl, ?_⟩
    unfold refC at q
    cases hk : Vbchaj.keyed key with
    | false =>
      rw [hk] at q
      exact iteT (q.one (Same.refl H))
    | true =>
      rw [hk] at q
      refine iteF ?_
      obtain ⟨k, rfl⟩ := key_nat hk
      rw [Int.toNat_natCast] at q
      refine ⟨_, rfl, fld_orders T hh rfl ⟨_, _, rfl, DGet.k (k := kN k) hh.oc, _, rfl, ?_⟩⟩
      rw [isSome_enc, ab.order G]
      cases hm : Vbchaj.clientAt s k with
      | none =>
        rw [hm] at q
        exact iteT (q.one (Same.refl H))
      | some m =>
        rw [hm] at q
        exact iteF (q.nil (Same.refl H))
theorem ok_refusal_of_members (T : Txt K mg A) : FnOk P w K mg base CX0 3 A.f_refusal_of_members A.d_refusal_of_members ["house", "keys"] (spRefL A.C_House) := by
  refine T.F_refusal_of_members.ok sc_refusal_of_members (fun vs H Q E h => ?_) (fun cdv A' outer s H vs Q E hr h => ?_)
  · obtain ⟨a, s, l, ns, rfl, _⟩ := h
    rfl
  · obtain ⟨a, s, l, ns, rfl, hs, hl, hn, q⟩ := h
    have hu := hu_of hr
    obtain ⟨G, R, O, TT, hh, ab⟩ := id hs
    refine ⟨_, (pss_cons (ps_if (pt_not (pt_val (pe_call (ok_is_list_of_keys T) (hr.mono (by decide)) (by rfl) T.g_is_list_of_keys T.F_is_list_of_keys.kp T.b_is_list_of_keys .nil pass0 (pa_cons (pv 1) pa_nil)))) (pss_one (ps_ret (pe_lst (pa_cons (pe_const (by rfl) T.c_OUT_OF_RANGE) pa_nil)))) pss_nil)
      (pss_cons (ps_if (pt_val (pe_call (ok_has_one_twice T) (hr.mono (by decide)) (by rfl) T.g_has_one_twice T.F_has_one_twice.kp T.b_has_one_twice .nil pass0 (pa_cons (pv 1) pa_nil))) (pss_one (ps_ret (pe_lst (pa_cons (pe_const (by rfl) T.c_ONE_TWICE) pa_nil)))) pss_nil)
      (pss_cons (ps_if (pt_not (pt_val (pe_meth (pv 0) T.cl_House T.m_House_has_members (ok_House_has_members T) (hr.mono (by decide)) T.b_House_has_members .nil pass0 (pa_cons (pv 1) pa_nil)))) (pss_one (ps_ret (pe_lst (pa_cons (pe_const (by rfl) T.c_NOT_THERE) pa_nil)))) pss_nil)
      (pss_one (ps_ret (pe_lst pa_nil)))))), ?_⟩
    refine ⟨_, rfl, l, ns, rfl, hl, hn, fun H2 sm => ⟨Vbchaj.listed ns, rfl, ?_⟩⟩
    unfold refL at q
    cases hls : Vbchaj.listed ns with
    | false =>
      rw [hls] at q
      exact iteT (q.one sm)
    | true =>
      rw [hls] at q
      refine iteF ⟨_, rfl, l, ns, rfl, sm _ _ hl, hn, fun H3 sm3 => ⟨!decide ns.Nodup, rfl, ?_⟩⟩
      have sm03 := sm.trans sm3
      rw [nodup_nats hls]
      cases hd : Vbchaj.distinct (Vbchaj.nats ns) with
      | false =>
        rw [hd] at q
        exact iteT (q.one sm03)
      | true =>
        rw [hd] at q
        refine iteF ?_
        have hh3 := hh.same sm03
        obtain ⟨dx, hob⟩ := hh3.ob
        refine ⟨_, rfl, a.p, dx, hF a, rfl, hob, hF_no a (by decide +kernel) (by decide +kernel) (by decide +kernel), ?_⟩
        refine ⟨_, rfl, a, R, O, TT, l, ns, rfl, hh3, sm03 _ _ hl, hn, fun H4 sm4 => ⟨_, rfl, ?_⟩⟩
        rw [known_all G ab hls]
        cases hkn : Vbchaj.known s ns with
        | false =>
          rw [hkn] at q
          exact iteT (q.one (sm03.trans sm4))
        | true =>
          rw [hkn] at q
          exact iteF (q.nil (sm03.trans sm4))
end CW

end

section
namespace CW
open PySem PySem.Spec PyProof.Rows L2 CM
variable {P : Program} {w : World} {K : PySem.W.Frag} {mg : Str → Option Value} {base : Heap} {A : Adr}
def spMember (C : Addr) : Sp := fun vs H Q _ => ∃ (a : HA) (s : Vbchaj.State) (key room : Int), vs = [.ref a.p, .int key, .int room] ∧ HS C s H a ∧ Ans C H a (Vbchaj.step s (.member key room)) Q
theorem ok_add_member (T : Txt K mg A) : FnOk P w K mg base CX0 2 A.f_add_member A.d_add_member ["house", "key", "room"] (spMember A.C_House) := by
  refine T.F_add_member.ok sc_add_member (fun vs H Q E h => ?_) (fun cdv A' outer s H vs Q E hr h => ?_)
  · obtain ⟨a, s, k, r, rfl, _⟩ := h
    rfl
  · obtain ⟨a, s, key, room, rfl, hs, q⟩ := h
    have hu := hu_of hr
    obtain ⟨G, R, O, TT, hh, ab⟩ := id hs
    refine ⟨_, (pss_cons (ps_if (PW.pt (pw_or (pt_not (pt_val (pe_call (ok_is_key T) (hr.mono (by decide)) (by rfl) T.g_is_key T.F_is_key.kp T.b_is_key .nil pass0 (pa_cons (pv 1) pa_nil)))) (pw_or1 (pt_not (pt_val (pe_call (ok_is_room T) (hr.mono (by decide)) (by rfl) T.g_is_room T.F_is_room.kp T.b_is_room .nil pass0 (pa_cons (pv 2) pa_nil))))))) (pss_one (ps_ret (pe_lst (pa_cons (pe_const (by rfl) T.c_OUT_OF_RANGE) pa_nil)))) pss_nil)
      (pss_cons (ps_if (pt_cmp (pc_din (by exact hu) (pv 1) (pe_fld (pv 0) (by rfl)))) (pss_one (ps_ret (pe_lst (pa_cons (pe_const (by rfl) T.c_KEY_IS_USED) pa_nil)))) pss_nil)
      (pss_cons (ps_if (pt_cmpR op_eq (pe_callB call_lenD (by rfl) T.n_len PySem.boot_len (pa_cons (pe_fld (pv 0) (by rfl)) pa_nil)) (pe_const (by rfl) T.c_MOST_MEMBERS) (nomark _)) (pss_one (ps_ret (pe_lst (pa_cons (pe_const (by rfl) T.c_HOUSE_IS_FULL) pa_nil)))) pss_nil)
      (pss_cons (ps_dput (by exact hu) (pe_fld (pv 0) (by rfl)) (pv 1) (pv 2) rfl)
      (pss_one (ps_ret (pe_lst (pa_cons pe_int pa_nil)))))))), ?_⟩
    refine ⟨_, rfl, key, rfl, _, rfl, ?_⟩
    simp only [Vbchaj.step] at q
    cases hk : Vbchaj.keyed key with
    | false =>
      rw [hk] at q
      exact iteT (iteT (ret1 hs q))
    | true =>
      refine iteF ⟨_, rfl, room, rfl, Vbchaj.within room 0 Vbchaj.ROOM, rfl, ?_⟩
      rw [hk] at q
      cases hr : Vbchaj.within room 0 Vbchaj.ROOM with
      | false =>
        rw [hr] at q
        exact iteT (ret1 hs q)
      | true =>
        rw [hr] at q
        refine iteF ?_
        obtain ⟨k, rfl⟩ := key_nat hk
        obtain ⟨r, rfl⟩ := in_nat hr
        simp only [Int.toNat_natCast] at q
        refine ⟨_, rfl, fld_rooms T hh rfl ⟨_, _, rfl, DGet.k (k := kN k) hh.rc, _, rfl, ?_⟩⟩
        rw [isSome_enc, ab.room G]
        cases hm : Vbchaj.memberAt s k with
        | some m =>
          rw [hm] at q
          exact iteT (ret1 hs q)
        | none =>
          rw [hm] at q
          refine iteF ?_
          refine fld_rooms T hh rfl ⟨_, _, rfl, hh.rc, rfl, _, rfl, ?_⟩
          rw [enc_len, ab.lenR]
          have hlen := G.mlen
          unfold Vbchaj.MEMBERS at hlen
          refine ite2 (fun e => ?_) (fun e => ?_)
          · have e8 : s.members.length = 8 := by
              have := V.int.inj (of_decide_eq_true e)
              omega
            refine ret1 hs ?_
            have e2 : (Vbchaj.MEMBERS ≤ s.members.length) = True := eq_true (by rw [e8]; exact Nat.le_refl _)
            simpa [e2] using q
          · have e8 : s.members.length < 8 := by
              have : ¬ s.members.length = 8 := fun z => e (decide_eq_true (by rw [z]; rfl))
              omega
            refine ⟨_, rfl, fld_rooms T hh rfl ⟨_, rfl, _, _, rfl, DPut.k (k := kN k) hh.rc (by rw [enc_len, ab.lenR]; exact small1 (by omega)), ?_⟩⟩
            have e3 : putK (enc nV R) (kN k) (V.int (r : Int)) = enc nV (aput R k r) := putK_enc nV R k r
            rw [e3]
            refine ⟨(by show 1 ≤ sizeLine; decide), fun l hl => ?_⟩
            have hq : Ans A.C_House H a ({ s with members := Vbchaj.putMember ⟨k, r⟩ s.members }, [0]) Q := by
              have e2 : ¬ (Vbchaj.MEMBERS ≤ s.members.length) := by
                show ¬ (8 ≤ s.members.length)
                omega
              simpa [e2] using q
            have G' : Good { s with members := Vbchaj.putMember ⟨k, r⟩ s.members } := by
              have := step_good G (.member k r)
              have e2 : ¬ (Vbchaj.MEMBERS ≤ s.members.length) := by
                show ¬ (8 ≤ s.members.length)
                omega
              simpa [Vbchaj.step, hk, hr, hm, e2] using this
            have hn : k ∉ keysA R := by
              rw [← aget_none, ab.room G, hm]
              rfl
            refine hq.put ⟨G', _, _, _, hh.setR _, ab.putM hn⟩ (fun b o e h1 h2 h3 => ?_) hl
            rw [upd_ne h1]
            exact e

def spGone (C : Addr) : Sp := fun vs H Q _ => ∃ (a : HA) (s : Vbchaj.State) (key : Int), vs = [.ref a.p, .int key] ∧ HS C s H a ∧ Ans C H a (Vbchaj.step s (.gone key)) Q
theorem taker_any {s : Vbchaj.State} {R O : List (Nat × Nat)} {TT : TT3} (ab : Abs s R O TT) (k : Nat) : (TT.any fun x => x.2.2.any fun t => (t : Int) == (k : Int)) = s.clients.any fun c => c.takers.contains k := by
  rw [Bool.eq_iff_iff]
  simp only [List.any_eq_true, List.contains_eq_mem, decide_eq_true_eq, beq_iff_eq]
  constructor
  · rintro ⟨x, hx, t, ht, e⟩
    have hm : (x.1, x.2.2) ∈ s.clients.map fun c => (c.key, c.takers) := ab.tak.mem_iff.mpr (List.mem_map.mpr ⟨x, hx, rfl⟩)
    obtain ⟨c, hc, e2⟩ := List.mem_map.mp hm
    refine ⟨c, hc, ?_⟩
    have e3 : c.takers = x.2.2 := congrArg Prod.snd e2
    rw [e3]
    have : t = k := by omega
    exact this ▸ ht
  · rintro ⟨c, hc, hk⟩
    have hm : (c.key, c.takers) ∈ TT.map fun x => (x.1, x.2.2) := ab.tak.mem_iff.mp (List.mem_map.mpr ⟨c, hc, rfl⟩)
    obtain ⟨x, hx, e2⟩ := List.mem_map.mp hm
    refine ⟨x, hx, k, ?_, rfl⟩
    have e3 : x.2.2 = c.takers := congrArg Prod.snd e2
    rw [e3]
    exact hk
theorem ok_end_member (T : Txt K mg A) : FnOk P w K mg base CX0 3 A.f_end_member A.d_end_member ["house", "key"] (spGone A.C_House) := by
  refine T.F_end_member.ok sc_end_member (fun vs H Q E h => ?_) (fun cdv A' outer s H vs Q E hr h => ?_)
  · obtain ⟨a, s, k, rfl, _⟩ := h
    rfl
  · obtain ⟨a, s, key, rfl, hs0, q⟩ := h
    have hu := hu_of hr
    refine ⟨_, (pss_cons (ps_set (i := 2) sc_end_member.nd rfl (Or.inl rfl) (pe_call (ok_refusal_of_member T) (hr.mono (by decide)) (by rfl) T.g_refusal_of_member T.F_refusal_of_member.kp T.b_refusal_of_member .nil pass0 (pa_cons (pv 0) (pa_cons (pv 1) pa_nil))))
      (pss_cons (ps_if (pt_truth (pv 2) (by intro _; rfl)) (pss_one (ps_ret (pv 2))) pss_nil)
      (pss_cons (ps_if (pt_val (pe_meth (pv 0) T.cl_House T.m_House_is_taker (ok_House_is_taker T) (hr.mono (by decide)) T.b_House_is_taker .nil pass0 (pa_cons (pv 1) pa_nil))) (pss_one (ps_ret (pe_lst (pa_cons (pe_const (by rfl) T.c_IS_A_TAKER) pa_nil)))) pss_nil)
      (pss_one (ps_ret (pe_lst (pa_cons (pe_dpop1 (pe_fld (pv 0) (by rfl)) (pv 1) ⟨rfl, rfl, rfl, rfl⟩) pa_nil))))))), ?_⟩
    refine ⟨_, rfl, _, rfl, a, s, key, rfl, hs0, fun H0 lr sm0 hlr0 hlr => ?_⟩
    refine ⟨_, rfl, _, .inl ⟨_, SqL.of hlr, rfl⟩, ?_⟩
    simp only [Vbchaj.step] at q
    cases hrf : refM s key with
    | cons z zs =>
      rw [onM_no hrf] at q
      rw [hrf] at hlr
      exact iteT ⟨_, rfl, q.ref hs0 sm0 hlr0 hlr⟩
    | nil =>
      refine iteF ?_
      obtain ⟨k, m, rfl, hk, hm, hm1, hm2, hon⟩ := onM_yes hrf
      rw [hon] at q
      have hs := hs0.same sm0
      obtain ⟨G, R, O, TT, hh, ab⟩ := id hs
      obtain ⟨dx, hob⟩ := hh.ob
      refine ⟨_, rfl, a.p, dx, hF a, rfl, hob, hF_no a (by decide +kernel) (by decide +kernel) (by decide +kernel), ?_⟩
      refine ⟨_, rfl, a, R, O, TT, (k : Int), rfl, hh, (by rw [ab.lenT]; exact G.clen), ab.ndT G, fun H2 sm => ⟨_, rfl, ?_⟩⟩
      rw [taker_any ab, ← hm2]
      cases ht : s.clients.any fun c => c.takers.contains m.key with
      | true =>
        rw [ht] at q
        exact iteT (ret1 (hs.same sm) (q.same (sm0.trans sm)))
      | false =>
        rw [ht] at q
        refine iteF ?_
        have hh2 := hh.same sm
        refine go_lst (go_cons (go_pop1 (fld_rooms T hh2 rfl ⟨a.dr, rfl, .inl ⟨_, .inl hh2.rc⟩, _, rfl, ?_⟩)))
        have hg : aget R m.key = some m.room := by
          rw [ab.room G, hm2, hm]
          rfl
        refine ⟨enc nV R, kN m.key, nV m.room, hh2.rc, (by rw [hm2]; rfl), (by rw [valV_enc, hg]; rfl), ?_⟩
        rw [dropK_enc]
        refine ⟨(by show 1 ≤ sizeLine; decide), fun l hl => ?_⟩
        have hq : Ans A.C_House H a ({ s with members := s.members.filter fun x => x.key != m.key }, [(m.room : Int)]) Q := by simpa using q
        have G' : Good { s with members := s.members.filter fun x => x.key != m.key } := by
          have := step_good G (.gone k)
          simpa only [Vbchaj.step, hon, ht, Bool.false_eq_true, if_false] using this
        refine (hq.same (sm0.trans sm)).put ⟨G', _, _, _, hh2.setR _, ab.dropM m.key⟩ (fun b o e h1 h2 h3 => ?_) hl
        rw [upd_ne h1]
        exact e
def spDrop (C : Addr) : Sp := fun vs H Q _ => ∃ (a : HA) (s : Vbchaj.State) (key : Int), vs = [.ref a.p, .int key] ∧ HS C s H a ∧ Ans C H a (Vbchaj.step s (.drop key)) Q
theorem client_keys {s : Vbchaj.State} {R O : List (Nat × Nat)} {TT : TT3} (ab : Abs s R O TT) {c : Vbchaj.Client} (h : c ∈ s.clients) : c.key ∈ keysA O ∧ c.key ∈ keysA TT := by
  have hk : c.key ∈ Vbchaj.keysOf s.clients := List.mem_map.mpr ⟨c, h, rfl⟩
  refine ⟨?_, ab.permT.mem_iff.mp hk⟩
  have := keysA_perm ab.ord
  rw [keysA_clients] at this
  exact this.mem_iff.mp hk
theorem ok_drop_client (T : Txt K mg A) : FnOk P w K mg base CX0 3 A.f_drop_client A.d_drop_client ["house", "key"] (spDrop A.C_House) := by
  refine T.F_drop_client.ok sc_drop_client (fun vs H Q E h => ?_) (fun cdv A' outer s H vs Q E hr h => ?_)
  · obtain ⟨a, s, k, rfl, _⟩ := h
    rfl
  · obtain ⟨a, s, key, rfl, hs0, q⟩ := h
    have hu := hu_of hr
    refine ⟨_, (pss_cons (ps_set (i := 2) sc_drop_client.nd rfl (Or.inl rfl) (pe_call (ok_refusal_of_client T) (hr.mono (by decide)) (by rfl) T.g_refusal_of_client T.F_refusal_of_client.kp T.b_refusal_of_client .nil pass0 (pa_cons (pv 0) (pa_cons (pv 1) pa_nil))))
      (pss_cons (ps_if (pt_truth (pv 2) (by intro _; rfl)) (pss_one (ps_ret (pv 2))) pss_nil)
      (pss_cons (ps_expr (pe_meth (pv 0) T.cl_House T.m_House_forget_client (ok_House_forget_client T) (hr.mono (by decide)) T.b_House_forget_client .nil pass0 (pa_cons (pv 1) pa_nil)))
      (pss_one (ps_ret (pe_lst (pa_cons pe_int pa_nil))))))), ?_⟩
    refine ⟨_, rfl, _, rfl, a, s, key, rfl, hs0, fun H0 lr sm0 hlr0 hlr => ?_⟩
    refine ⟨_, rfl, _, .inl ⟨_, SqL.of hlr, rfl⟩, ?_⟩
    simp only [Vbchaj.step] at q
    cases hrf : refC s key with
    | cons z zs =>
      rw [onC_no hrf] at q
      rw [hrf] at hlr
      exact iteT ⟨_, rfl, q.ref hs0 sm0 hlr0 hlr⟩
    | nil =>
      refine iteF ?_
      obtain ⟨k, c, rfl, hk, hm, hm1, hm2, hon⟩ := onC_yes hrf
      rw [hon] at q
      have hs := hs0.same sm0
      obtain ⟨G, R, O, TT, hh, ab⟩ := id hs
      obtain ⟨dx, hob⟩ := hh.ob
      obtain ⟨k1, k2⟩ := client_keys ab hm1
      rw [hm2] at k1 k2
      refine ⟨_, rfl, a.p, dx, hF a, rfl, hob, hF_no a (by decide +kernel) (by decide +kernel) (by decide +kernel), ?_⟩
      refine ⟨_, rfl, a, R, O, TT, k, rfl, hh, k1, k2, fun H2 hh2 fr fe => ?_⟩
      refine ⟨(by show 1 ≤ sizeLine; decide), fun l hl => ?_⟩
      have hq : Ans A.C_House H a ({ s with clients := s.clients.filter fun x => x.key != k }, [0]) Q := by simpa [hm2] using q
      exact (hq.same sm0).put ⟨G.filterC _, _, _, _, hh2, ab.dropC k⟩ (fun b o e h1 h2 h3 => fr b o e h2 h3) hl
def spRoom (C : Addr) : Sp := fun vs H Q _ => ∃ (a : HA) (s : Vbchaj.State) (key room : Int), vs = [.ref a.p, .int key, .int room] ∧ HS C s H a ∧ Ans C H a (Vbchaj.step s (.room key room)) Q
theorem ok_change_room (T : Txt K mg A) : FnOk P w K mg base CX0 2 A.f_change_room A.d_change_room ["house", "key", "room"] (spRoom A.C_House) := by
  refine T.F_change_room.ok sc_change_room (fun vs H Q E h => ?_) (fun cdv A' outer s H vs Q E hr h => ?_)
  · obtain ⟨a, s, k, r, rfl, _⟩ := h
    rfl
  · obtain ⟨a, s, key, room, rfl, hs, q⟩ := h
    have hu := hu_of hr
    obtain ⟨G, R, O, TT, hh, ab⟩ := id hs
    refine ⟨_, (pss_cons (ps_if (PW.pt (pw_or (pt_not (pt_val (pe_call (ok_is_key T) (hr.mono (by decide)) (by rfl) T.g_is_key T.F_is_key.kp T.b_is_key .nil pass0 (pa_cons (pv 1) pa_nil)))) (pw_or1 (pt_not (pt_val (pe_call (ok_is_room T) (hr.mono (by decide)) (by rfl) T.g_is_room T.F_is_room.kp T.b_is_room .nil pass0 (pa_cons (pv 2) pa_nil))))))) (pss_one (ps_ret (pe_lst (pa_cons (pe_const (by rfl) T.c_OUT_OF_RANGE) pa_nil)))) pss_nil)
      (pss_cons (ps_if (pt_cmp (pc_dnotin (by exact hu) (pv 1) (pe_fld (pv 0) (by rfl)))) (pss_one (ps_ret (pe_lst (pa_cons (pe_const (by rfl) T.c_NOT_THERE) pa_nil)))) pss_nil)
      (pss_cons (ps_set (i := 3) sc_change_room.nd rfl (Or.inl rfl) (pe_dget (by exact hu) (pe_fld (pv 0) (by rfl)) (pv 1) (fun _ _ => rfl)))
      (pss_cons (ps_dput (by exact hu) (pe_fld (pv 0) (by rfl)) (pv 1) (pv 2) rfl)
      (pss_one (ps_ret (pe_lst (pa_cons (pv 3) pa_nil)))))))), ?_⟩
    refine ⟨_, rfl, key, rfl, _, rfl, ?_⟩
    simp only [Vbchaj.step, Vbchaj.onMember] at q
    cases hk : Vbchaj.keyed key with
    | false =>
      rw [hk] at q
      refine iteT (iteT (ret1 hs ?_))
      simpa using q
    | true =>
      refine iteF ⟨_, rfl, room, rfl, Vbchaj.within room 0 Vbchaj.ROOM, rfl, ?_⟩
      rw [hk] at q
      cases hr : Vbchaj.within room 0 Vbchaj.ROOM with
      | false =>
        rw [hr] at q
        exact iteT (ret1 hs q)
      | true =>
        rw [hr] at q
        refine iteF ?_
        obtain ⟨k, rfl⟩ := key_nat hk
        obtain ⟨r, rfl⟩ := in_nat hr
        simp only [Int.toNat_natCast] at q
        refine ⟨_, rfl, fld_rooms T hh rfl ⟨_, _, rfl, DGet.k (k := kN k) hh.rc, _, rfl, ?_⟩⟩
        rw [isSome_enc, ab.room G]
        cases hm : Vbchaj.memberAt s k with
        | none =>
          rw [hm] at q
          exact iteT (ret1 hs q)
        | some m =>
          rw [hm] at q
          refine iteF ?_
          obtain ⟨hm1, hm2⟩ := memberAt_some hm
          have hg : aget R k = some m.room := by
            rw [ab.room G, hm]
            rfl
          refine go_seq (go_asg (go_dget (fld_rooms T hh (by rfl) ⟨_, rfl, a.dr, nV m.room, rfl, .inl ⟨enc nV R, kN k, .inl hh.rc, rfl, (by rw [valV_enc, hg]; rfl)⟩, ?_⟩)))
          refine ⟨_, rfl, fld_rooms T hh rfl ⟨_, rfl, _, _, rfl, DPut.k (k := kN k) hh.rc (by rw [enc_len, ab.lenR]; exact small1 (Nat.le_trans G.mlen (by decide))), ?_⟩⟩
          have e3 : putK (enc nV R) (kN k) (V.int (r : Int)) = enc nV (aput R k r) := putK_enc nV R k r
          rw [e3]
          refine ⟨_, rfl, (by show 1 ≤ sizeLine; decide), fun l hl => ?_⟩
          have hq : Ans A.C_House H a ({ s with members := s.members.map fun x => if x.key = k then { x with room := r } else x }, [(m.room : Int)]) Q := by simpa [hm2] using q
          have G' : Good { s with members := s.members.map fun x => if x.key = k then { x with room := r } else x } := by
            have := step_good G (.room k r)
            simpa [Vbchaj.step, Vbchaj.onMember, hk, hr, hm, hm2] using this
          have hn : k ∈ keysA R := by
            rw [← aget_isSome, hg]
            rfl
          refine hq.put ⟨G', _, _, _, hh.setR _, ab.mapM hn⟩ (fun b o e h1 h2 h3 => ?_) hl
          rw [upd_ne h1]
          exact e
def spSetOrder (C : Addr) : Sp := fun vs H Q _ => ∃ (a : HA) (s : Vbchaj.State) (key order : Int), vs = [.ref a.p, .int key, .int order] ∧ HS C s H a ∧ Ans C H a (Vbchaj.step s (.order key order)) Q
theorem ok_change_order (T : Txt K mg A) : FnOk P w K mg base CX0 2 A.f_change_order A.d_change_order ["house", "key", "order"] (spSetOrder A.C_House) := by
  refine T.F_change_order.ok sc_change_order (fun vs H Q E h => ?_) (fun cdv A' outer s H vs Q E hr h => ?_)
  · obtain ⟨a, s, k, r, rfl, _⟩ := h
    rfl
  · obtain ⟨a, s, key, order, rfl, hs, q⟩ := h
    have hu := hu_of hr
    obtain ⟨G, R, O, TT, hh, ab⟩ := id hs
    refine ⟨_, (pss_cons (ps_if (PW.pt (pw_or (pt_not (pt_val (pe_call (ok_is_key T) (hr.mono (by decide)) (by rfl) T.g_is_key T.F_is_key.kp T.b_is_key .nil pass0 (pa_cons (pv 1) pa_nil)))) (pw_or1 (pt_not (pt_val (pe_call (ok_is_order T) (hr.mono (by decide)) (by rfl) T.g_is_order T.F_is_order.kp T.b_is_order .nil pass0 (pa_cons (pv 2) pa_nil))))))) (pss_one (ps_ret (pe_lst (pa_cons (pe_const (by rfl) T.c_OUT_OF_RANGE) pa_nil)))) pss_nil)
      (pss_cons (ps_if (pt_cmp (pc_dnotin (by exact hu) (pv 1) (pe_fld (pv 0) (by rfl)))) (pss_one (ps_ret (pe_lst (pa_cons (pe_const (by rfl) T.c_NOT_THERE) pa_nil)))) pss_nil)
      (pss_cons (ps_set (i := 3) sc_change_order.nd rfl (Or.inl rfl) (pe_dget (by exact hu) (pe_fld (pv 0) (by rfl)) (pv 1) (fun _ _ => rfl)))
      (pss_cons (ps_dput (by exact hu) (pe_fld (pv 0) (by rfl)) (pv 1) (pv 2) rfl)
      (pss_one (ps_ret (pe_lst (pa_cons (pv 3) pa_nil)))))))), ?_⟩
    refine ⟨_, rfl, key, rfl, _, rfl, ?_⟩
    simp only [Vbchaj.step, Vbchaj.onClient] at q
    cases hk : Vbchaj.keyed key with
    | false =>
      rw [hk] at q
      refine iteT (iteT (ret1 hs ?_))
      simpa using q
    | true =>
      refine iteF ⟨_, rfl, order, rfl, Vbchaj.within order 0 Vbchaj.ORDER, rfl, ?_⟩
      rw [hk] at q
      cases hr : Vbchaj.within order 0 Vbchaj.ORDER with
      | false =>
        rw [hr] at q
        exact iteT (ret1 hs q)
      | true =>
        rw [hr] at q
        refine iteF ?_
        obtain ⟨k, rfl⟩ := key_nat hk
        obtain ⟨r, rfl⟩ := in_nat hr
        simp only [Int.toNat_natCast] at q
        refine ⟨_, rfl, fld_orders T hh rfl ⟨_, _, rfl, DGet.k (k := kN k) hh.oc, _, rfl, ?_⟩⟩
        rw [isSome_enc, ab.order G]
        cases hm : Vbchaj.clientAt s k with
        | none =>
          rw [hm] at q
          exact iteT (ret1 hs q)
        | some c =>
          rw [hm] at q
          refine iteF ?_
          obtain ⟨hm1, hm2⟩ := clientAt_some hm
          have hg : aget O k = some c.order := by
            rw [ab.order G, hm]
            rfl
          refine go_seq (go_asg (go_dget (fld_orders T hh (by rfl) ⟨_, rfl, a.dO, nV c.order, rfl, .inl ⟨enc nV O, kN k, .inl hh.oc, rfl, (by rw [valV_enc, hg]; rfl)⟩, ?_⟩)))
          refine ⟨_, rfl, fld_orders T hh rfl ⟨_, rfl, _, _, rfl, DPut.k (k := kN k) hh.oc (by rw [enc_len, ab.lenO]; exact small1 (Nat.le_trans G.clen (by decide))), ?_⟩⟩
          have e3 : putK (enc nV O) (kN k) (V.int (r : Int)) = enc nV (aput O k r) := putK_enc nV O k r
          rw [e3]
          refine ⟨_, rfl, (by show 1 ≤ sizeLine; decide), fun l hl => ?_⟩
          have hq : Ans A.C_House H a ({ s with clients := Vbchaj.putClient { c with order := r } (s.clients.filter fun x => x.key != c.key) }, [(c.order : Int)]) Q := by simpa using q
          have G' : Good { s with clients := Vbchaj.putClient { c with order := r } (s.clients.filter fun x => x.key != c.key) } := by
            have := step_good G (.order k r)
            simpa only [Vbchaj.step, Vbchaj.onClient, hk, hr, hm, Int.toNat_natCast, Bool.true_eq_false, if_false] using this
          have ab' := ab.order' G (o := r) (hm2.symm ▸ hm)
          rw [hm2] at ab'
          refine hq.put ⟨G', _, _, _, hh.setO _, ?_⟩ (fun b o e h1 h2 h3 => ?_) hl
          · rw [hm2]
            exact ab'
          · rw [upd_ne h2]
            exact e
end CW

end

section
namespace CW
open PySem PySem.Spec PyProof.Rows L2 CM
variable {P : Program} {w : World} {K : PySem.W.Frag} {mg : Str → Option Value} {base : Heap} {A : Adr}
def spClient (C : Addr) : Sp := fun vs H Q _ => ∃ (a : HA) (s : Vbchaj.State) (key order : Int) (l : Addr) (ns : List Int), vs = [.ref a.p, .int key, .int order, .ref l] ∧ HS C s H a ∧ H l = some (.lst (ns.map V.int)) ∧ l ≠ a.z ∧ ns.length ≤ 40 ∧
  Ans C H a (Vbchaj.step s (.client key order ns)) Q
theorem ok_add_client (T : Txt K mg A) : FnOk P w K mg base CX0 3 A.f_add_client A.d_add_client ["house", "key", "order", "takers"] (spClient A.C_House) := by
  refine T.F_add_client.ok sc_add_client (fun vs H Q E h => ?_) (fun cdv A' outer s H vs Q E hr h => ?_)
  · obtain ⟨a, s, k, o, l, ns, rfl, _⟩ := h
    rfl
  · obtain ⟨a, s, key, order, l, ns, rfl, hs, hl, hlz, hn, q⟩ := h
    have hu := hu_of hr
    obtain ⟨G, R, O, TT, hh, ab⟩ := id hs
    refine ⟨_, (pss_cons (ps_if (PW.pt (pw_or (pt_not (pt_val (pe_call (ok_is_key T) (hr.mono (by decide)) (by rfl) T.g_is_key T.F_is_key.kp T.b_is_key .nil pass0 (pa_cons (pv 1) pa_nil)))) (pw_or (pt_not (pt_val (pe_call (ok_is_order T) (hr.mono (by decide)) (by rfl) T.g_is_order T.F_is_order.kp T.b_is_order .nil pass0 (pa_cons (pv 2) pa_nil)))) (pw_or1 (pt_not (pt_val (pe_call (ok_is_list_of_keys T) (hr.mono (by decide)) (by rfl) T.g_is_list_of_keys T.F_is_list_of_keys.kp T.b_is_list_of_keys .nil pass0 (pa_cons (pv 3) pa_nil)))))))) (pss_one (ps_ret (pe_lst (pa_cons (pe_const (by rfl) T.c_OUT_OF_RANGE) pa_nil)))) pss_nil)
      (pss_cons (ps_if (pt_val (pe_call (ok_has_one_twice T) (hr.mono (by decide)) (by rfl) T.g_has_one_twice T.F_has_one_twice.kp T.b_has_one_twice .nil pass0 (pa_cons (pv 3) pa_nil))) (pss_one (ps_ret (pe_lst (pa_cons (pe_const (by rfl) T.c_ONE_TWICE) pa_nil)))) pss_nil)
      (pss_cons (ps_if (pt_cmp (pc_din (by exact hu) (pv 1) (pe_fld (pv 0) (by rfl)))) (pss_one (ps_ret (pe_lst (pa_cons (pe_const (by rfl) T.c_KEY_IS_USED) pa_nil)))) pss_nil)
      (pss_cons (ps_if (pt_not (pt_val (pe_meth (pv 0) T.cl_House T.m_House_has_members (ok_House_has_members T) (hr.mono (by decide)) T.b_House_has_members .nil pass0 (pa_cons (pv 3) pa_nil)))) (pss_one (ps_ret (pe_lst (pa_cons (pe_const (by rfl) T.c_NOT_THERE) pa_nil)))) pss_nil)
      (pss_cons (ps_if (pt_cmpR op_eq (pe_callB call_lenD (by rfl) T.n_len PySem.boot_len (pa_cons (pe_fld (pv 0) (by rfl)) pa_nil)) (pe_const (by rfl) T.c_MOST_CLIENTS) (nomark _)) (pss_one (ps_ret (pe_lst (pa_cons (pe_const (by rfl) T.c_HOUSE_IS_FULL) pa_nil)))) pss_nil)
      (pss_cons (ps_dput (by exact hu) (pe_fld (pv 0) (by rfl)) (pv 1) (pv 2) rfl)
      (pss_cons (ps_dput (by exact hu) (pe_fld (pv 0) (by rfl)) (pv 1) (pv 3) rfl)
      (pss_one (ps_ret (pe_lst (pa_cons pe_int pa_nil))))))))))), ?_⟩
    refine ⟨_, rfl, key, rfl, _, rfl, ?_⟩
    have q0 := q
    simp only [Vbchaj.step] at q
    cases hk : Vbchaj.keyed key with
    | false =>
      rw [hk] at q
      exact iteT (iteT (ret1 hs q))
    | true =>
      rw [hk] at q
      refine iteF ⟨_, rfl, order, rfl, Vbchaj.within order 0 Vbchaj.ORDER, rfl, ?_⟩
      cases hr : Vbchaj.within order 0 Vbchaj.ORDER with
      | false =>
        rw [hr] at q
        exact iteT (iteT (ret1 hs q))
      | true =>
        rw [hr] at q
        refine iteF ⟨_, rfl, l, ns, rfl, hl, hn, fun H2 sm => ⟨Vbchaj.listed ns, rfl, ?_⟩⟩
        have hs2 := hs.same sm
        have hh2 := hh.same sm
        have hl2 := sm _ _ hl
        cases hls : Vbchaj.listed ns with
        | false =>
          rw [hls] at q
          exact iteT (ret1 hs2 (q.same sm))
        | true =>
          rw [hls] at q
          refine iteF ⟨_, rfl, l, ns, rfl, hl2, hn, fun H3 sm3 => ⟨!decide ns.Nodup, rfl, ?_⟩⟩
          have hs3 := hs2.same sm3
          have hh3 := hh2.same sm3
          have hl3 := sm3 _ _ hl2
          have sm03 := sm.trans sm3
          rw [nodup_nats hls]
          cases hd : Vbchaj.distinct (Vbchaj.nats ns) with
          | false =>
            rw [hd] at q
            exact iteT (ret1 hs3 (q.same sm03))
          | true =>
            rw [hd] at q
            refine iteF ?_
            obtain ⟨k, rfl⟩ := key_nat hk
            obtain ⟨o, rfl⟩ := in_nat hr
            simp only [Int.toNat_natCast] at q
            refine ⟨_, rfl, fld_orders T hh3 rfl ⟨_, _, rfl, DGet.k (k := kN k) hh3.oc, _, rfl, ?_⟩⟩
            rw [isSome_enc, ab.order G]
            cases hm : Vbchaj.clientAt s k with
            | some c =>
              rw [hm] at q
              exact iteT (ret1 hs3 (q.same sm03))
            | none =>
              rw [hm] at q
              refine iteF ?_
              obtain ⟨dx, hob⟩ := hh3.ob
              refine ⟨_, rfl, a.p, dx, hF a, rfl, hob, hF_no a (by decide +kernel) (by decide +kernel) (by decide +kernel), ?_⟩
              refine ⟨_, rfl, a, R, O, TT, l, ns, rfl, hh3, hl3, hn, fun H4 sm4 => ⟨_, rfl, ?_⟩⟩
              rw [known_all G ab hls]
              have hs4 := hs3.same sm4
              have hh4 := hh3.same sm4
              have hl4 := sm4 _ _ hl3
              have sm04 := sm03.trans sm4
              cases hkn : Vbchaj.known s ns with
              | false =>
                rw [hkn] at q
                exact iteT (ret1 hs4 (q.same sm04))
              | true =>
                rw [hkn] at q
                refine iteF ?_
                refine fld_orders T hh4 rfl ⟨_, _, rfl, hh4.oc, rfl, _, rfl, ?_⟩
                rw [enc_len, ab.lenO]
                have hlen := G.clen
                unfold Vbchaj.CLIENTS at hlen
                refine ite2 (fun e => ?_) (fun e => ?_)
                · have e8 : s.clients.length = 16 := by
                    have := V.int.inj (of_decide_eq_true e)
                    omega
                  refine ret1 hs4 (Ans.same ?_ sm04)
                  have e2 : (Vbchaj.CLIENTS ≤ s.clients.length) = True := eq_true (by rw [e8]; exact Nat.le_refl _)
                  simpa [e2] using q
                · have e8 : s.clients.length < 16 := by
                    have : ¬ s.clients.length = 16 := fun z => e (decide_eq_true (by rw [z]; rfl))
                    omega
                  refine ⟨_, rfl, fld_orders T hh4 rfl ⟨_, rfl, _, _, rfl, DPut.k (k := kN k) hh4.oc (by rw [enc_len, ab.lenO]; exact small1 (by omega)), ?_⟩⟩
                  have e3 : putK (enc nV O) (kN k) (V.int (o : Int)) = enc nV (aput O k o) := putK_enc nV O k o
                  rw [e3]
                  have hh5 := hh4.setO (aput O k o)
                  refine ⟨_, rfl, fld_takers T hh5 rfl ⟨_, rfl, _, _, rfl, DPut.k (k := kN k) hh5.tc (by rw [enc_len, ab.lenT]; exact small1 (by omega)), ?_⟩⟩
                  have e4 : putK (enc tV TT) (kN k) (V.ref l) = enc tV (aput TT k (l, Vbchaj.nats ns)) := putK_enc tV TT k (l, Vbchaj.nats ns)
                  rw [e4]
                  have nk : Vbchaj.clientAt s k = none := hm
                  have nO : k ∉ keysA O := by
                    rw [← aget_none, ab.order G, nk]
                    rfl
                  have nT : k ∉ keysA TT := by
                    intro z
                    have := ab.permT.mem_iff.mpr z
                    obtain ⟨c, hc, e⟩ := List.mem_map.mp this
                    exact clientAt_none.mp nk c hc e
                  have hl5 : (upd H4 a.dO (.dK (enc nV (aput O k o)))) l = some (.lst ((Vbchaj.nats ns).map nV)) := by
                    rw [upd_ne (ne_of hl4 hh4.oc (by intro z; cases z)), hl4, nats_vals hls]
                  have hh6 := hh5.setT (aput TT k (l, Vbchaj.nats ns)) (fun x hx => by
                    rw [aput_new nT] at hx
                    rcases List.mem_append.mp hx with hx | hx
                    · exact hh5.tl x hx
                    · obtain rfl := List.mem_singleton.mp hx
                      exact hl5) (fun x hx => by
                    rw [aput_new nT] at hx
                    rcases List.mem_append.mp hx with hx | hx
                    · exact hh5.nz x hx
                    · obtain rfl := List.mem_singleton.mp hx
                      exact hlz)
                  refine ⟨(by show 1 ≤ sizeLine; decide), fun l' hl' => ?_⟩
                  have e2 : ¬ (Vbchaj.CLIENTS ≤ s.clients.length) := by
                    show ¬ (16 ≤ s.clients.length)
                    omega
                  have hq : Ans A.C_House H a ({ s with clients := Vbchaj.putClient ⟨k, o, Vbchaj.nats ns⟩ s.clients }, [0]) Q := by simpa [e2] using q
                  have G' : Good { s with clients := Vbchaj.putClient ⟨k, o, Vbchaj.nats ns⟩ s.clients } := by
                    have := step_good G (.client k o ns)
                    simpa [Vbchaj.step, hk, hr, hls, hd, hm, hkn, e2] using this
                  refine (hq.same sm04).put ⟨G', _, _, _, hh6, ab.putC (c := ⟨k, o, Vbchaj.nats ns⟩) nO nT⟩ (fun b ob e h1 h2 h3 => ?_) hl'
                  rw [upd_ne h3, upd_ne h2]
                  exact e
def spTakers (C : Addr) : Sp := fun vs H Q _ => ∃ (a : HA) (s : Vbchaj.State) (key : Int) (l : Addr) (ns : List Int), vs = [.ref a.p, .int key, .ref l] ∧ HS C s H a ∧ H l = some (.lst (ns.map V.int)) ∧ l ≠ a.z ∧ ns.length ≤ 40 ∧
  Ans C H a (Vbchaj.step s (.takers key ns)) Q
theorem ok_change_takers (T : Txt K mg A) : FnOk P w K mg base CX0 3 A.f_change_takers A.d_change_takers ["house", "key", "takers"] (spTakers A.C_House) := by
  refine T.F_change_takers.ok sc_change_takers (fun vs H Q E h => ?_) (fun cdv A' outer s H vs Q E hr h => ?_)
  · obtain ⟨a, s, k, l, ns, rfl, _⟩ := h
    rfl
  · obtain ⟨a, s, key, l, ns, rfl, hs, hl, hlz, hn, q⟩ := h
    have hu := hu_of hr
    obtain ⟨G, R, O, TT, hh, ab⟩ := id hs
    refine ⟨_, (pss_cons (ps_if (PW.pt (pw_or (pt_not (pt_val (pe_call (ok_is_key T) (hr.mono (by decide)) (by rfl) T.g_is_key T.F_is_key.kp T.b_is_key .nil pass0 (pa_cons (pv 1) pa_nil)))) (pw_or1 (pt_not (pt_val (pe_call (ok_is_list_of_keys T) (hr.mono (by decide)) (by rfl) T.g_is_list_of_keys T.F_is_list_of_keys.kp T.b_is_list_of_keys .nil pass0 (pa_cons (pv 2) pa_nil))))))) (pss_one (ps_ret (pe_lst (pa_cons (pe_const (by rfl) T.c_OUT_OF_RANGE) pa_nil)))) pss_nil)
      (pss_cons (ps_if (pt_val (pe_call (ok_has_one_twice T) (hr.mono (by decide)) (by rfl) T.g_has_one_twice T.F_has_one_twice.kp T.b_has_one_twice .nil pass0 (pa_cons (pv 2) pa_nil))) (pss_one (ps_ret (pe_lst (pa_cons (pe_const (by rfl) T.c_ONE_TWICE) pa_nil)))) pss_nil)
      (pss_cons (ps_if (PW.pt (pw_or (pt_cmp (pc_dnotin (by exact hu) (pv 1) (pe_fld (pv 0) (by rfl)))) (pw_or1 (pt_not (pt_val (pe_meth (pv 0) T.cl_House T.m_House_has_members (ok_House_has_members T) (hr.mono (by decide)) T.b_House_has_members .nil pass0 (pa_cons (pv 2) pa_nil))))))) (pss_one (ps_ret (pe_lst (pa_cons (pe_const (by rfl) T.c_NOT_THERE) pa_nil)))) pss_nil)
      (pss_cons (ps_dput (by exact hu) (pe_fld (pv 0) (by rfl)) (pv 1) (pv 2) rfl)
      (pss_one (ps_ret (pe_lst (pa_cons pe_int pa_nil)))))))), ?_⟩
    refine ⟨_, rfl, key, rfl, _, rfl, ?_⟩
    simp only [Vbchaj.step, Vbchaj.onClient] at q
    cases hk : Vbchaj.keyed key with
    | false =>
      rw [hk] at q
      exact iteT (iteT (ret1 hs q))
    | true =>
      rw [hk] at q
      refine iteF ⟨_, rfl, l, ns, rfl, hl, hn, fun H2 sm => ⟨Vbchaj.listed ns, rfl, ?_⟩⟩
      have hs2 := hs.same sm
      have hh2 := hh.same sm
      have hl2 := sm _ _ hl
      cases hls : Vbchaj.listed ns with
      | false =>
        rw [hls] at q
        exact iteT (ret1 hs2 (q.same sm))
      | true =>
        rw [hls] at q
        refine iteF ⟨_, rfl, l, ns, rfl, hl2, hn, fun H3 sm3 => ⟨!decide ns.Nodup, rfl, ?_⟩⟩
        have hs3 := hs2.same sm3
        have hh3 := hh2.same sm3
        have hl3 := sm3 _ _ hl2
        have sm03 := sm.trans sm3
        rw [nodup_nats hls]
        cases hd : Vbchaj.distinct (Vbchaj.nats ns) with
        | false =>
          rw [hd] at q
          exact iteT (ret1 hs3 (q.same sm03))
        | true =>
          rw [hd] at q
          refine iteF ?_
          obtain ⟨k, rfl⟩ := key_nat hk
          simp only [Int.toNat_natCast] at q
          refine ⟨_, rfl, fld_orders T hh3 rfl ⟨_, _, rfl, DGet.k (k := kN k) hh3.oc, _, rfl, ?_⟩⟩
          rw [isSome_enc, ab.order G]
          cases hm : Vbchaj.clientAt s k with
          | none =>
            rw [hm] at q
            refine iteT (iteT (ret1 hs3 (Ans.same ?_ sm03)))
            cases hkn : Vbchaj.known s ns <;> simpa [hkn] using q
          | some c =>
            rw [hm] at q
            refine iteF ?_
            obtain ⟨hm1, hm2⟩ := clientAt_some hm
            obtain ⟨dx, hob⟩ := hh3.ob
            refine ⟨_, rfl, a.p, dx, hF a, rfl, hob, hF_no a (by decide +kernel) (by decide +kernel) (by decide +kernel), ?_⟩
            refine ⟨_, rfl, a, R, O, TT, l, ns, rfl, hh3, hl3, hn, fun H4 sm4 => ⟨_, rfl, ?_⟩⟩
            rw [known_all G ab hls]
            have hs4 := hs3.same sm4
            have hh4 := hh3.same sm4
            have hl4 := sm4 _ _ hl3
            have sm04 := sm03.trans sm4
            cases hkn : Vbchaj.known s ns with
            | false =>
              rw [hkn] at q
              exact iteT (ret1 hs4 (q.same sm04))
            | true =>
              rw [hkn] at q
              refine iteF ?_
              obtain ⟨_, k2⟩ := client_keys ab hm1
              rw [hm2] at k2
              refine ⟨_, rfl, fld_takers T hh4 rfl ⟨_, rfl, _, _, rfl, DPut.k (k := kN k) hh4.tc (by rw [enc_len, ab.lenT]; exact small1 (Nat.le_trans G.clen (by decide))), ?_⟩⟩
              have e4 : putK (enc tV TT) (kN k) (V.ref l) = enc tV (aput TT k (l, Vbchaj.nats ns)) := putK_enc tV TT k (l, Vbchaj.nats ns)
              rw [e4]
              have hh6 := hh4.setT (aput TT k (l, Vbchaj.nats ns)) (fun x hx => by
                rw [aput_old k2] at hx
                obtain ⟨y, hy, e⟩ := List.mem_map.mp hx
                by_cases hyk : y.1 = k
                · rw [if_pos hyk] at e
                  rw [← e]
                  show H4 l = some (.lst ((Vbchaj.nats ns).map nV))
                  rw [hl4, nats_vals hls]
                · rw [if_neg hyk] at e
                  rw [← e]
                  exact hh4.tl y hy) (fun x hx => by
                rw [aput_old k2] at hx
                obtain ⟨y, hy, e⟩ := List.mem_map.mp hx
                by_cases hyk : y.1 = k
                · rw [if_pos hyk] at e
                  rw [← e]
                  exact hlz
                · rw [if_neg hyk] at e
                  rw [← e]
                  exact hh4.nz y hy)
              refine ⟨(by show 1 ≤ sizeLine; decide), fun l' hl' => ?_⟩
              have hq : Ans A.C_House H a ({ s with clients := s.clients.map fun x => if x.key = k then { x with takers := Vbchaj.nats ns } else x }, [0]) Q := by simpa [hm2] using q
              have G' : Good { s with clients := s.clients.map fun x => if x.key = k then { x with takers := Vbchaj.nats ns } else x } := by
                have := step_good G (.takers k ns)
                simpa [Vbchaj.step, Vbchaj.onClient, hk, hls, hd, hm, hkn, hm2] using this
              refine (hq.same sm04).put ⟨G', _, _, _, hh6, ab.mapC k2⟩ (fun b ob e h1 h2 h3 => ?_) hl'
              rw [upd_ne h3]
              exact e
end CW

end

section
namespace CW
open PySem PySem.Spec PyProof.Rows L2 CM
/-! ### a plan in the heap -/
structure PA where
  p : Addr
  df : Addr
  dt : Addr
  dp : Addr
  ds : Addr
def encS (S : List Nat) : List (Key × V) := enc (fun _ : Unit => V.bl true) (S.map fun k => (k, ()))
theorem keysA_unit (S : List Nat) : keysA (S.map fun k => (k, ())) = S := by
  unfold keysA
  rw [List.map_map]
  exact List.map_id _
theorem encS_has (S : List Nat) (k : Nat) : (valV (encS S) (kN k)).isSome = decide (k ∈ S) := by
  unfold encS
  rw [valV_enc]
  have := aget_isSome (S.map fun k => (k, ())) k
  rw [keysA_unit] at this
  rw [Bool.eq_iff_iff, decide_eq_true_eq, ← this]
  cases aget (S.map fun k => (k, ())) k <;> simp
theorem encS_put {S : List Nat} {k : Nat} (h : k ∉ S) : putK (encS S) (kN k) (V.bl true) = encS (S ++ [k]) := by
  unfold encS
  rw [putK_enc (fun _ : Unit => V.bl true) _ k (), aput_new (by rw [keysA_unit]; exact h), List.map_append]
  rfl
theorem encS_len (S : List Nat) : (encS S).length = S.length := by simp [encS, enc]
def tkT (T : TT3) (k : Nat) : List Nat := ((aget T k).map fun x => x.2).getD []
theorem tkT_of {T : TT3} {k : Nat} {x : Addr × List Nat} (h : aget T k = some x) : tkT T k = x.2 := by simp [tkT, h]
def pF (a : PA) : List (Str × V) := [("free", .ref a.df), ("takers", .ref a.dt), ("places", .ref a.dp), ("settled", .ref a.ds)]
theorem pF_free (a : PA) : (pF a).lookup ("free" : Str) = some (.ref a.df) := lk_here
theorem pF_takers (a : PA) : (pF a).lookup ("takers" : Str) = some (.ref a.dt) := (lk_past (by decide +kernel)).trans lk_here
theorem pF_places (a : PA) : (pF a).lookup ("places" : Str) = some (.ref a.dp) := (lk_past (by decide +kernel)).trans ((lk_past (by decide +kernel)).trans lk_here)
theorem pF_settled (a : PA) : (pF a).lookup ("settled" : Str) = some (.ref a.ds) := (lk_past (by decide +kernel)).trans ((lk_past (by decide +kernel)).trans ((lk_past (by decide +kernel)).trans lk_here))
theorem pF_no (a : PA) {m : Str} (h1 : (m == ("free" : Str)) = false) (h2 : (m == ("takers" : Str)) = false) (h3 : (m == ("places" : Str)) = false) (h4 : (m == ("settled" : Str)) = false) : (pF a).lookup m = none :=
  (lk_past h1).trans ((lk_past h2).trans ((lk_past h3).trans ((lk_past h4).trans rfl)))
structure PlanAt (C : Addr) (H : Hp) (a : PA) (F : List (Nat × Nat)) (T : TT3) (P : List (Nat × Nat)) (S : List Nat) : Prop where
  ob : ∃ dx, H a.p = some (.ins C dx (pF a))
  fc : H a.df = some (.dK (enc nV F))
  tc : H a.dt = some (.dK (enc tV T))
  pc : H a.dp = some (.dK (enc nV P))
  sc : H a.ds = some (.dK (encS S))
  tl : ∀ x ∈ T, H x.2.1 = some (.lst (x.2.2.map nV))
  ft : a.df ≠ a.dt
  fp : a.df ≠ a.dp
  fs : a.df ≠ a.ds
  tp : a.dt ≠ a.dp
  ts : a.dt ≠ a.ds
  ps : a.dp ≠ a.ds
section
variable {C : Addr} {H H' : Hp} {a : PA} {F P : List (Nat × Nat)} {T : TT3} {S : List Nat} {K : PySem.W.Frag} {mg : Str → Option Value} {A : Adr}
theorem PlanAt.same (h : PlanAt C H a F T P S) (s : Same H H') : PlanAt C H' a F T P S := by
  obtain ⟨dx, h1⟩ := h.ob
  exact ⟨⟨dx, s _ _ h1⟩, s _ _ h.fc, s _ _ h.tc, s _ _ h.pc, s _ _ h.sc, fun x hx => s _ _ (h.tl x hx), h.ft, h.fp, h.fs, h.tp, h.ts, h.ps⟩
theorem PlanAt.obne (h : PlanAt C H a F T P S) {d : Addr} {kvs : List (Key × V)} (e : H d = some (.dK kvs)) : a.p ≠ d := by
  obtain ⟨dx, h1⟩ := h.ob
  exact ne_of h1 e (by intro z; cases z)
theorem PlanAt.setF (h : PlanAt C H a F T P S) (F' : List (Nat × Nat)) : PlanAt C (upd H a.df (.dK (enc nV F'))) a F' T P S := by
  obtain ⟨dx, h1⟩ := h.ob
  refine ⟨⟨dx, by rw [upd_ne (h.obne h.fc)]; exact h1⟩, upd_same, by rw [upd_ne h.ft.symm]; exact h.tc, by rw [upd_ne h.fp.symm]; exact h.pc, by rw [upd_ne h.fs.symm]; exact h.sc, fun x hx => ?_, h.ft, h.fp, h.fs, h.tp, h.ts, h.ps⟩
  rw [upd_ne (ne_of (h.tl x hx) h.fc (by intro z; cases z))]
  exact h.tl x hx
theorem PlanAt.setP (h : PlanAt C H a F T P S) (P' : List (Nat × Nat)) : PlanAt C (upd H a.dp (.dK (enc nV P'))) a F T P' S := by
  obtain ⟨dx, h1⟩ := h.ob
  refine ⟨⟨dx, by rw [upd_ne (h.obne h.pc)]; exact h1⟩, by rw [upd_ne h.fp]; exact h.fc, by rw [upd_ne h.tp]; exact h.tc, upd_same, by rw [upd_ne h.ps.symm]; exact h.sc, fun x hx => ?_, h.ft, h.fp, h.fs, h.tp, h.ts, h.ps⟩
  rw [upd_ne (ne_of (h.tl x hx) h.pc (by intro z; cases z))]
  exact h.tl x hx
theorem PlanAt.setS (h : PlanAt C H a F T P S) (S' : List Nat) : PlanAt C (upd H a.ds (.dK (encS S'))) a F T P S' := by
  obtain ⟨dx, h1⟩ := h.ob
  refine ⟨⟨dx, by rw [upd_ne (h.obne h.sc)]; exact h1⟩, by rw [upd_ne h.fs]; exact h.fc, by rw [upd_ne h.ts]; exact h.tc, by rw [upd_ne h.ps]; exact h.pc, upd_same, fun x hx => ?_, h.ft, h.fp, h.fs, h.tp, h.ts, h.ps⟩
  rw [upd_ne (ne_of (h.tl x hx) h.sc (by intro z; cases z))]
  exact h.tl x hx
theorem fld_free (T' : Txt K mg A) {i : Nat} {σ : L2.St} {Q : VK} (h : PlanAt A.C_Plan H a F T P S) (hi : σ[i]? = some (some (.ref a.p))) (q : Q (.ref a.df) H) : tFld K (tVar i) "free" σ H Q := by
  obtain ⟨dx, h1⟩ := h.ob
  exact ⟨_, hi, a.p, A.C_Plan, dx, _, _, rfl, h1, T'.cl_Plan, T'.a_Plan_free, pF_free a, q⟩
theorem fld_ptakers (T' : Txt K mg A) {i : Nat} {σ : L2.St} {Q : VK} (h : PlanAt A.C_Plan H a F T P S) (hi : σ[i]? = some (some (.ref a.p))) (q : Q (.ref a.dt) H) : tFld K (tVar i) "takers" σ H Q := by
  obtain ⟨dx, h1⟩ := h.ob
  exact ⟨_, hi, a.p, A.C_Plan, dx, _, _, rfl, h1, T'.cl_Plan, T'.a_Plan_takers, pF_takers a, q⟩
theorem fld_places (T' : Txt K mg A) {i : Nat} {σ : L2.St} {Q : VK} (h : PlanAt A.C_Plan H a F T P S) (hi : σ[i]? = some (some (.ref a.p))) (q : Q (.ref a.dp) H) : tFld K (tVar i) "places" σ H Q := by
  obtain ⟨dx, h1⟩ := h.ob
  exact ⟨_, hi, a.p, A.C_Plan, dx, _, _, rfl, h1, T'.cl_Plan, T'.a_Plan_places, pF_places a, q⟩
theorem fld_settled (T' : Txt K mg A) {i : Nat} {σ : L2.St} {Q : VK} (h : PlanAt A.C_Plan H a F T P S) (hi : σ[i]? = some (some (.ref a.p))) (q : Q (.ref a.ds) H) : tFld K (tVar i) "settled" σ H Q := by
  obtain ⟨dx, h1⟩ := h.ob
  exact ⟨_, hi, a.p, A.C_Plan, dx, _, _, rfl, h1, T'.cl_Plan, T'.a_Plan_settled, pF_settled a, q⟩
end
variable {P : Program} {w : World} {K : PySem.W.Frag} {mg : Str → Option Value} {base : Heap} {A : Adr}
/-! ### Plan(rooms, takers) -/
def spPInit (C : Addr) : Sp := fun vs H Q _ => ∃ (p dx dr dt : Addr) (R : List (Nat × Nat)) (T : TT3), vs = [.ref p, .ref dr, .ref dt] ∧ H p = some (.ins C dx []) ∧ H dr = some (.dK (enc nV R)) ∧ H dt = some (.dK (enc tV T)) ∧
  (∀ x ∈ T, H x.2.1 = some (.lst (x.2.2.map nV))) ∧
  ∀ (H' : Hp) (df dp ds : Addr), PlanAt C H' ⟨p, df, dt, dp, ds⟩ R T [] [] → H df = none → H dp = none → H ds = none → (∀ b o, H b = some o → b ≠ p → H' b = some o) → Q .non H'
theorem putF4 (a b c d : V) : putF "settled" d (putF "places" c (putF "takers" b (putF "free" a []))) = ([("free", a), ("takers", b), ("places", c), ("settled", d)] : List (Str × V)) := by
  have e1 : ¬ (("free" : Str) = "takers") := by decide +kernel
  have e2 : ¬ (("free" : Str) = "places") := by decide +kernel
  have e3 : ¬ (("free" : Str) = "settled") := by decide +kernel
  have e4 : ¬ (("takers" : Str) = "places") := by decide +kernel
  have e5 : ¬ (("takers" : Str) = "settled") := by decide +kernel
  have e6 : ¬ (("places" : Str) = "settled") := by decide +kernel
  have h1 : putF "takers" b (putF "free" a []) = [(("free" : Str), a), ("takers", b)] := if_neg e1
  have h2 : putF "places" c [(("free" : Str), a), ("takers", b)] = [(("free" : Str), a), ("takers", b), ("places", c)] := by
    show (if ("free" : Str) = "places" then _ else (("free" : Str), a) :: (if ("takers" : Str) = "places" then _ else (("takers" : Str), b) :: [(("places" : Str), c)])) = _
    rw [if_neg e2, if_neg e4]
  rw [h1, h2]
  show (if ("free" : Str) = "settled" then _ else (("free" : Str), a) :: (if ("takers" : Str) = "settled" then _ else (("takers" : Str), b) :: (if ("places" : Str) = "settled" then _ else (("places" : Str), c) :: [(("settled" : Str), d)]))) = _
  rw [if_neg e3, if_neg e5, if_neg e6]
theorem putF_len (f : Str) (v : V) : ∀ l : List (Str × V), (putF f v l).length ≤ l.length + 1
  | [] => Nat.le_refl _
  | (g, x) :: l => by
    unfold putF
    split
    · simp
    · have := putF_len f v l
      simp only [List.length_cons]
      omega
theorem ok_Plan_init (T : Txt K mg A) : FnOk P w K mg base CX0 1 A.f_Plan_init A.d_Plan_init ["self", "rooms", "takers"] (spPInit A.C_Plan) := by
  refine T.F_Plan_init.ok sc_Plan_init (fun vs H Q E h => ?_) (fun cdv A' outer s H vs Q E hr h => ?_)
  · obtain ⟨p, dx, dr, dt, R, TT, rfl, _⟩ := h
    rfl
  · obtain ⟨p, dx, dr, dt, R, TT, rfl, hp, hdr, hdt, htl, q⟩ := h
    have hu := hu_of hr
    have l1 : ∀ v : V, (putF "free" v []).length ≤ 1 := fun v => Nat.le_refl _
    refine ⟨_, (pss_cons (ps_fld (pv 0) (pe_callTy call_dictD (by rfl) T.n_dict (by decide +kernel) (pa_cons (pv 1) pa_nil)) rfl)
      (pss_cons (ps_fld (pv 0) (pv 2) rfl)
      (pss_cons (ps_fld (pv 0) pe_dnewK rfl)
      (pss_one (ps_fld (pv 0) pe_dnewK rfl))))), ?_⟩
    refine ⟨_, rfl, dr, _, rfl, .inl hdr, fun df h1 => ?_⟩
    have n1 : p ≠ df := ne_of_none hp h1
    have nt1 : dt ≠ df := ne_of_none hdt h1
    refine ⟨_, rfl, p, A.C_Plan, dx, _, rfl, (by rw [upd_ne n1]; exact hp), T.cl_Plan, T.a_Plan_free, (by show 0 < 1000; decide), ?_⟩
    refine ⟨_, rfl, _, rfl, p, A.C_Plan, dx, _, rfl, upd_same, T.cl_Plan, T.a_Plan_takers, (by show 1 < 1000; decide), ?_⟩
    rw [upd_upd]
    intro dp h2
    have n2 : p ≠ dp := ne_of_none upd_same h2
    rw [upd_ne n2.symm] at h2
    have n3 : df ≠ dp := ne_of_none upd_same h2
    rw [upd_ne n3.symm] at h2
    have nt2 : dt ≠ dp := ne_of_none hdt h2
    refine ⟨_, rfl, p, A.C_Plan, dx, _, rfl, (by rw [upd_ne n2, upd_same]), T.cl_Plan, T.a_Plan_places, ?_, ?_⟩
    · have a1 := putF_len "takers" (.ref dt) (putF "free" (.ref df) [])
      have a2 := l1 (.ref df)
      omega
    intro ds h3
    have n4 : p ≠ ds := ne_of_none upd_same h3
    rw [upd_ne n4.symm] at h3
    have n5 : dp ≠ ds := ne_of_none upd_same h3
    rw [upd_ne n5.symm, upd_ne n4.symm] at h3
    have n6 : df ≠ ds := ne_of_none upd_same h3
    rw [upd_ne n6.symm] at h3
    have nt3 : dt ≠ ds := ne_of_none hdt h3
    refine ⟨_, rfl, p, A.C_Plan, dx, _, rfl, (by rw [upd_ne n4, upd_same]), T.cl_Plan, T.a_Plan_settled, ?_, ?_⟩
    · have a1 := putF_len "takers" (.ref dt) (putF "free" (.ref df) [])
      have a2 := l1 (.ref df)
      have a3 := putF_len "places" (.ref dp) (putF "takers" (.ref dt) (putF "free" (.ref df) []))
      omega
    have npt : p ≠ dt := ne_of hp hdt (by intro z; cases z)
    have fr : ∀ b o, H b = some o → b ≠ p → (upd (upd (upd (upd (upd (upd H df (.dK (enc nV R))) p (.ins A.C_Plan dx (putF "takers" (.ref dt) (putF "free" (.ref df) [])))) dp (.dK [])) p (.ins A.C_Plan dx (putF "places" (.ref dp) (putF "takers" (.ref dt) (putF "free" (.ref df) []))))) ds (.dK [])) p (.ins A.C_Plan dx (putF "settled" (.ref ds) (putF "places" (.ref dp) (putF "takers" (.ref dt) (putF "free" (.ref df) [])))))) b = some o := fun b o e hb => by
      rw [upd_ne hb, upd_ne (ne_of_none e h3), upd_ne hb, upd_ne (ne_of_none e h2), upd_ne hb, upd_ne (ne_of_none e h1)]
      exact e
    refine q _ df dp ds ⟨⟨dx, Eq.trans upd_same (congrArg (fun l => some (HO.ins A.C_Plan dx l)) (putF4 _ _ _ _))⟩, ?_, fr _ _ hdt npt.symm, ?_, ?_, ?_, nt1.symm, n3, n6, nt2, nt3, n5⟩ h1 h2 h3 fr
    · show (upd _ p _) df = _
      rw [upd_ne n1.symm, upd_ne n6, upd_ne n1.symm, upd_ne n3, upd_ne n1.symm, upd_same]
    · show (upd _ p _) dp = _
      rw [upd_ne n2.symm, upd_ne n5, upd_ne n2.symm, upd_same]
      rfl
    · show (upd _ p _) ds = _
      rw [upd_ne n4.symm, upd_same]
      rfl
    · intro x hx
      exact fr _ _ (htl x hx) (ne_of (htl x hx) hp (by intro z; cases z))
end CW

end

section
namespace CW
open PySem PySem.Spec PyProof.Rows L2 CM
variable {P : Program} {w : World} {K : PySem.W.Frag} {mg : Str → Option Value} {base : Heap} {A : Adr}
theorem nV_eq {a b : Nat} : nV a = nV b ↔ a = b := by
  constructor
  · intro h
    have := V.int.inj h
    omega
  · rintro rfl; rfl
theorem nV_dec (a b : Nat) : decide (nV a = nV b) = decide (a = b) := by
  rw [Bool.eq_iff_iff, decide_eq_true_eq, decide_eq_true_eq]
  exact nV_eq
/-! ### reach_on -/
def spReach (C : Addr) : Sp := fun vs H Q _ => ∃ (a : PA) (F P : List (Nat × Nat)) (T : TT3) (S : List Nat) (m : Nat) (cm lr : Addr) (Cm : List (Nat × Nat)) (M : List Nat),
  vs = [.ref a.p, nV m, .ref cm, .ref lr] ∧ PlanAt C H a F T P S ∧ H cm = some (.dK (enc nV Cm)) ∧ H lr = some (.lst ((keysA Cm).map nV)) ∧ cm ≠ a.df ∧ cm ≠ a.dt ∧ cm ≠ a.dp ∧ cm ≠ a.ds ∧ (∀ x ∈ T, lr ≠ x.2.1) ∧
  (keysA P).Nodup ∧ (∀ k ∈ keysA P, k ∈ keysA T) ∧ (keysA Cm).Nodup ∧ (∀ x ∈ keysA Cm, x ∈ M) ∧ (∀ k, ∀ x ∈ tkT T k, x ∈ M) ∧ M.length ≤ 100 ∧
  ∀ H' : Hp, H' cm = some (.dK (enc nV (reachP P S (tkT T) m Cm))) → H' lr = some (.lst ((keysA (reachP P S (tkT T) m Cm)).map nV)) → (∀ b, b ≠ cm → b ≠ lr → H' b = H b) → Q .non H'
theorem keys_dec {l : List (Nat × Nat)} (k : Nat) : (valV (enc nV l) (kN k)).isSome = decide (k ∈ keysA l) := by
  rw [valV_enc, Bool.eq_iff_iff, decide_eq_true_eq, ← aget_isSome]
  cases aget l k <;> simp
theorem ok_Plan_reach_on (T : Txt K mg A) : FnOk P w K mg base CX0 1 A.f_Plan_reach_on A.d_Plan_reach_on ["self", "member", "comers", "reached"] (spReach A.C_Plan) := by
  refine T.F_Plan_reach_on.ok sc_Plan_reach_on (fun vs H Q E h => ?_) (fun cdv A' outer s H vs Q E hr h => ?_)
  · obtain ⟨a, F, Pl, TT, S, m, cm, lr, Cm, M, rfl, _⟩ := h
    rfl
  · obtain ⟨a, F, Pl, TT, S, m, cm, lr, Cm, M, rfl, hp, hcm, hlr, c1, c2, c3, c4, hlT, ndP, hPT, ndC, inC, inT, hM, q⟩ := h
    have hu := hu_of hr
    obtain ⟨dx, hob⟩ := hp.ob
    have ncl : cm ≠ lr := ne_of hcm hlr (by intro z; cases z)
    have np1 : a.p ≠ cm := ne_of hob hcm (by intro z; cases z)
    have np2 : a.p ≠ lr := ne_of hob hlr (by intro z; cases z)
    have npp : a.p ≠ a.dp := hp.obne hp.pc
    have nl1 : a.dp ≠ lr := ne_of hp.pc hlr (by intro z; cases z)
    have nl2 : a.ds ≠ lr := ne_of hp.sc hlr (by intro z; cases z)
    have nl3 : a.dt ≠ lr := ne_of hp.tc hlr (by intro z; cases z)
    refine ⟨_, (pss_one (ps_lock (ps_for PassesOwn.never rfl (pi_keys (pe_fld (pv 0) (by rfl))) (pg_name (i := 4) sc_Plan_reach_on.nd rfl (Or.inl rfl)) (pss_one (ps_if (PW.pt (pw_and (pt_cmpR op_eq (pe_dget (by exact hu) (pe_fld (pv 0) (by rfl)) (pv 4) (fun _ _ => rfl)) (pv 1) (nomark _)) (pw_and1 (pt_cmp (pc_dnotin (by exact hu) (pv 4) (pe_fld (pv 0) (by rfl))))))) (pss_one (ps_for PassesOwn.never rfl (pi_list (pe_dget (by exact hu) (pe_fld (pv 0) (by rfl)) (pv 4) (fun _ _ => rfl))) (pg_name (i := 5) sc_Plan_reach_on.nd rfl (Or.inl rfl)) (pss_one (ps_if (pt_cmp (pc_dnotin (by exact hu) (pv 5) (pv 2))) (pss_cons (ps_dput (by exact hu) (pv 2) (pv 5) (pv 4) rfl)
      (pss_one (ps_expr (pe_bm PySem.F.plainAttrs_list PySem.F.slot_list_append PySem.F.type_list_append mt_append (pv 3) (pa_cons (pv 5) pa_nil))))) pss_nil)))) pss_nil))))), ?_⟩
    refine ⟨a.dp, .dK (enc nV Pl), hp.pc, trivial, fun od => ?_⟩
    refine ⟨_, rfl, a.p, A.C_Plan, dx, _, _, rfl, (by rw [upd_ne npp]; exact hob), T.cl_Plan, T.a_Plan_places, pF_places a, ?_⟩
    refine ⟨a.dp, od, rfl, .inl ⟨enc nV Pl, upd_same, ?_⟩⟩
    refine for_keys (fun i σ H' => ∃ v4 v5, σ = [some (.ref a.p), some (nV m), some (.ref cm), some (.ref lr), v4, v5] ∧ H' cm = some (.dK (enc nV (reachP (Pl.take i) S (tkT TT) m Cm))) ∧
        H' lr = some (.lst ((keysA (reachP (Pl.take i) S (tkT TT) m Cm)).map nV)) ∧ ∀ b, b ≠ cm → b ≠ lr → H' b = (upd H a.dp (.frz od (.dK (enc nV Pl)))) b)
      ⟨none, none, rfl, by rw [upd_ne c3]; exact hcm, by rw [upd_ne nl1.symm]; exact hlr, fun b _ _ => rfl⟩ ?_ ?_ ?_
    · rintro i σ H' _ ⟨v4, v5, rfl, h1, h2, h3⟩
      rw [h3 _ c3.symm nl1, upd_same]
    · rintro i k v σ H' hk ⟨v4, v5, rfl, h1, h2, h3⟩
      obtain ⟨x, hx, rfl, rfl⟩ := enc_get hk
      have hxm := List.mem_of_getElem? hx
      have hg : aget Pl x.1 = some x.2 := aget_of_mem _ _ _ ndP hxm
      have hxk : x.1 ∈ keysA Pl := List.mem_map.mpr ⟨x, hxm, rfl⟩
      obtain ⟨y, hy⟩ := aget_key (hPT _ hxk)
      have ob' : H' a.p = some (.ins A.C_Plan dx (pF a)) := by rw [h3 _ np1 np2, upd_ne npp]; exact hob
      have fz : H' a.dp = some (.frz od (.dK (enc nV Pl))) := by rw [h3 _ c3.symm nl1, upd_same]
      have hs' : H' a.ds = some (.dK (encS S)) := by rw [h3 _ c4.symm nl2, upd_ne hp.ps.symm]; exact hp.sc
      have ht' : H' a.dt = some (.dK (enc tV TT)) := by rw [h3 _ c2.symm nl3, upd_ne hp.tp]; exact hp.tc
      have hyT := aget_some_mem _ _ _ hy
      have hyl := hp.tl _ hyT
      have ny1 : y.1 ≠ cm := ne_of hyl hcm (by intro z; cases z)
      have ny2 : y.1 ≠ lr := (hlT _ hyT).symm
      have ny3 : y.1 ≠ a.dp := ne_of hyl hp.pc (by intro z; cases z)
      have hyl' : H' y.1 = some (.lst (y.2.map nV)) := by rw [h3 _ ny1 ny2, upd_ne ny3]; exact hyl
      have eT : tkT TT x.1 = y.2 := tkT_of hy
      have step := reachP_snoc (Pl.take i) x S (tkT TT) m Cm
      rw [← take_snoc hx, eT] at step
      have nd0 : (keysA (reachP (Pl.take i) S (tkT TT) m Cm)).Nodup := reachP_nd ndC
      have in0 : ∀ z ∈ keysA (reachP (Pl.take i) S (tkT TT) m Cm), z ∈ M := reachP_in ndC inC inT
      generalize hC0 : reachP (Pl.take i) S (tkT TT) m Cm = C0 at h1 h2 step nd0 in0
      -- the test
      refine go_if (go_and (go_test (go_op (go_dget ?_))))
      refine ⟨_, rfl, a.p, A.C_Plan, dx, _, _, rfl, ob', T.cl_Plan, T.a_Plan_places, pF_places a, ?_⟩
      refine ⟨_, rfl, a.dp, nV x.2, rfl, .inl ⟨enc nV Pl, kN x.1, .inr ⟨od, fz⟩, rfl, (by rw [valV_enc, hg]; rfl)⟩, ?_⟩
      refine ⟨_, rfl, rfl, _, rfl, ?_⟩
      rw [nV_dec]
      by_cases e1 : x.2 = m
      · rw [decide_eq_true e1]
        refine iteT (go_tb ?_)
        refine ⟨_, rfl, _, rfl, a.p, A.C_Plan, dx, _, _, rfl, ob', T.cl_Plan, T.a_Plan_settled, pF_settled a, ?_⟩
        refine ⟨_, _, rfl, DGet.k (k := kN x.1) hs', _, rfl, ?_⟩
        rw [encS_has]
        by_cases e2 : x.1 ∈ S
        · rw [decide_eq_true e2]
          refine iteF ⟨_, v5, rfl, ?_⟩
          rw [if_neg (fun z => z.2 e2)] at step
          rw [step]
          exact ⟨h1, h2, h3⟩
        · rw [decide_eq_false e2]
          refine iteT ?_
          rw [if_pos ⟨e1, e2⟩] at step
          -- for taker in self.takers[client]
          refine ⟨_, rfl, a.p, A.C_Plan, dx, _, _, rfl, ob', T.cl_Plan, T.a_Plan_takers, pF_takers a, ?_⟩
          refine ⟨_, rfl, a.dt, .ref y.1, rfl, .inl ⟨enc tV TT, kN x.1, .inl ht', rfl, (by rw [valV_enc, hy]; rfl)⟩, ?_⟩
          refine ⟨y.1, rfl, ⟨_, SqL.of hyl'⟩, for_list (K := K) (a := y.1) (xs := y.2.map nV) (fun j σ H2 => ∃ v5, σ = [some (.ref a.p), some (nV m), some (.ref cm), some (.ref lr), some (nV x.1), v5] ∧
              H2 cm = some (.dK (enc nV (offerP x.1 (y.2.take j) C0))) ∧ H2 lr = some (.lst ((keysA (offerP x.1 (y.2.take j) C0)).map nV)) ∧ ∀ b, b ≠ cm → b ≠ lr → H2 b = H' b)
            ⟨v5, rfl, h1, h2, fun b _ _ => rfl⟩ ?_ ?_ ?_⟩
          · rintro j σ H2 _ ⟨w5, rfl, g1, g2, g3⟩
            refine SqL.of ?_
            rw [g3 _ ny1 ny2]
            exact hyl'
          · rintro j z σ H2 hz ⟨w5, rfl, g1, g2, g3⟩
            rw [List.getElem?_map, Option.map_eq_some_iff] at hz
            obtain ⟨t, ht, rfl⟩ := hz
            have st := offerP_snoc x.1 t (y.2.take j) C0
            rw [← take_snoc ht] at st
            have nd1 : (keysA (offerP x.1 (y.2.take j) C0)).Nodup := offerP_nd nd0
            have in1 : ∀ z ∈ keysA (offerP x.1 (y.2.take j) C0), z ∈ M := offerP_in nd0 in0 (fun z hz => inT x.1 z (by rw [eT]; exact List.mem_of_mem_take hz))
            have len1 := len_le nd1 in1
            generalize offerP x.1 (y.2.take j) C0 = C1 at g1 g2 st nd1 in1 len1
            refine go_if (go_tb ⟨_, rfl, _, rfl, _, _, rfl, DGet.k (k := kN t) g1, _, rfl, ?_⟩)
            rw [keys_dec]
            by_cases e3 : t ∈ keysA C1
            · rw [decide_eq_true e3]
              refine iteF ⟨_, rfl, ?_⟩
              rw [if_pos e3] at st
              rw [st]
              exact ⟨g1, g2, g3⟩
            · rw [decide_eq_false e3]
              refine iteT ?_
              rw [if_neg e3] at st
              refine ⟨_, rfl, _, rfl, _, rfl, _, _, rfl, DPut.k (k := kN t) g1 (by rw [enc_len]; exact small1 (by omega)), ?_⟩
              have e4 : putK (enc nV C1) (kN t) (nV x.1) = enc nV (C1 ++ [(t, x.1)]) := by
                rw [putK_enc, aput_new e3]
              rw [e4]
              refine ⟨_, rfl, .inl ⟨rfl, _, SqL.of (by rw [upd_ne ncl.symm]; exact g2)⟩, _, rfl, lr, _, _, rfl, rfl, (by rw [upd_ne ncl.symm]; exact g2), ?_, ?_⟩
              · rw [List.length_map]
                have : (keysA C1).length = C1.length := by simp [keysA]
                exact small1 (by omega)
              · refine ⟨_, rfl, ?_, ?_, ?_⟩
                · rw [upd_ne ncl, upd_same, st]
                · rw [upd_same, st, keysA_append, List.map_append]
                  rfl
                · intro b b1 b2
                  rw [upd_ne b2, upd_ne b1]
                  exact g3 b b1 b2
          · rintro σ H2 ⟨w5, rfl, g1, g2, g3⟩
            rw [List.length_map, List.take_length] at g1 g2
            refine ⟨_, _, rfl, ?_, ?_, ?_⟩
            · rw [step]
              exact g1
            · rw [step]
              exact g2
            · intro b b1 b2
              rw [g3 b b1 b2]
              exact h3 b b1 b2
      · rw [decide_eq_false e1]
        refine iteF (iteF ⟨_, v5, rfl, ?_⟩)
        rw [if_neg (fun z => e1 z.1)] at step
        rw [step]
        exact ⟨h1, h2, h3⟩
    · rintro σ H' ⟨v4, v5, rfl, h1, h2, h3⟩
      rw [enc_len, List.take_length] at h1 h2
      refine ⟨by rw [h3 _ c3.symm nl1, upd_same], q _ ?_ ?_ ?_⟩
      · rw [upd_ne c3]
        exact h1
      · rw [upd_ne nl1.symm]
        exact h2
      · intro b b1 b2
        by_cases hb : b = a.dp
        · subst hb
          rw [upd_same, hp.pc]
        · rw [upd_ne hb, h3 b b1 b2, upd_ne hb]
end CW

end

section
namespace CW
open PySem PySem.Spec PyProof.Rows L2 CM
variable {P : Program} {w : World} {K : PySem.W.Frag} {mg : Str → Option Value} {base : Heap} {A : Adr}
/-! ### shift -/
theorem rd_upd {H : Hp} {d b : Addr} {o u : HO} (hb : d ≠ b) (h : Rd H d u) : Rd (upd H b o) d u := by
  rcases h with h | ⟨od, h⟩
  · exact .inl (by rw [upd_ne hb]; exact h)
  · exact .inr ⟨od, by rw [upd_ne hb]; exact h⟩
theorem rd_same {H H' : Hp} {d : Addr} {u : HO} (s : Same H H') (h : Rd H d u) : Rd H' d u := by
  rcases h with h | ⟨od, h⟩
  · exact .inl (s _ _ h)
  · exact .inr ⟨od, s _ _ h⟩
def spShift (C : Addr) : Sp := fun vs H Q _ => ∃ (a : PA) (F P : List (Nat × Nat)) (T : TT3) (S : List Nat) (c last : Nat) (cm : Addr) (Cm : List (Nat × Nat)) (W : List Nat) (n i : Nat),
  vs = [.ref a.p, nV c, nV last, .ref cm] ∧ PlanAt C H a F T P S ∧ Rd H cm (.dK (enc nV Cm)) ∧ cm ≠ a.df ∧ cm ≠ a.dp ∧
  (keysA P).Nodup ∧ (∀ k ∈ act P S, val P k ∈ tkT T k) ∧ BI P S (tkT T) c W Cm n ∧ (keysA Cm)[i]? = some last ∧ last ∈ keysA F ∧ 0 < val F last ∧ c ∉ keysA P ∧ c ∉ S ∧ P.length ≤ 99 ∧ F.length ≤ 100 ∧
  ∀ (H' : Hp) (F' P' : List (Nat × Nat)), Gave F P S (tkT T) c W F' P' → PlanAt C H' a F' T P' S → (∀ b, b ≠ a.df → b ≠ a.dp → H' b = H b) → Q .non H'
theorem get_key {C : List (Nat × Nat)} {i m : Nat} (h : (keysA C)[i]? = some m) : ∃ k, C[i]? = some (m, k) := by
  rw [keysA_get, Option.map_eq_some_iff] at h
  obtain ⟨x, hx, e⟩ := h
  exact ⟨x.2, by rw [hx, ← e]⟩
theorem ok_Plan_shift (T : Txt K mg A) : FnOk P w K mg base CX0 1 A.f_Plan_shift A.d_Plan_shift ["self", "client", "last", "comers"] (spShift A.C_Plan) := by
  refine T.F_Plan_shift.ok sc_Plan_shift (fun vs H Q E h => ?_) (fun cdv A' outer s H vs Q E hr h => ?_)
  · obtain ⟨a, F, Pl, TT, S, c, last, cm, Cm, W, n, i, rfl, _⟩ := h
    rfl
  · obtain ⟨a, F, Pl, TT, S, c, last, cm, Cm, W, n, i, rfl, hp, hcm, c1, c2, ndP, into, bi, hi, hF, hl, hcP, hcS, lenP, lenF, q⟩ := h
    have hu := hu_of hr
    refine ⟨_, (pss_cons (ps_daug (by exact hu) (pe_fld (pv 0) (by rfl)) (pv 2) pe_int in_sub (fun _ _ _ => rfl))
      (pss_cons (ps_set (i := 4) sc_Plan_shift.nd rfl (Or.inl rfl) (pv 2))
      (pss_cons (ps_set (i := 5) sc_Plan_shift.nd rfl (Or.inl rfl) (pe_dget (by exact hu) (pv 3) (pv 4) (fun _ _ => rfl)))
      (pss_cons (ps_while PassesOwn.never (pt_cmpR op_ne (pv 5) (pv 1) (nomark _)) (pss_cons (ps_set (i := 6) sc_Plan_shift.nd rfl (Or.inl rfl) (pe_dget (by exact hu) (pe_fld (pv 0) (by rfl)) (pv 5) (fun _ _ => rfl)))
      (pss_cons (ps_dput (by exact hu) (pe_fld (pv 0) (by rfl)) (pv 5) (pv 4) rfl)
      (pss_cons (ps_set (i := 4) sc_Plan_shift.nd rfl (Or.inl rfl) (pv 6))
      (pss_one (ps_set (i := 5) sc_Plan_shift.nd rfl (Or.inl rfl) (pe_dget (by exact hu) (pv 3) (pv 4) (fun _ _ => rfl))))))))
      (pss_one (ps_dput (by exact hu) (pe_fld (pv 0) (by rfl)) (pv 1) (pv 4) rfl)))))), ?_⟩
    -- self.free[last] -= 1
    have gF := aget_val hF
    refine go_seq (go_daug (fld_free T hp (by rfl) ⟨_, rfl, a.df, nV (val F last), rfl, .inl ⟨enc nV F, kN last, .inl hp.fc, rfl, (by rw [valV_enc, gF]; rfl)⟩, ?_⟩))
    refine ⟨_, _, rfl, rfl, _, DPut.k (k := kN last) hp.fc (by rw [enc_len]; exact small1 (by omega)), ?_⟩
    have e1 : V.int ((val F last : Int) - 1) = nV (val F last - 1) := by
      show V.int _ = V.int _
      congr 1
      omega
    rw [e1, putK_enc]
    have hp1 := hp.setF (aput F last (val F last - 1))
    have cm1 : Rd (upd H a.df (.dK (enc nV (aput F last (val F last - 1))))) cm (.dK (enc nV Cm)) := rd_upd c1 hcm
    have fr1 : ∀ b, b ≠ a.df → b ≠ a.dp → (upd H a.df (.dK (enc nV (aput F last (val F last - 1))))) b = H b := fun b b1 _ => upd_ne b1
    generalize upd H a.df (.dK (enc nV (aput F last (val F last - 1)))) = H1 at hp1 cm1 fr1
    refine ⟨_, rfl, ?_⟩
    obtain ⟨k0, hk0⟩ := get_key hi
    have gC : ∀ (j m k : Nat), Cm[j]? = some (m, k) → aget Cm m = some k := fun j m k h => aget_of_mem _ _ _ bi.nd (List.mem_of_getElem? h)
    refine ⟨_, rfl, _, rfl, cm, nV k0, rfl, .inl ⟨enc nV Cm, kN last, cm1, rfl, (by rw [valV_enc, gC _ _ _ hk0]; rfl)⟩, ?_⟩
    -- while comer != client
    refine ⟨fun i σ H' => ∃ (m k : Nat) (Q : List (Nat × Nat)) (v6 : Option V), σ = [some (.ref a.p), some (nV c), some (nV last), some (.ref cm), some (nV m), some (nV k), v6] ∧ Cm[i]? = some (m, k) ∧
        SH Pl S (tkT TT) Cm last Q i m ∧ PlanAt A.C_Plan H' a (aput F last (val F last - 1)) TT Q S ∧ Rd H' cm (.dK (enc nV Cm)) ∧ ∀ b, b ≠ a.df → b ≠ a.dp → H' b = H b,
      ⟨i, last, k0, Pl, none, rfl, hk0, SH.start into hi, hp1, cm1, fr1⟩, ?_⟩
    rintro j σ H' ⟨m, k, P', v6, rfl, hj, sh, hp', cm', fr'⟩
    refine ⟨_, rfl, _, rfl, rfl, _, rfl, ?_⟩
    rw [nV_dec]
    have lenP' : P'.length ≤ 99 := by
      have := congrArg List.length sh.keys
      simp only [keysA, List.length_map] at this
      omega
    by_cases e : k = c
    · rw [decide_eq_true e]
      subst e
      refine iteF ?_
      rcases bi.src j m k hj with ⟨_, hW⟩ | ⟨ha, _⟩
      · refine ⟨_, rfl, fld_places T hp' rfl ⟨_, rfl, _, _, rfl, DPut.k (k := kN m |> fun _ => kN k) hp'.pc (by rw [enc_len]; exact small1 (by omega)), ?_⟩⟩
        have e4 : putK (enc nV P') (kN k) (nV m) = enc nV (aput P' k m) := putK_enc nV P' k m
        rw [e4]
        refine q _ _ _ (sh.done hcP hcS hW hF hl) (hp'.setP _) (fun b b1 b2 => ?_)
        rw [upd_ne b2]
        exact fr' b b1 b2
      · exact absurd (mem_act.mp ha).1 hcP
    · rw [decide_eq_false e]
      refine iteT ?_
      rcases bi.src j m k hj with ⟨h1, _⟩ | ⟨ha, hm, j2, hj2, hv⟩
      · exact absurd h1 e
      · obtain ⟨ev, sh2⟩ := sh.step ndP bi.nd ha hm hj2 hv
        have kP' : k ∈ keysA P' := by rw [sh.keys]; exact (mem_act.mp ha).1
        have gP := aget_val kP'
        obtain ⟨k2, hk2⟩ := get_key hv
        refine ⟨fun σ2 H2 => ∃ (m k : Nat) (Q : List (Nat × Nat)) (v6 : Option V), σ2 = [some (.ref a.p), some (nV c), some (nV last), some (.ref cm), some (nV m), some (nV k), v6] ∧ Cm[j2]? = some (m, k) ∧
          SH Pl S (tkT TT) Cm last Q j2 m ∧ PlanAt A.C_Plan H2 a (aput F last (val F last - 1)) TT Q S ∧ Rd H2 cm (.dK (enc nV Cm)) ∧ ∀ b, b ≠ a.df → b ≠ a.dp → H2 b = H b, fun σ2 H2 h => ⟨j2, hj2, h⟩, ?_⟩
        -- before = self.places[comer]
        refine go_seq (go_asg (go_dget (fld_places T hp' (by rfl) ⟨_, rfl, a.dp, nV (val P' k), rfl, .inl ⟨enc nV P', kN k, .inl hp'.pc, rfl, (by rw [valV_enc, gP]; rfl)⟩, ?_⟩)))
        rw [ev]
        refine ⟨_, rfl, fld_places T hp' rfl ⟨_, rfl, _, _, rfl, DPut.k (k := kN k) hp'.pc (by rw [enc_len]; exact small1 (by omega)), ?_⟩⟩
        have e4 : putK (enc nV P') (kN k) (nV m) = enc nV (aput P' k m) := putK_enc nV P' k m
        rw [e4]
        have cm2 : Rd (upd H' a.dp (.dK (enc nV (aput P' k m)))) cm (.dK (enc nV Cm)) := rd_upd c2 cm'
        refine ⟨_, rfl, ?_⟩
        refine ⟨_, rfl, _, rfl, cm, nV k2, rfl, .inl ⟨enc nV Cm, kN (val Pl k), cm2, rfl, (by rw [valV_enc, gC _ _ _ hk2]; rfl)⟩, ?_⟩
        refine ⟨val Pl k, k2, aput P' k m, _, rfl, hk2, sh2, hp'.setP _, cm2, fun b b1 b2 => ?_⟩
        rw [upd_ne b2]
        exact fr' b b1 b2
end CW

end

section
namespace CW
open PySem PySem.Spec PyProof.Rows L2 CM
variable {P : Program} {w : World} {K : PySem.W.Frag} {mg : Str → Option Value} {base : Heap} {A : Adr}
/-! ### give_place -/
theorem keysA_pair (l : List Nat) (c : Nat) : keysA (l.map fun m => (m, c)) = l := by
  unfold keysA
  rw [List.map_map]
  exact List.map_id _
def spComers (C : Addr) : Sp := fun vs H Q _ => ∃ (a : PA) (F P : List (Nat × Nat)) (T : TT3) (S : List Nat) (c : Nat) (lw : Addr) (W : List Nat),
  vs = [.ref a.p, nV c, .ref lw] ∧ PlanAt C H a F T P S ∧ H lw = some (.lst (W.map nV)) ∧ PlanOk (tkT T) F P S ∧ W.Nodup ∧ (∀ m ∈ W, m ∈ keysA F) ∧ (∀ k ∈ keysA P, k ∈ keysA T) ∧ F.length ≤ 100 ∧
  ∀ (H' : Hp) (cm : Addr) (Cm : List (Nat × Nat)), BI P S (tkT T) c W Cm Cm.length → (∀ m ∈ keysA Cm, m ∈ keysA F) → Cm.length ≤ F.length → H cm = none → H' cm = some (.dK (enc nV Cm)) → Same H H' → Q (.ref cm) H'
theorem ok_Plan_comers_for (T : Txt K mg A) : FnOk P w K mg base CX0 2 A.f_Plan_comers_for A.d_Plan_comers_for ["self", "client", "wanted"] (spComers A.C_Plan) := by
  refine T.F_Plan_comers_for.ok sc_Plan_comers_for (fun vs H Q E h => ?_) (fun cdv A' outer s H vs Q E hr h => ?_)
  · obtain ⟨a, F, Pl, TT, S, c, lw, W, rfl, _⟩ := h
    rfl
  · obtain ⟨a, F, Pl, TT, S, c, lw, W, rfl, hp, hlw, ok, ndW, inW, hPT, lenF, q⟩ := h
    have hu := hu_of hr
    have lenW : W.length ≤ 100 := by
      have := nodup_length_le W (keysA F) ndW inW
      have e : (keysA F).length = F.length := by simp [keysA]
      omega
    refine ⟨_, (pss_cons (ps_set (i := 3) sc_Plan_comers_for.nd rfl (Or.inl rfl) pe_dnewK)
      (pss_cons (ps_for PassesOwn.never rfl (pi_list (pv 2)) (pg_name (i := 4) sc_Plan_comers_for.nd rfl (Or.inl rfl)) (pss_one (ps_dput (by exact hu) (pv 3) (pv 4) (pv 1) rfl)))
      (pss_cons (ps_set (i := 5) sc_Plan_comers_for.nd rfl (Or.inl rfl) (pe_callTy call_list_of (by rfl) T.n_list (by decide +kernel) (pa_cons (pv 2) pa_nil)))
      (pss_cons (ps_set (i := 6) sc_Plan_comers_for.nd rfl (Or.inl rfl) pe_int)
      (pss_cons (ps_while PassesOwn.never (pt_cmpR op_lt (pv 6) (pe_callB call_len_seq (by rfl) T.n_len PySem.boot_len (pa_cons (pv 5) pa_nil)) (nomark _)) (pss_cons (ps_expr (pe_meth (pv 0) T.cl_Plan T.m_Plan_reach_on (ok_Plan_reach_on T) (hr.mono (by decide)) T.b_Plan_reach_on .nil pass0 (pa_cons (pe_ix ix_list (pv 5) (pv 6) (fun _ _ => rfl)) (pa_cons (pv 3) (pa_cons (pv 5) pa_nil)))))
      (pss_one (ps_aug (i := 6) sc_Plan_comers_for.nd rfl (Or.inl rfl) pe_int ip_add))))
      (pss_one (ps_ret (pv 3)))))))), ?_⟩
    intro cm hcm
    have sm0 : Same H (upd H cm (.dK [])) := same_new hcm
    -- for member in wanted
    refine ⟨_, rfl, lw, rfl, ⟨_, SqL.of (sm0 _ _ hlw)⟩, for_list (K := K) (a := lw) (xs := W.map nV) (fun i σ H' => ∃ v4, σ = [some (.ref a.p), some (nV c), some (.ref lw), some (.ref cm), v4, none, none] ∧
        H' cm = some (.dK (enc nV ((W.take i).map fun m => (m, c)))) ∧ Same H H')
      ⟨none, rfl, upd_same, sm0⟩ (fun i σ H' _ ⟨_, _, _, sm⟩ => SqL.of (sm _ _ hlw)) ?_ ?_⟩
    · rintro i z σ H' hz ⟨v4, rfl, h1, sm⟩
      rw [List.getElem?_map, Option.map_eq_some_iff] at hz
      obtain ⟨m, hm, rfl⟩ := hz
      have hil : i < W.length := (List.getElem?_eq_some_iff.mp hm).1
      refine ⟨_, rfl, _, rfl, _, rfl, cm, _, rfl, DPut.k (k := kN m) h1 (by rw [enc_len, List.length_map, List.length_take]; exact small1 (by omega)), ?_⟩
      have hn : m ∉ keysA ((W.take i).map fun m => (m, c)) := by
        rw [keysA_pair]
        intro z'
        obtain ⟨j, hj⟩ := List.mem_iff_getElem?.mp z'
        have hji : j < i := by
          have := (List.getElem?_eq_some_iff.mp hj).1
          rw [List.length_take] at this
          omega
        rw [List.getElem?_take_of_lt hji] at hj
        have := nd_ix ndW hj hm
        omega
      have e4 : putK (enc nV ((W.take i).map fun m => (m, c))) (kN m) (nV c) = enc nV ((W.take (i + 1)).map fun m => (m, c)) := by
        rw [putK_enc, aput_new hn, take_snoc hm, List.map_append]
        rfl
      rw [e4]
      refine ⟨_, rfl, upd_same, fun b o e => ?_⟩
      rw [upd_ne (ne_of_none e hcm)]
      exact sm b o e
    · rintro σ H1 ⟨v4, rfl, h1, sm1⟩
      rw [List.length_map, List.take_length] at h1
      -- reached = list(wanted); at = 0
      refine ⟨_, rfl, lw, _, rfl, .inl (SqL.of (sm1 _ _ hlw)), fun lr hlr => ?_⟩
      have hlr0 : H lr = none := sm1.free hlr
      have bi0 : BI Pl S (tkT TT) c W (W.map fun m => (m, c)) 0 := BI.start ndW
      have e0 : keysA (W.map fun m => (m, c)) = W := keysA_pair W c
      -- while
      refine ⟨fun n σ H' => ∃ (i : Nat) (Cm : List (Nat × Nat)) (v4 : Option V), σ = [some (.ref a.p), some (nV c), some (.ref lw), some (.ref cm), v4, some (.ref lr), some (nV i)] ∧ n = F.length - i ∧
          BI Pl S (tkT TT) c W Cm i ∧ H' cm = some (.dK (enc nV Cm)) ∧ H' lr = some (.lst ((keysA Cm).map nV)) ∧ Same H H',
        ⟨_, 0, _, v4, rfl, rfl, bi0, by rw [upd_ne (ne_of_none h1 hlr)]; exact h1, by rw [e0]; exact upd_same, sm1.trans (same_new hlr)⟩, ?_⟩
      rintro n σ H' ⟨i, Cm, v4, rfl, rfl, bi, g1, g2, sm⟩
      have hp' := hp.same sm
      have inC : ∀ m ∈ keysA Cm, m ∈ keysA F := bi.sub inW (fun k _ m hm => ok.inF k m hm)
      have lenC : Cm.length ≤ F.length := by
        have := len_le bi.nd inC
        simpa [keysA] using this
      have lenK : (keysA Cm).length = Cm.length := by simp [keysA]
      refine go_test ⟨_, rfl, _, rfl, _, _, rfl, .inl (SqL.of g2), _, _, rfl, rfl, _, rfl, ?_⟩
      rw [List.length_map, lenK]
      have hle := bi.le
      by_cases hlt : i < Cm.length
      · rw [decide_eq_true (show (i : Int) < (Cm.length : Int) by omega)]
        refine iteT ?_
        obtain ⟨m, hm⟩ : ∃ m, (keysA Cm)[i]? = some m := ⟨(keysA Cm)[i]'(by omega), List.getElem?_eq_getElem _⟩
        have hmV : ((keysA Cm).map nV)[i]? = some (nV m) := by rw [List.getElem?_map, hm]; rfl
        obtain ⟨dx, hob⟩ := hp'.ob
        refine ⟨fun σ2 H2 => ∃ (Cm : List (Nat × Nat)) (v4 : Option V), σ2 = [some (.ref a.p), some (nV c), some (.ref lw), some (.ref cm), v4, some (.ref lr), some (nV (i + 1))] ∧
          BI Pl S (tkT TT) c W Cm (i + 1) ∧ H2 cm = some (.dK (enc nV Cm)) ∧ H2 lr = some (.lst ((keysA Cm).map nV)) ∧ Same H H2,
          fun σ2 H2 ⟨Cm2, w4, e, r1, r3, r4, r5⟩ => ⟨F.length - (i + 1), by omega, i + 1, Cm2, w4, e, rfl, r1, r3, r4, r5⟩, ?_⟩
        -- self.reach_on(reached[at], comers, reached)
        refine ⟨_, rfl, a.p, dx, _, rfl, hob, pF_no a (by decide +kernel) (by decide +kernel) (by decide +kernel) (by decide +kernel), ?_⟩
        refine ⟨_, rfl, _, rfl, lr, _, (i : Int), nV m, rfl, rfl, SqL.of g2, atI_nat hmV, _, rfl, _, rfl, ?_⟩
        refine ⟨a, F, Pl, TT, S, m, cm, lr, Cm, keysA F, rfl, hp', g1, g2, (ne_of_none hp.fc hcm).symm, (ne_of_none hp.tc hcm).symm, (ne_of_none hp.pc hcm).symm, (ne_of_none hp.sc hcm).symm,
          fun x hx => (ne_of_none (hp.tl x hx) hlr0).symm, ok.ndP, hPT, bi.nd, inC, fun k x hx => ok.inF k x hx, by simpa [keysA] using lenF, fun H2 r1 r2 r3 => ?_⟩
        refine ⟨_, rfl, _, _, rfl, rfl, reachP Pl S (tkT TT) m Cm, v4, rfl, bi.step ok.ndP hm, r1, r2, fun b o e => ?_⟩
        rw [r3 b (ne_of_none e hcm) (ne_of_none e hlr0)]
        exact sm b o e
      · rw [decide_eq_false (show ¬ (i : Int) < (Cm.length : Int) by omega)]
        refine iteF ?_
        have ei : i = Cm.length := by omega
        subst ei
        exact ⟨_, rfl, q H' cm Cm bi inC lenC hcm g1 sm⟩
def spGive (C : Addr) : Sp := fun vs H Q _ => ∃ (a : PA) (F P : List (Nat × Nat)) (T : TT3) (S : List Nat) (c : Nat) (lw : Addr) (W : List Nat),
  vs = [.ref a.p, nV c, .ref lw] ∧ PlanAt C H a F T P S ∧ H lw = some (.lst (W.map nV)) ∧ PlanOk (tkT T) F P S ∧ W.Nodup ∧ (∀ m ∈ W, m ∈ keysA F) ∧ c ∉ keysA P ∧ c ∉ S ∧ (∀ k ∈ keysA P, k ∈ keysA T) ∧
  P.length ≤ 98 ∧ F.length ≤ 100 ∧
  ∀ (b : Bool) (H' : Hp) (F' P' : List (Nat × Nat)), Word F P S (tkT T) c W b F' P' → PlanAt C H' a F' T P' S → (∀ x o, H x = some o → x ≠ a.df → x ≠ a.dp → H' x = some o) → Q (.bl b) H'
theorem ok_Plan_give_place (T : Txt K mg A) : FnOk P w K mg base CX0 3 A.f_Plan_give_place A.d_Plan_give_place ["self", "client", "wanted"] (spGive A.C_Plan) := by
  refine T.F_Plan_give_place.ok sc_Plan_give_place (fun vs H Q E h => ?_) (fun cdv A' outer s H vs Q E hr h => ?_)
  · obtain ⟨a, F, Pl, TT, S, c, lw, W, rfl, _⟩ := h
    rfl
  · obtain ⟨a, F, Pl, TT, S, c, lw, W, rfl, hp, hlw, ok, ndW, inW, hcP, hcS, hPT, lenP, lenF, q⟩ := h
    have hu := hu_of hr
    refine ⟨_, (pss_cons (ps_set (i := 3) sc_Plan_give_place.nd rfl (Or.inl rfl) (pe_meth (pv 0) T.cl_Plan T.m_Plan_comers_for (ok_Plan_comers_for T) (hr.mono (by decide)) T.b_Plan_comers_for .nil pass0 (pa_cons (pv 1) (pa_cons (pv 2) pa_nil))))
      (pss_cons (ps_for PassesOwn.never rfl (pi_keysL (pv 3)) (pg_name (i := 4) sc_Plan_give_place.nd rfl (Or.inl rfl)) (pss_one (ps_if (pt_cmpR op_gt (pe_dget (by exact hu) (pe_fld (pv 0) (by rfl)) (pv 4) (fun _ _ => rfl)) pe_int (nomark _)) (pss_cons (ps_expr (pe_meth (pv 0) T.cl_Plan T.m_Plan_shift (ok_Plan_shift T) (hr.mono (by decide)) T.b_Plan_shift .nil pass0 (pa_cons (pv 1) (pa_cons (pv 4) (pa_cons (pv 3) pa_nil)))))
      (pss_one (ps_ret pe_bl))) pss_nil)))
      (pss_one (ps_ret pe_bl)))), ?_⟩
    -- comers = self.comers_for(client, wanted)
    obtain ⟨dx, hob⟩ := hp.ob
    refine ⟨_, rfl, a.p, dx, _, rfl, hob, pF_no a (by decide +kernel) (by decide +kernel) (by decide +kernel) (by decide +kernel), ?_⟩
    refine ⟨_, rfl, _, rfl, a, F, Pl, TT, S, c, lw, W, rfl, hp, hlw, ok, ndW, inW, hPT, lenF, fun H1 cm Cm bi inC lenC hcm0 hcm sm1 => ?_⟩
    have hp1 := hp.same sm1
    have n1 : cm ≠ a.df := (ne_of_none hp.fc hcm0).symm
    have n2 : cm ≠ a.dp := (ne_of_none hp.pc hcm0).symm
    have lenK : (keysA Cm).length = Cm.length := by simp [keysA]
    -- for member in comers
    refine ⟨_, rfl, cm, enc nV Cm, rfl, hcm, fun od => ?_⟩
    have sm2 : Same H (upd H1 cm (.frz od (.dK (enc nV Cm)))) := fun b o e => by
      rw [upd_ne (ne_of_none e hcm0)]
      exact sm1 b o e
    have hfz : (upd H1 cm (.frz od (.dK (enc nV Cm)))) cm = some (.frz od (.dK (enc nV Cm))) := upd_same
    have hp2 := hp.same sm2
    generalize upd H1 cm (.frz od (.dK (enc nV Cm))) = H2 at sm2 hfz hp2
    refine for_keys (fun i σ H' => ∃ v4, σ = [some (.ref a.p), some (nV c), some (.ref lw), some (.ref cm), v4] ∧ H' = H2 ∧ ∀ j, j < i → ∀ m, (keysA Cm)[j]? = some m → val F m = 0)
      ⟨none, rfl, rfl, fun j hj => absurd hj (by omega)⟩ ?_ ?_ ?_
    · rintro i σ H' _ ⟨v4, rfl, rfl, _⟩
      exact hfz
    · rintro i k v σ H' hk ⟨v4, rfl, rfl, zr⟩
      obtain ⟨x, hx, rfl, rfl⟩ := enc_get hk
      have hm : (keysA Cm)[i]? = some x.1 := by rw [keysA_get, hx]; rfl
      have hmF := inC _ (List.mem_of_getElem? hm)
      have gF := aget_val hmF
      refine go_if (go_test (go_op (go_dget (fld_free T hp2 (by rfl) ?_))))
      refine ⟨_, rfl, a.df, nV (val F x.1), rfl, .inl ⟨enc nV F, kN x.1, .inl hp2.fc, rfl, (by rw [valV_enc, gF]; rfl)⟩, _, _, rfl, rfl, _, rfl, ?_⟩
      by_cases hz : val F x.1 = 0
      · rw [decide_eq_false (show ¬ (0 : Int) < ((val F x.1 : Nat) : Int) by omega)]
        refine iteF ⟨_, rfl, rfl, fun j hj m hjm => ?_⟩
        by_cases hji : j < i
        · exact zr j hji m hjm
        · have : j = i := by omega
          subst this
          rw [hm] at hjm
          rw [← Option.some.inj hjm]
          exact hz
      · rw [decide_eq_true (show (0 : Int) < ((val F x.1 : Nat) : Int) by omega)]
        refine iteT ?_
        obtain ⟨dx2, hob2⟩ := hp2.ob
        refine ⟨_, rfl, a.p, dx2, _, rfl, hob2, pF_no a (by decide +kernel) (by decide +kernel) (by decide +kernel) (by decide +kernel), ?_⟩
        refine ⟨_, rfl, _, rfl, _, rfl, a, F, Pl, TT, S, c, x.1, cm, Cm, W, Cm.length, i, rfl, hp2, .inr ⟨od, hfz⟩, n1, n2, ok.ndP, ok.into, bi, hm, hmF, by omega, hcP, hcS, by omega, lenF, fun H3 F2 P2 gv hp3 fr => ?_⟩
        exact q true H3 F2 P2 ⟨fun _ => gv, fun z => nomatch z⟩ hp3 (fun y o e x1 x2 => by rw [fr y x1 x2]; exact sm2 y o e)
    · rintro σ H' ⟨v4, rfl, rfl, zr⟩
      rw [enc_len] at zr
      refine q false H' F Pl ⟨fun z => (nomatch z), fun _ => ⟨rfl, rfl, ?_⟩⟩ hp2 (fun x o e _ _ => sm2 x o e)
      refine bi.fail ok.ndP ok.into hcP (fun m hm => ?_)
      obtain ⟨j, hj⟩ := List.mem_iff_getElem?.mp hm
      have hjl : j < Cm.length := by
        have := (List.getElem?_eq_some_iff.mp hj).1
        omega
      exact zr j hjl m hj
end CW

end

section
namespace CW
open PySem PySem.Spec PyProof.Rows L2 CM
variable {P : Program} {w : World} {K : PySem.W.Frag} {mg : Str → Option Value} {base : Heap} {A : Adr}
/-! ### settle -/
def spSettle (C : Addr) : Sp := fun vs H Q _ => ∃ (a : PA) (F P : List (Nat × Nat)) (T : TT3) (S : List Nat) (c : Nat) (l : List Nat) (room : Nat → Nat),
  vs = [.ref a.p, nV c] ∧ PlanAt C H a F T P S ∧ SetI room (tkT T) F P S (c :: l) ∧ (∀ k ∈ keysA P, k ∈ keysA T) ∧ P.length ≤ 98 ∧ F.length ≤ 100 ∧ S.length ≤ 100 ∧
  ∀ (H' : Hp) (F' P' : List (Nat × Nat)), SetI room (tkT T) F' P' (S ++ [c]) l → keysA F' = keysA F → (∀ k ∈ keysA P', k ∈ keysA T) → P'.length = P.length → PlanAt C H' a F' T P' (S ++ [c]) →
    (∀ x o, H x = some o → x ≠ a.df → x ≠ a.dp → x ≠ a.ds → H' x = some o) → Q .non H'
theorem ok_Plan_settle (T : Txt K mg A) : FnOk P w K mg base CX0 4 A.f_Plan_settle A.d_Plan_settle ["self", "client"] (spSettle A.C_Plan) := by
  refine T.F_Plan_settle.ok sc_Plan_settle (fun vs H Q E h => ?_) (fun cdv A' outer s H vs Q E hr h => ?_)
  · obtain ⟨a, F, Pl, TT, S, c, l, room, rfl, _⟩ := h
    rfl
  · obtain ⟨a, F, Pl, TT, S, c, l, room, rfl, hp, si, hPT, lenP, lenF, lenS, q⟩ := h
    have hu := hu_of hr
    have hc : c ∈ act Pl S := si.perm.mem_iff.mpr (by simp)
    obtain ⟨hc1, hc2⟩ := mem_act.mp hc
    obtain ⟨f1, f2, f3, f4, f5, f6, f7⟩ := freed si.ok hc
    have gP := aget_val hc1
    have gF := aget_val f1
    obtain ⟨y, hy⟩ := aget_key (hPT _ hc1)
    have eT : tkT TT c = y.2 := tkT_of hy
    have hyT := aget_some_mem _ _ _ hy
    refine ⟨_, (pss_cons (ps_set (i := 2) sc_Plan_settle.nd rfl (Or.inl rfl) (pe_dpop1 (pe_fld (pv 0) (by rfl)) (pv 1) ⟨rfl, rfl, rfl, rfl⟩))
      (pss_cons (ps_daug (by exact hu) (pe_fld (pv 0) (by rfl)) (pv 2) pe_int in_add (fun _ _ _ => rfl))
      (pss_cons (ps_for PassesOwn.never rfl (pi_list (pe_dget (by exact hu) (pe_fld (pv 0) (by rfl)) (pv 1) (fun _ _ => rfl))) (pg_name (i := 3) sc_Plan_settle.nd rfl (Or.inl rfl)) (pss_one (ps_if (pt_val (pe_meth (pv 0) T.cl_Plan T.m_Plan_give_place (ok_Plan_give_place T) (hr.mono (by decide)) T.b_Plan_give_place .nil pass0 (pa_cons (pv 1) (pa_cons (pe_lst (pa_cons (pv 3) pa_nil)) pa_nil)))) (pss_one ps_break) pss_nil)))
      (pss_one (ps_dput (by exact hu) (pe_fld (pv 0) (by rfl)) (pv 1) pe_bl rfl))))), ?_⟩
    -- before = self.places.pop(client)
    refine go_seq (go_asg (go_pop1 (fld_places T hp (by rfl) ⟨a.dp, rfl, .inl ⟨_, .inl hp.pc⟩, _, rfl, enc nV Pl, kN c, nV (val Pl c), hp.pc, rfl, (by rw [valV_enc, gP]; rfl), ?_⟩)))
    rw [dropK_enc]
    have hp1 := hp.setP (adrop Pl c)
    have fr1 : ∀ x o, H x = some o → x ≠ a.df → x ≠ a.dp → (upd H a.dp (.dK (enc nV (adrop Pl c)))) x = some o := fun x o e _ h2 => by rw [upd_ne h2]; exact e
    generalize upd H a.dp (.dK (enc nV (adrop Pl c))) = H1 at hp1 fr1
    -- self.free[before] += 1
    refine go_seq (go_daug (fld_free T hp1 (by rfl) ⟨_, rfl, a.df, nV (val F (val Pl c)), rfl, .inl ⟨enc nV F, kN (val Pl c), .inl hp1.fc, rfl, (by rw [valV_enc, gF]; rfl)⟩, ?_⟩))
    refine ⟨_, _, rfl, rfl, _, DPut.k (k := kN (val Pl c)) hp1.fc (by rw [enc_len]; exact small1 (by omega)), ?_⟩
    have e1 : V.int ((val F (val Pl c) : Int) + 1) = nV (val F (val Pl c) + 1) := rfl
    rw [e1, putK_enc]
    have hp2 := hp1.setF (aput F (val Pl c) (val F (val Pl c) + 1))
    have fr2 : ∀ x o, H x = some o → x ≠ a.df → x ≠ a.dp → (upd H1 a.df (.dK (enc nV (aput F (val Pl c) (val F (val Pl c) + 1))))) x = some o := fun x o e h1 h2 => by
      rw [upd_ne h1]
      exact fr1 x o e h1 h2
    generalize upd H1 a.df (.dK (enc nV (aput F (val Pl c) (val F (val Pl c) + 1)))) = H2 at hp2 fr2
    generalize hF1 : aput F (val Pl c) (val F (val Pl c) + 1) = F1 at f2 f5 f7 hp2
    have lenF1 : F1.length ≤ 100 := by
      have := congrArg List.length f7
      simp only [keysA, List.length_map] at this
      omega
    have lenP1 : (adrop Pl c).length + 1 = Pl.length := by
      have := (perm_split Pl c _ si.ok.ndP gP).length_eq
      simpa using this.symm
    have lenFP : ∀ H' : Hp, PlanAt A.C_Plan H' a F1 TT (adrop Pl c) S → H' y.1 = some (.lst (y.2.map nV)) := fun H' h => h.tl _ hyT
    have tnd : (adrop Pl c).length ≤ 98 := by omega
    have sub1 : ∀ k ∈ keysA (adrop Pl c), k ∈ keysA TT := fun k hk => by
      rw [keysA_adrop] at hk
      exact hPT k (List.mem_filter.mp hk).1
    -- for taker in self.takers[client]
    obtain ⟨dx2, hob2⟩ := hp2.ob
    refine ⟨_, rfl, a.p, A.C_Plan, dx2, _, _, rfl, hob2, T.cl_Plan, T.a_Plan_takers, pF_takers a, ?_⟩
    refine ⟨_, rfl, a.dt, .ref y.1, rfl, .inl ⟨enc tV TT, kN c, .inl hp2.tc, rfl, (by rw [valV_enc, hy]; rfl)⟩, ?_⟩
    refine ⟨y.1, rfl, ⟨_, SqL.of (lenFP _ hp2)⟩, for_list (K := K) (a := y.1) (xs := y.2.map nV) (fun i σ H' => ∃ v3, σ = [some (.ref a.p), some (nV c), some (nV (val Pl c)), v3] ∧ PlanAt A.C_Plan H' a F1 TT (adrop Pl c) S ∧
        (∀ x o, H x = some o → x ≠ a.df → x ≠ a.dp → H' x = some o) ∧ ∀ t ∈ y.2.take i, ¬ Can (cap F Pl S) (updT (tkT TT) c [t]) (c :: act (adrop Pl c) S))
      ⟨none, rfl, hp2, fr2, fun t ht => by simp at ht⟩ (fun i σ H' _ ⟨_, _, h, _⟩ => SqL.of (lenFP _ h)) ?_ ?_⟩
    · rintro i z σ H' hz ⟨v3, rfl, hp', fr', no⟩
      rw [List.getElem?_map, Option.map_eq_some_iff] at hz
      obtain ⟨t, ht, rfl⟩ := hz
      have htm : t ∈ y.2 := List.mem_of_getElem? ht
      obtain ⟨dx, hob⟩ := hp'.ob
      refine go_if (go_tb ⟨_, rfl, a.p, dx, _, rfl, hob, pF_no a (by decide +kernel) (by decide +kernel) (by decide +kernel) (by decide +kernel), ?_⟩)
      refine ⟨_, rfl, _, rfl, (by show 1 ≤ sizeLine; decide), fun lw hlw => ?_⟩
      have hp3 := hp'.same (same_new (o := .lst [nV t]) hlw)
      refine ⟨a, F1, adrop Pl c, TT, S, c, lw, [t], rfl, hp3, upd_same, f2, by simp, ?_, f3, f4, sub1, by omega, lenF1, fun b H3 F2 P2 wd hp4 fr3 => ?_⟩
      · intro m hm
        rw [List.mem_singleton.mp hm]
        exact f2.inF c t (by rw [eT]; exact htm)
      · have fr4 : ∀ x o, H x = some o → x ≠ a.df → x ≠ a.dp → H3 x = some o := fun x o e h1 h2 => fr3 x o (same_new hlw x o (fr' x o e h1 h2)) h1 h2
        refine ⟨b, rfl, ?_⟩
        have capE : cap F1 (adrop Pl c) S = cap F Pl S := funext f5
        cases b with
        | true =>
          refine iteT ?_
          have gv := wd.yes rfl
          -- self.settled[client] = True
          obtain ⟨dx4, hob4⟩ := hp4.ob
          refine ⟨_, rfl, a.p, A.C_Plan, dx4, _, _, rfl, hob4, T.cl_Plan, T.a_Plan_settled, pF_settled a, ?_⟩
          refine ⟨_, rfl, _, _, rfl, DPut.k (k := kN c) hp4.sc (by rw [encS_len]; exact small1 lenS), ?_⟩
          rw [encS_put f4]
          obtain ⟨post, hpost⟩ : ∃ post, y.2 = y.2.take i ++ t :: post := ⟨y.2.drop (i + 1), by
            have hi := (List.getElem?_eq_some_iff.mp ht).1
            have e : y.2[i] = t := (List.getElem?_eq_some_iff.mp ht).2
            rw [← e]
            conv => lhs; rw [← List.take_append_drop i y.2, List.drop_eq_getElem_cons hi]⟩
          subst hF1
          have st := si.step (t := t) (pre := y.2.take i) (post := post) (by rw [eT]; exact hpost) (fun x hx => no x hx) gv
          refine q _ F2 P2 st (gv.keysF.trans f7) (fun k hk => ?_) ?_ (hp4.setS _) (fun x o e h1 h2 h3 => ?_)
          · rw [gv.keys] at hk
            rcases List.mem_append.mp hk with hk | hk
            · exact sub1 k hk
            · rw [List.mem_singleton.mp hk]
              exact hPT c hc1
          · have := congrArg List.length gv.keys
            simp only [keysA, List.length_map, List.length_append, List.length_singleton] at this
            omega
          · rw [upd_ne h3]
            exact fr4 x o e h1 h2
        | false =>
          refine iteF ?_
          obtain ⟨e2, e3, e4⟩ := wd.no rfl
          subst e2; subst e3
          refine ⟨_, rfl, hp4, fr4, fun t' ht' => ?_⟩
          rw [take_snoc ht] at ht'
          rcases List.mem_append.mp ht' with h | h
          · exact no t' h
          · rw [List.mem_singleton.mp h, ← capE]
            exact e4
    · rintro σ H' ⟨v3, rfl, hp', fr', no⟩
      exfalso
      rw [List.length_map, List.take_length] at no
      have fd := si.found
      have hv : val Pl c ∈ y.2 := by
        have := si.ok.into c hc
        rw [eT] at this
        exact this
      apply no _ hv
      have hca : c ∉ act (adrop Pl c) S := fun z => f3 (mem_act.mp z).1
      have capE : cap F1 (adrop Pl c) S = cap F Pl S := funext f5
      have p2 := (try_iff hca (F := F1) (tk := tkT TT) (t := val Pl c))
      rw [capE] at p2
      rw [p2]
      have pa : (act (adrop Pl c) S).Perm l := by
        rw [act_drop]
        have := si.perm.filter fun y => !(y == c)
        rw [List.filter_cons] at this
        have e1 : (!(c == c)) = false := by simp
        rw [e1] at this
        simp only [Bool.false_eq_true, if_false] at this
        have hn : c ∉ l := (List.nodup_cons.mp (si.perm.nodup_iff.mp (act_nd si.ok.ndP))).1
        have e2 : l.filter (fun y => !(y == c)) = l := by
          apply List.filter_eq_self.mpr
          intro y hy
          have : y ≠ c := fun z => hn (z ▸ hy)
          simp [this]
        rwa [e2] at this
      rw [canB_perm pa]
      exact fd
end CW

end

section
namespace CW
open PySem PySem.Spec PyProof.Rows L2 CM
variable {P : Program} {w : World} {K : PySem.W.Frag} {mg : Str → Option Value} {base : Heap} {A : Adr}
/-! ### moved_clients -/
def spMoved (C : Addr) : Sp := fun vs H Q _ => ∃ (a : PA) (F : List (Nat × Nat)) (T : TT3) (lc : Addr) (ks : List Nat) (room : Nat → Nat),
  vs = [.ref a.p, .ref lc] ∧ PlanAt C H a F T [] [] ∧ H lc = some (.lst (ks.map nV)) ∧ ks.Nodup ∧ (∀ k ∈ ks, k ∈ keysA T) ∧ ks.length ≤ 98 ∧ (∀ k, ∀ m ∈ tkT T k, m ∈ keysA F) ∧ (∀ x, val F x = room x) ∧ (∀ k, (tkT T k).Nodup) ∧ F.length ≤ 100 ∧
  ∀ (H' : Hp) (l : Addr) (F' P' : List (Nat × Nat)), MovI room (tkT T) F' P' ks → keysA F' = keysA F → PlanAt C H' a F' T P' [] → H' l = some (.lst ((movedK room (tkT T) ks).map nV)) → H l = none →
    (∀ x o, H x = some o → x ≠ a.df → x ≠ a.dp → H' x = some o) → Q (.ref l) H'
theorem ok_moved_clients (T : Txt K mg A) : FnOk P w K mg base CX0 4 A.f_moved_clients A.d_moved_clients ["plan", "clients"] (spMoved A.C_Plan) := by
  refine T.F_moved_clients.ok sc_moved_clients (fun vs H Q E h => ?_) (fun cdv A' outer s H vs Q E hr h => ?_)
  · obtain ⟨a, F, TT, lc, ks, room, rfl, _⟩ := h
    rfl
  · obtain ⟨a, F, TT, lc, ks, room, rfl, hp, hlc, nd, hkT, lenK, inF, hroom, hnd, lenF, q⟩ := h
    have hu := hu_of hr
    refine ⟨_, (pss_cons (ps_set (i := 2) sc_moved_clients.nd rfl (Or.inl rfl) (pe_lst pa_nil))
      (pss_cons (ps_for PassesOwn.never rfl (pi_list (pv 1)) (pg_name (i := 3) sc_moved_clients.nd rfl (Or.inl rfl)) (pss_one (ps_if (pt_val (pe_meth (pv 0) T.cl_Plan T.m_Plan_give_place (ok_Plan_give_place T) (hr.mono (by decide)) T.b_Plan_give_place .nil pass0 (pa_cons (pv 3) (pa_cons (pe_dget (by exact hu) (pe_fld (pv 0) (by rfl)) (pv 3) (fun _ _ => rfl)) pa_nil)))) (pss_one (ps_expr (pe_bm PySem.F.plainAttrs_list PySem.F.slot_list_append PySem.F.type_list_append mt_append (pv 2) (pa_cons (pv 3) pa_nil)))) pss_nil)))
      (pss_one (ps_ret (pv 2))))), ?_⟩
    refine ⟨(by show 0 ≤ sizeLine; decide), fun lm hlm => ?_⟩
    have sm0 : Same H (upd H lm (.lst [])) := same_new hlm
    have nlc : lc ≠ lm := ne_of_none hlc hlm
    have lnf : lm ≠ a.df := (ne_of_none hp.fc hlm).symm
    have lnp : lm ≠ a.dp := (ne_of_none hp.pc hlm).symm
    have lcf : lc ≠ a.df := ne_of hlc hp.fc (by intro z; cases z)
    have lcp : lc ≠ a.dp := ne_of hlc hp.pc (by intro z; cases z)
    have m0 : MovI room (tkT TT) F [] [] := MovI.start inF hroom
    refine ⟨_, rfl, lc, rfl, ⟨_, SqL.of (sm0 _ _ hlc)⟩, for_list (K := K) (a := lc) (xs := ks.map nV) (fun i σ H' => ∃ (v3 : Option V) (F' P' : List (Nat × Nat)), σ = [some (.ref a.p), some (.ref lc), some (.ref lm), v3] ∧ MovI room (tkT TT) F' P' (ks.take i) ∧
        keysA F' = keysA F ∧ PlanAt A.C_Plan H' a F' TT P' [] ∧ H' lm = some (.lst ((movedK room (tkT TT) (ks.take i)).map nV)) ∧ (∀ x o, H x = some o → x ≠ a.df → x ≠ a.dp → H' x = some o))
      ⟨none, F, [], rfl, m0, rfl, hp.same sm0, upd_same, fun x o e _ _ => sm0 x o e⟩ (fun i σ H' _ ⟨_, _, _, _, _, _, _, _, fr⟩ => SqL.of (fr _ _ hlc lcf lcp)) ?_ ?_⟩
    · rintro i z σ H' hz ⟨v3, F', P', rfl, mi, kF, hp', hl', fr⟩
      rw [List.getElem?_map, Option.map_eq_some_iff] at hz
      obtain ⟨c, hc, rfl⟩ := hz
      have hil : i < ks.length := (List.getElem?_eq_some_iff.mp hc).1
      have hcm : c ∈ ks := List.mem_of_getElem? hc
      have hcn : c ∉ ks.take i := by
        intro z'
        obtain ⟨j, hj⟩ := List.mem_iff_getElem?.mp z'
        have hji : j < i := by
          have := (List.getElem?_eq_some_iff.mp hj).1
          rw [List.length_take] at this
          omega
        rw [List.getElem?_take_of_lt hji] at hj
        have := nd_ix nd hj hc
        omega
      have kin : ∀ k ∈ keysA P', k ∈ ks.take i := fun k hk => by
        rw [mi.keys] at hk
        exact (moved_sub _ _ _).subset hk
      have hcP : c ∉ keysA P' := fun z => hcn (kin c z)
      have lenP : P'.length ≤ 98 := by
        have h1 := (moved_sub room (tkT TT) (ks.take i)).length_le
        rw [← mi.keys] at h1
        simp only [keysA, List.length_map, List.length_take] at h1
        omega
      have lenF' : F'.length ≤ 100 := by
        have := congrArg List.length kF
        simp only [keysA, List.length_map] at this
        omega
      obtain ⟨y, hy⟩ := aget_key (hkT _ hcm)
      have eT : tkT TT c = y.2 := tkT_of hy
      have hyT := aget_some_mem _ _ _ hy
      obtain ⟨dx, hob⟩ := hp'.ob
      -- if plan.give_place(client, plan.takers[client])
      refine go_if (go_tb ⟨_, rfl, a.p, dx, _, rfl, hob, pF_no a (by decide +kernel) (by decide +kernel) (by decide +kernel) (by decide +kernel), ?_⟩)
      refine ⟨_, rfl, _, rfl, a.p, A.C_Plan, dx, _, _, rfl, hob, T.cl_Plan, T.a_Plan_takers, pF_takers a, ?_⟩
      refine ⟨_, rfl, a.dt, .ref y.1, rfl, .inl ⟨enc tV TT, kN c, .inl hp'.tc, rfl, (by rw [valV_enc, hy]; rfl)⟩, ?_⟩
      refine ⟨a, F', P', TT, [], c, y.1, y.2, rfl, hp', hp'.tl _ hyT, mi.ok, by rw [← eT]; exact hnd c, fun m hm => mi.ok.inF c m (by rw [eT]; exact hm), hcP, by simp,
        fun k hk => hkT k (List.mem_of_mem_take (kin k hk)), lenP, lenF', fun b H2 F2 P2 wd hp2 fr2 => ⟨b, rfl, ?_⟩⟩
      rw [← eT] at wd
      obtain ⟨mi2, em⟩ := mi.step hcn wd
      rw [← take_snoc hc] at mi2 em
      have kF2 : keysA F2 = keysA F := by
        cases b with
        | true => exact (wd.yes rfl).keysF.trans kF
        | false => rw [(wd.no rfl).1]; exact kF
      have hl2 : H2 lm = some (.lst ((movedK room (tkT TT) (ks.take i)).map nV)) := fr2 _ _ hl' lnf lnp
      have fr3 : ∀ x o, H x = some o → x ≠ a.df → x ≠ a.dp → H2 x = some o := fun x o e h1 h2 => fr2 x o (fr x o e h1 h2) h1 h2
      cases b with
      | true =>
        refine iteT ?_
        rw [if_pos rfl] at em
        refine ⟨_, rfl, .inl ⟨rfl, _, SqL.of hl2⟩, _, rfl, lm, _, _, rfl, rfl, hl2, ?_, ?_⟩
        · rw [List.length_map]
          have h1 := (moved_sub room (tkT TT) (ks.take i)).length_le
          rw [List.length_take] at h1
          exact small1 (by omega)
        · refine ⟨_, F2, P2, rfl, mi2, kF2, ?_, ?_, fun x o e h1 h2 => ?_⟩
          · obtain ⟨dx2, hob2⟩ := hp2.ob
            have n1 : ∀ (d : Addr) (kvs : List (Key × V)), H2 d = some (.dK kvs) → d ≠ lm := fun d kvs e => ne_of e hl2 (by intro z; cases z)
            refine ⟨⟨dx2, by rw [upd_ne (ne_of hob2 hl2 (by intro z; cases z))]; exact hob2⟩, by rw [upd_ne (n1 _ _ hp2.fc)]; exact hp2.fc, by rw [upd_ne (n1 _ _ hp2.tc)]; exact hp2.tc, by rw [upd_ne (n1 _ _ hp2.pc)]; exact hp2.pc, by rw [upd_ne (n1 _ _ hp2.sc)]; exact hp2.sc,
              fun x hx => ?_, hp2.ft, hp2.fp, hp2.fs, hp2.tp, hp2.ts, hp2.ps⟩
            rw [upd_ne (ne_of_none (hp.tl x hx) hlm)]
            exact hp2.tl x hx
          · rw [upd_same, em, List.map_append]
            rfl
          · rw [upd_ne (ne_of_none e hlm)]
            exact fr3 x o e h1 h2
      | false =>
        refine iteF ⟨_, F2, P2, rfl, mi2, kF2, hp2, ?_, fr3⟩
        rw [em]
        exact hl2
    · rintro σ H' ⟨v3, F', P', rfl, mi, kF, hp', hl', fr⟩
      rw [List.length_map, List.take_length] at mi hl'
      exact ⟨_, rfl, q H' lm F' P' mi kF hp' hl' hlm fr⟩
/-! ### places_told -/
/-- a list of pairs, each a tuple -/
structure Tups (H : Hp) (ts : List Addr) (ps : List (Nat × Nat)) : Prop where
  len : ts.length = ps.length
  at_ : ∀ (i : Nat) (t : Addr), ts[i]? = some t → ∃ x : Nat × Nat, ps[i]? = some x ∧ H t = some (.tup [nV x.1, nV x.2])
theorem Tups.same {H H' : Hp} {ts : List Addr} {ps : List (Nat × Nat)} (h : Tups H ts ps) (s : Same H H') : Tups H' ts ps :=
  ⟨h.len, fun i t e => by
    obtain ⟨x, h1, h2⟩ := h.at_ i t e
    exact ⟨x, h1, s _ _ h2⟩⟩
theorem tk_eq {s : Vbchaj.State} {R O : List (Nat × Nat)} {T : TT3} (G : Good s) (ab : Abs s R O T) : tkT T = tkOf s.clients := by
  funext k
  exact (ab.tk G k).symm
theorem room_eq {s : Vbchaj.State} {R O : List (Nat × Nat)} {T : TT3} (G : Good s) (ab : Abs s R O T) (x : Nat) : val R x = Vbchaj.roomOf s.members x := (ab.roomOf G x).symm
theorem in_rooms {s : Vbchaj.State} {R O : List (Nat × Nat)} {T : TT3} (G : Good s) (ab : Abs s R O T) : ∀ k, ∀ m ∈ tkT T k, m ∈ keysA R := by
  intro k m hm
  rw [tk_eq G ab] at hm
  have := keysA_perm ab.mem
  rw [keysA_members] at this
  exact this.mem_iff.mp (tkOf_in G k m hm)
theorem tk_nd {s : Vbchaj.State} {R O : List (Nat × Nat)} {T : TT3} (G : Good s) (ab : Abs s R O T) : ∀ k, (tkT T k).Nodup := by
  intro k
  rw [tk_eq G ab]
  unfold tkOf
  split
  · rename_i c hc
    exact (G.ctak c (List.mem_of_find?_eq_some hc)).1
  · exact List.nodup_nil
theorem ord_in {s : Vbchaj.State} {R O : List (Nat × Nat)} {T : TT3} (ab : Abs s R O T) : ∀ k ∈ Vbchaj.keysOf s.clients, k ∈ keysA T := fun k hk => ab.permT.mem_iff.mp hk
theorem made {H : Hp} {x dx C : Addr} (nx : H x = none) (nd : H dx = none) : Same H (upd (upd H dx (.own x)) x (.ins C dx [])) := fun b o e => by
  rw [upd_ne (ne_of_none e nx), upd_ne (ne_of_none e nd)]
  exact e
theorem made_free {H : Hp} {x dx C d : Addr} (nx : H x = none) (nd : H dx = none) (h : (upd (upd H dx (.own x)) x (.ins C dx [])) d = none) : H d = none := (made nx nd).free h
def spTold (C : Addr) : Sp := fun vs H Q _ => ∃ (a : HA) (s : Vbchaj.State), vs = [.ref a.p] ∧ HS C s H a ∧
  ∀ (H' : Hp) (l : Addr) (ts : List Addr), H' l = some (.lst (ts.map V.ref)) → Tups H' ts (Vbchaj.told s.members s.clients) → Same H H' → H l = none → Q (.ref l) H'
theorem ok_places_told (T : Txt K mg A) : FnOk P w K mg base CX0 5 A.f_places_told A.d_places_told ["house"] (spTold A.C_House) := by
  refine T.F_places_told.ok sc_places_told (fun vs H Q E h => ?_) (fun cdv A' outer s H vs Q E hr h => ?_)
  · obtain ⟨a, s, rfl, _⟩ := h
    rfl
  · obtain ⟨a, s, rfl, hs, q⟩ := h
    have hu := hu_of hr
    obtain ⟨G, R, O, TT, hh, ab⟩ := id hs
    refine ⟨_, (pss_cons (ps_set (i := 1) sc_places_told.nd rfl (Or.inr rfl) (pe_make T.mk_Plan (ok_Plan_init T) (hr.mono (by decide)) (by rfl) T.g_Plan T.b_Plan_init .nil pass0 (pa_cons (pe_fld (pv 0) (by rfl)) (pa_cons (pe_fld (pv 0) (by rfl)) pa_nil))))
      (pss_cons (ps_set (i := 2) sc_places_told.nd rfl (Or.inl rfl) (pe_call (ok_moved_clients T) (hr.mono (by decide)) (by rfl) T.g_moved_clients T.F_moved_clients.kp T.b_moved_clients .nil pass0 (pa_cons (pv 1) (pa_cons (pe_meth0 (pv 0) T.cl_House T.m_House_clients_in_order (ok_House_clients_in_order T) (hr.mono (by decide)) T.b_House_clients_in_order .nil pass0) pa_nil))))
      (pss_cons (ps_for PassesOwn.never rfl (pi_list (pv 2)) (pg_name (i := 3) sc_places_told.nd rfl (Or.inl rfl)) (pss_one (ps_expr (pe_meth (pv 1) T.cl_Plan T.m_Plan_settle (ok_Plan_settle T) (hr.mono (by decide)) T.b_Plan_settle .nil pass0 (pa_cons (pv 3) pa_nil)))))
      (pss_one (ps_ret (pe_lc (own := [("client", 3)]) (g := gName 3) (tt := tYes) (te := (tTup (tCons (tVar 3) (tCons (tDGet (tFld K (tVar 1) "places") (tVar 3)) tNil)))) (by rfl) sc_places_told.nd (pi_list (pv 2)) (blkOk_by (own := [("client", 3)]) (N := N_places_told) (sc := defScope s_places_told) (by decide +kernel)) (fun _ _ _ _ _ => by exact (pg_name (i := 3) sc_places_told.nd rfl (Or.inl rfl))) (fun _ _ _ _ _ => by exact pts_nil) (fun _ _ _ _ _ => by exact (pe_tup (pa_cons (pv 3) (pa_cons (pe_dget (by exact hu) (pe_fld (pv 1) (by rfl)) (pv 3) (fun _ _ => rfl)) pa_nil)))))))))), ?_⟩
    obtain ⟨dxh, hob⟩ := hh.ob
    -- plan = Plan(house.rooms, house.takers)
    refine ⟨_, rfl, a.p, A.C_House, dxh, _, _, rfl, hob, T.cl_House, T.a_House_rooms, hF_rooms a, _, rfl, a.p, A.C_House, dxh, _, _, rfl, hob, T.cl_House, T.a_House_takers, hF_takers a, fun x dx nx nd ne => ?_⟩
    have sm0 : Same H (upd (upd H dx (.own x)) x (.ins A.C_Plan dx [])) := made nx nd
    refine ⟨x, dx, a.dr, a.dt, R, TT, rfl, upd_same, sm0 _ _ hh.rc, sm0 _ _ hh.tc, fun y hy => sm0 _ _ (hh.tl y hy), fun H1 df dp ds hp n1 n2 n3 fr1 => ⟨rfl, ?_⟩⟩
    have m1 := made_free nx nd n1
    have m2 := made_free nx nd n2
    have m3 := made_free nx nd n3
    have sm1 : Same H H1 := fun b o e => fr1 b o (sm0 b o e) (ne_of_none e nx)
    -- moved = moved_clients(plan, house.clients_in_order())
    refine ⟨_, rfl, _, rfl, a.p, dxh, hF a, rfl, sm1 _ _ hob, hF_no a (by decide +kernel) (by decide +kernel) (by decide +kernel), ?_⟩
    refine ⟨a, R, O, TT, s, rfl, hh.same sm1, G, ab.ord, fun H2 lc sm2 hlc0 hlc => ?_⟩
    have sm02 := sm1.trans sm2
    have hp2 := hp.same sm2
    have lenK : (Vbchaj.keysOf s.clients).length ≤ 16 := by
      have := G.clen
      simpa [Vbchaj.keysOf, Vbchaj.CLIENTS] using this
    have lenR : R.length ≤ 8 := by
      rw [ab.lenR]
      exact G.mlen
    refine ⟨⟨x, df, a.dt, dp, ds⟩, R, TT, lc, Vbchaj.keysOf s.clients, Vbchaj.roomOf s.members, rfl, hp2, hlc, G.cnd, ord_in ab, by omega, in_rooms G ab, room_eq G ab, tk_nd G ab, by omega, fun H3 lm F3 P3 mi kF3 hp3 hlm hlm0 fr3 => ?_⟩
    have sm03 : Same H H3 := fun b o e => fr3 b o (sm02 b o e) (ne_of_none e m1) (ne_of_none e m2)
    have eM : movedK (Vbchaj.roomOf s.members) (tkT TT) (Vbchaj.keysOf s.clients) = Vbchaj.keysOf (Vbchaj.movedOf s.members s.clients) := by
      rw [tk_eq G ab, keys_movedOf G.env]
    have si0 : SetI (Vbchaj.roomOf s.members) (tkT TT) F3 P3 [] (movedK (Vbchaj.roomOf s.members) (tkT TT) (Vbchaj.keysOf s.clients)) := SetI.start mi
    have told0 : Vbchaj.told s.members s.clients = best (tkT TT) (Vbchaj.roomOf s.members) (movedK (Vbchaj.roomOf s.members) (tkT TT) (Vbchaj.keysOf s.clients)) := by
      rw [told_eq G.env, tk_eq G ab]
    have lenM : (movedK (Vbchaj.roomOf s.members) (tkT TT) (Vbchaj.keysOf s.clients)).length ≤ 16 := Nat.le_trans (moved_sub _ _ _).length_le lenK
    have lenP3 : P3.length ≤ 16 := by
      have := congrArg List.length mi.keys
      simp only [keysA, List.length_map] at this
      omega
    have lenF3 : F3.length ≤ 8 := by
      have := congrArg List.length kF3
      simp only [keysA, List.length_map] at this
      omega
    have kin3 : ∀ k ∈ keysA P3, k ∈ keysA TT := fun k hk => by
      rw [mi.keys] at hk
      exact ord_in ab k ((moved_sub _ _ _).subset hk)
    generalize hMv : movedK (Vbchaj.roomOf s.members) (tkT TT) (Vbchaj.keysOf s.clients) = Mv at eM si0 told0 lenM hlm
    have hlmH : H lm = none := by
      cases e : H lm with
      | none => rfl
      | some o => rw [sm02 _ _ e] at hlm0; cases hlm0
    have lmf : lm ≠ df := ne_of hlm hp3.fc (by intro z; cases z)
    have lmp : lm ≠ dp := ne_of hlm hp3.pc (by intro z; cases z)
    have lms : lm ≠ ds := ne_of hlm hp3.sc (by intro z; cases z)
    -- for client in moved: plan.settle(client)
    refine ⟨_, rfl, lm, rfl, ⟨_, SqL.of hlm⟩, for_list (K := K) (a := lm) (xs := Mv.map nV) (fun i σ H' => ∃ (v3 : Option V) (F' P' : List (Nat × Nat)), σ = [some (.ref a.p), some (.ref x), some (.ref lm), v3] ∧
        SetI (Vbchaj.roomOf s.members) (tkT TT) F' P' (Mv.take i) (Mv.drop i) ∧ F'.length ≤ 8 ∧ P'.length ≤ 16 ∧ (∀ k ∈ keysA P', k ∈ keysA TT) ∧ PlanAt A.C_Plan H' ⟨x, df, a.dt, dp, ds⟩ F' TT P' (Mv.take i) ∧ H' lm = some (.lst (Mv.map nV)) ∧ Same H H')
      ⟨none, F3, P3, rfl, si0, lenF3, lenP3, kin3, hp3, hlm, sm03⟩ (fun i σ H' _ ⟨_, _, _, _, _, _, _, _, _, h, _⟩ => SqL.of h) ?_ ?_⟩
    · rintro i z σ H' hz ⟨v3, F', P', rfl, si, l1, l2, kin, hp', hl', sm⟩
      rw [List.getElem?_map, Option.map_eq_some_iff] at hz
      obtain ⟨c, hc, rfl⟩ := hz
      have hil : i < Mv.length := (List.getElem?_eq_some_iff.mp hc).1
      have ec : Mv[i] = c := (List.getElem?_eq_some_iff.mp hc).2
      have ed : Mv.drop i = c :: Mv.drop (i + 1) := by
        rw [List.drop_eq_getElem_cons hil, ec]
      rw [ed] at si
      obtain ⟨dxp, hobp⟩ := hp'.ob
      refine ⟨_, rfl, x, dxp, _, rfl, hobp, pF_no _ (by decide +kernel) (by decide +kernel) (by decide +kernel) (by decide +kernel), ?_⟩
      refine ⟨_, rfl, ⟨x, df, a.dt, dp, ds⟩, F', P', TT, Mv.take i, c, Mv.drop (i + 1), Vbchaj.roomOf s.members, rfl, hp', si, kin, by omega, by omega, by rw [List.length_take]; omega, fun H4 F4 P4 si4 kF4 kin4 len4 hp4 fr4 => ?_⟩
      rw [← take_snoc hc] at si4 hp4
      refine ⟨_, F4, P4, rfl, si4, ?_, by omega, kin4, hp4, fr4 _ _ hl' lmf lmp lms, fun b o e => fr4 b o (sm b o e) (ne_of_none e m1) (ne_of_none e m2) (ne_of_none e m3)⟩
      have := congrArg List.length kF4
      simp only [keysA, List.length_map] at this
      omega
    · rintro σ H4 ⟨v3, F4, P4, rfl, si, l1, l2, kin, hp4, hl4, sm4⟩
      rw [List.length_map, List.take_length] at si hp4
      rw [List.drop_eq_nil_of_le (Nat.le_refl _)] at si
      have done := si.done
      rw [← told0] at done
      have kS : ∀ k ∈ Mv, k ∈ keysA P4 := si.ok.sub
      obtain ⟨dxp, hobp⟩ := hp4.ob
      -- return [(client, plan.places[client]) for client in moved]
      refine ⟨_, rfl, lm, rfl, ⟨_, SqL.of hl4⟩, fun D hD => ?_⟩
      have hD0 : H D = none := sm4.free hD
      refine lc_list (K := K) (a := lm) (xs := Mv.map nV) (fun j H' => Same H4 H' ∧ ∃ ts : List Addr, H' D = some (.lst (ts.map V.ref)) ∧ Tups H' ts ((Mv.take j).map fun k => (k, val P4 k)))
        ⟨same_new hD, [], upd_same, ⟨rfl, fun (i : Nat) (t : Addr) h => by simp at h⟩⟩ (fun j H' _ h => SqL.of (h.1 _ _ hl4)) ?_ ?_
      · rintro j z H' hz ⟨sm', ts, hts, tp⟩
        rw [List.getElem?_map, Option.map_eq_some_iff] at hz
        obtain ⟨c, hc, rfl⟩ := hz
        have hjl : j < Mv.length := (List.getElem?_eq_some_iff.mp hc).1
        have gP := aget_val (kS c (List.mem_of_getElem? hc))
        refine ⟨rfl, go_yes (iteT ?_)⟩
        refine ⟨_, rfl, _, rfl, x, A.C_Plan, dxp, _, _, rfl, sm' _ _ hobp, T.cl_Plan, T.a_Plan_places, pF_places _, ?_⟩
        refine ⟨_, rfl, dp, nV (val P4 c), rfl, .inl ⟨enc nV P4, kN c, .inl (sm' _ _ hp4.pc), rfl, (by rw [valV_enc, gP]; rfl)⟩, ?_⟩
        refine ⟨(by show 2 ≤ sizeLine; decide), fun t ht => ?_⟩
        have htD : D ≠ t := ne_of_none hts ht
        have lts : ts.length = j := by
          have := tp.len
          rw [List.length_map, List.length_take] at this
          omega
        refine ⟨ts.map V.ref, by rw [upd_ne htD]; exact hts, by rw [List.length_map]; exact small1 (by omega), ?_, ts ++ [t], ?_, ?_, fun i t' h => ?_⟩
        · intro b o e
          rw [upd_ne (ne_of_none e hD), upd_ne (ne_of_none (sm' b o e) ht)]
          exact sm' b o e
        · rw [upd_same, List.map_append]
          rfl
        · rw [List.length_append, lts, List.length_map, List.length_take, List.length_singleton]
          omega
        · by_cases hi : i < ts.length
          · rw [List.getElem?_append_left hi] at h
            obtain ⟨y, h1, h2⟩ := tp.at_ i t' h
            refine ⟨y, ?_, ?_⟩
            · rw [take_snoc hc, List.map_append, List.getElem?_append_left (by rw [← tp.len]; exact hi)]
              exact h1
            · rw [upd_ne (ne_of h2 hts (by intro z; cases z)), upd_ne (ne_of_none h2 ht)]
              exact h2
          · have hi2 : i = ts.length := by
              have := (List.getElem?_eq_some_iff.mp h).1
              rw [List.length_append, List.length_singleton] at this
              omega
            subst hi2
            rw [List.getElem?_append_right (Nat.le_refl _), Nat.sub_self] at h
            obtain rfl : t = t' := Option.some.inj h
            refine ⟨(c, val P4 c), ?_, ?_⟩
            · rw [List.getElem?_map, List.getElem?_take_of_lt (by omega), lts, hc]
              rfl
            · rw [upd_ne htD.symm, upd_same]
      · rintro H' ⟨sm', ts, hts, tp⟩
        rw [List.length_map, List.take_length] at tp
        rw [← done] at tp
        exact q H' D ts hts tp (sm4.trans sm') hD0
end CW

end

section
namespace CW
open PySem PySem.Spec PyProof.Rows L2 CM
variable {P : Program} {w : World} {K : PySem.W.Frag} {mg : Str → Option Value} {base : Heap} {A : Adr}
/-! ### moved_of -/
theorem nd_len16 {s : Vbchaj.State} (G : Good s) {ks : List Nat} (nd : ks.Nodup) (hk : ∀ k ∈ ks, k ∈ Vbchaj.keysOf s.clients) : ks.length ≤ 16 := by
  have h1 := nodup_length_le ks _ nd hk
  have h2 := G.clen
  simp only [Vbchaj.keysOf, List.length_map] at h1
  unfold Vbchaj.CLIENTS at h2
  omega
theorem lenR8 {s : Vbchaj.State} {R O : List (Nat × Nat)} {TT : TT3} (G : Good s) (ab : Abs s R O TT) : R.length ≤ 8 := by
  rw [ab.lenR]
  exact G.mlen
def spMovedOf (C : Addr) : Sp := fun vs H Q _ => ∃ (a : HA) (s : Vbchaj.State) (lc : Addr) (ks : List Nat), vs = [.ref a.p, .ref lc] ∧ HS C s H a ∧ H lc = some (.lst (ks.map nV)) ∧ ks.Nodup ∧ (∀ k ∈ ks, k ∈ Vbchaj.keysOf s.clients) ∧
  NewL H ((movedK (Vbchaj.roomOf s.members) (tkOf s.clients) ks).map nV) Q
theorem ok_moved_of (T : Txt K mg A) : FnOk P w K mg base CX0 5 A.f_moved_of A.d_moved_of ["house", "clients"] (spMovedOf A.C_House) := by
  refine T.F_moved_of.ok sc_moved_of (fun vs H Q E h => ?_) (fun cdv A' outer s H vs Q E hr h => ?_)
  · obtain ⟨a, s, lc, ks, rfl, _⟩ := h
    rfl
  · obtain ⟨a, s, lc, ks, rfl, hs, hlc, nd, hks, q⟩ := h
    have hu := hu_of hr
    obtain ⟨G, R, O, TT, hh, ab⟩ := id hs
    refine ⟨_, (pss_one (ps_ret (pe_call (ok_moved_clients T) (hr.mono (by decide)) (by rfl) T.g_moved_clients T.F_moved_clients.kp T.b_moved_clients .nil pass0 (pa_cons (pe_make T.mk_Plan (ok_Plan_init T) (hr.mono (by decide)) (by rfl) T.g_Plan T.b_Plan_init .nil pass0 (pa_cons (pe_fld (pv 0) (by rfl)) (pa_cons (pe_fld (pv 0) (by rfl)) pa_nil))) (pa_cons (pv 1) pa_nil))))), ?_⟩
    obtain ⟨dxh, hob⟩ := hh.ob
    refine ⟨_, rfl, a.p, A.C_House, dxh, _, _, rfl, hob, T.cl_House, T.a_House_rooms, hF_rooms a, _, rfl, a.p, A.C_House, dxh, _, _, rfl, hob, T.cl_House, T.a_House_takers, hF_takers a, fun x dx nx nd ne => ?_⟩
    have sm0 : Same H (upd (upd H dx (.own x)) x (.ins A.C_Plan dx [])) := made nx nd
    refine ⟨x, dx, a.dr, a.dt, R, TT, rfl, upd_same, sm0 _ _ hh.rc, sm0 _ _ hh.tc, fun y hy => sm0 _ _ (hh.tl y hy), fun H2 df dp ds hp n1 n2 n3 fr1 => ⟨rfl, ?_⟩⟩
    have m1 := made_free nx nd n1
    have m2 := made_free nx nd n2
    have sm2 : Same H H2 := fun b o e => fr1 b o (sm0 b o e) (ne_of_none e nx)
    have l16 := nd_len16 G (by assumption) hks
    have l8 := lenR8 G ab
    refine ⟨_, rfl, ⟨x, df, a.dt, dp, ds⟩, R, TT, lc, ks, Vbchaj.roomOf s.members, rfl, hp, sm2 _ _ hlc, by assumption, fun k hk => ord_in ab k (hks k hk), by omega, in_rooms G ab, room_eq G ab, tk_nd G ab, by omega, fun H3 lm F3 P3 mi kF3 hp3 hlm hlm0 fr3 => ?_⟩
    have sm3 : Same H H3 := fun b o e => fr3 b o (sm2 b o e) (ne_of_none e m1) (ne_of_none e m2)
    rw [tk_eq G ab] at hlm
    exact q H3 lm sm3 (sm2.free hlm0) hlm
end CW

end

section
namespace CW
open PySem PySem.Spec PyProof.Rows L2 CM
variable {P : Program} {w : World} {K : PySem.W.Frag} {mg : Str → Option Value} {base : Heap} {A : Adr}
/-! ### clients_left -/
theorem inV_nats (k : Nat) (l : List Nat) : inV (nV k) (l.map nV) = l.contains k := by
  unfold inV
  rw [List.any_map, Bool.eq_iff_iff, List.any_eq_true]
  simp only [Function.comp, List.contains_eq_mem, decide_eq_true_eq]
  constructor
  · rintro ⟨x, hx, e⟩
    have e' : ((x : Int) == (k : Int)) = true := e
    have : x = k := by
      have := beq_iff_eq.mp e'
      omega
    exact this ▸ hx
  · intro h
    refine ⟨k, h, ?_⟩
    show ((k : Int) == (k : Int)) = true
    exact beq_self_eq_true _
def leftKeys (s : Vbchaj.State) : List Nat := (Vbchaj.keysOf s.clients).filter fun k => !(Vbchaj.keysOf (Vbchaj.movedOf s.members s.clients)).contains k
def spLeft (C : Addr) : Sp := fun vs H Q _ => ∃ (a : HA) (s : Vbchaj.State), vs = [.ref a.p] ∧ HS C s H a ∧
  ∀ (H' : Hp) (l : Addr), H' l = some (.lst ((leftKeys s).map nV)) → Same H H' → H l = none → Q (.ref l) H'
theorem ok_clients_left (T : Txt K mg A) : FnOk P w K mg base CX0 6 A.f_clients_left A.d_clients_left ["house"] (spLeft A.C_House) := by
  refine T.F_clients_left.ok sc_clients_left (fun vs H Q E h => ?_) (fun cdv A' outer s H vs Q E hr h => ?_)
  · obtain ⟨a, s, rfl, _⟩ := h
    rfl
  · obtain ⟨a, s, rfl, hs, q⟩ := h
    have hu := hu_of hr
    obtain ⟨G, R, O, TT, hh, ab⟩ := id hs
    refine ⟨_, (pss_cons (ps_set (i := 1) sc_clients_left.nd rfl (Or.inl rfl) (pe_meth0 (pv 0) T.cl_House T.m_House_clients_in_order (ok_House_clients_in_order T) (hr.mono (by decide)) T.b_House_clients_in_order .nil pass0))
      (pss_cons (ps_set (i := 2) sc_clients_left.nd rfl (Or.inr rfl) (pe_call (ok_moved_of T) (hr.mono (by decide)) (by rfl) T.g_moved_of T.F_moved_of.kp T.b_moved_of .nil pass0 (pa_cons (pv 0) (pa_cons (pv 1) pa_nil))))
      (pss_one (ps_ret (pe_lc (own := [("client", 3)]) (g := gName 3) (tt := (tTest (tOp (rIn K true) (tVar 3) (tVar 2)))) (te := (tVar 3)) (by rfl) sc_clients_left.nd (pi_list (pv 1)) (blkOk_by (own := [("client", 3)]) (N := N_clients_left) (sc := defScope s_clients_left) (by decide +kernel)) (fun _ _ _ _ _ => by exact (pg_name (i := 3) sc_clients_left.nd rfl (Or.inl rfl))) (fun _ _ _ _ _ => by exact (pts_one (pt_cmpR op_notIn_seq (pv 3) (pv 2) (by with_unfolding_all rfl)))) (fun _ _ _ _ _ => by exact (pv 3))))))), ?_⟩
    obtain ⟨dxh, hob⟩ := hh.ob
    -- clients = house.clients_in_order()
    refine ⟨_, rfl, a.p, dxh, hF a, rfl, hob, hF_no a (by decide +kernel) (by decide +kernel) (by decide +kernel), ?_⟩
    refine ⟨a, R, O, TT, s, rfl, hh, G, ab.ord, fun H1 lc sm1 hlc0 hlc => ?_⟩
    -- moved = moved_of(house, clients)
    refine ⟨_, rfl, _, rfl, a, s, lc, Vbchaj.keysOf s.clients, rfl, hs.same sm1, hlc, G.cnd, fun k hk => hk, fun H3 lm sm3 hlm0 hlm => ?_⟩
    have lenK : (Vbchaj.keysOf s.clients).length ≤ 16 := nd_len16 G G.cnd fun k hk => hk
    have eM : movedK (Vbchaj.roomOf s.members) (tkOf s.clients) (Vbchaj.keysOf s.clients) = Vbchaj.keysOf (Vbchaj.movedOf s.members s.clients) := (keys_movedOf G.env).symm
    rw [eM] at hlm
    -- return [client for client in clients if client not in moved]
    refine ⟨_, rfl, lc, rfl, ⟨_, SqL.of (sm3 _ _ hlc)⟩, fun D hD => lc_pure (fun v => !inV v ((Vbchaj.keysOf (Vbchaj.movedOf s.members s.clients)).map nV)) (fun v => v) hD (SqL.of (sm3 _ _ hlc)) (by rw [List.length_map]; exact small1 (by omega)) ?_ ?_ ?_⟩
    · intro y hy H' Q' sm q'
      obtain ⟨k, _, rfl⟩ := List.mem_map.mp hy
      refine go_test ⟨_, rfl, _, rfl, lm, _, rfl, .inl (SqL.of (sm _ _ hlm)), rfl, flat_nat _, _, rfl, ?_⟩
      rw [if_pos rfl]
      exact q'
    · intro y hy H' Q' sm q'
      exact ⟨_, rfl, q'⟩
    · refine q _ D (Eq.trans upd_same (congrArg (fun l => some (HO.lst l)) ?_)) (sm1.trans (sm3.trans (same_new hD))) ((sm1.trans sm3).free hD)
      unfold leftKeys
      rw [List.map_id', List.filter_map]
      congr 1
      apply List.filter_congr
      intro k _
      simp only [Function.comp]
      rw [inV_nats]
theorem ints_nV (l : List Nat) : (Vbchaj.ints l).map V.int = l.map nV := by
  unfold Vbchaj.ints
  rw [List.map_map]
  rfl
/-! ### the calls that tell -/
def spTell (C : Addr) (c : Vbchaj.Call) : Sp := fun vs H Q _ => ∃ (a : HA) (s : Vbchaj.State), vs = [.ref a.p] ∧ HS C s H a ∧ Ans C H a (Vbchaj.step s c) Q
theorem ok_tell_left (T : Txt K mg A) : FnOk P w K mg base CX0 7 A.f_tell_left A.d_tell_left ["house"] (spTell A.C_House .left) := by
  refine T.F_tell_left.ok sc_tell_left (fun vs H Q E h => ?_) (fun cdv A' outer s H vs Q E hr h => ?_)
  · obtain ⟨a, s, rfl, _⟩ := h
    rfl
  · obtain ⟨a, s, rfl, hs, q⟩ := h
    have hu := hu_of hr
    refine ⟨_, (pss_cons (ps_set (i := 1) sc_tell_left.nd rfl (Or.inl rfl) (pe_call (ok_clients_left T) (hr.mono (by decide)) (by rfl) T.g_clients_left T.F_clients_left.kp T.b_clients_left .nil pass0 (pa_cons (pv 0) pa_nil)))
      (pss_one (ps_ret (pe_op op_cat (pe_lst (pa_cons (pe_callB call_len_seq (by rfl) T.n_len PySem.boot_len (pa_cons (pv 1) pa_nil)) pa_nil)) (pv 1))))), ?_⟩
    refine ⟨_, rfl, a, s, rfl, hs, fun H1 l hl sm hl0 => ?_⟩
    refine ⟨_, rfl, l, _, rfl, .inl (SqL.of hl), (by show 1 ≤ sizeLine; decide), fun l2 hl2 => ?_⟩
    have nl : l ≠ l2 := ne_of_none hl hl2
    have lenL : (leftKeys s).length ≤ 16 := by
      have h1 := hs.1.clen
      have h2 : (leftKeys s).length ≤ (Vbchaj.keysOf s.clients).length := List.length_filter_le _ _
      have h3 : (Vbchaj.keysOf s.clients).length = s.clients.length := by simp [Vbchaj.keysOf]
      unfold Vbchaj.CLIENTS at h1
      omega
    refine ⟨_, rfl, l2, l, _, _, rfl, rfl, upd_same, by rw [upd_ne nl]; exact hl, ?_, fun p hp => ?_⟩
    · rw [List.length_map]
      show 1 + (leftKeys s).length ≤ sizeLine
      exact Nat.le_of_lt (small1 (by omega))
    · have sm2 : Same H (upd H1 l2 (.lst [V.int ((leftKeys s).map nV).length])) := sm.trans (same_new hl2)
      refine q _ p (hs.same (sm2.trans (same_new hp))) (sm2.free hp) (Eq.trans upd_same (congrArg (fun l => some (HO.lst l)) ?_)) (fun b o e _ _ _ => (sm2.trans (same_new hp)) b o e)
      show V.int (((leftKeys s).map nV).length : Nat) :: (leftKeys s).map nV = (Vbchaj.counted (leftKeys s)).map V.int
      unfold Vbchaj.counted
      rw [ints_nV, List.length_map]
      rfl
theorem ok_tell_moved (T : Txt K mg A) : FnOk P w K mg base CX0 6 A.f_tell_moved A.d_tell_moved ["house"] (spTell A.C_House .moved) := by
  refine T.F_tell_moved.ok sc_tell_moved (fun vs H Q E h => ?_) (fun cdv A' outer s H vs Q E hr h => ?_)
  · obtain ⟨a, s, rfl, _⟩ := h
    rfl
  · obtain ⟨a, s, rfl, hs, q⟩ := h
    have hu := hu_of hr
    refine ⟨_, (pss_cons (ps_set (i := 1) sc_tell_moved.nd rfl (Or.inl rfl) (pe_call (ok_places_told T) (hr.mono (by decide)) (by rfl) T.g_places_told T.F_places_told.kp T.b_places_told .nil pass0 (pa_cons (pv 0) pa_nil)))
      (pss_cons (ps_set (i := 2) sc_tell_moved.nd rfl (Or.inl rfl) (pe_lst (pa_cons (pe_callB call_len_seq (by rfl) T.n_len PySem.boot_len (pa_cons (pv 1) pa_nil)) pa_nil)))
      (pss_cons (ps_for PassesOwn.never rfl (pi_list (pv 1)) (pg_tup (by rfl) (pgs_cons (pg_name (i := 3) sc_tell_moved.nd rfl (Or.inl rfl)) (pgs_cons (pg_name (i := 4) sc_tell_moved.nd rfl (Or.inl rfl)) pgs_nil))) (pss_cons (ps_expr (pe_bm PySem.F.plainAttrs_list PySem.F.slot_list_append PySem.F.type_list_append mt_append (pv 2) (pa_cons (pv 3) pa_nil)))
      (pss_one (ps_expr (pe_bm PySem.F.plainAttrs_list PySem.F.slot_list_append PySem.F.type_list_append mt_append (pv 2) (pa_cons (pv 4) pa_nil))))))
      (pss_one (ps_ret (pv 2)))))), ?_⟩
    refine ⟨_, rfl, a, s, rfl, hs, fun H1 lt ts hlt tp sm hl0 => ?_⟩
    have lenT : (Vbchaj.told s.members s.clients).length ≤ 16 := by
      have h1 := congrArg List.length (told_ok hs.1).1
      have h2 := (movedOf_sub s.members s.clients).length_le
      have h3 := hs.1.clen
      simp only [keysP, Vbchaj.keysOf, List.length_map] at h1
      unfold Vbchaj.CLIENTS at h3
      omega
    refine ⟨_, rfl, lt, _, rfl, .inl (SqL.of hlt), (by show 1 ≤ sizeLine; decide), fun ln hln => ?_⟩
    have nl : lt ≠ ln := ne_of_none hlt hln
    have sm1 : Same H1 (upd H1 ln (.lst [V.int (ts.map V.ref).length])) := same_new hln
    have hln0 : H ln = none := sm.free hln
    refine ⟨_, rfl, lt, rfl, ⟨_, SqL.of (sm1 _ _ hlt)⟩, for_list (K := K) (a := lt) (xs := ts.map V.ref) (fun i σ H' => ∃ v3 v4, σ = [some (.ref a.p), some (.ref lt), some (.ref ln), v3, v4] ∧ Same H1 H' ∧
        H' ln = some (.lst ((ts.length :: ((Vbchaj.told s.members s.clients).take i).flatMap fun x => [x.1, x.2]).map nV)))
      ⟨none, none, rfl, sm1, by rw [upd_same, List.length_map]; rfl⟩ (fun i σ H' _ ⟨_, _, _, h, _⟩ => SqL.of (h _ _ hlt)) ?_ ?_⟩
    · rintro i z σ H' hz ⟨v3, v4, rfl, smi, hl⟩
      rw [List.getElem?_map, Option.map_eq_some_iff] at hz
      obtain ⟨t, ht, rfl⟩ := hz
      obtain ⟨x, hx, hxt⟩ := tp.at_ i t ht
      have hil : i < (Vbchaj.told s.members s.clients).length := (List.getElem?_eq_some_iff.mp hx).1
      refine ⟨t, [nV x.1, nV x.2], rfl, SqT.of (smi _ _ hxt), rfl, _, _, rfl, _, _, rfl, rfl, ?_⟩
      have lenF : (((Vbchaj.told s.members s.clients).take i).flatMap fun x => [x.1, x.2]).length ≤ 32 := by
        rw [List.length_flatMap]
        have h1 : ((Vbchaj.told s.members s.clients).take i).length ≤ 16 := by rw [List.length_take]; omega
        have : ∀ l : List (Nat × Nat), (l.map fun x => [x.1, x.2].length).sum = 2 * l.length := fun l => by
          induction l with
          | nil => rfl
          | cons y l ih =>
            rw [List.map_cons, List.sum_cons, ih]
            simp only [List.length_cons, List.length_nil]
            omega
        rw [this]
        omega
      refine ⟨_, rfl, .inl ⟨rfl, _, SqL.of hl⟩, _, rfl, ln, _, _, rfl, rfl, hl, ?_, ?_⟩
      · rw [List.length_map, List.length_cons]
        exact small1 (by omega)
      · refine ⟨_, rfl, .inl ⟨rfl, _, SqL.of upd_same⟩, _, rfl, ln, _, _, rfl, rfl, upd_same, ?_, ?_⟩
        · rw [List.length_append, List.length_map, List.length_cons]
          show _ + 1 < sizeLine
          exact small1 (by omega)
        · refine ⟨_, _, rfl, fun b o e => ?_, ?_⟩
          · rw [upd_ne (ne_of_none e hln), upd_ne (ne_of_none e hln)]
            exact smi b o e
          · rw [upd_same, take_snoc hx, List.flatMap_append]
            simp [nV]
    · rintro σ H' ⟨v3, v4, rfl, smi, hl⟩
      rw [List.length_map, tp.len, List.take_length] at hl
      refine ⟨_, rfl, q H' ln (hs.same (sm.trans smi)) hln0 (Eq.trans hl (congrArg (fun l => some (HO.lst l)) ?_)) (fun b o e _ _ _ => smi b o (sm b o e))⟩
      exact (ints_nV _).symm
def spWhere (C : Addr) : Sp := fun vs H Q _ => ∃ (a : HA) (s : Vbchaj.State) (key : Int), vs = [.ref a.p, .int key] ∧ HS C s H a ∧ Ans C H a (Vbchaj.step s (.where_ key)) Q
theorem ok_tell_where (T : Txt K mg A) : FnOk P w K mg base CX0 6 A.f_tell_where A.d_tell_where ["house", "key"] (spWhere A.C_House) := by
  refine T.F_tell_where.ok sc_tell_where (fun vs H Q E h => ?_) (fun cdv A' outer s H vs Q E hr h => ?_)
  · obtain ⟨a, s, k, rfl, _⟩ := h
    rfl
  · obtain ⟨a, s, key, rfl, hs0, q⟩ := h
    have hu := hu_of hr
    refine ⟨_, (pss_cons (ps_set (i := 2) sc_tell_where.nd rfl (Or.inl rfl) (pe_call (ok_refusal_of_client T) (hr.mono (by decide)) (by rfl) T.g_refusal_of_client T.F_refusal_of_client.kp T.b_refusal_of_client .nil pass0 (pa_cons (pv 0) (pa_cons (pv 1) pa_nil))))
      (pss_cons (ps_if (pt_truth (pv 2) (by intro _; rfl)) (pss_one (ps_ret (pv 2))) pss_nil)
      (pss_cons (ps_for PassesOwn.never rfl (pi_list (pe_call (ok_places_told T) (hr.mono (by decide)) (by rfl) T.g_places_told T.F_places_told.kp T.b_places_told .nil pass0 (pa_cons (pv 0) pa_nil))) (pg_tup (by rfl) (pgs_cons (pg_name (i := 3) sc_tell_where.nd rfl (Or.inl rfl)) (pgs_cons (pg_name (i := 4) sc_tell_where.nd rfl (Or.inl rfl)) pgs_nil))) (pss_one (ps_if (pt_cmpR op_eq (pv 3) (pv 1) (nomark _)) (pss_one (ps_ret (pe_lst (pa_cons (pv 4) pa_nil)))) pss_nil)))
      (pss_one (ps_ret (pe_lst (pa_cons pe_int pa_nil))))))), ?_⟩
    refine ⟨_, rfl, _, rfl, a, s, key, rfl, hs0, fun H0 lr sm0 hlr0 hlr => ?_⟩
    refine ⟨_, rfl, _, .inl ⟨_, SqL.of hlr, rfl⟩, ?_⟩
    simp only [Vbchaj.step] at q
    cases hrf : refC s key with
    | cons z zs =>
      rw [onC_no hrf] at q
      rw [hrf] at hlr
      exact iteT ⟨_, rfl, q.ref hs0 sm0 hlr0 hlr⟩
    | nil =>
      refine iteF ?_
      obtain ⟨k, c, rfl, hk, hm, hm1, hm2, hon⟩ := onC_yes hrf
      rw [hon] at q
      have hs := hs0.same sm0
      have q' : Ans A.C_House H0 a (s, [(Vbchaj.placeOf (Vbchaj.told s.members s.clients) k : Int)]) Q := by simpa [hm2] using q.same sm0
      refine ⟨_, rfl, a, s, rfl, hs, fun H1 lt ts hlt tp sm hl0 => ?_⟩
      refine ⟨lt, rfl, ⟨_, SqL.of hlt⟩, for_list (K := K) (a := lt) (xs := ts.map V.ref) (fun i σ H' => ∃ v3 v4, σ = [some (.ref a.p), some (nV k), some (.ref lr), v3, v4] ∧ H' = H1 ∧ ∀ y ∈ (Vbchaj.told s.members s.clients).take i, y.1 ≠ k)
        ⟨none, none, rfl, rfl, fun y hy => by simp at hy⟩ (fun i σ H' _ ⟨_, _, _, h, _⟩ => by rw [h]; exact SqL.of hlt) ?_ ?_⟩
      · rintro i z σ H' hz ⟨v2, v3, rfl, rfl, no⟩
        rw [List.getElem?_map, Option.map_eq_some_iff] at hz
        obtain ⟨t, ht, rfl⟩ := hz
        obtain ⟨x, hx, hxt⟩ := tp.at_ i t ht
        refine ⟨t, [nV x.1, nV x.2], rfl, SqT.of hxt, rfl, _, _, rfl, _, _, rfl, rfl, ?_⟩
        refine go_if (go_test ⟨_, rfl, _, rfl, rfl, _, rfl, ?_⟩)
        rw [nV_dec]
        by_cases e : x.1 = k
        · rw [decide_eq_true e]
          refine iteT ⟨_, rfl, (by show 1 ≤ sizeLine; decide), fun l hl => ?_⟩
          have pe : Vbchaj.placeOf (Vbchaj.told s.members s.clients) k = x.2 := by
            rw [← e]
            exact placeOf_take hx (fun y hy => by rw [e]; exact no y hy)
          rw [pe] at q'
          exact (q'.same sm).plain (hs.same sm) hl
        · rw [decide_eq_false e]
          refine iteF ⟨_, _, rfl, rfl, fun y hy => ?_⟩
          rw [take_snoc hx] at hy
          rcases List.mem_append.mp hy with hy | hy
          · exact no y hy
          · rw [List.mem_singleton.mp hy]
            exact e
      · rintro σ H' ⟨v2, v3, rfl, rfl, no⟩
        rw [List.length_map, tp.len, List.take_length] at no
        have pe : Vbchaj.placeOf (Vbchaj.told s.members s.clients) k = 0 := by
          apply CM.placeOf_none
          intro h
          obtain ⟨y, hy, e⟩ := List.mem_map.mp h
          exact no y hy e
        rw [pe] at q'
        exact ⟨(by show 1 ≤ sizeLine; decide), fun l hl => (q'.same sm).plain (hs.same sm) hl⟩
end CW

end

section
namespace CW
open PySem PySem.Spec PyProof.Rows L2 CM
variable {P : Program} {w : World} {K : PySem.W.Frag} {mg : Str → Option Value} {base : Heap} {A : Adr}
/-! ### move -/
theorem roomOf_mem {s : Vbchaj.State} (G : Good s) {m : Vbchaj.Member} (hm : m ∈ s.members) : Vbchaj.roomOf s.members m.key = m.room := by
  have h : aget (s.members.map fun m => (m.key, m.room)) m.key = some m.room := aget_of_mem _ _ _ (by rw [keysA_members]; exact G.mnd) (List.mem_map.mpr ⟨m, hm, rfl⟩)
  rw [aget_members] at h
  unfold Vbchaj.roomOf
  cases e : s.members.find? fun x => x.key == m.key with
  | none => rw [e] at h; cases h
  | some y => rw [e] at h; exact Option.some.inj h
theorem abs_gone {s : Vbchaj.State} {R O : List (Nat × Nat)} {TT : TT3} (G : Good s) {p : Vbchaj.Places} {x : Nat × Nat} (ab : Abs (goneS s p) R O TT) (hm : x.2 ∈ keysA R) :
    Abs (goneS s (p ++ [x])) (aput R x.2 (val R x.2 - 1)) (adrop O x.1) (adrop TT x.1) := by
  have G' := goneS_good G p
  have e : ∀ m ∈ s.members, m.key = x.2 → m.room - Vbchaj.takenAt p m.key = val R x.2 := by
    intro m hm1 hk
    have g := ab.room G' x.2
    have hmem : ({ m with room := m.room - Vbchaj.takenAt p m.key } : Vbchaj.Member) ∈ (goneS s p).members := List.mem_map.mpr ⟨m, hm1, rfl⟩
    have hg : aget ((goneS s p).members.map fun m => (m.key, m.room)) x.2 = some (m.room - Vbchaj.takenAt p m.key) := by
      refine aget_of_mem _ _ _ (by rw [keysA_members]; exact G'.mnd) (List.mem_map.mpr ⟨_, hmem, ?_⟩)
      rw [← hk]
    rw [aget_perm ab.mem (by rw [keysA_members]; exact G'.mnd)] at hg
    exact (val_of hg).symm
  rw [goneS_snoc s p x (val R x.2) e]
  exact (ab.mapM hm).dropC x.1
theorem ok_move_clients (T : Txt K mg A) : FnOk P w K mg base CX0 6 A.f_move_clients A.d_move_clients ["house"] (spTell A.C_House .move) := by
  refine T.F_move_clients.ok sc_move_clients (fun vs H Q E h => ?_) (fun cdv A' outer s H vs Q E hr h => ?_)
  · obtain ⟨a, s, rfl, _⟩ := h
    rfl
  · obtain ⟨a, s, rfl, hs, q⟩ := h
    have hu := hu_of hr
    obtain ⟨G, R, O, TT, hh, ab⟩ := id hs
    refine ⟨_, (pss_cons (ps_set (i := 1) sc_move_clients.nd rfl (Or.inl rfl) (pe_call (ok_places_told T) (hr.mono (by decide)) (by rfl) T.g_places_told T.F_places_told.kp T.b_places_told .nil pass0 (pa_cons (pv 0) pa_nil)))
      (pss_cons (ps_for PassesOwn.never rfl (pi_list (pv 1)) (pg_tup (by rfl) (pgs_cons (pg_name (i := 2) sc_move_clients.nd rfl (Or.inl rfl)) (pgs_cons (pg_name (i := 3) sc_move_clients.nd rfl (Or.inl rfl)) pgs_nil))) (pss_cons (ps_daug (by exact hu) (pe_fld (pv 0) (by rfl)) (pv 3) pe_int in_sub (fun _ _ _ => rfl))
      (pss_one (ps_expr (pe_meth (pv 0) T.cl_House T.m_House_forget_client (ok_House_forget_client T) (hr.mono (by decide)) T.b_House_forget_client .nil pass0 (pa_cons (pv 2) pa_nil))))))
      (pss_one (ps_ret (pe_lst (pa_cons (pe_callB call_len_seq (by rfl) T.n_len PySem.boot_len (pa_cons (pv 1) pa_nil)) (pa_cons (pe_callB call_lenD (by rfl) T.n_len PySem.boot_len (pa_cons (pe_fld (pv 0) (by rfl)) pa_nil)) pa_nil))))))), ?_⟩
    refine ⟨_, rfl, a, s, rfl, hs, fun H1 lt ts hlt tp sm hl0 => ?_⟩
    obtain ⟨t1, t2, t3⟩ := told_ok G
    obtain ⟨g1, g2⟩ := goneS_all G
    generalize hp : Vbchaj.told s.members s.clients = p at tp t1 t2 t3 g1 g2
    have ndp : (keysP p).Nodup := by
      rw [t1, keys_movedOf G.env]
      exact G.cnd.sublist (moved_sub _ _ _)
    have lenp : p.length ≤ 16 := by
      have h1 := congrArg List.length t1
      have h2 := (movedOf_sub s.members s.clients).length_le
      have h3 := G.clen
      simp only [keysP, Vbchaj.keysOf, List.length_map] at h1
      unfold Vbchaj.CLIENTS at h3
      omega
    have hh1 := hh.same sm
    have ltn : ∀ (d : Addr) (kvs : List (Key × V)), H1 d = some (.dK kvs) → lt ≠ d := fun d kvs e => ne_of hlt e (by intro z; cases z)
    refine ⟨_, rfl, lt, rfl, ⟨_, SqL.of hlt⟩, for_list (K := K) (a := lt) (xs := ts.map V.ref) (fun i σ H' => ∃ v2 v3 R' O' TT', σ = [some (.ref a.p), some (.ref lt), v2, v3] ∧ HouseAt A.C_House H' a R' O' TT' ∧ Abs (goneS s (p.take i)) R' O' TT' ∧
        (∀ b o, H1 b = some o → b ≠ a.dr → b ≠ a.dO → b ≠ a.dt → H' b = some o))
      ⟨none, none, R, O, TT, rfl, hh1, by rw [List.take_zero, goneS_nil]; exact ab, fun b o e _ _ _ => e⟩
      (fun i σ H' _ ⟨_, _, _, _, _, _, _, _, fr⟩ => SqL.of (fr _ _ hlt (ltn _ _ hh1.rc) (ltn _ _ hh1.oc) (ltn _ _ hh1.tc))) ?_ ?_⟩
    · rintro i z σ H' hz ⟨v2, v3, R', O', TT', rfl, hh', ab', fr⟩
      rw [List.getElem?_map, Option.map_eq_some_iff] at hz
      obtain ⟨t, ht, rfl⟩ := hz
      obtain ⟨x, hx, hxt⟩ := tp.at_ i t ht
      have G' := goneS_good G (p.take i)
      have tn : ∀ (d : Addr) (kvs : List (Key × V)), H1 d = some (.dK kvs) → t ≠ d := fun d kvs e => ne_of hxt e (by intro z; cases z)
      have hxt' := fr _ _ hxt (tn _ _ hh1.rc) (tn _ _ hh1.oc) (tn _ _ hh1.tc)
      refine ⟨t, [nV x.1, nV x.2], rfl, SqT.of hxt', rfl, _, _, rfl, _, _, rfl, rfl, ?_⟩
      -- house.rooms[member] -= 1
      have hmR : x.2 ∈ s.members.map fun m => m.key := tkOf_in G _ _ (t2 x (List.mem_of_getElem? hx))
      have hmR' : x.2 ∈ keysA R' := by
        have := keysA_perm ab'.mem
        rw [keysA_members] at this
        refine this.mem_iff.mp ?_
        obtain ⟨m, hm, e⟩ := List.mem_map.mp hmR
        refine List.mem_map.mpr ⟨_, List.mem_map.mpr ⟨m, hm, rfl⟩, e⟩
      have gR := aget_val hmR'
      have pos : 0 < val R' x.2 := by
        obtain ⟨m, hm, e⟩ := List.mem_map.mp hmR
        have hmem : ({ m with room := m.room - Vbchaj.takenAt (p.take i) m.key } : Vbchaj.Member) ∈ (goneS s (p.take i)).members := List.mem_map.mpr ⟨m, hm, rfl⟩
        have hg : aget ((goneS s (p.take i)).members.map fun m => (m.key, m.room)) x.2 = some (m.room - Vbchaj.takenAt (p.take i) m.key) := by
          refine aget_of_mem _ _ _ (by rw [keysA_members]; exact G'.mnd) (List.mem_map.mpr ⟨_, hmem, ?_⟩)
          rw [← e]
        rw [aget_perm ab'.mem (by rw [keysA_members]; exact G'.mnd), gR] at hg
        have ev := Option.some.inj hg
        have lt1 := takenAt_take_lt hx
        have le1 := t3 x.2
        have er : Vbchaj.roomOf s.members x.2 = m.room := by
          rw [← e]
          exact roomOf_mem G hm
        rw [e] at ev
        omega
      have lenR' : R'.length ≤ 8 := by
        rw [ab'.lenR]
        exact G'.mlen
      refine go_seq (go_daug (fld_rooms T hh' (by rfl) ⟨_, rfl, a.dr, nV (val R' x.2), rfl, .inl ⟨enc nV R', kN x.2, .inl hh'.rc, rfl, (by rw [valV_enc, gR]; rfl)⟩, ?_⟩))
      refine ⟨_, _, rfl, rfl, _, DPut.k (k := kN x.2) hh'.rc (by rw [enc_len]; exact small1 (by omega)), ?_⟩
      have e1 : V.int ((val R' x.2 : Int) - 1) = nV (val R' x.2 - 1) := by
        show V.int _ = V.int _
        congr 1
        omega
      rw [e1, putK_enc]
      have hh2 := hh'.setR (aput R' x.2 (val R' x.2 - 1))
      -- house.forget_client(client)
      have hc1 : x.1 ∈ keysP p := key_of_mem (k := x.1) (m := x.2) (List.mem_of_getElem? hx)
      have hcs : x.1 ∈ Vbchaj.keysOf s.clients := by
        rw [t1] at hc1
        exact ((movedOf_sub s.members s.clients).map _).subset hc1
      have hcg : x.1 ∈ Vbchaj.keysOf (goneS s (p.take i)).clients := by
        obtain ⟨c, hc, e⟩ := List.mem_map.mp hcs
        refine List.mem_map.mpr ⟨c, List.mem_filter.mpr ⟨hc, ?_⟩, e⟩
        have e' : c.key = x.1 := e
        rw [e']
        have : x.1 ∉ keysP (p.take i) := by
          intro z
          obtain ⟨j, hj⟩ := List.mem_iff_getElem?.mp z
          have hi' : (keysP p)[i]? = some x.1 := by
            unfold keysP
            rw [List.getElem?_map, hx]
            rfl
          have hj' : (keysP p)[j]? = some x.1 ∧ j < i := by
            have hjl := (List.getElem?_eq_some_iff.mp hj).1
            have hji : j < i := by
              simp only [keysP, List.length_map, List.length_take] at hjl
              omega
            refine ⟨?_, hji⟩
            unfold keysP at hj ⊢
            rw [List.getElem?_map, List.getElem?_take_of_lt hji] at hj
            rw [List.getElem?_map]
            exact hj
          have := nd_ix ndp hj'.1 hi'
          omega
        simpa using this
      have kO : x.1 ∈ keysA O' := by
        have := keysA_perm ab'.ord
        rw [keysA_clients] at this
        exact this.mem_iff.mp hcg
      have kT : x.1 ∈ keysA TT' := ab'.permT.mem_iff.mp hcg
      obtain ⟨dx, hob⟩ := hh2.ob
      refine ⟨_, rfl, a.p, dx, hF a, rfl, hob, hF_no a (by decide +kernel) (by decide +kernel) (by decide +kernel), ?_⟩
      refine ⟨_, rfl, a, _, O', TT', x.1, rfl, hh2, kO, kT, fun H3 hh3 fr3 fe3 => ?_⟩
      refine ⟨_, _, _, _, _, rfl, hh3, ?_, fun b o e h1 h2 h3 => ?_⟩
      · rw [take_snoc hx]
        exact abs_gone G ab' hmR'
      · refine fr3 b o ?_ h2 h3
        rw [upd_ne h1]
        exact fr b o e h1 h2 h3
    · rintro σ H' ⟨v2, v3, R', O', TT', rfl, hh', ab', fr⟩
      rw [List.length_map, tp.len, List.take_length] at ab'
      have hlt' : H' lt = some (.lst (ts.map V.ref)) := fr _ _ hlt (ltn _ _ hh1.rc) (ltn _ _ hh1.oc) (ltn _ _ hh1.tc)
      refine ⟨_, rfl, lt, _, rfl, .inl (SqL.of hlt'), ?_⟩
      refine fld_orders T hh' rfl ⟨_, _, rfl, hh'.oc, (by show 2 ≤ sizeLine; decide), fun l hl => ?_⟩
      have hq : Ans A.C_House H a (goneS s p, [(p.length : Int), ((goneS s p).clients.length : Int)]) Q := by
        have e2 : Vbchaj.step s .move = (goneS s p, [(p.length : Int), ((goneS s p).clients.length : Int)]) := Prod.ext g1 g2
        rw [e2] at q
        exact q
      have hs' : HS A.C_House (goneS s p) H' a := ⟨goneS_good G p, R', O', TT', hh', ab'⟩
      have := hq.put hs' (fun b o e h1 h2 h3 => fr b o (sm b o e) h1 h2 h3) hl
      have el : [V.int ((ts.map V.ref).length : Nat), V.int ((enc nV O').length : Nat)] = [(p.length : Int), ((goneS s p).clients.length : Int)].map V.int := by
        rw [List.length_map, tp.len, enc_len, ab'.lenO]
        rfl
      rw [← el] at this
      exact this
end CW

end

section
namespace CW
open PySem PySem.Spec PyProof.Rows L2 CM
variable {P : Program} {w : World} {K : PySem.W.Frag} {mg : Str → Option Value} {base : Heap} {A : Adr}
/-! ### clients_before -/
theorem cutV_front (xs : List V) (j : Nat) (hj : j ≤ xs.length) : cutV xs none (some (j : Int)) = xs.take j := by
  unfold cutV
  rw [HT.sIx_nat, Nat.min_eq_left hj]
  rfl
def spBefore (C : Addr) : Sp := fun vs H Q _ => ∃ (a : HA) (s : Vbchaj.State) (a1 b1 : List Vbchaj.Client) (c : Vbchaj.Client), vs = [.ref a.p, nV c.key] ∧ HS C s H a ∧ s.clients = a1 ++ c :: b1 ∧
  NewL H ((Vbchaj.keysOf a1).map nV) Q
theorem ok_House_clients_before (T : Txt K mg A) : FnOk P w K mg base CX0 2 A.f_House_clients_before A.d_House_clients_before ["self", "client"] (spBefore A.C_House) := by
  refine T.F_House_clients_before.ok sc_House_clients_before (fun vs H Q E h => ?_) (fun cdv A' outer s H vs Q E hr h => ?_)
  · obtain ⟨a, s, a1, b1, c, rfl, _⟩ := h
    rfl
  · obtain ⟨a, s, a1, b1, c, rfl, hs, ec, q⟩ := h
    have hu := hu_of hr
    obtain ⟨G, R, O, TT, hh, ab⟩ := id hs
    obtain ⟨dx, hob⟩ := hh.ob
    refine ⟨_, (pss_cons (ps_set (i := 2) sc_House_clients_before.nd rfl (Or.inl rfl) (pe_meth0 (pv 0) T.cl_House T.m_House_clients_in_order (ok_House_clients_in_order T) (hr.mono (by decide)) T.b_House_clients_in_order .nil pass0))
      (pss_one (ps_ret (pe_slice sl_list (pv 2) po_none (po_some (pe_bm PySem.F.plainAttrs_list PySem.F.slot_list_index PySem.F.type_list_index mt_index (pv 2) (pa_cons (pv 1) pa_nil))))))), ?_⟩
    refine ⟨_, rfl, a.p, dx, hF a, rfl, hob, hF_no a (by decide +kernel) (by decide +kernel) (by decide +kernel), ?_⟩
    refine ⟨a, R, O, TT, s, rfl, hh, G, ab.ord, fun H1 lc sm1 hlc0 hlc => ?_⟩
    have ek : Vbchaj.keysOf s.clients = Vbchaj.keysOf a1 ++ c.key :: Vbchaj.keysOf b1 := by rw [ec, keysOf_append, keysOf_cons]
    have lenA : (Vbchaj.keysOf a1).length = a1.length := by simp [Vbchaj.keysOf]
    have hj : ((Vbchaj.keysOf s.clients).map nV)[a1.length]? = some (nV c.key) := by
      rw [List.getElem?_map, ek, List.getElem?_append_right (by omega), lenA, Nat.sub_self]
      rfl
    have hno : ∀ (m : Nat) (z' : V), m < a1.length → ((Vbchaj.keysOf s.clients).map nV)[m]? = some z' → eqV z' (nV c.key) = false := by
      intro m z' hm hz
      rw [List.getElem?_map, Option.map_eq_some_iff] at hz
      obtain ⟨x, hx, rfl⟩ := hz
      have hxa : x ∈ Vbchaj.keysOf a1 := by
        rw [ek, List.getElem?_append_left (by omega)] at hx
        exact List.mem_of_getElem? hx
      have nd := G.cnd
      rw [ek] at nd
      have hne : x ≠ c.key := (List.nodup_append.mp nd).2.2 x hxa c.key (by simp)
      show ((x : Int) == (c.key : Int)) = false
      simpa using fun h => hne (by omega)
    refine ⟨_, rfl, _, rfl, .inl ⟨rfl, _, SqL.of hlc⟩, _, rfl, lc, _, nV c.key, a1.length, nV c.key, rfl, rfl, SqL.of hlc, rfl, flat_nat _, hj, (by show ((c.key : Int) == (c.key : Int)) = true; exact beq_self_eq_true _), hno, _, rfl, lc, _, rfl, SqL.of hlc, fun p hp => ?_⟩
    have e1 : cutV ((Vbchaj.keysOf s.clients).map nV) none (some ((a1.length : Nat) : Int)) = (Vbchaj.keysOf a1).map nV := by
      have h1 := cutV_front ((Vbchaj.keysOf s.clients).map nV) a1.length (by rw [List.length_map, ek, List.length_append, lenA]; omega)
      rw [h1, ← List.map_take, ek, List.take_append_of_le_length (by omega), List.take_of_length_le (by omega)]
    rw [e1]
    exact q.put sm1 hp

/-! ### keeps, rooms_together -/
def spKeeps (C : Addr) : Sp := fun vs H Q _ => ∃ (a : HA) (T : TT3) (l : Addr) (ls : List Nat) (k : Nat), vs = [.ref a.p, .ref l, nV k] ∧ (∃ dx, H a.p = some (.ins C dx (hF a))) ∧ Rd H a.dt (.dK (enc tV T)) ∧ (∀ x ∈ T, H x.2.1 = some (.lst (x.2.2.map nV))) ∧
  H l = some (.lst (ls.map nV)) ∧ k ∈ keysA T ∧ (tkT T k).length ≤ 100 ∧ ∀ H', Same H H' → Q (.bl ((tkT T k).all fun m => ls.contains m)) H'
theorem ok_keeps (T : Txt K mg A) : FnOk P w K mg base CX0 1 A.f_keeps A.d_keeps ["house", "members", "client"] (spKeeps A.C_House) := by
  refine T.F_keeps.ok sc_keeps (fun vs H Q E h => ?_) (fun cdv A' outer s H vs Q E hr h => ?_)
  · obtain ⟨a, TT, l, ls, k, rfl, _⟩ := h
    rfl
  · obtain ⟨a, TT, l, ls, k, rfl, ⟨dx, hob⟩, htk, htl, hl, hk, h8, q⟩ := h
    have hu := hu_of hr
    obtain ⟨y, hy⟩ := aget_key hk
    have hyT := aget_some_mem _ _ _ hy
    have hyl := htl _ hyT
    have eT : tkT TT k = y.2 := tkT_of hy
    rw [eT] at h8 q
    refine ⟨_, (pss_one (ps_ret (pe_callB (cr_all rfl) (by rfl) T.n_all (by decide +kernel) (pa_cons (pe_lc (own := [("taker", 3)]) (g := gName 3) (tt := tYes) (te := (tOp (rIn K false) (tVar 3) (tVar 1))) (by rfl) sc_keeps.nd (pi_list (pe_dget (by exact hu) (pe_fld (pv 0) (by rfl)) (pv 2) (fun _ _ => rfl))) (blkOk_by (own := [("taker", 3)]) (N := N_keeps) (sc := defScope s_keeps) (by decide +kernel)) (fun _ _ _ _ _ => by exact (pg_name (i := 3) sc_keeps.nd rfl (Or.inl rfl))) (fun _ _ _ _ _ => by exact pts_nil) (fun _ _ _ _ _ => by exact (pe_cmpR op_in_seq (pv 3) (pv 1) (by with_unfolding_all rfl)))) pa_nil)))), ?_⟩
    refine ⟨_, rfl, a.p, A.C_House, dx, _, _, rfl, hob, T.cl_House, T.a_House_takers, hF_takers a, ?_⟩
    refine ⟨_, rfl, a.dt, .ref y.1, rfl, .inl ⟨enc tV TT, kN k, htk, rfl, (by rw [valV_enc, hy]; rfl)⟩, ?_⟩
    refine ⟨y.1, rfl, ⟨_, SqL.of hyl⟩, fun D hD => lc_pure1 (fun v => .bl (inV v (ls.map nV))) hD (SqL.of hyl) (small1 (by rw [List.length_map]; exact h8)) ?_ ?_⟩
    · intro x hx H' Q' sm q'
      obtain ⟨m, _, rfl⟩ := List.mem_map.mp hx
      refine ⟨_, rfl, _, rfl, l, _, rfl, .inl (SqL.of (sm _ _ hl)), rfl, flat_nat _, ?_⟩
      rw [if_neg Bool.false_ne_true]
      exact q'
    · refine ⟨D, y.2.map fun m => inV (nV m) (ls.map nV), rfl, SqL.of (Eq.trans upd_same ?_), ?_⟩
      · rw [List.map_map, List.map_map]
        rfl
      · have e : ((y.2.map fun m => inV (nV m) (ls.map nV)).all id) = y.2.all fun m => ls.contains m := by
          rw [List.all_map]
          congr 1
          funext m
          exact inV_nats m ls
        rw [e]
        exact q _ (same_new hD)
def spRooms (C : Addr) : Sp := fun vs H Q _ => ∃ (a : HA) (s : Vbchaj.State) (l : Addr) (ls : List Nat), vs = [.ref a.p, .ref l] ∧ HS C s H a ∧ H l = some (.lst (ls.map nV)) ∧ ls.length ≤ 100 ∧ (∀ m ∈ ls, (Vbchaj.memberAt s m).isSome = true) ∧
  ∀ H', Same H H' → Q (nV (total (Vbchaj.roomOf s.members) ls)) H'
def roomV (kvs : List (Key × V)) : V → V
  | .int n => (valV kvs (Sum.inl n)).getD .non
  | _ => .non
theorem sum_tot (h : Nat → Nat) : ∀ l : List Nat, (l.map fun m => (h m : Int)).sum = ((total h l : Nat) : Int)
  | [] => rfl
  | m :: l => by
    rw [List.map_cons, List.sum_cons, sum_tot h l]
    show ((h m : Nat) : Int) + ((total h l : Nat) : Int) = ((h m + total h l : Nat) : Int)
    omega
theorem ok_rooms_together (T : Txt K mg A) : FnOk P w K mg base CX0 1 A.f_rooms_together A.d_rooms_together ["house", "members"] (spRooms A.C_House) := by
  refine T.F_rooms_together.ok sc_rooms_together (fun vs H Q E h => ?_) (fun cdv A' outer s H vs Q E hr h => ?_)
  · obtain ⟨a, s, l, ls, rfl, _⟩ := h
    rfl
  · obtain ⟨a, s, l, ls, rfl, hs, hl, h8, hin, q⟩ := h
    have hu := hu_of hr
    obtain ⟨G, R, O, TT, hh, ab⟩ := id hs
    have hg : ∀ m ∈ ls, aget R m = some (Vbchaj.roomOf s.members m) := fun m hm => by
      have h1 := hin m hm
      rw [Option.isSome_iff_exists] at h1
      obtain ⟨y, hy⟩ := h1
      have h2 : aget R m = some y.room := by rw [ab.room G, hy]; rfl
      rw [h2, ← room_eq G ab, val_of h2]
    refine ⟨_, (pss_one (ps_ret (pe_callB (cr_sum rfl) (by rfl) T.n_sum (by decide +kernel) (pa_cons (pe_lc (own := [("member", 2)]) (g := gName 2) (tt := tYes) (te := (tDGet (tFld K (tVar 0) "rooms") (tVar 2))) (by rfl) sc_rooms_together.nd (pi_list (pv 1)) (blkOk_by (own := [("member", 2)]) (N := N_rooms_together) (sc := defScope s_rooms_together) (by decide +kernel)) (fun _ _ _ _ _ => by exact (pg_name (i := 2) sc_rooms_together.nd rfl (Or.inl rfl))) (fun _ _ _ _ _ => by exact pts_nil) (fun _ _ _ _ _ => by exact (pe_dget (by exact hu) (pe_fld (pv 0) (by rfl)) (pv 2) (fun _ _ => rfl)))) pa_nil)))), ?_⟩
    refine ⟨_, rfl, l, rfl, ⟨_, SqL.of hl⟩, fun D hD => lc_pure1 (roomV (enc nV R)) hD (SqL.of hl) (small1 (by rw [List.length_map]; exact h8)) ?_ ?_⟩
    · intro x hx H' Q' sm q'
      obtain ⟨m, hm, rfl⟩ := List.mem_map.mp hx
      have hh' := hh.same sm
      have e1 : valV (enc nV R) (kN m) = some (nV (Vbchaj.roomOf s.members m)) := by rw [valV_enc, hg m hm]; rfl
      have e2 : roomV (enc nV R) (nV m) = nV (Vbchaj.roomOf s.members m) := by
        show (valV (enc nV R) (kN m)).getD .non = _
        rw [e1]
        rfl
      rw [e2] at q'
      exact go_dget (fld_rooms T hh' (by rfl) ⟨_, rfl, a.dr, _, rfl, .inl ⟨enc nV R, kN m, .inl hh'.rc, rfl, e1.symm⟩, q'⟩)
    · refine ⟨D, ls.map fun m => ((Vbchaj.roomOf s.members m : Nat) : Int), rfl, SqL.of (Eq.trans upd_same ?_), ?_⟩
      · congr 2
        rw [List.map_map, List.map_map]
        apply List.map_congr_left
        intro m hm
        show roomV (enc nV R) (nV m) = _
        show (valV (enc nV R) (kN m)).getD .non = _
        rw [valV_enc, hg m hm]
        rfl
      · rw [sum_tot]
        exact q _ (same_new hD)
/-! ### proves -/
def spProves (C : Addr) : Sp := fun vs H Q _ => ∃ (a : HA) (s : Vbchaj.State) (l : Addr) (ls : List Nat) (c : Vbchaj.Client), vs = [.ref a.p, .ref l, nV c.key] ∧ HS C s H a ∧ c ∈ s.clients ∧ H l = some (.lst (ls.map nV)) ∧ ls.length ≤ 100 ∧ (∀ m ∈ ls, (Vbchaj.memberAt s m).isSome = true) ∧
  ∀ H', Same H H' → Q (.bl (Vbchaj.proves s.members s.clients c ls)) H'
theorem tk_len {s : Vbchaj.State} {R O : List (Nat × Nat)} {TT : TT3} (G : Good s) (ab : Abs s R O TT) (k : Nat) : (tkT TT k).length ≤ 100 := by
  have h1 := nodup_length_le (tkT TT k) (keysA R) (tk_nd G ab k) (in_rooms G ab k)
  have h2 := lenR8 G ab
  have e : (keysA R).length = R.length := by simp [keysA]
  omega
theorem tk_cl {s : Vbchaj.State} {R O : List (Nat × Nat)} {TT : TT3} (G : Good s) (ab : Abs s R O TT) {c : Vbchaj.Client} (hc : c ∈ s.clients) : tkT TT c.key = c.takers := by
  rw [tk_eq G ab, G.env.tks c hc]
theorem ok_proves (T : Txt K mg A) : FnOk P w K mg base CX0 6 A.f_proves A.d_proves ["house", "members", "client"] (spProves A.C_House) := by
  refine T.F_proves.ok sc_proves (fun vs H Q E h => ?_) (fun cdv A' outer s H vs Q E hr h => ?_)
  · obtain ⟨a, s, l, ls, c, rfl, _⟩ := h
    rfl
  · obtain ⟨a, s, l, ls, c, rfl, hs, hc, hl, h8, hin, q⟩ := h
    have hu := hu_of hr
    obtain ⟨G, R, O, TT, hh, ab⟩ := id hs
    have hck : c.key ∈ keysA TT := (client_keys ab hc).2
    obtain ⟨a1, b1, ec, eb⟩ := before_split G hc
    have ep := proves_eq G hc ec eb ls
    refine ⟨_, (pss_cons (ps_if (pt_not (pt_val (pe_call (ok_keeps T) (hr.mono (by decide)) (by rfl) T.g_keeps T.F_keeps.kp T.b_keeps .nil pass0 (pa_cons (pv 0) (pa_cons (pv 1) (pa_cons (pv 2) pa_nil)))))) (pss_one (ps_ret pe_bl)) pss_nil)
      (pss_cons (ps_set (i := 3) sc_proves.nd rfl (Or.inl rfl) (pe_call (ok_moved_of T) (hr.mono (by decide)) (by rfl) T.g_moved_of T.F_moved_of.kp T.b_moved_of .nil pass0 (pa_cons (pv 0) (pa_cons (pe_meth (pv 0) T.cl_House T.m_House_clients_before (ok_House_clients_before T) (hr.mono (by decide)) T.b_House_clients_before .nil pass0 (pa_cons (pv 2) pa_nil)) pa_nil))))
      (pss_cons (ps_setLc (i := 4) (own := [("other", 5)]) (g := gName 5) (tt := _) (te := (tVar 5)) (by rfl) sc_proves.nd rfl rfl (sw_true rfl rfl rfl (by decide +kernel)) (pi_list (pv 3)) (blkOk_by (own := [("other", 5)]) (N := N_proves) (sc := defScope s_proves) (by decide +kernel)) (fun _ _ _ _ _ => by exact (pg_name (i := 5) sc_proves.nd rfl (Or.inl rfl))) (fun _ _ _ _ _ => by exact (pts_one (pt_val (pe_call (ok_keeps T) (hr.mono (by decide)) (by rfl) T.g_keeps T.F_keeps.kp T.b_keeps .nil pass0 (pa_cons (pv 0) (pa_cons (pv 1) (pa_cons (pv 5) pa_nil))))))) (fun _ _ _ _ _ => by exact (pv 5)))
      (pss_one (ps_ret (pe_cmpR op_eq (pe_callB call_len_seq (by rfl) T.n_len PySem.boot_len (pa_cons (pv 4) pa_nil)) (pe_call (ok_rooms_together T) (hr.mono (by decide)) (by rfl) T.g_rooms_together T.F_rooms_together.kp T.b_rooms_together .nil pass0 (pa_cons (pv 0) (pa_cons (pv 1) pa_nil))) (nomark _))))))), ?_⟩
    -- if not keeps(house, members, client)
    refine ⟨_, rfl, _, rfl, _, rfl, a, TT, l, ls, c.key, rfl, hh.ob, .inl hh.tc, hh.tl, hl, hck, tk_len G ab _, fun H1 sm1 => ⟨_, rfl, ?_⟩⟩
    rw [tk_cl G ab hc]
    cases hkp : c.takers.all fun m => ls.contains m with
    | false =>
      refine iteT ?_
      rw [hkp, Bool.false_and] at ep
      rw [← ep]
      exact q _ sm1
    | true =>
      refine iteF ?_
      rw [hkp, Bool.true_and] at ep
      have hs1 := hs.same sm1
      obtain ⟨dx, hob⟩ := (hh.same sm1).ob
      -- moved = moved_of(house, house.clients_before(client))
      refine ⟨_, rfl, _, rfl, a.p, dx, hF a, rfl, hob, hF_no a (by decide +kernel) (by decide +kernel) (by decide +kernel), ?_⟩
      refine ⟨_, rfl, a, s, a1, b1, c, rfl, hs1, ec, fun H2 la sm2 hla0 hla => ?_⟩
      have hs2 := hs1.same sm2
      have ek : Vbchaj.keysOf s.clients = Vbchaj.keysOf a1 ++ c.key :: Vbchaj.keysOf b1 := by rw [ec, keysOf_append, keysOf_cons]
      have nda : (Vbchaj.keysOf a1).Nodup := by
        have nd := G.cnd
        rw [ek] at nd
        exact (List.nodup_append.mp nd).1
      have ina : ∀ k ∈ Vbchaj.keysOf a1, k ∈ Vbchaj.keysOf s.clients := fun k hk => by
        rw [ek]
        exact List.mem_append_left _ hk
      refine ⟨a, s, la, Vbchaj.keysOf a1, rfl, hs2, hla, nda, ina, fun H3 lm sm3 hlm0 hlm => ?_⟩
      have sm03 := sm1.trans (sm2.trans sm3)
      have hs3 := hs.same sm03
      have hh3 := hh.same sm03
      have hl3 := sm03 _ _ hl
      have subM := moved_sub (Vbchaj.roomOf s.members) (tkOf s.clients) (Vbchaj.keysOf a1)
      have lenM : (movedK (Vbchaj.roomOf s.members) (tkOf s.clients) (Vbchaj.keysOf a1)).length ≤ 16 := Nat.le_trans subM.length_le (nd_len16 G nda ina)
      have inM : ∀ k ∈ movedK (Vbchaj.roomOf s.members) (tkOf s.clients) (Vbchaj.keysOf a1), k ∈ keysA TT := fun k hk => ord_in ab k (ina k (subM.subset hk))
      generalize hMv : movedK (Vbchaj.roomOf s.members) (tkOf s.clients) (Vbchaj.keysOf a1) = Mv at hlm ep lenM inM
      -- kept = [other for other in moved if keeps(house, members, other)]
      refine ⟨_, rfl, lm, rfl, ⟨_, SqL.of hlm⟩, fun D hD => lc_sm (fun v => match v with | .int n => (tkT TT n.toNat).all fun m => ls.contains m | _ => false) (fun v => v) hD (SqL.of hlm) (small1 (by rw [List.length_map]; omega)) ?_ ?_ ?_⟩
      · intro x hx H' Q' sm q'
        obtain ⟨k, hk, rfl⟩ := List.mem_map.mp hx
        have hh' := hh3.same sm
        refine ⟨_, rfl, _, rfl, _, rfl, a, TT, l, ls, k, rfl, hh'.ob, .inl hh'.tc, hh'.tl, sm _ _ hl3, inM k hk, tk_len G ab _, fun H2 s2 => ⟨_, rfl, ?_⟩⟩
        exact q' H2 s2
      · intro x hx H' Q' sm q'
        exact ⟨_, rfl, q' H' (Same.refl H')⟩
      · intro H4 sm4 hD4
        rw [List.map_id'] at hD4
        have hs4 := hs3.same sm4
        refine ⟨_, rfl, _, _, rfl, .inl (SqL.of hD4), ?_⟩
        refine ⟨_, rfl, _, rfl, a, s, l, ls, rfl, hs4, sm4 _ _ hl3, h8, hin, fun H5 sm5 => ?_⟩
        have e5 : (((Mv.map nV).filter (fun v => match v with | .int n => (tkT TT n.toNat).all fun m => ls.contains m | _ => false)).length : Nat) = keptC (tkOf s.clients) Mv ls := by
          rw [← tk_eq G ab, List.filter_map, List.length_map]
          unfold keptC
          rw [List.countP_eq_length_filter]
          rfl
        rw [e5]
        refine ⟨rfl, ?_⟩
        have e6 : decide (V.int ((keptC (tkOf s.clients) Mv ls : Nat) : Int) = nV (total (Vbchaj.roomOf s.members) ls)) = (keptC (tkOf s.clients) Mv ls == total (Vbchaj.roomOf s.members) ls) := by
          rw [Bool.eq_iff_iff, decide_eq_true_eq, beq_iff_eq]
          exact nV_eq
        rw [e6, ← ep]
        exact q _ (sm03.trans (sm4.trans sm5))
/-! ### can_go_to -/
theorem tkT_put (TT : TT3) (k : Nat) (x : Addr × List Nat) : tkT (aput TT k x) = updT (tkT TT) k x.2 := by
  funext j
  unfold tkT updT
  rw [aget_aput]
  split <;> rfl
theorem put_mem {TT : TT3} {k : Nat} {x : Addr × List Nat} {P : Nat × Addr × List Nat → Prop} (h1 : ∀ y ∈ TT, P y) (h2 : P (k, x)) : ∀ y ∈ aput TT k x, P y := by
  intro y hy
  by_cases hk : k ∈ keysA TT
  · rw [aput_old hk] at hy
    obtain ⟨z, hz, e⟩ := List.mem_map.mp hy
    by_cases h : z.1 = k
    · rw [if_pos h] at e
      rw [← e, h]
      exact h2
    · rw [if_neg h] at e
      rw [← e]
      exact h1 z hz
  · rw [aput_new hk] at hy
    rcases List.mem_append.mp hy with hy | hy
    · exact h1 y hy
    · rw [List.mem_singleton.mp hy]
      exact h2
def spCan (C : Addr) : Sp := fun vs H Q _ => ∃ (a : HA) (s : Vbchaj.State) (lm : Addr) (ks : List Nat) (k m : Nat), vs = [.ref a.p, .ref lm, nV k, nV m] ∧ HS C s H a ∧ H lm = some (.lst (ks.map nV)) ∧ ks.Nodup ∧ (∀ x ∈ ks, x ∈ Vbchaj.keysOf s.clients) ∧
  k ∈ Vbchaj.keysOf s.clients ∧ m ∈ tkOf s.clients k ∧ ∀ H', Same H H' → Q (.bl (canB (Vbchaj.roomOf s.members) (updT (tkOf s.clients) k [m]) ks)) H'
theorem ok_can_go_to (T : Txt K mg A) : FnOk P w K mg base CX0 5 A.f_can_go_to A.d_can_go_to ["house", "moved", "client", "member"] (spCan A.C_House) := by
  refine T.F_can_go_to.ok sc_can_go_to (fun vs H Q E h => ?_) (fun cdv A' outer s H vs Q E hr h => ?_)
  · obtain ⟨a, s, lm, ks, k, m, rfl, _⟩ := h
    rfl
  · obtain ⟨a, s, lm, ks, k, m, rfl, hs, hlm, nd, hks, hk, hm, q⟩ := h
    have hu := hu_of hr
    obtain ⟨G, R, O, TT, hh, ab⟩ := id hs
    have hkT : k ∈ keysA TT := ord_in ab k hk
    have hmR : m ∈ keysA R := in_rooms G ab k m (by rw [tk_eq G ab]; exact hm)
    refine ⟨_, (pss_cons (ps_set (i := 4) sc_can_go_to.nd rfl (Or.inl rfl) (pe_callTy call_dictD (by rfl) T.n_dict (by decide +kernel) (pa_cons (pe_fld (pv 0) (by rfl)) pa_nil)))
      (pss_cons (ps_dput (by exact hu) (pv 4) (pv 2) (pe_lst (pa_cons (pv 3) pa_nil)) rfl)
      (pss_one (ps_ret (pe_cmpR op_eq (pe_callB call_len_seq (by rfl) T.n_len PySem.boot_len (pa_cons (pe_call (ok_moved_clients T) (hr.mono (by decide)) (by rfl) T.g_moved_clients T.F_moved_clients.kp T.b_moved_clients .nil pass0 (pa_cons (pe_make T.mk_Plan (ok_Plan_init T) (hr.mono (by decide)) (by rfl) T.g_Plan T.b_Plan_init .nil pass0 (pa_cons (pe_fld (pv 0) (by rfl)) (pa_cons (pv 4) pa_nil))) (pa_cons (pv 1) pa_nil))) pa_nil)) (pe_callB call_len_seq (by rfl) T.n_len PySem.boot_len (pa_cons (pv 1) pa_nil)) (nomark _)))))), ?_⟩
    obtain ⟨dxh, hob⟩ := hh.ob
    -- takers = dict(house.takers)
    refine ⟨_, rfl, a.p, A.C_House, dxh, _, _, rfl, hob, T.cl_House, T.a_House_takers, hF_takers a, a.dt, _, rfl, .inl hh.tc, fun dt hdt => ?_⟩
    have sm1 : Same H (upd H dt (.dK (enc tV TT))) := same_new hdt
    have hdt1 : (upd H dt (.dK (enc tV TT))) dt = some (.dK (enc tV TT)) := upd_same
    generalize upd H dt (.dK (enc tV TT)) = H1 at sm1 hdt1
    -- takers[client] = [member]
    refine ⟨_, rfl, (by show 1 ≤ sizeLine; decide), fun lw hlw => ?_⟩
    have sm2 : Same H1 (upd H1 lw (.lst [nV m])) := same_new hlw
    have hlw2 : (upd H1 lw (.lst [nV m])) lw = some (.lst [nV m]) := upd_same
    generalize upd H1 lw (.lst [nV m]) = H2 at sm2 hlw2
    have hdt2 := sm2 _ _ hdt1
    have sm02 := sm1.trans sm2
    refine ⟨_, rfl, _, rfl, _, _, rfl, DPut.k (k := kN k) hdt2 (by rw [enc_len, ab.lenT]; exact small1 (Nat.le_trans G.clen (by decide))), ?_⟩
    have e4 : putK (enc tV TT) (kN k) (V.ref lw) = enc tV (aput TT k (lw, [m])) := putK_enc tV TT k (lw, [m])
    rw [e4]
    have sm3 : Same H (upd H2 dt (.dK (enc tV (aput TT k (lw, [m]))))) := fun b o e => by
      rw [upd_ne (ne_of_none e hdt)]
      exact sm02 b o e
    have hdt3 : (upd H2 dt (.dK (enc tV (aput TT k (lw, [m]))))) dt = some (.dK (enc tV (aput TT k (lw, [m])))) := upd_same
    have hlw3 : (upd H2 dt (.dK (enc tV (aput TT k (lw, [m]))))) lw = some (.lst ([m].map nV)) := by
      rw [upd_ne (ne_of hlw2 hdt2 (by intro z; cases z))]
      exact hlw2
    generalize upd H2 dt (.dK (enc tV (aput TT k (lw, [m])))) = H3 at sm3 hdt3 hlw3
    have hh3 := hh.same sm3
    have hob3 := sm3 _ _ hob
    -- Plan(house.rooms, takers)
    refine ⟨_, rfl, a.p, A.C_House, dxh, _, _, rfl, hob3, T.cl_House, T.a_House_rooms, hF_rooms a, _, rfl, fun x dx nx ndx ne => ?_⟩
    have sm0 : Same H3 (upd (upd H3 dx (.own x)) x (.ins A.C_Plan dx [])) := made nx ndx
    have htl : ∀ y ∈ aput TT k (lw, [m]), H3 y.2.1 = some (.lst (y.2.2.map nV)) := put_mem (P := fun y => H3 y.2.1 = some (.lst (y.2.2.map nV))) hh3.tl hlw3
    refine ⟨x, dx, a.dr, dt, R, aput TT k (lw, [m]), rfl, upd_same, sm0 _ _ hh3.rc, sm0 _ _ hdt3, fun y hy => sm0 _ _ (htl y hy), fun H4 df dp ds hp n1 n2 n3 fr1 => ⟨rfl, ?_⟩⟩
    have m1 := made_free nx ndx n1
    have m2 := made_free nx ndx n2
    have sm4 : Same H3 H4 := fun b o e => fr1 b o (sm0 b o e) (ne_of_none e nx)
    have l16 := nd_len16 G (by assumption) hks
    have l8 := lenR8 G ab
    have eT : tkT (aput TT k (lw, [m])) = updT (tkOf s.clients) k [m] := by rw [tkT_put, tk_eq G ab]
    have hlm4 := sm4 _ _ (sm3 _ _ hlm)
    refine ⟨_, rfl, ⟨x, df, dt, dp, ds⟩, R, aput TT k (lw, [m]), lm, ks, Vbchaj.roomOf s.members, rfl, hp, hlm4, by assumption, fun j hj => ?_, by omega, ?_, room_eq G ab, ?_, by omega, fun H5 l5 F5 P5 mi kF5 hp5 hl5 hl50 fr5 => ?_⟩
    · rw [keysA_aput_old hkT]
      exact ord_in ab j (hks j hj)
    · intro j t ht
      rw [eT] at ht
      unfold updT at ht
      split at ht
      · rw [List.mem_singleton.mp ht]
        exact hmR
      · exact in_rooms G ab j t (by rw [tk_eq G ab]; exact ht)
    · intro j
      rw [eT]
      unfold updT
      split
      · simp
      · rw [← tk_eq G ab]
        exact tk_nd G ab j
    · have sm5 : Same H3 H5 := fun b o e => fr5 b o (sm4 b o e) (ne_of_none e m1) (ne_of_none e m2)
      rw [eT] at hl5
      refine ⟨_, _, rfl, .inl (SqL.of hl5), ?_⟩
      refine ⟨_, rfl, _, _, rfl, .inl (SqL.of (sm5 _ _ (sm3 _ _ hlm))), rfl, ?_⟩
      rw [List.length_map, List.length_map]
      have e6 : decide (V.int (((movedK (Vbchaj.roomOf s.members) (updT (tkOf s.clients) k [m]) ks).length : Nat) : Int) = V.int ((ks.length : Nat) : Int)) = canB (Vbchaj.roomOf s.members) (updT (tkOf s.clients) k [m]) ks := by
        rw [Bool.eq_iff_iff, decide_eq_true_eq, canB_iff, can_iff_moved]
        exact nV_eq
      rw [e6]
      exact q _ (sm3.trans sm5)
end CW

end

section
namespace CW
open PySem PySem.Spec PyProof.Rows L2 CM
variable {P : Program} {w : World} {K : PySem.W.Frag} {mg : Str → Option Value} {base : Heap} {A : Adr}
/-! ### is_placing -/
def placB (s : Vbchaj.State) (ks ms : List Nat) : Bool := ((ks.zip ms).all fun x => (tkOf s.clients x.1).contains x.2) && ms.all fun m => decide (ms.count m ≤ Vbchaj.roomOf s.members m)
def spPlac (C : Addr) : Sp := fun vs H Q _ => ∃ (a : HA) (s : Vbchaj.State) (lc lm : Addr) (ks ms : List Nat), vs = [.ref a.p, .ref lc, .ref lm] ∧ HS C s H a ∧ H lc = some (.lst (ks.map nV)) ∧ H lm = some (.lst (ms.map nV)) ∧ ks.length = ms.length ∧ ms.length ≤ 40 ∧
  (∀ x ∈ ks, x ∈ Vbchaj.keysOf s.clients) ∧ ∀ H', Same H H' → Q (.bl (placB s ks ms)) H'
theorem zip_get {ks ms : List Nat} {i : Nat} {x y : V} (h1 : (ks.map nV)[i]? = some x) (h2 : (ms.map nV)[i]? = some y) : ∃ k m, x = nV k ∧ y = nV m ∧ (ks.zip ms)[i]? = some (k, m) := by
  rw [List.getElem?_map, Option.map_eq_some_iff] at h1 h2
  obtain ⟨k, hk, rfl⟩ := h1
  obtain ⟨m, hm, rfl⟩ := h2
  refine ⟨k, m, rfl, rfl, ?_⟩
  rw [List.getElem?_zip_eq_some]
  exact ⟨hk, hm⟩
def cntV (ms : List Nat) (kvs : List (Key × V)) : V → V
  | .int n => match valV kvs (Sum.inl n) with
    | some (.int r) => .bl (decide (((ms.count n.toNat : Nat) : Int) ≤ r))
    | _ => .non
  | _ => .non
theorem count_int (ms : List Nat) (m : Nat) : (ms.map fun n : Nat => (n : Int)).count (m : Int) = ms.count m := by
  unfold List.count
  rw [List.countP_map]
  congr 1
  funext x
  show ((x : Int) == (m : Int)) = (x == m)
  rw [Bool.eq_iff_iff, beq_iff_eq, beq_iff_eq]
  omega
theorem ok_is_placing (T : Txt K mg A) : FnOk P w K mg base CX0 1 A.f_is_placing A.d_is_placing ["house", "clients", "members"] (spPlac A.C_House) := by
  refine T.F_is_placing.ok sc_is_placing (fun vs H Q E h => ?_) (fun cdv A' outer s H vs Q E hr h => ?_)
  · obtain ⟨a, s, lc, lm, ks, ms, rfl, _⟩ := h
    rfl
  · obtain ⟨a, s, lc, lm, ks, ms, rfl, hs, hlc, hlm, hlen, l40, hks, q⟩ := h
    have hu := hu_of hr
    obtain ⟨G, R, O, TT, hh, ab⟩ := id hs
    refine ⟨_, (pss_cons (ps_if (pt_val (pe_callB (cr_any rfl) (by rfl) T.n_any (by decide +kernel) (pa_cons (pe_lc (own := [("client", 3), ("member", 4)]) (g := gTup K 2 (gCons (gName 3) (gCons (gName 4) gNil))) (tt := tYes) (te := (tOp (rIn K true) (tVar 4) (tDGet (tFld K (tVar 0) "takers") (tVar 3)))) (by rfl) sc_is_placing.nd (pi_zip (by rfl) T.n_zip (pa_cons (pv 1) (pa_cons (pv 2) pa_nil))) (blkOk_by (own := [("client", 3), ("member", 4)]) (N := N_is_placing) (sc := defScope s_is_placing) (by decide +kernel)) (fun _ _ _ _ _ => by exact (pg_tup (by rfl) (pgs_cons (pg_name (i := 3) sc_is_placing.nd rfl (Or.inl rfl)) (pgs_cons (pg_name (i := 4) sc_is_placing.nd rfl (Or.inl rfl)) pgs_nil)))) (fun _ _ _ _ _ => by exact pts_nil) (fun _ _ _ _ _ => by exact (pe_cmpR op_notIn_seq (pv 4) (pe_dget (by exact hu) (pe_fld (pv 0) (by rfl)) (pv 3) (fun _ _ => rfl)) (by with_unfolding_all rfl)))) pa_nil))) (pss_one (ps_ret pe_bl)) pss_nil)
      (pss_one (ps_ret (pe_callB (cr_all rfl) (by rfl) T.n_all (by decide +kernel) (pa_cons (pe_lc (own := [("member", 4)]) (g := gName 4) (tt := tYes) (te := (tOp _ (tBM K "list" (rCntI K) (tVar 2) (tCons (tVar 4) tNil)) (tDGet (tFld K (tVar 0) "rooms") (tVar 4)))) (by rfl) sc_is_placing.nd (pi_list (pv 2)) (blkOk_by (own := [("member", 4)]) (N := N_is_placing) (sc := defScope s_is_placing) (by decide +kernel)) (fun _ _ _ _ _ => by exact (pg_name (i := 4) sc_is_placing.nd rfl (Or.inl rfl))) (fun _ _ _ _ _ => by exact pts_nil) (fun _ _ _ _ _ => by exact (pe_cmpR op_le (pe_bm PySem.F.plainAttrs_list PySem.F.slot_list_count PySem.F.type_list_count mt_lcount (pv 2) (pa_cons (pv 4) pa_nil)) (pe_dget (by exact hu) (pe_fld (pv 0) (by rfl)) (pv 4) (fun _ _ => rfl)) (nomark _)))) pa_nil))))), ?_⟩
    have lenZ : (ks.zip ms).length = ms.length := by rw [List.length_zip]; omega
    have eT := tk_eq G ab
    refine ⟨_, rfl, _, rfl, lc, lm, _, _, rfl, SqL.of hlc, SqL.of hlm, fun D hD => ?_⟩
    refine lc_it (walk_zip (xs := ks.map nV) (ys := ms.map nV) (n := ms.length) (by rw [List.length_map, List.length_map]; omega))
      (fun i H' => Same H H' ∧ H' D = some (.lst ((((ks.zip ms).take i).map fun x => !(tkOf s.clients x.1).contains x.2).map V.bl))) ⟨same_new hD, upd_same⟩ (fun i H' _ h => ⟨h.1.seq (SqL.of hlc), h.1.seq (SqL.of hlm)⟩) ?_ ?_
    · rintro i v H1 H2 hi ⟨sm, hDl⟩ ⟨t, x, y, rfl, ht, rfl, hx, hy⟩
      obtain ⟨k, m, rfl, rfl, hz⟩ := zip_get hx hy
      have sm2 : Same H (upd H1 t (.tup [nV k, nV m])) := sm.trans (same_new ht)
      have hh2 := hh.same sm2
      have hD2 := same_new (o := .tup [nV k, nV m]) ht _ _ hDl
      have htt : (upd H1 t (.tup [nV k, nV m])) t = some (.tup [nV k, nV m]) := upd_same
      have hkm : k ∈ ks := (List.of_mem_zip (List.mem_of_getElem? hz)).1
      obtain ⟨yy, hyy⟩ := aget_key (ord_in ab k (hks k hkm))
      have hyT := aget_some_mem _ _ _ hyy
      have eTk : tkOf s.clients k = yy.2 := by rw [← eT]; exact tkT_of hyy
      refine ⟨t, [nV k, nV m], rfl, SqT.of htt, rfl, _, _, rfl, _, _, rfl, rfl, rfl, go_yes (iteT ?_)⟩
      refine ⟨_, rfl, go_dget (fld_takers T hh2 (by rfl) ?_)⟩
      refine ⟨_, rfl, a.dt, .ref yy.1, rfl, .inl ⟨enc tV TT, kN k, .inl hh2.tc, rfl, (by rw [valV_enc, hyy]; rfl)⟩, ?_⟩
      refine ⟨yy.1, _, rfl, .inl (SqL.of (hh2.tl _ hyT)), rfl, flat_nat _, ?_⟩
      rw [if_pos rfl]
      refine ⟨_, hD2, ?_, fun b o e => ?_, ?_⟩
      · rw [List.length_map, List.length_map, List.length_take]
        exact small1 (by omega)
      · rw [upd_ne (ne_of_none e hD)]
        exact sm2 b o e
      · rw [upd_same, take_snoc hz, List.map_append, List.map_append]
        show some (HO.lst (_ ++ [V.bl (!inV (nV m) (yy.2.map nV))])) = some (HO.lst (_ ++ [V.bl (!(tkOf s.clients k).contains m)]))
        rw [inV_nats, eTk]
    · rintro H1 ⟨sm1, hD1⟩
      rw [List.take_of_length_le (by omega)] at hD1
      refine ⟨D, _, rfl, SqL.of hD1, _, rfl, ?_⟩
      have eany : (((ks.zip ms).map fun x => !(tkOf s.clients x.1).contains x.2).any id) = !((ks.zip ms).all fun x => (tkOf s.clients x.1).contains x.2) := by
        rw [List.any_map, List.all_eq_not_any_not, Bool.not_not]
        rfl
      rw [eany]
      cases hall : (ks.zip ms).all fun x => (tkOf s.clients x.1).contains x.2 with
      | false =>
        refine iteT ?_
        have e : placB s ks ms = false := by unfold placB; rw [hall, Bool.false_and]
        rw [← e]
        exact q _ sm1
      | true =>
        refine iteF ?_
        have hh1 := hh.same sm1
        have hlm1 := sm1 _ _ hlm
        have hin : ∀ m ∈ ms, m ∈ keysA R := by
          intro m hm
          obtain ⟨i, hi⟩ := List.mem_iff_getElem?.mp hm
          have hil : i < ms.length := (List.getElem?_eq_some_iff.mp hi).1
          have hz : (ks.zip ms)[i]? = some (ks[i]'(by omega), m) := by
            rw [List.getElem?_zip_eq_some]
            exact ⟨List.getElem?_eq_getElem _, hi⟩
          have h1 := List.all_eq_true.mp hall _ (List.mem_of_getElem? hz)
          refine in_rooms G ab (ks[i]'(by omega)) m ?_
          rw [eT]
          simpa using h1
        refine ⟨_, rfl, lm, rfl, ⟨_, SqL.of hlm1⟩, fun D2 hD2 => lc_pure1 (cntV ms (enc nV R)) hD2 (SqL.of hlm1) (small1 (by rw [List.length_map]; omega)) ?_ ?_⟩
        · intro x hx H' Q' sm q'
          obtain ⟨m, hm, rfl⟩ := List.mem_map.mp hx
          have hh' := hh1.same sm
          have gR := aget_val (hin m hm)
          have e1 : valV (enc nV R) (kN m) = some (nV (val R m)) := by rw [valV_enc, gR]; rfl
          have e2 : cntV ms (enc nV R) (nV m) = .bl (decide (((ms.count m : Nat) : Int) ≤ ((val R m : Nat) : Int))) := by
            show (match valV (enc nV R) (kN m) with | some (.int r) => V.bl (decide (((ms.count (m : Int).toNat : Nat) : Int) ≤ r)) | _ => .non) = _
            rw [e1, Int.toNat_natCast]
            rfl
          rw [e2] at q'
          refine go_op ⟨_, rfl, .inl ⟨rfl, _, SqL.of (sm _ _ hlm1)⟩, _, rfl, lm, ms.map (fun n : Nat => (n : Int)), (m : Int), rfl, rfl, SqL.of (Eq.trans (sm _ _ hlm1) (by rw [List.map_map]; rfl)), ?_⟩
          rw [count_int]
          exact go_dget (fld_rooms T hh' (by rfl) ⟨_, rfl, a.dr, _, rfl, .inl ⟨enc nV R, kN m, .inl hh'.rc, rfl, e1.symm⟩, _, _, rfl, rfl, q'⟩)
        · refine ⟨D2, ms.map fun m => decide (ms.count m ≤ Vbchaj.roomOf s.members m), rfl, SqL.of (Eq.trans upd_same ?_), ?_⟩
          · congr 2
            rw [List.map_map, List.map_map]
            apply List.map_congr_left
            intro m hm
            have gR := aget_val (hin m hm)
            have e1 : valV (enc nV R) (kN m) = some (nV (val R m)) := by rw [valV_enc, gR]; rfl
            show (match valV (enc nV R) (kN m) with | some (.int r) => V.bl (decide (((ms.count (m : Int).toNat : Nat) : Int) ≤ r)) | _ => .non) = V.bl (decide (ms.count m ≤ Vbchaj.roomOf s.members m))
            rw [e1, Int.toNat_natCast, ← room_eq G ab]
            show V.bl (decide (((ms.count m : Nat) : Int) ≤ ((val R m : Nat) : Int))) = _
            congr 1
            rw [Bool.eq_iff_iff, decide_eq_true_eq, decide_eq_true_eq]
            omega
          · have e : ((ms.map fun m => decide (ms.count m ≤ Vbchaj.roomOf s.members m)).all id) = placB s ks ms := by
              unfold placB
              rw [hall, Bool.true_and, List.all_map]
              rfl
            rw [e]
            exact q _ (sm1.trans (same_new hD2))
end CW

end

section
namespace CW
open PySem PySem.Spec PyProof.Rows L2 CM
variable {P : Program} {w : World} {K : PySem.W.Frag} {mg : Str → Option Value} {base : Heap} {A : Adr}
/-! ### what would be otherwise -/
def butL (x y : List Nat) : List Nat := x.filter fun k => !y.contains k
theorem counted_nV (l : List Nat) : (Vbchaj.counted l).map V.int = nV l.length :: l.map nV := by
  unfold Vbchaj.counted
  rw [ints_nV]
  rfl
theorem NewL.same {H H1 : Hp} {xs : List V} {Q : VK} (q : NewL H xs Q) (s : Same H H1) : NewL H1 xs Q := fun H' l s2 h hl => q H' l (s.trans s2) (s.free h) hl
def spBut : Sp := fun vs H Q _ => ∃ (l1 l2 : Addr) (x y : List Nat), vs = [.ref l1, .ref l2] ∧ H l1 = some (.lst (x.map nV)) ∧ H l2 = some (.lst (y.map nV)) ∧ x.length ≤ 50 ∧ NewL H ((Vbchaj.counted (butL x y)).map V.int) Q
/-- [len(xs)] + xs -/
theorem told_list {H : Hp} {l : Addr} {xs : List Nat} {Q : VK} (hl : H l = some (.lst (xs.map nV))) (h : xs.length ≤ 90) (q : NewL H ((Vbchaj.counted xs).map V.int) Q) :
    1 ≤ sizeLine ∧ ∀ l2, H l2 = none → rCat (.ref l2) (.ref l) (upd H l2 (.lst [nV xs.length])) Q := by
  refine ⟨by decide, fun l2 hl2 => ?_⟩
  have nl : l ≠ l2 := ne_of_none hl hl2
  refine ⟨l2, l, _, _, rfl, rfl, upd_same, by rw [upd_ne nl]; exact hl, ?_, fun p hp => ?_⟩
  · rw [List.length_map]
    show 1 + xs.length ≤ sizeLine
    exact Nat.le_of_lt (small1 (by omega))
  · rw [counted_nV] at q
    exact q.put (same_new hl2) hp
theorem ok_told_but (T : Txt K mg A) : FnOk P w K mg base CX0 1 A.f_told_but A.d_told_but ["some", "others"] (spBut) := by
  refine T.F_told_but.ok sc_told_but (fun vs H Q E h => ?_) (fun cdv A' outer s H vs Q E hr h => ?_)
  · obtain ⟨l1, l2, x, y, rfl, _⟩ := h
    rfl
  · obtain ⟨l1, l2, x, y, rfl, h1, h2, lx, q⟩ := h
    have hu := hu_of hr
    refine ⟨_, (pss_cons (ps_setLc (i := 2) (own := [("client", 3)]) (g := gName 3) (tt := (tTest (tOp (rIn K true) (tVar 3) (tVar 1)))) (te := (tVar 3)) (by rfl) sc_told_but.nd rfl rfl (sw_true rfl rfl rfl (by decide +kernel)) (pi_list (pv 0)) (blkOk_by (own := [("client", 3)]) (N := N_told_but) (sc := defScope s_told_but) (by decide +kernel)) (fun _ _ _ _ _ => by exact (pg_name (i := 3) sc_told_but.nd rfl (Or.inl rfl))) (fun _ _ _ _ _ => by exact (pts_one (pt_cmpR op_notIn_seq (pv 3) (pv 1) (by with_unfolding_all rfl)))) (fun _ _ _ _ _ => by exact (pv 3)))
      (pss_one (ps_ret (pe_op op_cat (pe_lst (pa_cons (pe_callB call_len_seq (by rfl) T.n_len PySem.boot_len (pa_cons (pv 2) pa_nil)) pa_nil)) (pv 2))))), ?_⟩
    refine ⟨_, rfl, l1, rfl, ⟨_, SqL.of h1⟩, fun D hD => lc_pure (fun v => !inV v (y.map nV)) (fun v => v) hD (SqL.of h1) (small1 (by rw [List.length_map]; omega)) ?_ ?_ ?_⟩
    · intro z hz H' Q' sm q'
      obtain ⟨k, _, rfl⟩ := List.mem_map.mp hz
      refine go_test ⟨_, rfl, _, rfl, l2, _, rfl, .inl (SqL.of (sm _ _ h2)), rfl, flat_nat _, _, rfl, ?_⟩
      rw [if_pos rfl]
      exact q'
    · intro z hz H' Q' sm q'
      exact ⟨_, rfl, q'⟩
    · have sm1 : Same H (upd H D (.lst (((x.map nV).filter fun v => !inV v (y.map nV)).map fun v => v))) := same_new hD
      have e1 : ((x.map nV).filter fun v => !inV v (y.map nV)).map (fun v => v) = (butL x y).map nV := by
        unfold butL
        rw [List.map_id', List.filter_map]
        congr 1
        apply List.filter_congr
        intro k _
        simp only [Function.comp]
        rw [inV_nats]
      rw [e1] at sm1 ⊢
      have hD1 : (upd H D (.lst ((butL x y).map nV))) D = some (.lst ((butL x y).map nV)) := upd_same
      have lenB : (butL x y).length ≤ 50 := Nat.le_trans (List.length_filter_le _ _) lx
      have tl := told_list hD1 (by omega) (q.same sm1)
      refine ⟨_, rfl, D, _, rfl, .inl (SqL.of hD1), tl.1, fun l2 hl2 => ⟨_, rfl, ?_⟩⟩
      rw [List.length_map]
      exact tl.2 l2 hl2

def spKey (C : Addr) (f : Int → Vbchaj.Call) : Sp := fun vs H Q _ => ∃ (a : HA) (s : Vbchaj.State) (key : Int), vs = [.ref a.p, .int key] ∧ HS C s H a ∧ Ans C H a (Vbchaj.step s (f key)) Q
/-- what is told of a state that stays -/
theorem Ans.newL {C : Addr} {H : Hp} {a : HA} {s : Vbchaj.State} {xs : List Int} {Q : VK} (q : Ans C H a (s, xs) Q) (hs : HS C s H a) : NewL H (xs.map V.int) Q := fun H' l sm hl0 hl => q.ref hs sm hl0 hl
theorem others_eq (l : List Nat) (k : Nat) : ((l.map nV).filter fun v => !decide (v = nV k)).map (fun v => v) = (l.filter fun x => x != k).map nV := by
  rw [List.map_id', List.filter_map]
  congr 1
  apply List.filter_congr
  intro x _
  simp only [Function.comp]
  rw [nV_dec]
  rfl
theorem others_in {s : Vbchaj.State} (G : Good s) (k : Nat) : ((Vbchaj.keysOf s.clients).filter fun x => x != k).Nodup ∧ ∀ x ∈ (Vbchaj.keysOf s.clients).filter fun x => x != k, x ∈ Vbchaj.keysOf s.clients :=
  ⟨G.cnd.sublist List.filter_sublist, fun x hx => (List.mem_filter.mp hx).1⟩
theorem ok_tell_without (T : Txt K mg A) : FnOk P w K mg base CX0 6 A.f_tell_without A.d_tell_without ["house", "key"] (spKey A.C_House .without) := by
  refine T.F_tell_without.ok sc_tell_without (fun vs H Q E h => ?_) (fun cdv A' outer s H vs Q E hr h => ?_)
  · obtain ⟨a, s, k, rfl, _⟩ := h
    rfl
  · obtain ⟨a, s, key, rfl, hs0, q⟩ := h
    have hu := hu_of hr
    refine ⟨_, (pss_cons (ps_set (i := 2) sc_tell_without.nd rfl (Or.inl rfl) (pe_call (ok_refusal_of_client T) (hr.mono (by decide)) (by rfl) T.g_refusal_of_client T.F_refusal_of_client.kp T.b_refusal_of_client .nil pass0 (pa_cons (pv 0) (pa_cons (pv 1) pa_nil))))
      (pss_cons (ps_if (pt_truth (pv 2) (by intro _; rfl)) (pss_one (ps_ret (pv 2))) pss_nil)
      (pss_cons (ps_set (i := 3) sc_tell_without.nd rfl (Or.inl rfl) (pe_meth0 (pv 0) T.cl_House T.m_House_clients_in_order (ok_House_clients_in_order T) (hr.mono (by decide)) T.b_House_clients_in_order .nil pass0))
      (pss_cons (ps_setLc (i := 4) (own := [("client", 5)]) (g := gName 5) (tt := (tTest (tOp _ (tVar 5) (tVar 1)))) (te := (tVar 5)) (by rfl) sc_tell_without.nd rfl rfl (sw_true rfl rfl rfl (by decide +kernel)) (pi_list (pv 3)) (blkOk_by (own := [("client", 5)]) (N := N_tell_without) (sc := defScope s_tell_without) (by decide +kernel)) (fun _ _ _ _ _ => by exact (pg_name (i := 5) sc_tell_without.nd rfl (Or.inl rfl))) (fun _ _ _ _ _ => by exact (pts_one (pt_cmpR op_ne (pv 5) (pv 1) (nomark _)))) (fun _ _ _ _ _ => by exact (pv 5)))
      (pss_one (ps_ret (pe_call (ok_told_but T) (hr.mono (by decide)) (by rfl) T.g_told_but T.F_told_but.kp T.b_told_but .nil pass0 (pa_cons (pe_call (ok_moved_of T) (hr.mono (by decide)) (by rfl) T.g_moved_of T.F_moved_of.kp T.b_moved_of .nil pass0 (pa_cons (pv 0) (pa_cons (pv 4) pa_nil))) (pa_cons (pe_call (ok_moved_of T) (hr.mono (by decide)) (by rfl) T.g_moved_of T.F_moved_of.kp T.b_moved_of .nil pass0 (pa_cons (pv 0) (pa_cons (pv 3) pa_nil))) pa_nil))))))))), ?_⟩
    refine ⟨_, rfl, _, rfl, a, s, key, rfl, hs0, fun H0 lr sm0 hlr0 hlr => ?_⟩
    refine ⟨_, rfl, _, .inl ⟨_, SqL.of hlr, rfl⟩, ?_⟩
    simp only [Vbchaj.step] at q
    cases hrf : refC s key with
    | cons z zs =>
      rw [onC_no hrf] at q
      rw [hrf] at hlr
      exact iteT ⟨_, rfl, q.ref hs0 sm0 hlr0 hlr⟩
    | nil =>
      refine iteF ?_
      obtain ⟨k, c, rfl, hk, hm, hm1, hm2, hon⟩ := onC_yes hrf
      rw [hon] at q
      have hs := hs0.same sm0
      have qn := (q.same sm0).newL hs
      obtain ⟨G, R, O, TT, hh, ab⟩ := id hs
      obtain ⟨dx, hob⟩ := hh.ob
      -- clients = house.clients_in_order()
      refine ⟨_, rfl, a.p, dx, hF a, rfl, hob, hF_no a (by decide +kernel) (by decide +kernel) (by decide +kernel), ?_⟩
      refine ⟨a, R, O, TT, s, rfl, hh, G, ab.ord, fun H1 lc sm1 hlc0 hlc => ?_⟩
      have lenK : (Vbchaj.keysOf s.clients).length ≤ 16 := nd_len16 G G.cnd fun k hk => hk
      obtain ⟨nd2, in2⟩ := others_in G k
      -- others = [client for client in clients if client != key]
      refine ⟨_, rfl, lc, rfl, ⟨_, SqL.of hlc⟩, fun D hD => lc_pure (fun v => !decide (v = nV k)) (fun v => v) hD (SqL.of hlc) (small1 (by rw [List.length_map]; omega)) ?_ ?_ ?_⟩
      · intro z hz H' Q' sm q'
        obtain ⟨x, _, rfl⟩ := List.mem_map.mp hz
        exact go_test ⟨_, rfl, _, rfl, rfl, _, rfl, q'⟩
      · intro z hz H' Q' sm q'
        exact ⟨_, rfl, q'⟩
      · rw [others_eq]
        have sm2 : Same H1 (upd H1 D (.lst (((Vbchaj.keysOf s.clients).filter fun x => x != k).map nV))) := same_new hD
        have hD2 : (upd H1 D (.lst (((Vbchaj.keysOf s.clients).filter fun x => x != k).map nV))) D = some (.lst (((Vbchaj.keysOf s.clients).filter fun x => x != k).map nV)) := upd_same
        generalize upd H1 D (.lst (((Vbchaj.keysOf s.clients).filter fun x => x != k).map nV)) = H2 at sm2 hD2
        have sm02 := sm1.trans sm2
        refine ⟨_, rfl, _, rfl, a, s, D, _, rfl, hs.same sm02, hD2, nd2, in2, fun H3 l3 sm3 hl30 hl3 => ?_⟩
        have sm03 := sm02.trans sm3
        refine ⟨_, rfl, _, rfl, a, s, lc, Vbchaj.keysOf s.clients, rfl, hs.same sm03, sm3 _ _ (sm2 _ _ hlc), G.cnd, fun x hx => hx, fun H4 l4 sm4 hl40 hl4 => ?_⟩
        refine ⟨l3, l4, _, _, rfl, sm4 _ _ hl3, hl4, ?_, ?_⟩
        · exact Nat.le_trans (moved_sub _ _ _).length_le (Nat.le_trans (nd_len16 G nd2 in2) (by decide))
        · have e : Vbchaj.newIn (Vbchaj.movedOf s.members (s.clients.filter fun x => x.key != c.key)) (Vbchaj.movedOf s.members s.clients) = butL (movedK (Vbchaj.roomOf s.members) (tkOf s.clients) ((Vbchaj.keysOf s.clients).filter fun x => x != k)) (movedK (Vbchaj.roomOf s.members) (tkOf s.clients) (Vbchaj.keysOf s.clients)) := by
            rw [newIn_eq, without_keys_k G, keys_movedOf G.env, hm2]
            rfl
          rw [← e]
          exact qn.same (sm03.trans sm4)
theorem ok_tell_first (T : Txt K mg A) : FnOk P w K mg base CX0 6 A.f_tell_first A.d_tell_first ["house", "key"] (spKey A.C_House .first) := by
  refine T.F_tell_first.ok sc_tell_first (fun vs H Q E h => ?_) (fun cdv A' outer s H vs Q E hr h => ?_)
  · obtain ⟨a, s, k, rfl, _⟩ := h
    rfl
  · obtain ⟨a, s, key, rfl, hs0, q⟩ := h
    have hu := hu_of hr
    refine ⟨_, (pss_cons (ps_set (i := 2) sc_tell_first.nd rfl (Or.inl rfl) (pe_call (ok_refusal_of_client T) (hr.mono (by decide)) (by rfl) T.g_refusal_of_client T.F_refusal_of_client.kp T.b_refusal_of_client .nil pass0 (pa_cons (pv 0) (pa_cons (pv 1) pa_nil))))
      (pss_cons (ps_if (pt_truth (pv 2) (by intro _; rfl)) (pss_one (ps_ret (pv 2))) pss_nil)
      (pss_cons (ps_set (i := 3) sc_tell_first.nd rfl (Or.inl rfl) (pe_meth0 (pv 0) T.cl_House T.m_House_clients_in_order (ok_House_clients_in_order T) (hr.mono (by decide)) T.b_House_clients_in_order .nil pass0))
      (pss_cons (ps_setLc (i := 4) (own := [("client", 5)]) (g := gName 5) (tt := (tTest (tOp _ (tVar 5) (tVar 1)))) (te := (tVar 5)) (by rfl) sc_tell_first.nd rfl rfl (sw_true rfl rfl rfl (by decide +kernel)) (pi_list (pv 3)) (blkOk_by (own := [("client", 5)]) (N := N_tell_first) (sc := defScope s_tell_first) (by decide +kernel)) (fun _ _ _ _ _ => by exact (pg_name (i := 5) sc_tell_first.nd rfl (Or.inl rfl))) (fun _ _ _ _ _ => by exact (pts_one (pt_cmpR op_ne (pv 5) (pv 1) (nomark _)))) (fun _ _ _ _ _ => by exact (pv 5)))
      (pss_one (ps_ret (pe_call (ok_told_but T) (hr.mono (by decide)) (by rfl) T.g_told_but T.F_told_but.kp T.b_told_but .nil pass0 (pa_cons (pe_call (ok_moved_of T) (hr.mono (by decide)) (by rfl) T.g_moved_of T.F_moved_of.kp T.b_moved_of .nil pass0 (pa_cons (pv 0) (pa_cons (pv 3) pa_nil))) (pa_cons (pe_call (ok_moved_of T) (hr.mono (by decide)) (by rfl) T.g_moved_of T.F_moved_of.kp T.b_moved_of .nil pass0 (pa_cons (pv 0) (pa_cons (pe_op op_cat (pe_lst (pa_cons (pv 1) pa_nil)) (pv 4)) pa_nil))) pa_nil))))))))), ?_⟩
    refine ⟨_, rfl, _, rfl, a, s, key, rfl, hs0, fun H0 lr sm0 hlr0 hlr => ?_⟩
    refine ⟨_, rfl, _, .inl ⟨_, SqL.of hlr, rfl⟩, ?_⟩
    simp only [Vbchaj.step] at q
    cases hrf : refC s key with
    | cons z zs =>
      rw [onC_no hrf] at q
      rw [hrf] at hlr
      exact iteT ⟨_, rfl, q.ref hs0 sm0 hlr0 hlr⟩
    | nil =>
      refine iteF ?_
      obtain ⟨k, c, rfl, hk, hm, hm1, hm2, hon⟩ := onC_yes hrf
      rw [hon] at q
      have hs := hs0.same sm0
      have qn := (q.same sm0).newL hs
      obtain ⟨G, R, O, TT, hh, ab⟩ := id hs
      obtain ⟨dx, hob⟩ := hh.ob
      -- clients = house.clients_in_order()
      refine ⟨_, rfl, a.p, dx, hF a, rfl, hob, hF_no a (by decide +kernel) (by decide +kernel) (by decide +kernel), ?_⟩
      refine ⟨a, R, O, TT, s, rfl, hh, G, ab.ord, fun H1 lc sm1 hlc0 hlc => ?_⟩
      have lenK : (Vbchaj.keysOf s.clients).length ≤ 16 := nd_len16 G G.cnd fun k hk => hk
      obtain ⟨nd2, in2⟩ := others_in G k
      have len2 := nd_len16 G nd2 in2
      -- others = [client for client in clients if client != key]
      refine ⟨_, rfl, lc, rfl, ⟨_, SqL.of hlc⟩, fun D hD => lc_pure (fun v => !decide (v = nV k)) (fun v => v) hD (SqL.of hlc) (small1 (by rw [List.length_map]; omega)) ?_ ?_ ?_⟩
      · intro z hz H' Q' sm q'
        obtain ⟨x, _, rfl⟩ := List.mem_map.mp hz
        exact go_test ⟨_, rfl, _, rfl, rfl, _, rfl, q'⟩
      · intro z hz H' Q' sm q'
        exact ⟨_, rfl, q'⟩
      · rw [others_eq]
        have sm2 : Same H1 (upd H1 D (.lst (((Vbchaj.keysOf s.clients).filter fun x => x != k).map nV))) := same_new hD
        have hD2 : (upd H1 D (.lst (((Vbchaj.keysOf s.clients).filter fun x => x != k).map nV))) D = some (.lst (((Vbchaj.keysOf s.clients).filter fun x => x != k).map nV)) := upd_same
        generalize upd H1 D (.lst (((Vbchaj.keysOf s.clients).filter fun x => x != k).map nV)) = H2 at sm2 hD2
        have sm02 := sm1.trans sm2
        refine ⟨_, rfl, _, rfl, a, s, lc, Vbchaj.keysOf s.clients, rfl, hs.same sm02, sm2 _ _ hlc, G.cnd, fun x hx => hx, fun H3 l3 sm3 hl30 hl3 => ?_⟩
        have sm03 := sm02.trans sm3
        -- moved_of(house, [key] + others)
        refine ⟨_, rfl, _, rfl, (by show 1 ≤ sizeLine; decide), fun lk hlk => ?_⟩
        have sm4 : Same H3 (upd H3 lk (.lst [V.int (k : Int)])) := same_new hlk
        have hlk4 : (upd H3 lk (.lst [V.int (k : Int)])) lk = some (.lst [nV k]) := upd_same
        generalize upd H3 lk (.lst [V.int (k : Int)]) = H4 at sm4 hlk4 ⊢
        refine ⟨_, rfl, lk, D, _, _, rfl, rfl, hlk4, sm4 _ _ (sm3 _ _ hD2), ?_, fun lf hlf => ?_⟩
        · rw [List.length_map]
          show 1 + _ ≤ sizeLine
          exact Nat.le_of_lt (small1 (by omega))
        have sm5 : Same H4 (upd H4 lf (.lst ([nV k] ++ ((Vbchaj.keysOf s.clients).filter fun x => x != k).map nV))) := same_new hlf
        have hlf5 : (upd H4 lf (.lst ([nV k] ++ ((Vbchaj.keysOf s.clients).filter fun x => x != k).map nV))) lf = some (.lst ((k :: (Vbchaj.keysOf s.clients).filter fun x => x != k).map nV)) := upd_same
        generalize upd H4 lf (.lst ([nV k] ++ ((Vbchaj.keysOf s.clients).filter fun x => x != k).map nV)) = H5 at sm5 hlf5
        have sm05 := sm03.trans (sm4.trans sm5)
        have hkc : k ∈ Vbchaj.keysOf s.clients := hm2 ▸ List.mem_map.mpr ⟨c, hm1, rfl⟩
        refine ⟨a, s, lf, _, rfl, hs.same sm05, hlf5, List.nodup_cons.mpr ⟨by simp, nd2⟩, ?_, fun H6 l6 sm6 hl60 hl6 => ?_⟩
        · intro x hx
          rcases List.mem_cons.mp hx with hx | hx
          · rw [hx]; exact hkc
          · exact in2 x hx
        refine ⟨l3, l6, _, _, rfl, sm6 _ _ (sm5 _ _ (sm4 _ _ hl3)), hl6, ?_, ?_⟩
        · exact Nat.le_trans (moved_sub _ _ _).length_le (Nat.le_trans lenK (by decide))
        · have e : Vbchaj.newIn (Vbchaj.movedOf s.members s.clients) (Vbchaj.movedOf s.members (c :: s.clients.filter fun x => x.key != c.key)) = butL (movedK (Vbchaj.roomOf s.members) (tkOf s.clients) (Vbchaj.keysOf s.clients)) (movedK (Vbchaj.roomOf s.members) (tkOf s.clients) (k :: (Vbchaj.keysOf s.clients).filter fun x => x != k)) := by
            rw [newIn_eq, first_keys G hm1, keys_movedOf G.env, hm2]
            rfl
          rw [← e]
          exact qn.same (sm05.trans sm6)
theorem ok_tell_roomier (T : Txt K mg A) : FnOk P w K mg base CX0 6 A.f_tell_roomier A.d_tell_roomier ["house", "key"] (spKey A.C_House .roomier) := by
  refine T.F_tell_roomier.ok sc_tell_roomier (fun vs H Q E h => ?_) (fun cdv A' outer s H vs Q E hr h => ?_)
  · obtain ⟨a, s, k, rfl, _⟩ := h
    rfl
  · obtain ⟨a, s, key, rfl, hs0, q⟩ := h
    have hu := hu_of hr
    refine ⟨_, (pss_cons (ps_set (i := 2) sc_tell_roomier.nd rfl (Or.inl rfl) (pe_call (ok_refusal_of_member T) (hr.mono (by decide)) (by rfl) T.g_refusal_of_member T.F_refusal_of_member.kp T.b_refusal_of_member .nil pass0 (pa_cons (pv 0) (pa_cons (pv 1) pa_nil))))
      (pss_cons (ps_if (pt_truth (pv 2) (by intro _; rfl)) (pss_one (ps_ret (pv 2))) pss_nil)
      (pss_cons (ps_set (i := 3) sc_tell_roomier.nd rfl (Or.inl rfl) (pe_meth0 (pv 0) T.cl_House T.m_House_clients_in_order (ok_House_clients_in_order T) (hr.mono (by decide)) T.b_House_clients_in_order .nil pass0))
      (pss_cons (ps_set (i := 4) sc_tell_roomier.nd rfl (Or.inl rfl) (pe_callTy call_dictD (by rfl) T.n_dict (by decide +kernel) (pa_cons (pe_fld (pv 0) (by rfl)) pa_nil)))
      (pss_cons (ps_daug (by exact hu) (pv 4) (pv 1) pe_int in_add (fun _ _ _ => rfl))
      (pss_one (ps_ret (pe_call (ok_told_but T) (hr.mono (by decide)) (by rfl) T.g_told_but T.F_told_but.kp T.b_told_but .nil pass0 (pa_cons (pe_call (ok_moved_clients T) (hr.mono (by decide)) (by rfl) T.g_moved_clients T.F_moved_clients.kp T.b_moved_clients .nil pass0 (pa_cons (pe_make T.mk_Plan (ok_Plan_init T) (hr.mono (by decide)) (by rfl) T.g_Plan T.b_Plan_init .nil pass0 (pa_cons (pv 4) (pa_cons (pe_fld (pv 0) (by rfl)) pa_nil))) (pa_cons (pv 3) pa_nil))) (pa_cons (pe_call (ok_moved_of T) (hr.mono (by decide)) (by rfl) T.g_moved_of T.F_moved_of.kp T.b_moved_of .nil pass0 (pa_cons (pv 0) (pa_cons (pv 3) pa_nil))) pa_nil)))))))))), ?_⟩
    refine ⟨_, rfl, _, rfl, a, s, key, rfl, hs0, fun H0 lr sm0 hlr0 hlr => ?_⟩
    refine ⟨_, rfl, _, .inl ⟨_, SqL.of hlr, rfl⟩, ?_⟩
    simp only [Vbchaj.step] at q
    cases hrf : refM s key with
    | cons z zs =>
      rw [onM_no hrf] at q
      rw [hrf] at hlr
      exact iteT ⟨_, rfl, q.ref hs0 sm0 hlr0 hlr⟩
    | nil =>
      refine iteF ?_
      obtain ⟨k, c, rfl, hk, hm, hm1, hm2, hon⟩ := onM_yes hrf
      rw [hon] at q
      have hs := hs0.same sm0
      have qn := (q.same sm0).newL hs
      obtain ⟨G, R, O, TT, hh, ab⟩ := id hs
      obtain ⟨dx, hob⟩ := hh.ob
      -- clients = house.clients_in_order()
      refine ⟨_, rfl, a.p, dx, hF a, rfl, hob, hF_no a (by decide +kernel) (by decide +kernel) (by decide +kernel), ?_⟩
      refine ⟨a, R, O, TT, s, rfl, hh, G, ab.ord, fun H1 lc sm1 hlc0 hlc => ?_⟩
      have lenK : (Vbchaj.keysOf s.clients).length ≤ 16 := nd_len16 G G.cnd fun k hk => hk
      have l8 := lenR8 G ab
      have hg : aget R k = some c.room := by
        rw [ab.room G, hm]
        rfl
      have hkR : k ∈ keysA R := by
        rw [← aget_isSome, hg]
        rfl
      have hh1 := hh.same sm1
      have hob1 := sm1 _ _ hob
      -- rooms = dict(house.rooms)
      refine ⟨_, rfl, a.p, A.C_House, dx, _, _, rfl, hob1, T.cl_House, T.a_House_rooms, hF_rooms a, a.dr, _, rfl, .inl hh1.rc, fun df hdf => ?_⟩
      have sm2 : Same H1 (upd H1 df (.dK (enc nV R))) := same_new hdf
      have hdf2 : (upd H1 df (.dK (enc nV R))) df = some (.dK (enc nV R)) := upd_same
      generalize upd H1 df (.dK (enc nV R)) = H2 at sm2 hdf2
      -- rooms[key] += 1
      dsimp only
      refine go_seq (go_daug ⟨_, rfl, _, rfl, df, nV c.room, rfl, .inl ⟨enc nV R, kN k, .inl hdf2, rfl, (by rw [valV_enc, hg]; rfl)⟩, ?_⟩)
      refine ⟨_, _, rfl, rfl, _, DPut.k (k := kN k) hdf2 (by rw [enc_len]; exact small1 (by omega)), ?_⟩
      have e1 : V.int ((c.room : Int) + 1) = nV (c.room + 1) := rfl
      rw [e1, putK_enc]
      have sm3 : Same H1 (upd H2 df (.dK (enc nV (aput R k (c.room + 1))))) := fun b o e => by
        rw [upd_ne (ne_of_none e hdf)]
        exact sm2 b o e
      have hdf3 : (upd H2 df (.dK (enc nV (aput R k (c.room + 1))))) df = some (.dK (enc nV (aput R k (c.room + 1)))) := upd_same
      generalize upd H2 df (.dK (enc nV (aput R k (c.room + 1)))) = H3 at sm3 hdf3
      have hh3 := hh1.same sm3
      have hob3 := sm3 _ _ hob1
      -- moved_clients(Plan(rooms, house.takers), clients)
      refine ⟨_, rfl, _, rfl, a.p, A.C_House, dx, _, _, rfl, hob3, T.cl_House, T.a_House_takers, hF_takers a, fun x dxp nx ndx ne => ?_⟩
      have sm0' : Same H3 (upd (upd H3 dxp (.own x)) x (.ins A.C_Plan dxp [])) := made nx ndx
      refine ⟨x, dxp, df, a.dt, aput R k (c.room + 1), TT, rfl, upd_same, sm0' _ _ hdf3, sm0' _ _ hh3.tc, fun y hy => sm0' _ _ (hh3.tl y hy), fun H4 pf pp ps hp n1 n2 n3 fr1 => ⟨rfl, ?_⟩⟩
      have m1 := made_free nx ndx n1
      have m2 := made_free nx ndx n2
      have sm4 : Same H3 H4 := fun b o e => fr1 b o (sm0' b o e) (ne_of_none e nx)
      have eR : ∀ y, val (aput R k (c.room + 1)) y = inc (Vbchaj.roomOf s.members) k y := fun y => by
        unfold inc
        rw [← room_eq G ab]
        unfold val
        rw [aget_aput]
        by_cases hy : y = k
        · rw [if_pos hy, if_pos hy, hy, hg]
          rfl
        · rw [if_neg hy, if_neg hy]
      have len2 : (aput R k (c.room + 1)).length ≤ 8 := by
        have := congrArg List.length (keysA_aput_old hkR (c.room + 1))
        simp only [keysA, List.length_map] at this
        omega
      refine ⟨_, rfl, ⟨x, pf, a.dt, pp, ps⟩, aput R k (c.room + 1), TT, lc, Vbchaj.keysOf s.clients, inc (Vbchaj.roomOf s.members) k, rfl, hp, sm4 _ _ (sm3 _ _ hlc), G.cnd, ord_in ab, by omega, fun j m hj => ?_, eR, tk_nd G ab, by omega, fun H5 l5 F5 P5 mi kF5 hp5 hl5 hl50 fr5 => ?_⟩
      · rw [keysA_aput_old hkR]
        exact in_rooms G ab j m hj
      have sm5 : Same H3 H5 := fun b o e => fr5 b o (sm4 b o e) (ne_of_none e m1) (ne_of_none e m2)
      rw [tk_eq G ab] at hl5
      have sm05 := sm1.trans (sm3.trans sm5)
      refine ⟨_, rfl, _, rfl, a, s, lc, Vbchaj.keysOf s.clients, rfl, hs.same sm05, sm5 _ _ (sm3 _ _ hlc), G.cnd, fun x hx => hx, fun H6 l6 sm6 hl60 hl6 => ?_⟩
      refine ⟨l5, l6, _, _, rfl, sm6 _ _ hl5, hl6, ?_, ?_⟩
      · exact Nat.le_trans (moved_sub _ _ _).length_le (Nat.le_trans lenK (by decide))
      · have e : Vbchaj.newIn (Vbchaj.movedOf (s.members.map fun x => if x.key = c.key then { x with room := x.room + 1 } else x) s.clients) (Vbchaj.movedOf s.members s.clients) = butL (movedK (inc (Vbchaj.roomOf s.members) k) (tkOf s.clients) (Vbchaj.keysOf s.clients)) (movedK (Vbchaj.roomOf s.members) (tkOf s.clients) (Vbchaj.keysOf s.clients)) := by
          rw [hm2, newIn_eq, roomier_keys G (List.mem_map.mpr ⟨c, hm1, hm2⟩), keys_movedOf G.env]
          rfl
        rw [← e]
        exact qn.same (sm05.trans sm6)
end CW

end

section
namespace CW
open PySem PySem.Spec PyProof.Rows L2 CM
variable {P : Program} {w : World} {K : PySem.W.Frag} {mg : Str → Option Value} {base : Heap} {A : Adr}
/-! ### why -/
theorem enc_keys {α : Type} (g : α → V) (l : List (Nat × α)) : (enc g l).map (·.1) = ((keysA l).map fun n : Nat => (n : Int)).map Sum.inl := by
  unfold enc keysA
  rw [List.map_map, List.map_map, List.map_map]
  rfl
theorem ok_tell_why (T : Txt K mg A) : FnOk P w K mg base CX0 5 A.f_tell_why A.d_tell_why ["house", "key"] (spKey A.C_House .why) := by
  refine T.F_tell_why.ok sc_tell_why (fun vs H Q E h => ?_) (fun cdv A' outer s H vs Q E hr h => ?_)
  · obtain ⟨a, s, k, rfl, _⟩ := h
    rfl
  · obtain ⟨a, s, key, rfl, hs0, q⟩ := h
    have hu := hu_of hr
    refine ⟨_, (pss_cons (ps_set (i := 2) sc_tell_why.nd rfl (Or.inl rfl) (pe_call (ok_refusal_of_client T) (hr.mono (by decide)) (by rfl) T.g_refusal_of_client T.F_refusal_of_client.kp T.b_refusal_of_client .nil pass0 (pa_cons (pv 0) (pa_cons (pv 1) pa_nil))))
      (pss_cons (ps_if (pt_truth (pv 2) (by intro _; rfl)) (pss_one (ps_ret (pv 2))) pss_nil)
      (pss_cons (ps_set (i := 3) sc_tell_why.nd rfl (Or.inl rfl) (pe_make T.mk_Plan (ok_Plan_init T) (hr.mono (by decide)) (by rfl) T.g_Plan T.b_Plan_init .nil pass0 (pa_cons (pe_fld (pv 0) (by rfl)) (pa_cons (pe_fld (pv 0) (by rfl)) pa_nil))))
      (pss_cons (ps_expr (pe_call (ok_moved_clients T) (hr.mono (by decide)) (by rfl) T.g_moved_clients T.F_moved_clients.kp T.b_moved_clients .nil pass0 (pa_cons (pv 3) (pa_cons (pe_meth (pv 0) T.cl_House T.m_House_clients_before (ok_House_clients_before T) (hr.mono (by decide)) T.b_House_clients_before .nil pass0 (pa_cons (pv 1) pa_nil)) pa_nil))))
      (pss_cons (ps_if (pt_val (pe_meth (pv 3) T.cl_Plan T.m_Plan_give_place (ok_Plan_give_place T) (hr.mono (by decide)) T.b_Plan_give_place .nil pass0 (pa_cons (pv 1) (pa_cons (pe_dget (by exact hu) (pe_fld (pv 0) (by rfl)) (pv 1) (fun _ _ => rfl)) pa_nil)))) (pss_one (ps_ret (pe_lst (pa_cons (pe_const (by rfl) T.c_IS_MOVED) pa_nil)))) pss_nil)
      (pss_cons (ps_set (i := 4) sc_tell_why.nd rfl (Or.inl rfl) (pe_callB (call_sortedDI rfl) (by rfl) T.n_sorted (by decide +kernel) (pa_cons (pe_meth (pv 3) T.cl_Plan T.m_Plan_comers_for (ok_Plan_comers_for T) (hr.mono (by decide)) T.b_Plan_comers_for .nil pass0 (pa_cons (pv 1) (pa_cons (pe_dget (by exact hu) (pe_fld (pv 0) (by rfl)) (pv 1) (fun _ _ => rfl)) pa_nil))) pa_nil)))
      (pss_one (ps_ret (pe_op op_cat (pe_lst (pa_cons (pe_callB call_len_seq (by rfl) T.n_len PySem.boot_len (pa_cons (pv 4) pa_nil)) pa_nil)) (pv 4)))))))))), ?_⟩
    refine ⟨_, rfl, _, rfl, a, s, key, rfl, hs0, fun H0 lr sm0 hlr0 hlr => ?_⟩
    refine ⟨_, rfl, _, .inl ⟨_, SqL.of hlr, rfl⟩, ?_⟩
    simp only [Vbchaj.step] at q
    cases hrf : refC s key with
    | cons z zs =>
      rw [onC_no hrf] at q
      rw [hrf] at hlr
      exact iteT ⟨_, rfl, q.ref hs0 sm0 hlr0 hlr⟩
    | nil =>
      refine iteF ?_
      obtain ⟨k, c, rfl, hk, hm, hm1, hm2, hon⟩ := onC_yes hrf
      rw [hon] at q
      have hs := hs0.same sm0
      have q1 := q.same sm0
      obtain ⟨G, R, O, TT, hh, ab⟩ := id hs
      obtain ⟨dx, hob⟩ := hh.ob
      obtain ⟨a1, b1, ec, eb⟩ := before_split G hm1
      have ek : Vbchaj.keysOf s.clients = Vbchaj.keysOf a1 ++ k :: Vbchaj.keysOf b1 := by rw [ec, keysOf_append, keysOf_cons, hm2]
      have ndk : (Vbchaj.keysOf a1 ++ k :: Vbchaj.keysOf b1).Nodup := ek ▸ G.cnd
      have nda : (Vbchaj.keysOf a1).Nodup := (List.nodup_append.mp ndk).1
      have hka : k ∉ Vbchaj.keysOf a1 := fun z => (List.nodup_append.mp ndk).2.2 k z k (by simp) rfl
      have ina : ∀ x ∈ Vbchaj.keysOf a1, x ∈ Vbchaj.keysOf s.clients := fun x hx => by
        rw [ek]
        exact List.mem_append_left _ hx
      have l16 := nd_len16 G nda ina
      have l8 := lenR8 G ab
      have hkT : k ∈ keysA TT := ord_in ab k (by rw [ek]; simp)
      -- plan = Plan(house.rooms, house.takers)
      refine ⟨_, rfl, a.p, A.C_House, dx, _, _, rfl, hob, T.cl_House, T.a_House_rooms, hF_rooms a, _, rfl, a.p, A.C_House, dx, _, _, rfl, hob, T.cl_House, T.a_House_takers, hF_takers a, fun x dxp nx ndx ne => ?_⟩
      have sm0' : Same H0 (upd (upd H0 dxp (.own x)) x (.ins A.C_Plan dxp [])) := made nx ndx
      refine ⟨x, dxp, a.dr, a.dt, R, TT, rfl, upd_same, sm0' _ _ hh.rc, sm0' _ _ hh.tc, fun y hy => sm0' _ _ (hh.tl y hy), fun H1 df dp ds hp n1 n2 n3 fr1 => ⟨rfl, ?_⟩⟩
      have m1 := made_free nx ndx n1
      have m2 := made_free nx ndx n2
      have sm1 : Same H0 H1 := fun b o e => fr1 b o (sm0' b o e) (ne_of_none e nx)
      -- moved_clients(plan, house.clients_before(key))
      refine ⟨_, rfl, _, rfl, a.p, dx, hF a, rfl, sm1 _ _ hob, hF_no a (by decide +kernel) (by decide +kernel) (by decide +kernel), ?_⟩
      refine ⟨_, rfl, a, s, a1, b1, c, (by rw [hm2]; rfl), hs.same sm1, ec, fun H2 la sm2 hla0 hla => ?_⟩
      have hp2 := hp.same sm2
      have sm02 := sm1.trans sm2
      refine ⟨⟨x, df, a.dt, dp, ds⟩, R, TT, la, Vbchaj.keysOf a1, Vbchaj.roomOf s.members, rfl, hp2, hla, nda, fun j hj => ord_in ab j (ina j hj), by omega, in_rooms G ab, room_eq G ab, tk_nd G ab, by omega, fun H3 lm F3 P3 mi kF3 hp3 hlm hlm0 fr3 => ?_⟩
      have sm03 : Same H0 H3 := fun b o e => fr3 b o (sm02 b o e) (ne_of_none e m1) (ne_of_none e m2)
      have hh3 := hh.same sm03
      have lenF3 : F3.length ≤ 8 := by
        have := congrArg List.length kF3
        simp only [keysA, List.length_map] at this
        omega
      have kin : ∀ j ∈ keysA P3, j ∈ Vbchaj.keysOf a1 := fun j hj => by
        rw [mi.keys] at hj
        exact (moved_sub _ _ _).subset hj
      have lenP3 : P3.length ≤ 16 := by
        have h1 := nodup_length_le _ _ mi.ok.ndP kin
        simp only [keysA, List.length_map] at h1
        omega
      have hcP : k ∉ keysA P3 := fun z => hka (kin k z)
      obtain ⟨y, hy⟩ := aget_key hkT
      have hyT := aget_some_mem _ _ _ hy
      have eTk : tkT TT k = y.2 := tkT_of hy
      have inT : ∀ j ∈ keysA P3, j ∈ keysA TT := fun j hj => ord_in ab j (ina j (kin j hj))
      have ndy : y.2.Nodup := by rw [← eTk]; exact tk_nd G ab k
      have inF : ∀ m ∈ y.2, m ∈ keysA F3 := fun m hm => mi.ok.inF k m (by rw [eTk]; exact hm)
      -- if plan.give_place(key, house.takers[key])
      obtain ⟨dx3, hob3⟩ := hp3.ob
      refine ⟨_, rfl, x, dx3, _, rfl, hob3, pF_no _ (by decide +kernel) (by decide +kernel) (by decide +kernel) (by decide +kernel), ?_⟩
      refine ⟨_, rfl, go_dget (fld_takers T hh3 (by rfl) ?_)⟩
      refine ⟨_, rfl, a.dt, .ref y.1, rfl, .inl ⟨enc tV TT, kN k, .inl hh3.tc, rfl, (by rw [valV_enc, hy]; rfl)⟩, ?_⟩
      refine ⟨⟨x, df, a.dt, dp, ds⟩, F3, P3, TT, [], k, y.1, y.2, rfl, hp3, hh3.tl _ hyT, mi.ok, ndy, inF, hcP, by simp, inT, by omega, by omega, fun b H4 F4 P4 wd hp4 fr4 => ⟨b, rfl, ?_⟩⟩
      have sm04 : Same H0 H4 := fun b o e => fr4 b o (sm03 b o e) (ne_of_none e m1) (ne_of_none e m2)
      have hs4 := hs.same sm04
      have hh4 := hh.same sm04
      rw [← eTk] at wd
      have ca : cap F3 P3 [] = Vbchaj.roomOf s.members := cap_fun mi.caps
      have eT := tk_eq G ab
      have can_iff : Vbchaj.isMoved s c = true ↔ Can (Vbchaj.roomOf s.members) (tkT TT) (k :: movedK (Vbchaj.roomOf s.members) (tkT TT) (Vbchaj.keysOf a1)) := by
        rw [isMoved_iff G, hm2, eT, ek]
        exact moved_here ndk
      cases b with
      | true =>
        refine iteT ?_
        have can := (wd.yes rfl).can hcP (by simp)
        rw [ca, updT_self, act_nil, mi.keys] at can
        rw [if_pos (can_iff.mpr can)] at q1
        exact ret1 hs4 (q1.same sm04)
      | false =>
        refine iteF ?_
        obtain ⟨e1, e2, e3⟩ := wd.no rfl
        subst e1; subst e2
        have e3' := e3
        rw [ca, updT_self, act_nil, mi.keys] at e3'
        have hmf : Vbchaj.isMoved s c = false := by
          cases h : Vbchaj.isMoved s c with
          | false => rfl
          | true => exact absurd (can_iff.mp h) e3'
        rw [hmf] at q1
        -- members = sorted(plan.comers_for(key, house.takers[key]))
        obtain ⟨dx4, hob4⟩ := hp4.ob
        refine ⟨_, rfl, x, dx4, _, rfl, hob4, pF_no _ (by decide +kernel) (by decide +kernel) (by decide +kernel) (by decide +kernel), ?_⟩
        refine ⟨_, rfl, go_dget (fld_takers T hh4 (by rfl) ?_)⟩
        refine ⟨_, rfl, a.dt, .ref y.1, rfl, .inl ⟨enc tV TT, kN k, .inl hh4.tc, rfl, (by rw [valV_enc, hy]; rfl)⟩, ?_⟩
        refine ⟨⟨x, df, a.dt, dp, ds⟩, F4, P4, TT, [], k, y.1, y.2, rfl, hp4, hh4.tl _ hyT, mi.ok, ndy, inF, inT, by omega, fun H5 cm Cm bi inC lenC hcm0 hcm sm5 => ?_⟩
        rw [← eTk] at bi
        have full := bi.full mi.ok.ndP mi.ok.into hcP (by simp) inC e3
        have why := bi.why mi.ok.ndP mi.ok.into hcP full
        rw [ca, mi.keys, eT] at why
        have sm05 := sm04.trans sm5
        refine ⟨cm, enc nV Cm, (keysA Cm).map (fun n : Nat => (n : Int)), rfl, .inl hcm, enc_keys nV Cm, (by rw [List.length_map]; simp only [keysA, List.length_map]; omega), fun ys p hperm hsort hp0 => ?_⟩
        obtain ⟨Rr, rfl, pr, so⟩ := sorted_nats hperm hsort bi.nd
        have ws := why_tells G hm1 hmf ec (by rw [hm2]; exact why.perm pr.symm) so
        rw [ws] at q1
        have sm6 : Same H5 (upd H5 p (.lst ((Rr.map fun n : Nat => (n : Int)).map V.int))) := same_new hp0
        have hp6 : (upd H5 p (.lst ((Rr.map fun n : Nat => (n : Int)).map V.int))) p = some (.lst (Rr.map nV)) := Eq.trans upd_same (by rw [List.map_map]; rfl)
        generalize upd H5 p (.lst ((Rr.map fun n : Nat => (n : Int)).map V.int)) = H6 at sm6 hp6
        have lenRr : Rr.length ≤ 8 := by
          have := pr.length_eq
          simp only [keysA, List.length_map] at this
          omega
        have tl := told_list hp6 (by omega) ((q1.newL hs).same (sm05.trans sm6))
        refine ⟨_, rfl, p, _, rfl, .inl (SqL.of hp6), tl.1, fun l2 hl2 => ⟨_, rfl, ?_⟩⟩
        rw [List.length_map]
        exact tl.2 l2 hl2
end CW

end

section
namespace CW
open PySem PySem.Spec PyProof.Rows L2 CM
variable {P : Program} {w : World} {K : PySem.W.Frag} {mg : Str → Option Value} {base : Heap} {A : Adr}
/-! ### check, bound -/
theorem known_in {s : Vbchaj.State} {ns : List Int} (h : Vbchaj.known s ns = true) : ∀ m ∈ Vbchaj.nats ns, (Vbchaj.memberAt s m).isSome = true := by
  intro m hm
  obtain ⟨z, hz, rfl⟩ := List.mem_map.mp hm
  unfold Vbchaj.known at h
  exact List.all_eq_true.mp h z hz
theorem nats_len (ns : List Int) : (Vbchaj.nats ns).length = ns.length := by simp [Vbchaj.nats]
def spCheck (C : Addr) : Sp := fun vs H Q _ => ∃ (a : HA) (s : Vbchaj.State) (key : Int) (l : Addr) (ns : List Int), vs = [.ref a.p, .int key, .ref l] ∧ HS C s H a ∧ H l = some (.lst (ns.map V.int)) ∧ ns.length ≤ 40 ∧
  Ans C H a (Vbchaj.step s (.check key ns)) Q
theorem ok_tell_check (T : Txt K mg A) : FnOk P w K mg base CX0 7 A.f_tell_check A.d_tell_check ["house", "key", "members"] (spCheck A.C_House) := by
  refine T.F_tell_check.ok sc_tell_check (fun vs H Q E h => ?_) (fun cdv A' outer s H vs Q E hr h => ?_)
  · obtain ⟨a, s, k, l, ns, rfl, _⟩ := h
    rfl
  · obtain ⟨a, s, key, l, ns, rfl, hs, hl, hn, q⟩ := h
    have hu := hu_of hr
    refine ⟨_, (pss_cons (ps_if (pt_not (pt_val (pe_call (ok_is_key T) (hr.mono (by decide)) (by rfl) T.g_is_key T.F_is_key.kp T.b_is_key .nil pass0 (pa_cons (pv 1) pa_nil)))) (pss_one (ps_ret (pe_lst (pa_cons (pe_const (by rfl) T.c_OUT_OF_RANGE) pa_nil)))) pss_nil)
      (pss_cons (ps_set (i := 3) sc_tell_check.nd rfl (Or.inl rfl) (pe_orT (pe_call (ok_refusal_of_members T) (hr.mono (by decide)) (by rfl) T.g_refusal_of_members T.F_refusal_of_members.kp T.b_refusal_of_members .nil pass0 (pa_cons (pv 0) (pa_cons (pv 2) pa_nil))) (pe_one (pe_call (ok_refusal_of_client T) (hr.mono (by decide)) (by rfl) T.g_refusal_of_client T.F_refusal_of_client.kp T.b_refusal_of_client .nil pass0 (pa_cons (pv 0) (pa_cons (pv 1) pa_nil))))))
      (pss_cons (ps_if (pt_truth (pv 3) (by intro _; rfl)) (pss_one (ps_ret (pv 3))) pss_nil)
      (pss_one (ps_ret (pe_lst (pa_cons (pe_ifExp (pt_val (pe_call (ok_proves T) (hr.mono (by decide)) (by rfl) T.g_proves T.F_proves.kp T.b_proves .nil pass0 (pa_cons (pv 0) (pa_cons (pv 2) (pa_cons (pv 1) pa_nil))))) pe_int pe_int) pa_nil))))))), ?_⟩
    refine ⟨_, rfl, key, rfl, _, rfl, ?_⟩
    simp only [Vbchaj.step] at q
    cases hk : Vbchaj.keyed key with
    | false =>
      rw [hk] at q
      exact iteT (ret1 hs q)
    | true =>
      rw [hk] at q
      refine iteF ?_
      rw [if_neg (by simp)] at q
      -- refusal = refusal_of_members(house, members) or refusal_of_client(house, key)
      refine ⟨_, rfl, _, rfl, a, s, l, ns, rfl, hs, hl, hn, fun H1 lr sm1 hlr0 hlr => ?_⟩
      refine ⟨_, .inl ⟨_, SqL.of hlr, rfl⟩, ?_⟩
      cases hrf : refL s ns with
      | cons z zs =>
        rw [onL_no hrf] at q
        rw [hrf] at hlr
        refine iteT ⟨_, rfl, _, .inl ⟨_, SqL.of hlr, rfl⟩, iteT ⟨_, rfl, q.ref hs sm1 hlr0 hlr⟩⟩
      | nil =>
        obtain ⟨hls, hds, hkn, hon⟩ := onL_yes hrf
        rw [hon] at q
        have hs1 := hs.same sm1
        refine iteF ⟨_, rfl, _, rfl, a, s, key, rfl, hs1, fun H2 lr2 sm2 hlr20 hlr2 => ?_⟩
        have sm02 := sm1.trans sm2
        refine ⟨_, rfl, _, .inl ⟨_, SqL.of hlr2, rfl⟩, ?_⟩
        cases hrf2 : refC s key with
        | cons z zs =>
          rw [onC_no hrf2] at q
          rw [hrf2] at hlr2
          exact iteT ⟨_, rfl, q.ref hs sm02 (sm1.free hlr20) hlr2⟩
        | nil =>
          refine iteF ?_
          obtain ⟨k, c, rfl, hk', hm, hm1, hm2, honc⟩ := onC_yes hrf2
          rw [honc] at q
          have hl2 := sm02 _ _ hl
          rw [nats_vals hls] at hl2
          refine ⟨_, rfl, _, rfl, _, rfl, a, s, l, Vbchaj.nats ns, c, (by rw [hm2]; rfl), hs.same sm02, hm1, hl2, (by rw [nats_len]; omega), known_in hkn, fun H3 sm3 => ⟨_, rfl, ?_⟩⟩
          have sm03 := sm02.trans sm3
          cases hp : Vbchaj.proves s.members s.clients c (Vbchaj.nats ns) with
          | true =>
            rw [hp] at q
            exact iteT (ret1 (σ := []) (hs.same sm03) (q.same sm03))
          | false =>
            rw [hp] at q
            exact iteF (ret1 (σ := []) (hs.same sm03) (q.same sm03))
def spBound (C : Addr) : Sp := fun vs H Q _ => ∃ (a : HA) (s : Vbchaj.State) (l : Addr) (ns : List Int), vs = [.ref a.p, .ref l] ∧ HS C s H a ∧ H l = some (.lst (ns.map V.int)) ∧ ns.length ≤ 40 ∧
  Ans C H a (Vbchaj.step s (.bound ns)) Q
def keptV (TT : TT3) (ls : List Nat) : V → Bool
  | .int n => (tkT TT n.toNat).all fun m => ls.contains m
  | _ => false
theorem ok_tell_bound (T : Txt K mg A) : FnOk P w K mg base CX0 4 A.f_tell_bound A.d_tell_bound ["house", "members"] (spBound A.C_House) := by
  refine T.F_tell_bound.ok sc_tell_bound (fun vs H Q E h => ?_) (fun cdv A' outer s H vs Q E hr h => ?_)
  · obtain ⟨a, s, l, ns, rfl, _⟩ := h
    rfl
  · obtain ⟨a, s, l, ns, rfl, hs, hl, hn, q⟩ := h
    have hu := hu_of hr
    refine ⟨_, (pss_cons (ps_set (i := 2) sc_tell_bound.nd rfl (Or.inl rfl) (pe_call (ok_refusal_of_members T) (hr.mono (by decide)) (by rfl) T.g_refusal_of_members T.F_refusal_of_members.kp T.b_refusal_of_members .nil pass0 (pa_cons (pv 0) (pa_cons (pv 1) pa_nil))))
      (pss_cons (ps_if (pt_truth (pv 2) (by intro _; rfl)) (pss_one (ps_ret (pv 2))) pss_nil)
      (pss_cons (ps_lock (ps_setLc (i := 3) (own := [("client", 4)]) (g := gName 4) (tt := (tNot _)) (te := (tVar 4)) (by rfl) sc_tell_bound.nd rfl rfl (sw_true rfl rfl rfl (by decide +kernel)) (pi_keys (pe_fld (pv 0) (by rfl))) (blkOk_by (own := [("client", 4)]) (N := N_tell_bound) (sc := defScope s_tell_bound) (by decide +kernel)) (fun _ _ _ _ _ => by exact (pg_name (i := 4) sc_tell_bound.nd rfl (Or.inl rfl))) (fun _ _ _ _ _ => by exact (pts_one (pt_not (pt_val (pe_call (ok_keeps T) (hr.mono (by decide)) (by rfl) T.g_keeps T.F_keeps.kp T.b_keeps .nil pass0 (pa_cons (pv 0) (pa_cons (pv 1) (pa_cons (pv 4) pa_nil)))))))) (fun _ _ _ _ _ => by exact (pv 4))))
      (pss_one (ps_ret (pe_lst (pa_cons (pe_op op_add (pe_call (ok_rooms_together T) (hr.mono (by decide)) (by rfl) T.g_rooms_together T.F_rooms_together.kp T.b_rooms_together .nil pass0 (pa_cons (pv 0) (pa_cons (pv 1) pa_nil))) (pe_callB call_len_seq (by rfl) T.n_len PySem.boot_len (pa_cons (pv 3) pa_nil))) pa_nil))))))), ?_⟩
    refine ⟨_, rfl, _, rfl, a, s, l, ns, rfl, hs, hl, hn, fun H0 lr sm0 hlr0 hlr => ?_⟩
    refine ⟨_, rfl, _, .inl ⟨_, SqL.of hlr, rfl⟩, ?_⟩
    simp only [Vbchaj.step] at q
    cases hrf : refL s ns with
    | cons z zs =>
      rw [onL_no hrf] at q
      rw [hrf] at hlr
      exact iteT ⟨_, rfl, q.ref hs sm0 hlr0 hlr⟩
    | nil =>
      refine iteF ?_
      obtain ⟨hls, hds, hkn, hon⟩ := onL_yes hrf
      rw [hon] at q
      have hs0 := hs.same sm0
      have hl0 := sm0 _ _ hl
      rw [nats_vals hls] at hl0
      obtain ⟨G, R, O, TT, hh, ab⟩ := id hs0
      obtain ⟨dx, hob⟩ := hh.ob
      have lenT : TT.length ≤ 16 := by rw [ab.lenT]; exact G.clen
      -- strangers = [client for client in house.takers if not keeps(house, members, client)]
      refine ⟨a.dt, .dK (enc tV TT), hh.tc, trivial, fun od => ?_⟩
      refine ⟨_, rfl, a.p, A.C_House, dx, _, _, rfl, (by rw [upd_ne hh.pt]; exact hob), T.cl_House, T.a_House_takers, hF_takers a, ?_⟩
      refine ⟨a.dt, od, rfl, .inl ⟨enc tV TT, upd_same, fun D hD => ?_⟩⟩
      have hfz : (upd H0 a.dt (.frz od (.dK (enc tV TT)))) a.dt = some (.frz od (.dK (enc tV TT))) := upd_same
      have hobz : (upd H0 a.dt (.frz od (.dK (enc tV TT)))) a.p = some (.ins A.C_House dx (hF a)) := by rw [upd_ne hh.pt]; exact hob
      have htlz : ∀ x ∈ TT, (upd H0 a.dt (.frz od (.dK (enc tV TT)))) x.2.1 = some (.lst (x.2.2.map nV)) := fun x hx => by
        rw [upd_ne (ne_of (hh.tl x hx) hh.tc (by intro z; cases z))]
        exact hh.tl x hx
      have hlz : (upd H0 a.dt (.frz od (.dK (enc tV TT)))) l = some (.lst ((Vbchaj.nats ns).map nV)) := by
        rw [upd_ne (ne_of hl0 hh.tc (by intro z; cases z))]
        exact hl0
      have hD0 : H0 D = none := by
        have : D ≠ a.dt := fun e => by rw [e, upd_same] at hD; cases hD
        rwa [upd_ne this] at hD
      have un : ∀ H', Same (upd H0 a.dt (.frz od (.dK (enc tV TT)))) H' → Same H0 (upd H' a.dt (.dK (enc tV TT))) := fun H' s => unlock_same hh.tc s
      generalize hHz : upd H0 a.dt (.frz od (.dK (enc tV TT))) = Hz at hfz hobz htlz hlz hD un
      refine lck_sm (fun v => !keptV TT (Vbchaj.nats ns) v) (fun v => v) hD hfz (by rw [enc_len]; exact small1 (by omega)) ?_ ?_ ?_
      · intro x hx H' Q' sm q'
        rw [keysV_enc] at hx
        obtain ⟨k, hk, rfl⟩ := List.mem_map.mp hx
        refine ⟨_, rfl, _, rfl, _, rfl, a, TT, l, Vbchaj.nats ns, k, rfl, ⟨dx, sm _ _ hobz⟩, .inr ⟨od, sm _ _ hfz⟩, fun x hx => sm _ _ (htlz x hx), sm _ _ hlz, hk, tk_len G ab _, fun H2 s2 => ⟨_, rfl, ?_⟩⟩
        exact q' H2 s2
      · intro x hx H' Q' sm q'
        exact ⟨_, rfl, q' H' (Same.refl H')⟩
      · intro H4 sm4 hD4
        rw [List.map_id', keysV_enc] at hD4
        have sm05 := un H4 sm4
        have hDd : D ≠ a.dt := fun e => by rw [e, hfz] at hD; cases hD
        have hD5 : (upd H4 a.dt (.dK (enc tV TT))) D = some (.lst (((keysA TT).map nV).filter fun v => !keptV TT (Vbchaj.nats ns) v)) := by
          rw [upd_ne hDd]
          exact hD4
        refine ⟨sm4 _ _ hfz, ?_⟩
        generalize upd H4 a.dt (.dK (enc tV TT)) = H5 at sm05 hD5 ⊢
        have sm5 := sm0.trans sm05
        have hs5 := hs.same sm5
        refine ⟨_, rfl, _, rfl, a, s, l, Vbchaj.nats ns, rfl, hs5, sm05 _ _ hl0, (by rw [nats_len]; omega), known_in hkn, fun H6 sm6 => ?_⟩
        refine ⟨_, rfl, D, _, rfl, .inl (SqL.of (sm6 _ _ hD5)), _, _, rfl, rfl, ?_⟩
        have sm06 := sm5.trans sm6
        have eb : ((total (Vbchaj.roomOf s.members) (Vbchaj.nats ns) : Nat) : Int) + (((((keysA TT).map nV).filter fun v => !keptV TT (Vbchaj.nats ns) v).length : Nat) : Int) = ((Vbchaj.boundOf s.members s.clients (Vbchaj.nats ns) : Nat) : Int) := by
          rw [bound_eq G]
          unfold boundK
          have e1 : (((keysA TT).map nV).filter fun v => !keptV TT (Vbchaj.nats ns) v).length = (keysA TT).countP fun k => !((tkT TT k).all fun m => (Vbchaj.nats ns).contains m) := by
            rw [List.filter_map, List.length_map, List.countP_eq_length_filter]
            rfl
          have e2 : (keysA TT).countP (fun k => !((tkT TT k).all fun m => (Vbchaj.nats ns).contains m)) = (Vbchaj.keysOf s.clients).countP fun k => !((tkT TT k).all fun m => (Vbchaj.nats ns).contains m) := ab.permT.symm.countP_eq _
          have e3 : (Vbchaj.keysOf s.clients).length = (Vbchaj.keysOf s.clients).countP (fun k => (tkT TT k).all fun m => (Vbchaj.nats ns).contains m) + (Vbchaj.keysOf s.clients).countP (fun k => !((tkT TT k).all fun m => (Vbchaj.nats ns).contains m)) := by
            have := List.length_eq_countP_add_countP (fun k => (tkT TT k).all fun m => (Vbchaj.nats ns).contains m) (l := Vbchaj.keysOf s.clients)
            rw [this]
            congr 1
            apply List.countP_congr
            intro x _
            rw [decide_eq_true_eq, Bool.not_eq_true', Bool.not_eq_true]
          have e4 : keptC (tkOf s.clients) (Vbchaj.keysOf s.clients) (Vbchaj.nats ns) = (Vbchaj.keysOf s.clients).countP (fun k => (tkT TT k).all fun m => (Vbchaj.nats ns).contains m) := by
            rw [← tk_eq G ab]
            rfl
          rw [e1, e2, e4]
          omega
        have r := ret1 (σ := []) (hs.same sm06) (q.same sm06)
        rw [← eb] at r
        exact r
end CW

end

section
namespace CW
open PySem PySem.Spec PyProof.Rows L2 CM
variable {P : Program} {w : World} {K : PySem.W.Frag} {mg : Str → Option Value} {base : Heap} {A : Adr}
/-! ### cover -/
def addsS (S l : List Nat) : List Nat := l.foldl (fun s m => if m ∈ s then s else s ++ [m]) S
theorem addsS_snoc (S l : List Nat) (m : Nat) : addsS S (l ++ [m]) = if m ∈ addsS S l then addsS S l else addsS S l ++ [m] := by
  unfold addsS
  rw [List.foldl_append]
  rfl
theorem addsS_mem (S : List Nat) : ∀ (l : List Nat) (x : Nat), x ∈ addsS S l ↔ x ∈ S ∨ x ∈ l := by
  intro l
  induction l generalizing S with
  | nil => intro x; simp [addsS]
  | cons m l ih =>
    intro x
    show x ∈ addsS (if m ∈ S then S else S ++ [m]) l ↔ _
    rw [ih]
    split
    · rename_i h
      constructor
      · rintro (h1 | h1)
        · exact .inl h1
        · exact .inr (List.mem_cons_of_mem _ h1)
      · rintro (h1 | h1)
        · exact .inl h1
        · rcases List.mem_cons.mp h1 with h1 | h1
          · exact .inl (h1 ▸ h)
          · exact .inr h1
    · rw [List.mem_append, List.mem_singleton, List.mem_cons, or_assoc]
theorem addsS_nd (S : List Nat) : ∀ (l : List Nat), S.Nodup → (addsS S l).Nodup := by
  intro l
  induction l generalizing S with
  | nil => intro h; exact h
  | cons m l ih =>
    intro h
    refine ih (if m ∈ S then S else S ++ [m]) ?_
    split
    · exact h
    · rename_i hm
      refine List.nodup_append.mpr ⟨h, by simp, fun x hx y hy e => ?_⟩
      rw [List.mem_singleton.mp hy] at e
      exact hm (e ▸ hx)
theorem encS_add (S : List Nat) (m : Nat) : putK (encS S) (kN m) (V.bl true) = encS (if m ∈ S then S else S ++ [m]) := by
  split
  · rename_i h
    have hk : m ∈ keysA (S.map fun k => (k, ())) := by rw [keysA_unit]; exact h
    unfold encS
    rw [putK_enc (fun _ : Unit => V.bl true) _ m (), aput_old hk, List.map_map]
    congr 1
    apply List.map_congr_left
    intro k _
    simp only [Function.comp]
    split <;> rfl
  · rename_i h
    exact encS_put h
theorem encS_keys (S : List Nat) : (encS S).map (·.1) = (S.map fun n : Nat => (n : Int)).map Sum.inl := by
  unfold encS
  rw [enc_keys, keysA_unit]
theorem ok_tell_cover (T : Txt K mg A) : FnOk P w K mg base CX0 5 A.f_tell_cover A.d_tell_cover ["house"] (spTell A.C_House .cover) := by
  refine T.F_tell_cover.ok sc_tell_cover (fun vs H Q E h => ?_) (fun cdv A' outer s H vs Q E hr h => ?_)
  · obtain ⟨a, s, rfl, _⟩ := h
    rfl
  · obtain ⟨a, s, rfl, hs, q⟩ := h
    have hu := hu_of hr
    obtain ⟨G, R, O, TT, hh, ab⟩ := id hs
    obtain ⟨dx, hob⟩ := hh.ob
    refine ⟨_, (pss_cons (ps_set (i := 1) sc_tell_cover.nd rfl (Or.inl rfl) (pe_make T.mk_Plan (ok_Plan_init T) (hr.mono (by decide)) (by rfl) T.g_Plan T.b_Plan_init .nil pass0 (pa_cons (pe_fld (pv 0) (by rfl)) (pa_cons (pe_fld (pv 0) (by rfl)) pa_nil))))
      (pss_cons (ps_set (i := 2) sc_tell_cover.nd rfl (Or.inl rfl) (pe_meth0 (pv 0) T.cl_House T.m_House_clients_in_order (ok_House_clients_in_order T) (hr.mono (by decide)) T.b_House_clients_in_order .nil pass0))
      (pss_cons (ps_set (i := 3) sc_tell_cover.nd rfl (Or.inl rfl) (pe_call (ok_moved_clients T) (hr.mono (by decide)) (by rfl) T.g_moved_clients T.F_moved_clients.kp T.b_moved_clients .nil pass0 (pa_cons (pv 1) (pa_cons (pv 2) pa_nil))))
      (pss_cons (ps_set (i := 4) sc_tell_cover.nd rfl (Or.inl rfl) pe_dnewK)
      (pss_cons (ps_for PassesOwn.never rfl (pi_list (pv 2)) (pg_name (i := 5) sc_tell_cover.nd rfl (Or.inl rfl)) (pss_one (ps_if (pt_cmpR op_notIn_seq (pv 5) (pv 3) (by with_unfolding_all rfl)) (pss_one (ps_for PassesOwn.never rfl (pi_keysL (pe_meth (pv 1) T.cl_Plan T.m_Plan_comers_for (ok_Plan_comers_for T) (hr.mono (by decide)) T.b_Plan_comers_for .nil pass0 (pa_cons (pv 5) (pa_cons (pe_dget (by exact hu) (pe_fld (pv 0) (by rfl)) (pv 5) (fun _ _ => rfl)) pa_nil)))) (pg_name (i := 6) sc_tell_cover.nd rfl (Or.inl rfl)) (pss_one (ps_dput (by exact hu) (pv 4) (pv 6) pe_bl rfl)))) pss_nil)))
      (pss_one (ps_ret (pe_op op_cat (pe_lst (pa_cons (pe_callB call_lenD (by rfl) T.n_len PySem.boot_len (pa_cons (pv 4) pa_nil)) pa_nil)) (pe_callB (call_sortedDI rfl) (by rfl) T.n_sorted (by decide +kernel) (pa_cons (pv 4) pa_nil)))))))))), ?_⟩
    have l16 := nd_len16 G G.cnd fun k hk => hk
    have l8 := lenR8 G ab
    -- plan = Plan(house.rooms, house.takers)
    refine ⟨_, rfl, a.p, A.C_House, dx, _, _, rfl, hob, T.cl_House, T.a_House_rooms, hF_rooms a, _, rfl, a.p, A.C_House, dx, _, _, rfl, hob, T.cl_House, T.a_House_takers, hF_takers a, fun x dxp nx ndx ne => ?_⟩
    have sm0' : Same H (upd (upd H dxp (.own x)) x (.ins A.C_Plan dxp [])) := made nx ndx
    refine ⟨x, dxp, a.dr, a.dt, R, TT, rfl, upd_same, sm0' _ _ hh.rc, sm0' _ _ hh.tc, fun y hy => sm0' _ _ (hh.tl y hy), fun H1 df dp ds hp n1 n2 n3 fr1 => ⟨rfl, ?_⟩⟩
    have m1 := made_free nx ndx n1
    have m2 := made_free nx ndx n2
    have sm1 : Same H H1 := fun b o e => fr1 b o (sm0' b o e) (ne_of_none e nx)
    -- clients = house.clients_in_order()
    refine ⟨_, rfl, a.p, dx, hF a, rfl, sm1 _ _ hob, hF_no a (by decide +kernel) (by decide +kernel) (by decide +kernel), ?_⟩
    refine ⟨a, R, O, TT, s, rfl, hh.same sm1, G, ab.ord, fun H2 lc sm2 hlc0 hlc => ?_⟩
    have hp2 := hp.same sm2
    have sm02 := sm1.trans sm2
    -- moved = moved_clients(plan, clients)
    refine ⟨_, rfl, _, rfl, ⟨x, df, a.dt, dp, ds⟩, R, TT, lc, Vbchaj.keysOf s.clients, Vbchaj.roomOf s.members, rfl, hp2, hlc, G.cnd, ord_in ab, by omega, in_rooms G ab, room_eq G ab, tk_nd G ab, by omega, fun H3 lm F3 P3 mi kF3 hp3 hlm hlm0 fr3 => ?_⟩
    have sm03 : Same H H3 := fun b o e => fr3 b o (sm02 b o e) (ne_of_none e m1) (ne_of_none e m2)
    have hh3 := hh.same sm03
    have hlc3 : H3 lc = some (.lst ((Vbchaj.keysOf s.clients).map nV)) := fr3 _ _ hlc (ne_of hlc hp2.fc (by intro z; cases z)) (ne_of hlc hp2.pc (by intro z; cases z))
    have lenF3 : F3.length ≤ 8 := by
      have := congrArg List.length kF3
      simp only [keysA, List.length_map] at this
      omega
    have subM := moved_sub (Vbchaj.roomOf s.members) (tkT TT) (Vbchaj.keysOf s.clients)
    have keys := mi.keys
    have inT : ∀ j ∈ keysA P3, j ∈ keysA TT := fun j hj => by
      rw [keys] at hj
      exact ord_in ab j (subM.subset hj)
    have lenKR : (keysA R).length = R.length := by simp [keysA]
    have cov0 := fun (Z : List Nat) => cover_of (R := Z) mi G.cnd
    generalize hMv : movedK (Vbchaj.roomOf s.members) (tkT TT) (Vbchaj.keysOf s.clients) = Mv at hlm subM keys cov0
    -- covered = {}
    intro cov hcov
    have sm4 : Same H3 (upd H3 cov (.dK [])) := same_new hcov
    have hcov4 : (upd H3 cov (.dK [])) cov = some (.dK (encS [])) := upd_same
    generalize upd H3 cov (.dK []) = H4 at sm4 hcov4
    -- for client in clients
    refine ⟨_, rfl, lc, rfl, ⟨_, SqL.of (sm4 _ _ hlc3)⟩, for_list (K := K) (a := lc) (xs := (Vbchaj.keysOf s.clients).map nV) (fun i σ H' => ∃ (v5 v6 : Option V) (S : List Nat), σ = [some (.ref a.p), some (.ref x), some (.ref lc), some (.ref lm), some (.ref cov), v5, v6] ∧ Same H3 H' ∧
        H' cov = some (.dK (encS S)) ∧ S.Nodup ∧ (∀ m ∈ S, m ∈ keysA R) ∧ (∀ c ∈ (Vbchaj.keysOf s.clients).take i, c ∉ Mv → ∃ C, BI P3 [] (tkT TT) c (tkT TT c) C C.length ∧ ∀ m ∈ keysA C, m ∈ S) ∧
        (∀ m ∈ S, ∃ c ∈ Vbchaj.keysOf s.clients, c ∉ Mv ∧ ∃ C, BI P3 [] (tkT TT) c (tkT TT c) C C.length ∧ m ∈ keysA C))
      ⟨none, none, [], rfl, sm4, hcov4, List.nodup_nil, by simp, by simp, by simp⟩ (fun i σ H' _ ⟨_, _, _, _, h, _⟩ => SqL.of (h _ _ hlc3)) ?_ ?_⟩
    · rintro i z σ H' hz ⟨v5, v6, S, rfl, sm, hS, ndS, inS, g1, g2⟩
      rw [List.getElem?_map, Option.map_eq_some_iff] at hz
      obtain ⟨c, hc, rfl⟩ := hz
      have hcm : c ∈ Vbchaj.keysOf s.clients := List.mem_of_getElem? hc
      -- if client not in moved
      refine go_if (go_test ⟨_, rfl, _, rfl, lm, _, rfl, .inl (SqL.of (sm _ _ hlm)), rfl, flat_nat _, _, rfl, ?_⟩)
      rw [if_pos rfl, inV_nats]
      by_cases hM : c ∈ Mv
      · have e : (!Mv.contains c) = false := by simpa using hM
        rw [e]
        refine iteF ⟨_, v6, S, rfl, sm, hS, ndS, inS, fun j hj hjM => ?_, g2⟩
        rw [take_snoc hc] at hj
        rcases List.mem_append.mp hj with hj | hj
        · exact g1 j hj hjM
        · rw [List.mem_singleton.mp hj] at hjM
          exact absurd hM hjM
      · have e : (!Mv.contains c) = true := by simpa using hM
        rw [e]
        refine iteT ?_
        obtain ⟨y, hy⟩ := aget_key (ord_in ab c hcm)
        have hyT := aget_some_mem _ _ _ hy
        have eTk : tkT TT c = y.2 := tkT_of hy
        have ndy : y.2.Nodup := by rw [← eTk]; exact tk_nd G ab c
        have inF : ∀ m ∈ y.2, m ∈ keysA F3 := fun m hm => mi.ok.inF c m (by rw [eTk]; exact hm)
        have hh' := hh3.same sm
        have hp' := hp3.same sm
        obtain ⟨dx4, hob4⟩ := hp'.ob
        -- for member in plan.comers_for(client, house.takers[client])
        refine ⟨_, rfl, x, dx4, _, rfl, hob4, pF_no _ (by decide +kernel) (by decide +kernel) (by decide +kernel) (by decide +kernel), ?_⟩
        refine ⟨_, rfl, go_dget (fld_takers T hh' (by rfl) ?_)⟩
        refine ⟨_, rfl, a.dt, .ref y.1, rfl, .inl ⟨enc tV TT, kN c, .inl hh'.tc, rfl, (by rw [valV_enc, hy]; rfl)⟩, ?_⟩
        refine ⟨⟨x, df, a.dt, dp, ds⟩, F3, P3, TT, [], c, y.1, y.2, rfl, hp', hh'.tl _ hyT, mi.ok, ndy, inF, inT, by omega, fun H5 cm Cm bi inC lenC hcm0 hcm5 sm5 => ?_⟩
        rw [← eTk] at bi
        refine ⟨cm, enc nV Cm, rfl, hcm5, fun od => ?_⟩
        have ncc : cov ≠ cm := ne_of_none hS hcm0
        have sm6 : Same H3 (upd H5 cm (.frz od (.dK (enc nV Cm)))) := fun b o e => by
          rw [upd_ne (ne_of_none (sm _ _ e) hcm0)]
          exact sm5 _ _ (sm b o e)
        have hfz : (upd H5 cm (.frz od (.dK (enc nV Cm)))) cm = some (.frz od (.dK (enc nV Cm))) := upd_same
        have hS6 : (upd H5 cm (.frz od (.dK (enc nV Cm)))) cov = some (.dK (encS S)) := by
          rw [upd_ne ncc]
          exact sm5 _ _ hS
        generalize upd H5 cm (.frz od (.dK (enc nV Cm))) = H6 at sm6 hfz hS6
        refine for_keys (fun j σ H' => ∃ v6, σ = [some (.ref a.p), some (.ref x), some (.ref lc), some (.ref lm), some (.ref cov), some (nV c), v6] ∧ Same H3 H' ∧ H' cm = some (.frz od (.dK (enc nV Cm))) ∧ H' cov = some (.dK (encS (addsS S ((keysA Cm).take j)))))
          ⟨v6, rfl, sm6, hfz, hS6⟩ ?_ ?_ ?_
        · rintro j σ H' _ ⟨v6, rfl, _, h, _⟩
          exact h
        · rintro j k v σ H' hk ⟨v6, rfl, smj, hfj, hSj⟩
          obtain ⟨xx, hxx, rfl, rfl⟩ := enc_get hk
          have hm : (keysA Cm)[j]? = some xx.1 := by rw [keysA_get, hxx]; rfl
          have st := addsS_snoc S ((keysA Cm).take j) xx.1
          rw [← take_snoc hm] at st
          have lenA : (addsS S ((keysA Cm).take j)).length ≤ 100 := by
            have h1 := nodup_length_le (addsS S ((keysA Cm).take j)) (keysA R) (addsS_nd S _ ndS) (fun m hm => by
              rcases (addsS_mem S _ m).mp hm with hm | hm
              · exact inS m hm
              · have := inC m (List.mem_of_mem_take hm)
                rw [kF3] at this
                exact this)
            omega
          refine ⟨_, rfl, _, rfl, _, _, rfl, DPut.k (k := kN xx.1) hSj (by rw [encS_len]; exact small1 lenA), ?_⟩
          rw [encS_add, ← st]
          refine ⟨_, rfl, fun b o e => ?_, ?_, upd_same⟩
          · rw [upd_ne (ne_of_none e hcov)]
            exact smj b o e
          · rw [upd_ne ncc.symm]
            exact hfj
        · rintro σ H' ⟨v6, rfl, smj, hfj, hSj⟩
          rw [enc_len, show Cm.length = (keysA Cm).length by simp [keysA], List.take_length] at hSj
          refine ⟨_, v6, addsS S (keysA Cm), rfl, smj, hSj, addsS_nd S _ ndS, fun m hm => ?_, fun j hj hjM => ?_, fun m hm => ?_⟩
          · rcases (addsS_mem S _ m).mp hm with hm | hm
            · exact inS m hm
            · have := inC m hm
              rw [kF3] at this
              exact this
          · rw [take_snoc hc] at hj
            rcases List.mem_append.mp hj with hj | hj
            · obtain ⟨C, b1, b2⟩ := g1 j hj hjM
              exact ⟨C, b1, fun m hm => (addsS_mem S _ m).mpr (.inl (b2 m hm))⟩
            · rw [List.mem_singleton.mp hj]
              exact ⟨Cm, bi, fun m hm => (addsS_mem S _ m).mpr (.inr hm)⟩
          · rcases (addsS_mem S _ m).mp hm with hm | hm
            · exact g2 m hm
            · exact ⟨c, hcm, hM, Cm, bi, hm⟩
    · rintro σ H5 ⟨v5, v6, S, rfl, sm5, hS, ndS, inS, g1, g2⟩
      rw [List.length_map, List.take_length] at g1
      have cl := cov0 S ndS g1 g2
      rw [tk_eq G ab] at cl
      have sm05 := sm03.trans sm5
      have lenS : S.length ≤ 8 := by
        have h1 := nodup_length_le S (keysA R) ndS inS
        omega
      -- return [len(covered)] + sorted(covered)
      refine ⟨_, rfl, cov, _, rfl, hS, (by show 1 ≤ sizeLine; decide), fun l2 hl2 => ?_⟩
      have sm6 : Same H5 (upd H5 l2 (.lst [V.int ((encS S).length : Nat)])) := same_new hl2
      have hl26 : (upd H5 l2 (.lst [V.int ((encS S).length : Nat)])) l2 = some (.lst [V.int ((encS S).length : Nat)]) := upd_same
      generalize upd H5 l2 (.lst [V.int ((encS S).length : Nat)]) = H6 at sm6 hl26 ⊢
      refine ⟨_, rfl, cov, encS S, S.map (fun n : Nat => (n : Int)), rfl, .inl (sm6 _ _ hS), encS_keys S, (by rw [List.length_map]; omega), fun ys p hperm hsort hp0 => ?_⟩
      obtain ⟨Rr, rfl, pr, so⟩ := sorted_nats hperm hsort ndS
      have ws := cover_tells G (cl.perm pr.symm) so
      simp only [Vbchaj.step] at q
      rw [ws] at q
      have sm7 : Same H6 (upd H6 p (.lst ((Rr.map fun n : Nat => (n : Int)).map V.int))) := same_new hp0
      have hp7 : (upd H6 p (.lst ((Rr.map fun n : Nat => (n : Int)).map V.int))) p = some (.lst (Rr.map nV)) := Eq.trans upd_same (by rw [List.map_map]; rfl)
      generalize upd H6 p (.lst ((Rr.map fun n : Nat => (n : Int)).map V.int)) = H7 at sm7 hp7
      have sm07 := sm05.trans (sm6.trans sm7)
      have lenRr : Rr.length = S.length := pr.length_eq
      refine ⟨l2, p, _, _, rfl, rfl, sm7 _ _ hl26, hp7, ?_, fun r hr => ?_⟩
      · rw [List.length_map]
        show 1 + Rr.length ≤ sizeLine
        exact Nat.le_of_lt (small1 (by omega))
      · have qn := q.newL hs
        rw [counted_nV] at qn
        have e9 : [V.int ((encS S).length : Nat)] ++ Rr.map nV = nV Rr.length :: Rr.map nV := by
          rw [encS_len, lenRr]
          rfl
        rw [e9]
        exact qn.put sm07 hr
end CW

end

section
namespace CW
open PySem PySem.Spec PyProof.Rows L2 CM
variable {P : Program} {w : World} {K : PySem.W.Frag} {mg : Str → Option Value} {base : Heap} {A : Adr}
/-! ### may -/
def spMay (C : Addr) : Sp := fun vs H Q _ => ∃ (a : HA) (s : Vbchaj.State) (key m : Int), vs = [.ref a.p, .int key, .int m] ∧ HS C s H a ∧ Ans C H a (Vbchaj.step s (.may key m)) Q
theorem ok_tell_may (T : Txt K mg A) : FnOk P w K mg base CX0 6 A.f_tell_may A.d_tell_may ["house", "key", "member"] (spMay A.C_House) := by
  refine T.F_tell_may.ok sc_tell_may (fun vs H Q E h => ?_) (fun cdv A' outer s H vs Q E hr h => ?_)
  · obtain ⟨a, s, k, m, rfl, _⟩ := h
    rfl
  · obtain ⟨a, s, key, mem, rfl, hs, q⟩ := h
    have hu := hu_of hr
    obtain ⟨G, R, O, TT, hh, ab⟩ := id hs
    obtain ⟨dx, hob⟩ := hh.ob
    refine ⟨_, (pss_cons (ps_if (PW.pt (pw_or (pt_not (pt_val (pe_call (ok_is_key T) (hr.mono (by decide)) (by rfl) T.g_is_key T.F_is_key.kp T.b_is_key .nil pass0 (pa_cons (pv 1) pa_nil)))) (pw_or1 (pt_not (pt_val (pe_call (ok_is_key T) (hr.mono (by decide)) (by rfl) T.g_is_key T.F_is_key.kp T.b_is_key .nil pass0 (pa_cons (pv 2) pa_nil))))))) (pss_one (ps_ret (pe_lst (pa_cons (pe_const (by rfl) T.c_OUT_OF_RANGE) pa_nil)))) pss_nil)
      (pss_cons (ps_if (PW.pt (pw_or (pt_cmp (pc_dnotin (by exact hu) (pv 1) (pe_fld (pv 0) (by rfl)))) (pw_or1 (pt_cmp (pc_dnotin (by exact hu) (pv 2) (pe_fld (pv 0) (by rfl))))))) (pss_one (ps_ret (pe_lst (pa_cons (pe_const (by rfl) T.c_NOT_THERE) pa_nil)))) pss_nil)
      (pss_cons (ps_if (pt_cmpR op_notIn_seq (pv 2) (pe_dget (by exact hu) (pe_fld (pv 0) (by rfl)) (pv 1) (fun _ _ => rfl)) (by with_unfolding_all rfl)) (pss_one (ps_ret (pe_lst (pa_cons pe_int pa_nil)))) pss_nil)
      (pss_cons (ps_set (i := 3) sc_tell_may.nd rfl (Or.inl rfl) (pe_call (ok_moved_of T) (hr.mono (by decide)) (by rfl) T.g_moved_of T.F_moved_of.kp T.b_moved_of .nil pass0 (pa_cons (pv 0) (pa_cons (pe_meth0 (pv 0) T.cl_House T.m_House_clients_in_order (ok_House_clients_in_order T) (hr.mono (by decide)) T.b_House_clients_in_order .nil pass0) pa_nil))))
      (pss_one (ps_ret (pe_lst (pa_cons (pe_ifExp (PW.pt (pw_and (pt_cmpR op_in_seq (pv 1) (pv 3) (by with_unfolding_all rfl)) (pw_and1 (pt_val (pe_call (ok_can_go_to T) (hr.mono (by decide)) (by rfl) T.g_can_go_to T.F_can_go_to.kp T.b_can_go_to .nil pass0 (pa_cons (pv 0) (pa_cons (pv 3) (pa_cons (pv 1) (pa_cons (pv 2) pa_nil))))))))) pe_int pe_int) pa_nil)))))))), ?_⟩
    refine ⟨_, rfl, key, rfl, _, rfl, ?_⟩
    simp only [Vbchaj.step, Vbchaj.onClient] at q
    cases hk : Vbchaj.keyed key with
    | false =>
      rw [hk] at q
      exact iteT (iteT (ret1 hs q))
    | true =>
      refine iteF ⟨_, rfl, mem, rfl, _, rfl, ?_⟩
      rw [hk] at q
      cases hkm : Vbchaj.keyed mem with
      | false =>
        rw [hkm] at q
        exact iteT (ret1 hs q)
      | true =>
        rw [hkm] at q
        refine iteF ?_
        obtain ⟨k, rfl⟩ := key_nat hk
        obtain ⟨m, rfl⟩ := key_nat hkm
        simp only [Int.toNat_natCast] at q
        refine ⟨_, rfl, fld_orders T hh rfl ⟨_, _, rfl, DGet.k (k := kN k) hh.oc, _, rfl, ?_⟩⟩
        rw [isSome_enc, ab.order G]
        cases hm : Vbchaj.clientAt s k with
        | none =>
          rw [hm] at q
          exact iteT (iteT (ret1 hs q))
        | some c =>
          rw [hm] at q
          refine iteF ?_
          obtain ⟨hm1, hm2⟩ := clientAt_some hm
          refine ⟨_, rfl, fld_rooms T hh rfl ⟨_, _, rfl, DGet.k (k := kN m) hh.rc, _, rfl, ?_⟩⟩
          rw [isSome_enc, ab.room G]
          cases hmm : Vbchaj.memberAt s m with
          | none =>
            rw [hmm] at q
            exact iteT (ret1 hs q)
          | some mm =>
            rw [hmm] at q
            refine iteF ?_
            have q1 : Ans A.C_House H a (s, [if Vbchaj.mayBe s c m = true then 1 else 0]) Q := by simpa using q
            have hkc : k ∈ Vbchaj.keysOf s.clients := hm2 ▸ List.mem_map.mpr ⟨c, hm1, rfl⟩
            obtain ⟨y, hy⟩ := aget_key (ord_in ab k hkc)
            have hyT := aget_some_mem _ _ _ hy
            have eTk : tkOf s.clients k = y.2 := by rw [← tk_eq G ab]; exact tkT_of hy
            have miff := mayBe_iff G hm1 m
            rw [hm2, eTk] at miff
            -- if member not in house.takers[key]
            refine ⟨_, rfl, go_dget (fld_takers T hh (by rfl) ?_)⟩
            refine ⟨_, rfl, a.dt, .ref y.1, rfl, .inl ⟨enc tV TT, kN k, .inl hh.tc, rfl, (by rw [valV_enc, hy]; rfl)⟩, ?_⟩
            refine ⟨y.1, _, rfl, .inl (SqL.of (hh.tl _ hyT)), rfl, flat_nat _, _, rfl, ?_⟩
            rw [if_pos rfl]
            have ein : inV (V.int (m : Int)) (y.2.map nV) = y.2.contains m := inV_nats m y.2
            rw [ein]
            by_cases hmy : m ∈ y.2
            · have e : (!y.2.contains m) = false := by simpa using hmy
              rw [e]
              refine iteF ?_
              -- moved = moved_of(house, house.clients_in_order())
              refine ⟨_, rfl, _, rfl, a.p, dx, hF a, rfl, hob, hF_no a (by decide +kernel) (by decide +kernel) (by decide +kernel), ?_⟩
              refine ⟨a, R, O, TT, s, rfl, hh, G, ab.ord, fun H1 lc sm1 hlc0 hlc => ?_⟩
              refine ⟨a, s, lc, Vbchaj.keysOf s.clients, rfl, hs.same sm1, hlc, G.cnd, fun x hx => hx, fun H2 lm sm2 hlm0 hlm => ?_⟩
              have sm02 := sm1.trans sm2
              have hs2 := hs.same sm02
              have subM := moved_sub (Vbchaj.roomOf s.members) (tkOf s.clients) (Vbchaj.keysOf s.clients)
              have ndM := G.cnd.sublist subM
              generalize hMv : movedK (Vbchaj.roomOf s.members) (tkOf s.clients) (Vbchaj.keysOf s.clients) = Mv at hlm miff subM ndM
              -- [1 if key in moved and can_go_to(house, moved, key, member) else 0]
              refine ⟨_, rfl, _, rfl, lm, _, rfl, .inl (SqL.of hlm), rfl, flat_nat _, _, rfl, ?_⟩
              have ein2 : inV (V.int (k : Int)) (Mv.map nV) = Mv.contains k := inV_nats k Mv
              rw [if_neg Bool.false_ne_true, ein2]
              by_cases hkM : k ∈ Mv
              · have e2 : Mv.contains k = true := by simpa using hkM
                rw [e2]
                refine iteT ⟨_, rfl, _, rfl, _, rfl, _, rfl, a, s, lm, Mv, k, m, rfl, hs2, hlm, ndM, fun x hx => subM.subset hx, hkc, (by rw [eTk]; exact hmy), fun H3 sm3 => ⟨_, rfl, ?_⟩⟩
                have sm03 := sm02.trans sm3
                have hs3 := hs.same sm03
                cases hcb : canB (Vbchaj.roomOf s.members) (updT (tkOf s.clients) k [m]) Mv with
                | true =>
                  rw [if_pos (miff.mpr ⟨hkM, hmy, canB_iff _ _ _ |>.mp hcb⟩)] at q1
                  exact iteT (ret1 (σ := []) hs3 (q1.same sm03))
                | false =>
                  have hn : ¬ Vbchaj.mayBe s c m = true := fun z => by
                    have := (canB_iff _ _ _).mpr (miff.mp z).2.2
                    rw [hcb] at this
                    cases this
                  rw [if_neg hn] at q1
                  exact iteF (ret1 (σ := []) hs3 (q1.same sm03))
              · have e2 : Mv.contains k = false := by simpa using hkM
                rw [e2]
                have hn : ¬ Vbchaj.mayBe s c m = true := fun z => hkM (miff.mp z).1
                rw [if_neg hn] at q1
                exact iteF (iteF (ret1 (σ := []) hs2 (q1.same sm02)))
            · have e : (!y.2.contains m) = true := by simpa using hmy
              rw [e]
              have hn : ¬ Vbchaj.mayBe s c m = true := fun z => hmy (miff.mp z).2.1
              rw [if_neg hn] at q1
              exact iteT (ret1 hs q1)
end CW

end

section
namespace CW
open PySem PySem.Spec PyProof.Rows L2 CM
variable {P : Program} {w : World} {K : PySem.W.Frag} {mg : Str → Option Value} {base : Heap} {A : Adr}
/-! ### isplan -/
section
variable {H : Hp}
def dN (l : List Nat) : PyData := .list (l.map fun n : Nat => .int (n : Int))
theorem dp_all : ∀ l : List Nat, DpAll K H (l.map nV) (l.map fun n : Nat => .int (n : Int))
  | [] => .nil
  | n :: l => .cons (.int _) (dp_all l)
theorem dp_nats {a : Addr} {l : List Nat} (h : SqL K H a (l.map nV)) : Dp K H (.ref a) (dN l) := .lst h (dp_all l)
theorem lay_nats : ∀ l : List Nat, PyData.canLayAll0 (l.map fun n : Nat => PyData.int (n : Int)) = true
  | [] => by simp [PyData.canLayAll0]
  | n :: l => by
    have := lay_nats l
    simp only [List.map_cons, PyData.canLayAll0, PyData.canLay0, Bool.true_and]
    exact this
theorem depth_nats : ∀ l : List Nat, PyData.depthAll (l.map fun n : Nat => PyData.int (n : Int)) = 0
  | [] => by simp [PyData.depthAll]
  | n :: l => by
    have := depth_nats l
    simp only [List.map_cons, PyData.depthAll, PyData.depth]
    omega
theorem shaped_nats (l : List Nat) : SeqAt.shaped (dN l) = true := by
  have h1 : (dN l).canLay0 = true := by
    unfold dN
    simp only [PyData.canLay0]
    exact lay_nats l
  have h2 : (dN l).depth = 1 := by
    unfold dN
    simp only [PyData.depth]
    rw [depth_nats]
  unfold SeqAt.shaped
  rw [h1, h2]
  rfl
theorem eqv_all : ∀ a b : List Nat, PyData.eqvAll (a.map fun n : Nat => .int (n : Int)) (b.map fun n : Nat => .int (n : Int)) = decide (a = b)
  | [], [] => by simp [PyData.eqvAll]
  | [], y :: b => by simp [PyData.eqvAll]
  | x :: a, [] => by simp [PyData.eqvAll]
  | x :: a, y :: b => by
    have ih := eqv_all a b
    simp only [List.map_cons, PyData.eqvAll, PyData.eqv]
    rw [ih, Bool.eq_iff_iff, Bool.and_eq_true, beq_iff_eq, decide_eq_true_eq, decide_eq_true_eq, List.cons.injEq]
    constructor
    · rintro ⟨h1, h2⟩
      exact ⟨by omega, h2⟩
    · rintro ⟨h1, h2⟩
      exact ⟨by omega, h2⟩
theorem eqv_nats (a b : List Nat) : PyData.eqv (dN a) (dN b) = decide (a = b) := by
  unfold dN
  simp only [PyData.eqv]
  exact eqv_all a b
end
def spPlan (C : Addr) : Sp := fun vs H Q _ => ∃ (a : HA) (s : Vbchaj.State) (l : Addr) (ns : List Int), vs = [.ref a.p, .ref l] ∧ HS C s H a ∧ H l = some (.lst (ns.map V.int)) ∧ ns.length ≤ 40 ∧
  Ans C H a (Vbchaj.step s (.isPlan ns)) Q
theorem ok_tell_isplan (T : Txt K mg A) : FnOk P w K mg base CX0 6 A.f_tell_isplan A.d_tell_isplan ["house", "places"] (spPlan A.C_House) := by
  refine T.F_tell_isplan.ok sc_tell_isplan (fun vs H Q E h => ?_) (fun cdv A' outer s H vs Q E hr h => ?_)
  · obtain ⟨a, s, l, ns, rfl, _⟩ := h
    rfl
  · obtain ⟨a, s, l, ns, rfl, hs, hl, hn, q⟩ := h
    have hu := hu_of hr
    refine ⟨_, (pss_cons (ps_if (pt_not (pt_val (pe_call (ok_is_list_of_places T) (hr.mono (by decide)) (by rfl) T.g_is_list_of_places T.F_is_list_of_places.kp T.b_is_list_of_places .nil pass0 (pa_cons (pv 1) pa_nil)))) (pss_one (ps_ret (pe_lst (pa_cons (pe_const (by rfl) T.c_OUT_OF_RANGE) pa_nil)))) pss_nil)
      (pss_cons (ps_set (i := 2) sc_tell_isplan.nd rfl (Or.inl rfl) (pe_step (by decide) (pv 1)))
      (pss_cons (ps_if (pt_cmpR (op_neD (by exact hr.units)) (pv 2) (pe_call (ok_moved_of T) (hr.mono (by decide)) (by rfl) T.g_moved_of T.F_moved_of.kp T.b_moved_of .nil pass0 (pa_cons (pv 0) (pa_cons (pe_meth0 (pv 0) T.cl_House T.m_House_clients_in_order (ok_House_clients_in_order T) (hr.mono (by decide)) T.b_House_clients_in_order .nil pass0) pa_nil))) (nomark _)) (pss_one (ps_ret (pe_lst (pa_cons pe_int pa_nil)))) pss_nil)
      (pss_one (ps_ret (pe_lst (pa_cons (pe_ifExp (pt_val (pe_call (ok_is_placing T) (hr.mono (by decide)) (by rfl) T.g_is_placing T.F_is_placing.kp T.b_is_placing .nil pass0 (pa_cons (pv 0) (pa_cons (pv 2) (pa_cons (pe_step (by decide) (pv 1)) pa_nil))))) pe_int pe_int) pa_nil))))))), ?_⟩
    simp only [Vbchaj.step] at q
    -- if not is_list_of_places(places)
    refine ⟨_, rfl, l, ns, rfl, hl, hn, fun H1 sm1 => ⟨(decide (ns.length % 2 = 0) && (decide (ns.length ≤ 2 * Vbchaj.CLIENTS) && ns.all Vbchaj.keyed)), rfl, ?_⟩⟩
    cases hls : (decide (ns.length % 2 = 0) && (decide (ns.length ≤ 2 * Vbchaj.CLIENTS) && ns.all Vbchaj.keyed)) with
    | false =>
      rw [if_pos hls] at q
      exact iteT (ret1 (hs.same sm1) (q.same sm1))
    | true =>
      rw [if_neg (by rw [hls]; simp)] at q
      refine iteF ?_
      rw [Bool.and_eq_true, Bool.and_eq_true, decide_eq_true_eq] at hls
      obtain ⟨h2, _, hkd⟩ := hls
      have ef := natPairs_flat h2 hkd
      have en := natPairs_len h2
      have q0 : Ans A.C_House H a (s, [if Vbchaj.rightPlan s (natPairs ns) = true then 1 else 0]) Q := q
      generalize natPairs ns = ps at ef en q0
      have eV : ns.map V.int = ps.flatMap fun x => [nV x.1, nV x.2] := by
        rw [ef, List.map_flatMap]
        rfl
      have e0 : ∀ c : Nat, c = 0 ∨ c = 1 → steps (c : Int) (ns.map V.int).length = (List.range ps.length).map fun k => c + 2 * k := fun c hc => by
        rw [List.length_map, ← en]
        exact steps_eq c _ hc
      obtain ⟨pk0, pk1⟩ := picks_two (fun x : Nat × Nat => nV x.1) (fun x => nV x.2) ps
      have eP0 : picks (steps 0 (ns.map V.int).length) (ns.map V.int) = (ps.map fun x => x.1).map nV := by
        have := e0 0 (.inl rfl)
        rw [show ((0 : Nat) : Int) = 0 from rfl] at this
        rw [this, eV, pk0, List.map_map]
        rfl
      have eP1 : picks (steps 1 (ns.map V.int).length) (ns.map V.int) = (ps.map fun x => x.2).map nV := by
        have := e0 1 (.inr rfl)
        rw [show ((1 : Nat) : Int) = 1 from rfl] at this
        rw [this, eV, pk1, List.map_map]
        rfl
      have hl1 := sm1 _ _ hl
      -- clients = places[0::2]
      refine ⟨_, rfl, l, _, rfl, SqL.of hl1, fun lc hlc => ?_⟩
      rw [eP0]
      have sm2 : Same H1 (upd H1 lc (.lst ((ps.map fun x => x.1).map nV))) := same_new hlc
      have hlc2 : (upd H1 lc (.lst ((ps.map fun x => x.1).map nV))) lc = some (.lst ((ps.map fun x => x.1).map nV)) := upd_same
      generalize upd H1 lc (.lst ((ps.map fun x => x.1).map nV)) = H2 at sm2 hlc2 ⊢
      have sm02 := sm1.trans sm2
      have hs2 := hs.same sm02
      obtain ⟨G, R, O, TT, hh, ab⟩ := id hs2
      obtain ⟨dx, hob⟩ := hh.ob
      -- clients != moved_of(house, house.clients_in_order())
      refine ⟨_, rfl, _, rfl, _, rfl, a.p, dx, hF a, rfl, hob, hF_no a (by decide +kernel) (by decide +kernel) (by decide +kernel), ?_⟩
      refine ⟨a, R, O, TT, s, rfl, hh, G, ab.ord, fun H3 lo sm3 hlo0 hlo => ?_⟩
      refine ⟨a, s, lo, Vbchaj.keysOf s.clients, rfl, hs2.same sm3, hlo, G.cnd, fun x hx => hx, fun H4 lm sm4 hlm0 hlm => ?_⟩
      have sm24 := sm3.trans sm4
      have sm04 := sm02.trans sm24
      have hlc4 := sm24 _ _ hlc2
      have hs4 := hs.same sm04
      refine ⟨dN _, dN _, dp_nats (SqL.of hlc4), dp_nats (SqL.of hlm), shaped_nats _, shaped_nats _, _, rfl, ?_⟩
      rw [eqv_nats]
      have ekm : movedK (Vbchaj.roomOf s.members) (tkOf s.clients) (Vbchaj.keysOf s.clients) = Vbchaj.keysOf (Vbchaj.movedOf s.members s.clients) := (keys_movedOf G.env).symm
      rw [ekm]
      by_cases hkey : (ps.map fun x => x.1) = Vbchaj.keysOf (Vbchaj.movedOf s.members s.clients)
      · rw [decide_eq_true hkey]
        refine iteF ?_
        have hri := right_iff G ps hkey
        -- [1 if is_placing(house, clients, places[1::2]) else 0]
        have hl4 := sm04 _ _ hl
        refine ⟨_, rfl, _, rfl, _, rfl, l, _, rfl, SqL.of hl4, fun lp hlp => ?_⟩
        rw [eP1]
        have sm5 : Same H4 (upd H4 lp (.lst ((ps.map fun x => x.2).map nV))) := same_new hlp
        have hlp5 : (upd H4 lp (.lst ((ps.map fun x => x.2).map nV))) lp = some (.lst ((ps.map fun x => x.2).map nV)) := upd_same
        generalize upd H4 lp (.lst ((ps.map fun x => x.2).map nV)) = H5 at sm5 hlp5 ⊢
        have sm05 := sm04.trans sm5
        refine ⟨a, s, lc, lp, _, _, rfl, hs.same sm05, sm5 _ _ hlc4, hlp5, (by simp), (by rw [List.length_map]; omega), fun x hx => ?_, fun H6 sm6 => ⟨_, rfl, ?_⟩⟩
        · rw [hkey] at hx
          exact ((movedOf_sub s.members s.clients).map _).subset hx
        · have sm06 := sm05.trans sm6
          have hs6 := hs.same sm06
          have epb : placB s (ps.map fun x => x.1) (ps.map fun x => x.2) = Vbchaj.rightPlan s ps := hri.symm
          rw [epb]
          cases hrp : Vbchaj.rightPlan s ps with
          | true =>
            rw [hrp] at q0
            exact iteT (ret1 (σ := []) hs6 (q0.same sm06))
          | false =>
            rw [hrp] at q0
            exact iteF (ret1 (σ := []) hs6 (q0.same sm06))
      · rw [decide_eq_false hkey]
        refine iteT ?_
        rw [right_no ps hkey] at q0
        exact ret1 hs4 (q0.same sm04)
end CW

end

section
namespace CW
open PySem PySem.Spec PyProof.Rows L2 CM
variable {P : Program} {w : World} {K : PySem.W.Frag} {mg : Str → Option Value} {base : Heap} {A : Adr}
/-! ### members, clients -/
theorem len_flat {α : Type} (f : α → List Nat) (n : Nat) : ∀ l : List α, (∀ x ∈ l, (f x).length ≤ n) → (l.flatMap f).length ≤ n * l.length
  | [], _ => by simp
  | x :: l, h => by
    have ih := len_flat f n l (fun y hy => h y (by simp [hy]))
    have h1 := h x (by simp)
    rw [List.flatMap_cons, List.length_append, List.length_cons, Nat.mul_add]
    omega
theorem take_get {α : Type} {l : List α} {i : Nat} {x : α} (h : l[i]? = some x) (f : α → List Nat) : (l.take (i + 1)).flatMap f = (l.take i).flatMap f ++ f x := by
  rw [take_snoc h, List.flatMap_append]
  simp
theorem ok_tell_members (T : Txt K mg A) : FnOk P w K mg base CX0 1 A.f_tell_members A.d_tell_members ["house"] (spTell A.C_House .members) := by
  refine T.F_tell_members.ok sc_tell_members (fun vs H Q E h => ?_) (fun cdv A' outer s H vs Q E hr h => ?_)
  · obtain ⟨a, s, rfl, _⟩ := h
    rfl
  · obtain ⟨a, s, rfl, hs, q⟩ := h
    have hu := hu_of hr
    obtain ⟨G, R, O, TT, hh, ab⟩ := id hs
    simp only [Vbchaj.step] at q
    have qn := q.newL hs
    rw [ints_nV] at qn
    have l8 := lenR8 G ab
    have lenM : R.length = s.members.length := ab.lenR
    refine ⟨_, (pss_cons (ps_set (i := 1) sc_tell_members.nd rfl (Or.inl rfl) (pe_lst (pa_cons (pe_callB call_lenD (by rfl) T.n_len PySem.boot_len (pa_cons (pe_fld (pv 0) (by rfl)) pa_nil)) pa_nil)))
      (pss_cons (ps_for PassesOwn.never rfl (pi_list (pe_callB (call_sortedDI rfl) (by rfl) T.n_sorted (by decide +kernel) (pa_cons (pe_fld (pv 0) (by rfl)) pa_nil))) (pg_name (i := 2) sc_tell_members.nd rfl (Or.inl rfl)) (pss_cons (ps_expr (pe_bm PySem.F.plainAttrs_list PySem.F.slot_list_append PySem.F.type_list_append mt_append (pv 1) (pa_cons (pv 2) pa_nil)))
      (pss_one (ps_expr (pe_bm PySem.F.plainAttrs_list PySem.F.slot_list_append PySem.F.type_list_append mt_append (pv 1) (pa_cons (pe_dget (by exact hu) (pe_fld (pv 0) (by rfl)) (pv 2) (fun _ _ => rfl)) pa_nil))))))
      (pss_one (ps_ret (pv 1))))), ?_⟩
    -- numbers = [len(house.rooms)]
    refine fld_rooms T hh rfl ⟨_, _, rfl, hh.rc, (by show 1 ≤ sizeLine; decide), fun ln hln => ?_⟩
    rw [enc_len, lenM]
    have sm1 : Same H (upd H ln (.lst [V.int (s.members.length : Nat)])) := same_new hln
    have hln1 : (upd H ln (.lst [V.int (s.members.length : Nat)])) ln = some (.lst ([s.members.length].map nV)) := upd_same
    generalize upd H ln (.lst [V.int (s.members.length : Nat)]) = H1 at sm1 hln1 ⊢
    have hh1 := hh.same sm1
    -- for member in sorted(house.rooms)
    obtain ⟨dx, hob⟩ := hh1.ob
    refine ⟨_, rfl, a.p, A.C_House, dx, _, _, rfl, hob, T.cl_House, T.a_House_rooms, hF_rooms a, a.dr, enc nV R, (keysA R).map (fun n : Nat => (n : Int)), rfl, .inl hh1.rc, enc_keys nV R, (by rw [List.length_map]; simp only [keysA, List.length_map]; omega), fun ys p hperm hsort hp0 => ?_⟩
    have pm := keysA_perm ab.mem
    rw [keysA_members] at pm
    obtain ⟨Rr, rfl, pr, so⟩ := sorted_nats hperm hsort (pm.nodup_iff.mp G.mnd)
    have eR : Rr = s.members.map fun m => m.key := rising_eq _ _ so (List.pairwise_map.mpr G.msort) (fun x => (pr.trans pm.symm).mem_iff)
    subst eR
    have sm2 : Same H1 (upd H1 p (.lst (((s.members.map fun m => m.key).map fun n : Nat => (n : Int)).map V.int))) := same_new hp0
    have hp2 : (upd H1 p (.lst (((s.members.map fun m => m.key).map fun n : Nat => (n : Int)).map V.int))) p = some (.lst ((s.members.map fun m => m.key).map nV)) := Eq.trans upd_same (by rw [List.map_map]; rfl)
    generalize upd H1 p (.lst (((s.members.map fun m => m.key).map fun n : Nat => (n : Int)).map V.int)) = H2 at sm2 hp2 ⊢
    have sm02 := sm1.trans sm2
    have npl : p ≠ ln := fun e => by rw [e, hln1] at hp0; cases hp0
    refine ⟨p, rfl, ⟨_, SqL.of hp2⟩, for_list (K := K) (a := p) (xs := (s.members.map fun m => m.key).map nV) (fun i σ H' => ∃ v2, σ = [some (.ref a.p), some (.ref ln), v2] ∧ Same H H' ∧ H' p = some (.lst ((s.members.map fun m => m.key).map nV)) ∧
        H' ln = some (.lst ((s.members.length :: (s.members.take i).flatMap fun m => [m.key, m.room]).map nV)))
      ⟨none, rfl, sm02, hp2, sm2 _ _ hln1⟩ (fun i σ H' _ ⟨_, _, _, h, _⟩ => SqL.of h) ?_ ?_⟩
    · rintro i z σ H' hz ⟨v2, rfl, sm, hp', hl⟩
      rw [List.getElem?_map, List.getElem?_map, Option.map_map, Option.map_eq_some_iff] at hz
      obtain ⟨m, hm, rfl⟩ := hz
      have hmm := List.mem_of_getElem? hm
      have hg : aget R m.key = some m.room := by
        have h1 : aget (s.members.map fun m => (m.key, m.room)) m.key = some m.room := aget_of_mem _ _ _ (by rw [keysA_members]; exact G.mnd) (List.mem_map.mpr ⟨m, hmm, rfl⟩)
        rw [aget_perm ab.mem (by rw [keysA_members]; exact G.mnd)] at h1
        exact h1
      have hh' := hh.same sm
      have lenF : ((s.members.take i).flatMap fun m => [m.key, m.room]).length ≤ 16 := by
        have h1 := len_flat (fun m : Vbchaj.Member => [m.key, m.room]) 2 (s.members.take i) (fun x _ => Nat.le_refl _)
        rw [List.length_take] at h1
        omega
      have st := take_get hm (fun m : Vbchaj.Member => [m.key, m.room])
      refine ⟨_, rfl, .inl ⟨rfl, _, SqL.of hl⟩, _, rfl, ln, _, _, rfl, rfl, hl, ?_, ?_⟩
      · rw [List.length_map, List.length_cons]
        exact small1 (by omega)
      · have hh'' : HouseAt A.C_House (upd H' ln (.lst ((s.members.length :: (s.members.take i).flatMap fun m => [m.key, m.room]).map nV ++ [V.int (m.key : Int)]))) a R O TT := by
          refine hh.same fun b o e => ?_
          rw [upd_ne (ne_of_none e hln)]
          exact sm b o e
        refine ⟨_, rfl, .inl ⟨rfl, _, SqL.of upd_same⟩, go_dget (fld_rooms T hh'' (by rfl) ?_)⟩
        refine ⟨_, rfl, a.dr, nV m.room, rfl, .inl ⟨enc nV R, kN m.key, .inl hh''.rc, rfl, (by rw [valV_enc, hg]; rfl)⟩, ?_⟩
        refine ⟨ln, _, _, rfl, rfl, upd_same, ?_, ?_⟩
        · rw [List.length_append, List.length_map, List.length_cons]
          show _ + 1 < sizeLine
          exact small1 (by omega)
        · refine ⟨_, rfl, fun b o e => ?_, ?_, ?_⟩
          · rw [upd_ne (ne_of_none e hln), upd_ne (ne_of_none e hln)]
            exact sm b o e
          · rw [upd_ne npl, upd_ne npl]
            exact hp'
          · rw [upd_same, st]
            simp [nV]
    · rintro σ H' ⟨v2, rfl, sm, hp', hl⟩
      rw [List.length_map, List.length_map, List.take_length] at hl
      exact ⟨_, rfl, qn H' ln sm hln hl⟩
theorem order_of {s : Vbchaj.State} {R O : List (Nat × Nat)} {TT : TT3} (G : Good s) (ab : Abs s R O TT) {c : Vbchaj.Client} (hc : c ∈ s.clients) : aget O c.key = some c.order := by
  have h1 : aget (s.clients.map fun c => (c.key, c.order)) c.key = some c.order := aget_of_mem _ _ _ (by rw [keysA_clients]; exact G.cnd) (List.mem_map.mpr ⟨c, hc, rfl⟩)
  rw [aget_perm ab.ord (by rw [keysA_clients]; exact G.cnd)] at h1
  exact h1
def cL (c : Vbchaj.Client) : List Nat := c.key :: c.order :: c.takers.length :: c.takers
theorem ok_tell_clients (T : Txt K mg A) : FnOk P w K mg base CX0 2 A.f_tell_clients A.d_tell_clients ["house"] (spTell A.C_House .clients) := by
  refine T.F_tell_clients.ok sc_tell_clients (fun vs H Q E h => ?_) (fun cdv A' outer s H vs Q E hr h => ?_)
  · obtain ⟨a, s, rfl, _⟩ := h
    rfl
  · obtain ⟨a, s, rfl, hs, q⟩ := h
    have hu := hu_of hr
    obtain ⟨G, R, O, TT, hh, ab⟩ := id hs
    simp only [Vbchaj.step] at q
    have qn := q.newL hs
    rw [ints_nV] at qn
    have lenC : O.length = s.clients.length := ab.lenO
    have l16 : s.clients.length ≤ 16 := G.clen
    obtain ⟨dx, hob⟩ := hh.ob
    refine ⟨_, (pss_cons (ps_set (i := 1) sc_tell_clients.nd rfl (Or.inl rfl) (pe_lst (pa_cons (pe_callB call_lenD (by rfl) T.n_len PySem.boot_len (pa_cons (pe_fld (pv 0) (by rfl)) pa_nil)) pa_nil)))
      (pss_cons (ps_for PassesOwn.never rfl (pi_list (pe_meth0 (pv 0) T.cl_House T.m_House_clients_in_order (ok_House_clients_in_order T) (hr.mono (by decide)) T.b_House_clients_in_order .nil pass0)) (pg_name (i := 2) sc_tell_clients.nd rfl (Or.inl rfl)) (pss_cons (ps_set (i := 3) sc_tell_clients.nd rfl (Or.inl rfl) (pe_dget (by exact hu) (pe_fld (pv 0) (by rfl)) (pv 2) (fun _ _ => rfl)))
      (pss_cons (ps_expr (pe_bm PySem.F.plainAttrs_list PySem.F.slot_list_extend PySem.F.type_list_extend mt_extend (pv 1) (pa_cons (pe_lst (pa_cons (pv 2) (pa_cons (pe_dget (by exact hu) (pe_fld (pv 0) (by rfl)) (pv 2) (fun _ _ => rfl)) (pa_cons (pe_callB call_len_seq (by rfl) T.n_len PySem.boot_len (pa_cons (pv 3) pa_nil)) pa_nil)))) pa_nil)))
      (pss_one (ps_expr (pe_bm PySem.F.plainAttrs_list PySem.F.slot_list_extend PySem.F.type_list_extend mt_extend (pv 1) (pa_cons (pv 3) pa_nil)))))))
      (pss_one (ps_ret (pv 1))))), ?_⟩
    -- numbers = [len(house.orders)]
    refine fld_orders T hh rfl ⟨_, _, rfl, hh.oc, (by show 1 ≤ sizeLine; decide), fun ln hln => ?_⟩
    rw [enc_len, lenC]
    have sm1 : Same H (upd H ln (.lst [V.int (s.clients.length : Nat)])) := same_new hln
    have hln1 : (upd H ln (.lst [V.int (s.clients.length : Nat)])) ln = some (.lst ([s.clients.length].map nV)) := upd_same
    generalize upd H ln (.lst [V.int (s.clients.length : Nat)]) = H1 at sm1 hln1 ⊢
    have hh1 := hh.same sm1
    -- for client in house.clients_in_order()
    refine ⟨_, rfl, a.p, dx, hF a, rfl, sm1 _ _ hob, hF_no a (by decide +kernel) (by decide +kernel) (by decide +kernel), ?_⟩
    refine ⟨a, R, O, TT, s, rfl, hh1, G, ab.ord, fun H2 p sm2 hp0 hp2 => ?_⟩
    have sm02 := sm1.trans sm2
    have npl : p ≠ ln := fun e => by rw [e, hln1] at hp0; cases hp0
    refine ⟨p, rfl, ⟨_, SqL.of hp2⟩, for_list (K := K) (a := p) (xs := (Vbchaj.keysOf s.clients).map nV) (fun i σ H' => ∃ v2 v3, σ = [some (.ref a.p), some (.ref ln), v2, v3] ∧ Same H H' ∧ H' p = some (.lst ((Vbchaj.keysOf s.clients).map nV)) ∧
        H' ln = some (.lst ((s.clients.length :: (s.clients.take i).flatMap cL).map nV)))
      ⟨none, none, rfl, sm02, hp2, sm2 _ _ hln1⟩ (fun i σ H' _ ⟨_, _, _, _, h, _⟩ => SqL.of h) ?_ ?_⟩
    · rintro i z σ H' hz ⟨v2, v3, rfl, sm, hp', hl⟩
      unfold Vbchaj.keysOf at hz
      rw [List.getElem?_map, List.getElem?_map, Option.map_map, Option.map_eq_some_iff] at hz
      obtain ⟨c, hc, rfl⟩ := hz
      have hcc := List.mem_of_getElem? hc
      have hg := order_of G ab hcc
      have hh' := hh.same sm
      have hkc : c.key ∈ Vbchaj.keysOf s.clients := List.mem_map.mpr ⟨c, hcc, rfl⟩
      obtain ⟨y, hy⟩ := aget_key (ord_in ab _ hkc)
      have hyT := aget_some_mem _ _ _ hy
      have eTk : y.2 = c.takers := by rw [← tk_cl G ab hcc]; exact (tkT_of hy).symm
      have lT : ∀ d ∈ s.clients, d.takers.length ≤ 8 := fun d hd => by
        have h1 := nodup_length_le _ _ (G.ctak d hd).1 (G.ctak d hd).2
        rw [List.length_map] at h1
        exact Nat.le_trans h1 G.mlen
      have lenF : ((s.clients.take i).flatMap cL).length ≤ 11 * 16 := by
        have h1 := len_flat cL 11 (s.clients.take i) (fun x hx => by
          have := lT x (List.mem_of_mem_take hx)
          show x.takers.length + 1 + 1 + 1 ≤ 11
          omega)
        rw [List.length_take] at h1
        omega
      have st := take_get hc cL
      have big : ∀ n : Nat, n ≤ 1000 → n < sizeLine := fun n h => Nat.lt_of_le_of_lt h (by decide)
      have hyl := hh.tl _ hyT
      have nyl : y.1 ≠ ln := ne_of_none hyl hln
      -- takers = house.takers[client]
      refine go_seq (go_asg (go_dget (fld_takers T hh' (by rfl) ?_)))
      refine ⟨_, rfl, a.dt, .ref y.1, rfl, .inl ⟨enc tV TT, kN c.key, .inl hh'.tc, rfl, (by rw [valV_enc, hy]; rfl)⟩, ?_⟩
      -- numbers.extend([client, house.orders[client], len(takers)])
      refine ⟨_, rfl, .inl ⟨rfl, _, SqL.of hl⟩, _, rfl, go_dget (fld_orders T hh' (by rfl) ?_)⟩
      refine ⟨_, rfl, a.dO, nV c.order, rfl, .inl ⟨enc nV O, kN c.key, .inl hh'.oc, rfl, (by rw [valV_enc, hg]; rfl)⟩, ?_⟩
      refine ⟨_, rfl, y.1, _, rfl, .inl (SqL.of (hh'.tl _ hyT)), (by show 3 ≤ sizeLine; decide), fun l3 hl3 => ?_⟩
      rw [List.length_map, eTk]
      have nl3 : ln ≠ l3 := ne_of_none hl hl3
      have hl' : (upd H' l3 (.lst [nV c.key, nV c.order, nV c.takers.length])) ln = some (.lst ((s.clients.length :: (s.clients.take i).flatMap cL).map nV)) := by
        rw [upd_ne nl3]
        exact hl
      refine ⟨ln, l3, _, _, rfl, rfl, hl', upd_same, ?_, ?_⟩
      · rw [List.length_map, List.length_cons]
        show _ + 3 ≤ sizeLine
        exact Nat.le_of_lt (big _ (by omega))
      · have sm5 : Same H (upd (upd H' l3 (.lst [nV c.key, nV c.order, nV c.takers.length])) ln (.lst ((s.clients.length :: (s.clients.take i).flatMap cL).map nV ++ [nV c.key, nV c.order, nV c.takers.length]))) := fun b o e => by
          rw [upd_ne (ne_of_none e hln), upd_ne (ne_of_none (sm b o e) hl3)]
          exact sm b o e
        have hp5 : (upd (upd H' l3 (.lst [nV c.key, nV c.order, nV c.takers.length])) ln (.lst ((s.clients.length :: (s.clients.take i).flatMap cL).map nV ++ [nV c.key, nV c.order, nV c.takers.length]))) p = some (.lst ((Vbchaj.keysOf s.clients).map nV)) := by
          rw [upd_ne npl, upd_ne (ne_of_none hp' hl3)]
          exact hp'
        have hl5 : (upd (upd H' l3 (.lst [nV c.key, nV c.order, nV c.takers.length])) ln (.lst ((s.clients.length :: (s.clients.take i).flatMap cL).map nV ++ [nV c.key, nV c.order, nV c.takers.length]))) ln = some (.lst ((s.clients.length :: (s.clients.take i).flatMap cL).map nV ++ [nV c.key, nV c.order, nV c.takers.length])) := upd_same
        have hg5 : ∀ H5 : Hp, Same H H5 → H5 y.1 = some (.lst (c.takers.map nV)) := fun H5 s5 => by
          rw [← eTk]
          exact s5 _ _ hyl
        -- numbers.extend(takers)
        refine ⟨_, rfl, .inl ⟨rfl, _, SqL.of hl5⟩, _, rfl, ln, y.1, _, _, rfl, rfl, hl5, hg5 _ sm5, ?_, ?_⟩
        · have h8 := lT c hcc
          rw [List.length_append, List.length_map, List.length_map, List.length_cons]
          show _ + 3 + _ ≤ sizeLine
          exact Nat.le_of_lt (big _ (by omega))
        · refine ⟨_, _, rfl, fun b o e => ?_, ?_, ?_⟩
          · rw [upd_ne (ne_of_none e hln)]
            exact sm5 b o e
          · rw [upd_ne npl]
            exact hp5
          · rw [upd_same, st]
            show some (HO.lst _) = some (HO.lst _)
            congr 2
            unfold cL
            simp [nV]
    · rintro σ H' ⟨v2, v3, rfl, sm, hp', hl⟩
      rw [List.length_map, show (Vbchaj.keysOf s.clients).length = s.clients.length by simp [Vbchaj.keysOf], List.take_length] at hl
      exact ⟨_, rfl, qn H' ln sm hln hl⟩
end CW

end

section
namespace CW
open PySem PySem.Spec PyProof.Rows L2 CM
variable {P : Program} {w : World} {K : PySem.W.Frag} {mg : Str → Option Value} {base : Heap} {A : Adr}
/-- one call, as answers hands it on -/
def spDoR (C : Addr) (p : Nat → Prop) : Sp := fun vs H Q _ => ∃ (a : HA) (s : Vbchaj.State) (q : Nat) (ln ll : Addr) (nums lst : List Int) (c : List (List Int)), vs = [.ref a.p, nV q, .ref ln, .ref ll] ∧ p q ∧ HS C s H a ∧ H ln = some (.lst (nums.map V.int)) ∧ H ll = some (.lst (lst.map V.int)) ∧ ll ≠ a.z ∧
  q < 22 ∧ shapeN[q]? = some nums.length ∧ VbchajNeutral.asked1 c = true ∧ ((q ∉ shapeL ∧ c = [(q : Int) :: nums]) ∨ (q ∈ shapeL ∧ c = [(q : Int) :: nums, lst])) ∧ Ans C H a (VbchajNeutral.step s c) Q
theorem nums0 {l : List Int} {n : Nat} (h : some n = some l.length) (e : n = 0) : l = [] := List.eq_nil_of_length_eq_zero (by rw [← Option.some.inj h, e])
theorem nums1 {l : List Int} {n : Nat} (h : some n = some l.length) (e : n = 1) : ∃ x, l = [x] := by
  have h2 : l.length = 1 := by rw [← Option.some.inj h, e]
  exact List.length_eq_one_iff.mp h2
theorem nums2 {l : List Int} {n : Nat} (h : some n = some l.length) (e : n = 2) : ∃ x y, l = [x, y] := by
  have h2 : l.length = 2 := by rw [← Option.some.inj h, e]
  match l, h2 with
  | [x, y], _ => exact ⟨x, y, rfl⟩
theorem and_len {b : Bool} {l : List Int} (h : (b && decide (l.length ≤ 40)) = true) : l.length ≤ 40 := by
  rw [Bool.and_eq_true, decide_eq_true_eq] at h
  exact h.2
theorem only {q : Nat} {c x y : List (List Int)} (h : (q ∉ shapeL ∧ c = x) ∨ (q ∈ shapeL ∧ c = y)) : (q ∉ shapeL → c = x) ∧ (q ∈ shapeL → c = y) := by
  rcases h with ⟨h1, h2⟩ | ⟨h1, h2⟩
  · exact ⟨fun _ => h2, fun z => absurd z h1⟩
  · exact ⟨fun z => absurd h1 z, fun _ => h2⟩
theorem ok_change (T : Txt K mg A) : FnOk P w K mg base CX0 7 A.f_change A.d_change ["house", "call", "numbers", "listed"] (spDoR A.C_House (fun q => q ≤ 7)) := by
  refine T.F_change.ok sc_change (fun vs H Q E h => ?_) (fun cdv A' outer s H vs Q E hr h => ?_)
  · obtain ⟨a, s, q, ln, ll, nums, lst, c, rfl, _⟩ := h
    rfl
  · obtain ⟨a, s, q, ln, ll, nums, lst, c, rfl, hp, hs, hln, hll, hlz, h22, hsh, hask, hc, qq⟩ := h
    have hu := hu_of hr
    refine ⟨_, (pss_cons (ps_if (pt_cmpR op_eq (pv 1) (pe_const (by rfl) T.c_MEMBER) (nomark _)) (pss_one (ps_ret (pe_call (ok_add_member T) (hr.mono (by decide)) (by rfl) T.g_add_member T.F_add_member.kp T.b_add_member .nil pass0 (pa_cons (pv 0) (pa_cons (pe_ix ix_list (pv 2) pe_int (fun _ _ => rfl)) (pa_cons (pe_ix ix_list (pv 2) pe_int (fun _ _ => rfl)) pa_nil)))))) pss_nil)
      (pss_cons (ps_if (pt_cmpR op_eq (pv 1) (pe_const (by rfl) T.c_CLIENT) (nomark _)) (pss_one (ps_ret (pe_call (ok_add_client T) (hr.mono (by decide)) (by rfl) T.g_add_client T.F_add_client.kp T.b_add_client .nil pass0 (pa_cons (pv 0) (pa_cons (pe_ix ix_list (pv 2) pe_int (fun _ _ => rfl)) (pa_cons (pe_ix ix_list (pv 2) pe_int (fun _ _ => rfl)) (pa_cons (pv 3) pa_nil))))))) pss_nil)
      (pss_cons (ps_if (pt_cmpR op_eq (pv 1) (pe_const (by rfl) T.c_GONE) (nomark _)) (pss_one (ps_ret (pe_call (ok_end_member T) (hr.mono (by decide)) (by rfl) T.g_end_member T.F_end_member.kp T.b_end_member .nil pass0 (pa_cons (pv 0) (pa_cons (pe_ix ix_list (pv 2) pe_int (fun _ _ => rfl)) pa_nil))))) pss_nil)
      (pss_cons (ps_if (pt_cmpR op_eq (pv 1) (pe_const (by rfl) T.c_DROP) (nomark _)) (pss_one (ps_ret (pe_call (ok_drop_client T) (hr.mono (by decide)) (by rfl) T.g_drop_client T.F_drop_client.kp T.b_drop_client .nil pass0 (pa_cons (pv 0) (pa_cons (pe_ix ix_list (pv 2) pe_int (fun _ _ => rfl)) pa_nil))))) pss_nil)
      (pss_cons (ps_if (pt_cmpR op_eq (pv 1) (pe_const (by rfl) T.c_ROOM) (nomark _)) (pss_one (ps_ret (pe_call (ok_change_room T) (hr.mono (by decide)) (by rfl) T.g_change_room T.F_change_room.kp T.b_change_room .nil pass0 (pa_cons (pv 0) (pa_cons (pe_ix ix_list (pv 2) pe_int (fun _ _ => rfl)) (pa_cons (pe_ix ix_list (pv 2) pe_int (fun _ _ => rfl)) pa_nil)))))) pss_nil)
      (pss_cons (ps_if (pt_cmpR op_eq (pv 1) (pe_const (by rfl) T.c_ORDER) (nomark _)) (pss_one (ps_ret (pe_call (ok_change_order T) (hr.mono (by decide)) (by rfl) T.g_change_order T.F_change_order.kp T.b_change_order .nil pass0 (pa_cons (pv 0) (pa_cons (pe_ix ix_list (pv 2) pe_int (fun _ _ => rfl)) (pa_cons (pe_ix ix_list (pv 2) pe_int (fun _ _ => rfl)) pa_nil)))))) pss_nil)
      (pss_cons (ps_if (pt_cmpR op_eq (pv 1) (pe_const (by rfl) T.c_TAKERS) (nomark _)) (pss_one (ps_ret (pe_call (ok_change_takers T) (hr.mono (by decide)) (by rfl) T.g_change_takers T.F_change_takers.kp T.b_change_takers .nil pass0 (pa_cons (pv 0) (pa_cons (pe_ix ix_list (pv 2) pe_int (fun _ _ => rfl)) (pa_cons (pv 3) pa_nil)))))) pss_nil)
      (pss_one (ps_ret (pe_call (ok_move_clients T) (hr.mono (by decide)) (by rfl) T.g_move_clients T.F_move_clients.kp T.b_move_clients .nil pass0 (pa_cons (pv 0) pa_nil))))))))))), ?_⟩
    refine ⟨_, rfl, rfl, _, rfl, ?_⟩
    have e0 : decide (nV q = V.int 0) = decide (q = 0) := nV_dec q 0
    rw [e0]
    by_cases h0 : q = 0
    · rw [decide_eq_true h0]
      refine iteT ?_
      subst h0
      obtain ⟨x, y, rfl⟩ := nums2 hsh rfl
      obtain rfl := (only hc).1 (by decide)
      exact ⟨_, rfl, _, rfl, ln, _, 0, .int x, rfl, rfl, SqL.of hln, atI_nat (j := 0) rfl, _, rfl, ln, _, 1, .int y, rfl, rfl, SqL.of hln, atI_nat (j := 1) rfl, a, s, x, y, rfl, hs, qq⟩
    rw [decide_eq_false h0]
    refine iteF ?_
    refine ⟨_, rfl, rfl, _, rfl, ?_⟩
    have e1 : decide (nV q = V.int 1) = decide (q = 1) := nV_dec q 1
    rw [e1]
    by_cases h1 : q = 1
    · rw [decide_eq_true h1]
      refine iteT ?_
      subst h1
      obtain ⟨x, y, rfl⟩ := nums2 hsh rfl
      obtain rfl := (only hc).2 (by decide)
      have h40 : lst.length ≤ 40 := and_len hask
      exact ⟨_, rfl, _, rfl, ln, _, 0, .int x, rfl, rfl, SqL.of hln, atI_nat (j := 0) rfl, _, rfl, ln, _, 1, .int y, rfl, rfl, SqL.of hln, atI_nat (j := 1) rfl, _, rfl, a, s, x, y, ll, lst, rfl, hs, hll, hlz, h40, qq⟩
    rw [decide_eq_false h1]
    refine iteF ?_
    refine ⟨_, rfl, rfl, _, rfl, ?_⟩
    have e2 : decide (nV q = V.int 2) = decide (q = 2) := nV_dec q 2
    rw [e2]
    by_cases h2 : q = 2
    · rw [decide_eq_true h2]
      refine iteT ?_
      subst h2
      obtain ⟨x, rfl⟩ := nums1 hsh rfl
      obtain rfl := (only hc).1 (by decide)
      exact ⟨_, rfl, _, rfl, ln, _, 0, .int x, rfl, rfl, SqL.of hln, atI_nat (j := 0) rfl, a, s, x, rfl, hs, qq⟩
    rw [decide_eq_false h2]
    refine iteF ?_
    refine ⟨_, rfl, rfl, _, rfl, ?_⟩
    have e3 : decide (nV q = V.int 3) = decide (q = 3) := nV_dec q 3
    rw [e3]
    by_cases h3 : q = 3
    · rw [decide_eq_true h3]
      refine iteT ?_
      subst h3
      obtain ⟨x, rfl⟩ := nums1 hsh rfl
      obtain rfl := (only hc).1 (by decide)
      exact ⟨_, rfl, _, rfl, ln, _, 0, .int x, rfl, rfl, SqL.of hln, atI_nat (j := 0) rfl, a, s, x, rfl, hs, qq⟩
    rw [decide_eq_false h3]
    refine iteF ?_
    refine ⟨_, rfl, rfl, _, rfl, ?_⟩
    have e4 : decide (nV q = V.int 4) = decide (q = 4) := nV_dec q 4
    rw [e4]
    by_cases h4 : q = 4
    · rw [decide_eq_true h4]
      refine iteT ?_
      subst h4
      obtain ⟨x, y, rfl⟩ := nums2 hsh rfl
      obtain rfl := (only hc).1 (by decide)
      exact ⟨_, rfl, _, rfl, ln, _, 0, .int x, rfl, rfl, SqL.of hln, atI_nat (j := 0) rfl, _, rfl, ln, _, 1, .int y, rfl, rfl, SqL.of hln, atI_nat (j := 1) rfl, a, s, x, y, rfl, hs, qq⟩
    rw [decide_eq_false h4]
    refine iteF ?_
    refine ⟨_, rfl, rfl, _, rfl, ?_⟩
    have e5 : decide (nV q = V.int 5) = decide (q = 5) := nV_dec q 5
    rw [e5]
    by_cases h5 : q = 5
    · rw [decide_eq_true h5]
      refine iteT ?_
      subst h5
      obtain ⟨x, y, rfl⟩ := nums2 hsh rfl
      obtain rfl := (only hc).1 (by decide)
      exact ⟨_, rfl, _, rfl, ln, _, 0, .int x, rfl, rfl, SqL.of hln, atI_nat (j := 0) rfl, _, rfl, ln, _, 1, .int y, rfl, rfl, SqL.of hln, atI_nat (j := 1) rfl, a, s, x, y, rfl, hs, qq⟩
    rw [decide_eq_false h5]
    refine iteF ?_
    refine ⟨_, rfl, rfl, _, rfl, ?_⟩
    have e6 : decide (nV q = V.int 6) = decide (q = 6) := nV_dec q 6
    rw [e6]
    by_cases h6 : q = 6
    · rw [decide_eq_true h6]
      refine iteT ?_
      subst h6
      obtain ⟨x, rfl⟩ := nums1 hsh rfl
      obtain rfl := (only hc).2 (by decide)
      have h40 : lst.length ≤ 40 := and_len hask
      exact ⟨_, rfl, _, rfl, ln, _, 0, .int x, rfl, rfl, SqL.of hln, atI_nat (j := 0) rfl, _, rfl, a, s, x, ll, lst, rfl, hs, hll, hlz, h40, qq⟩
    rw [decide_eq_false h6]
    refine iteF ?_
    obtain rfl : q = 7 := by omega
    obtain rfl := nums0 hsh rfl
    obtain rfl := (only hc).1 (by decide)
    exact ⟨_, rfl, a, s, rfl, hs, qq⟩
theorem ok_tell (T : Txt K mg A) : FnOk P w K mg base CX0 8 A.f_tell A.d_tell ["house", "call", "numbers", "listed"] (spDoR A.C_House (fun q => 8 ≤ q ∧ q ≤ 10 ∨ 18 ≤ q)) := by
  refine T.F_tell.ok sc_tell (fun vs H Q E h => ?_) (fun cdv A' outer s H vs Q E hr h => ?_)
  · obtain ⟨a, s, q, ln, ll, nums, lst, c, rfl, _⟩ := h
    rfl
  · obtain ⟨a, s, q, ln, ll, nums, lst, c, rfl, hp, hs, hln, hll, hlz, h22, hsh, hask, hc, qq⟩ := h
    have hu := hu_of hr
    refine ⟨_, (pss_cons (ps_if (pt_cmpR op_eq (pv 1) (pe_const (by rfl) T.c_MOVED) (nomark _)) (pss_one (ps_ret (pe_call (ok_tell_moved T) (hr.mono (by decide)) (by rfl) T.g_tell_moved T.F_tell_moved.kp T.b_tell_moved .nil pass0 (pa_cons (pv 0) pa_nil)))) pss_nil)
      (pss_cons (ps_if (pt_cmpR op_eq (pv 1) (pe_const (by rfl) T.c_LEFT) (nomark _)) (pss_one (ps_ret (pe_call (ok_tell_left T) (hr.mono (by decide)) (by rfl) T.g_tell_left T.F_tell_left.kp T.b_tell_left .nil pass0 (pa_cons (pv 0) pa_nil)))) pss_nil)
      (pss_cons (ps_if (pt_cmpR op_eq (pv 1) (pe_const (by rfl) T.c_WHERE) (nomark _)) (pss_one (ps_ret (pe_call (ok_tell_where T) (hr.mono (by decide)) (by rfl) T.g_tell_where T.F_tell_where.kp T.b_tell_where .nil pass0 (pa_cons (pv 0) (pa_cons (pe_ix ix_list (pv 2) pe_int (fun _ _ => rfl)) pa_nil))))) pss_nil)
      (pss_cons (ps_if (pt_cmpR op_eq (pv 1) (pe_const (by rfl) T.c_MAY) (nomark _)) (pss_one (ps_ret (pe_call (ok_tell_may T) (hr.mono (by decide)) (by rfl) T.g_tell_may T.F_tell_may.kp T.b_tell_may .nil pass0 (pa_cons (pv 0) (pa_cons (pe_ix ix_list (pv 2) pe_int (fun _ _ => rfl)) (pa_cons (pe_ix ix_list (pv 2) pe_int (fun _ _ => rfl)) pa_nil)))))) pss_nil)
      (pss_cons (ps_if (pt_cmpR op_eq (pv 1) (pe_const (by rfl) T.c_ISPLAN) (nomark _)) (pss_one (ps_ret (pe_call (ok_tell_isplan T) (hr.mono (by decide)) (by rfl) T.g_tell_isplan T.F_tell_isplan.kp T.b_tell_isplan .nil pass0 (pa_cons (pv 0) (pa_cons (pv 3) pa_nil))))) pss_nil)
      (pss_cons (ps_if (pt_cmpR op_eq (pv 1) (pe_const (by rfl) T.c_MEMBERS) (nomark _)) (pss_one (ps_ret (pe_call (ok_tell_members T) (hr.mono (by decide)) (by rfl) T.g_tell_members T.F_tell_members.kp T.b_tell_members .nil pass0 (pa_cons (pv 0) pa_nil)))) pss_nil)
      (pss_one (ps_ret (pe_call (ok_tell_clients T) (hr.mono (by decide)) (by rfl) T.g_tell_clients T.F_tell_clients.kp T.b_tell_clients .nil pass0 (pa_cons (pv 0) pa_nil)))))))))), ?_⟩
    refine ⟨_, rfl, rfl, _, rfl, ?_⟩
    have e8 : decide (nV q = V.int 8) = decide (q = 8) := nV_dec q 8
    rw [e8]
    by_cases h8 : q = 8
    · rw [decide_eq_true h8]
      refine iteT ?_
      subst h8
      obtain rfl := nums0 hsh rfl
      obtain rfl := (only hc).1 (by decide)
      exact ⟨_, rfl, a, s, rfl, hs, qq⟩
    rw [decide_eq_false h8]
    refine iteF ?_
    refine ⟨_, rfl, rfl, _, rfl, ?_⟩
    have e9 : decide (nV q = V.int 9) = decide (q = 9) := nV_dec q 9
    rw [e9]
    by_cases h9 : q = 9
    · rw [decide_eq_true h9]
      refine iteT ?_
      subst h9
      obtain rfl := nums0 hsh rfl
      obtain rfl := (only hc).1 (by decide)
      exact ⟨_, rfl, a, s, rfl, hs, qq⟩
    rw [decide_eq_false h9]
    refine iteF ?_
    refine ⟨_, rfl, rfl, _, rfl, ?_⟩
    have e10 : decide (nV q = V.int 10) = decide (q = 10) := nV_dec q 10
    rw [e10]
    by_cases h10 : q = 10
    · rw [decide_eq_true h10]
      refine iteT ?_
      subst h10
      obtain ⟨x, rfl⟩ := nums1 hsh rfl
      obtain rfl := (only hc).1 (by decide)
      exact ⟨_, rfl, _, rfl, ln, _, 0, .int x, rfl, rfl, SqL.of hln, atI_nat (j := 0) rfl, a, s, x, rfl, hs, qq⟩
    rw [decide_eq_false h10]
    refine iteF ?_
    refine ⟨_, rfl, rfl, _, rfl, ?_⟩
    have e18 : decide (nV q = V.int 18) = decide (q = 18) := nV_dec q 18
    rw [e18]
    by_cases h18 : q = 18
    · rw [decide_eq_true h18]
      refine iteT ?_
      subst h18
      obtain ⟨x, y, rfl⟩ := nums2 hsh rfl
      obtain rfl := (only hc).1 (by decide)
      exact ⟨_, rfl, _, rfl, ln, _, 0, .int x, rfl, rfl, SqL.of hln, atI_nat (j := 0) rfl, _, rfl, ln, _, 1, .int y, rfl, rfl, SqL.of hln, atI_nat (j := 1) rfl, a, s, x, y, rfl, hs, qq⟩
    rw [decide_eq_false h18]
    refine iteF ?_
    refine ⟨_, rfl, rfl, _, rfl, ?_⟩
    have e19 : decide (nV q = V.int 19) = decide (q = 19) := nV_dec q 19
    rw [e19]
    by_cases h19 : q = 19
    · rw [decide_eq_true h19]
      refine iteT ?_
      subst h19
      obtain rfl := nums0 hsh rfl
      obtain rfl := (only hc).2 (by decide)
      have h40 : lst.length ≤ 40 := and_len hask
      exact ⟨_, rfl, _, rfl, a, s, ll, lst, rfl, hs, hll, h40, qq⟩
    rw [decide_eq_false h19]
    refine iteF ?_
    refine ⟨_, rfl, rfl, _, rfl, ?_⟩
    have e20 : decide (nV q = V.int 20) = decide (q = 20) := nV_dec q 20
    rw [e20]
    by_cases h20 : q = 20
    · rw [decide_eq_true h20]
      refine iteT ?_
      subst h20
      obtain rfl := nums0 hsh rfl
      obtain rfl := (only hc).1 (by decide)
      exact ⟨_, rfl, a, s, rfl, hs, qq⟩
    rw [decide_eq_false h20]
    refine iteF ?_
    obtain rfl : q = 21 := by omega
    obtain rfl := nums0 hsh rfl
    obtain rfl := (only hc).1 (by decide)
    exact ⟨_, rfl, a, s, rfl, hs, qq⟩
theorem ok_tell_reasons (T : Txt K mg A) : FnOk P w K mg base CX0 8 A.f_tell_reasons A.d_tell_reasons ["house", "call", "numbers", "listed"] (spDoR A.C_House (fun q => 11 ≤ q ∧ q ≤ 17)) := by
  refine T.F_tell_reasons.ok sc_tell_reasons (fun vs H Q E h => ?_) (fun cdv A' outer s H vs Q E hr h => ?_)
  · obtain ⟨a, s, q, ln, ll, nums, lst, c, rfl, _⟩ := h
    rfl
  · obtain ⟨a, s, q, ln, ll, nums, lst, c, rfl, hp, hs, hln, hll, hlz, h22, hsh, hask, hc, qq⟩ := h
    have hu := hu_of hr
    refine ⟨_, (pss_cons (ps_if (pt_cmpR op_eq (pv 1) (pe_const (by rfl) T.c_WHY) (nomark _)) (pss_one (ps_ret (pe_call (ok_tell_why T) (hr.mono (by decide)) (by rfl) T.g_tell_why T.F_tell_why.kp T.b_tell_why .nil pass0 (pa_cons (pv 0) (pa_cons (pe_ix ix_list (pv 2) pe_int (fun _ _ => rfl)) pa_nil))))) pss_nil)
      (pss_cons (ps_if (pt_cmpR op_eq (pv 1) (pe_const (by rfl) T.c_CHECK) (nomark _)) (pss_one (ps_ret (pe_call (ok_tell_check T) (hr.mono (by decide)) (by rfl) T.g_tell_check T.F_tell_check.kp T.b_tell_check .nil pass0 (pa_cons (pv 0) (pa_cons (pe_ix ix_list (pv 2) pe_int (fun _ _ => rfl)) (pa_cons (pv 3) pa_nil)))))) pss_nil)
      (pss_cons (ps_if (pt_cmpR op_eq (pv 1) (pe_const (by rfl) T.c_BOUND) (nomark _)) (pss_one (ps_ret (pe_call (ok_tell_bound T) (hr.mono (by decide)) (by rfl) T.g_tell_bound T.F_tell_bound.kp T.b_tell_bound .nil pass0 (pa_cons (pv 0) (pa_cons (pv 3) pa_nil))))) pss_nil)
      (pss_cons (ps_if (pt_cmpR op_eq (pv 1) (pe_const (by rfl) T.c_COVER) (nomark _)) (pss_one (ps_ret (pe_call (ok_tell_cover T) (hr.mono (by decide)) (by rfl) T.g_tell_cover T.F_tell_cover.kp T.b_tell_cover .nil pass0 (pa_cons (pv 0) pa_nil)))) pss_nil)
      (pss_cons (ps_if (pt_cmpR op_eq (pv 1) (pe_const (by rfl) T.c_WITHOUT) (nomark _)) (pss_one (ps_ret (pe_call (ok_tell_without T) (hr.mono (by decide)) (by rfl) T.g_tell_without T.F_tell_without.kp T.b_tell_without .nil pass0 (pa_cons (pv 0) (pa_cons (pe_ix ix_list (pv 2) pe_int (fun _ _ => rfl)) pa_nil))))) pss_nil)
      (pss_cons (ps_if (pt_cmpR op_eq (pv 1) (pe_const (by rfl) T.c_ROOMIER) (nomark _)) (pss_one (ps_ret (pe_call (ok_tell_roomier T) (hr.mono (by decide)) (by rfl) T.g_tell_roomier T.F_tell_roomier.kp T.b_tell_roomier .nil pass0 (pa_cons (pv 0) (pa_cons (pe_ix ix_list (pv 2) pe_int (fun _ _ => rfl)) pa_nil))))) pss_nil)
      (pss_one (ps_ret (pe_call (ok_tell_first T) (hr.mono (by decide)) (by rfl) T.g_tell_first T.F_tell_first.kp T.b_tell_first .nil pass0 (pa_cons (pv 0) (pa_cons (pe_ix ix_list (pv 2) pe_int (fun _ _ => rfl)) pa_nil))))))))))), ?_⟩
    refine ⟨_, rfl, rfl, _, rfl, ?_⟩
    have e11 : decide (nV q = V.int 11) = decide (q = 11) := nV_dec q 11
    rw [e11]
    by_cases h11 : q = 11
    · rw [decide_eq_true h11]
      refine iteT ?_
      subst h11
      obtain ⟨x, rfl⟩ := nums1 hsh rfl
      obtain rfl := (only hc).1 (by decide)
      exact ⟨_, rfl, _, rfl, ln, _, 0, .int x, rfl, rfl, SqL.of hln, atI_nat (j := 0) rfl, a, s, x, rfl, hs, qq⟩
    rw [decide_eq_false h11]
    refine iteF ?_
    refine ⟨_, rfl, rfl, _, rfl, ?_⟩
    have e12 : decide (nV q = V.int 12) = decide (q = 12) := nV_dec q 12
    rw [e12]
    by_cases h12 : q = 12
    · rw [decide_eq_true h12]
      refine iteT ?_
      subst h12
      obtain ⟨x, rfl⟩ := nums1 hsh rfl
      obtain rfl := (only hc).2 (by decide)
      have h40 : lst.length ≤ 40 := and_len hask
      exact ⟨_, rfl, _, rfl, ln, _, 0, .int x, rfl, rfl, SqL.of hln, atI_nat (j := 0) rfl, _, rfl, a, s, x, ll, lst, rfl, hs, hll, h40, qq⟩
    rw [decide_eq_false h12]
    refine iteF ?_
    refine ⟨_, rfl, rfl, _, rfl, ?_⟩
    have e13 : decide (nV q = V.int 13) = decide (q = 13) := nV_dec q 13
    rw [e13]
    by_cases h13 : q = 13
    · rw [decide_eq_true h13]
      refine iteT ?_
      subst h13
      obtain rfl := nums0 hsh rfl
      obtain rfl := (only hc).2 (by decide)
      have h40 : lst.length ≤ 40 := and_len hask
      exact ⟨_, rfl, _, rfl, a, s, ll, lst, rfl, hs, hll, h40, qq⟩
    rw [decide_eq_false h13]
    refine iteF ?_
    refine ⟨_, rfl, rfl, _, rfl, ?_⟩
    have e14 : decide (nV q = V.int 14) = decide (q = 14) := nV_dec q 14
    rw [e14]
    by_cases h14 : q = 14
    · rw [decide_eq_true h14]
      refine iteT ?_
      subst h14
      obtain rfl := nums0 hsh rfl
      obtain rfl := (only hc).1 (by decide)
      exact ⟨_, rfl, a, s, rfl, hs, qq⟩
    rw [decide_eq_false h14]
    refine iteF ?_
    refine ⟨_, rfl, rfl, _, rfl, ?_⟩
    have e15 : decide (nV q = V.int 15) = decide (q = 15) := nV_dec q 15
    rw [e15]
    by_cases h15 : q = 15
    · rw [decide_eq_true h15]
      refine iteT ?_
      subst h15
      obtain ⟨x, rfl⟩ := nums1 hsh rfl
      obtain rfl := (only hc).1 (by decide)
      exact ⟨_, rfl, _, rfl, ln, _, 0, .int x, rfl, rfl, SqL.of hln, atI_nat (j := 0) rfl, a, s, x, rfl, hs, qq⟩
    rw [decide_eq_false h15]
    refine iteF ?_
    refine ⟨_, rfl, rfl, _, rfl, ?_⟩
    have e16 : decide (nV q = V.int 16) = decide (q = 16) := nV_dec q 16
    rw [e16]
    by_cases h16 : q = 16
    · rw [decide_eq_true h16]
      refine iteT ?_
      subst h16
      obtain ⟨x, rfl⟩ := nums1 hsh rfl
      obtain rfl := (only hc).1 (by decide)
      exact ⟨_, rfl, _, rfl, ln, _, 0, .int x, rfl, rfl, SqL.of hln, atI_nat (j := 0) rfl, a, s, x, rfl, hs, qq⟩
    rw [decide_eq_false h16]
    refine iteF ?_
    obtain rfl : q = 17 := by omega
    obtain ⟨x, rfl⟩ := nums1 hsh rfl
    obtain rfl := (only hc).1 (by decide)
    exact ⟨_, rfl, _, rfl, ln, _, 0, .int x, rfl, rfl, SqL.of hln, atI_nat (j := 0) rfl, a, s, x, rfl, hs, qq⟩
theorem ok_answer_to (T : Txt K mg A) : FnOk P w K mg base CX0 9 A.f_answer_to A.d_answer_to ["house", "call", "numbers", "listed"] (spDoR A.C_House (fun _ => True)) := by
  refine T.F_answer_to.ok sc_answer_to (fun vs H Q E h => ?_) (fun cdv A' outer s H vs Q E hr h => ?_)
  · obtain ⟨a, s, q, ln, ll, nums, lst, c, rfl, _⟩ := h
    rfl
  · obtain ⟨a, s, q, ln, ll, nums, lst, c, rfl, hp, hs, hln, hll, hlz, h22, hsh, hask, hc, qq⟩ := h
    have hu := hu_of hr
    refine ⟨_, (pss_cons (ps_if (pt_cmpR op_le (pv 1) (pe_const (by rfl) T.c_MOVE) (nomark _)) (pss_one (ps_ret (pe_call (ok_change T) (hr.mono (by decide)) (by rfl) T.g_change T.F_change.kp T.b_change .nil pass0 (pa_cons (pv 0) (pa_cons (pv 1) (pa_cons (pv 2) (pa_cons (pv 3) pa_nil))))))) pss_nil)
      (pss_cons (ps_if (pt_chain op_le op_le (pe_const (by rfl) T.c_WHY) (pv 1) (pe_const (by rfl) T.c_FIRST)) (pss_one (ps_ret (pe_call (ok_tell_reasons T) (hr.mono (by decide)) (by rfl) T.g_tell_reasons T.F_tell_reasons.kp T.b_tell_reasons .nil pass0 (pa_cons (pv 0) (pa_cons (pv 1) (pa_cons (pv 2) (pa_cons (pv 3) pa_nil))))))) pss_nil)
      (pss_one (ps_ret (pe_call (ok_tell T) (hr.mono (by decide)) (by rfl) T.g_tell T.F_tell.kp T.b_tell .nil pass0 (pa_cons (pv 0) (pa_cons (pv 1) (pa_cons (pv 2) (pa_cons (pv 3) pa_nil))))))))), ?_⟩
    refine go_if (go_test ⟨_, rfl, _, _, rfl, rfl, _, rfl, ?_⟩)
    by_cases h7 : q ≤ 7
    · rw [decide_eq_true (show (q : Int) ≤ 7 by omega)]
      exact iteT ⟨_, rfl, _, rfl, _, rfl, _, rfl, a, s, q, ln, ll, nums, lst, c, rfl, h7, hs, hln, hll, hlz, h22, hsh, hask, hc, qq⟩
    · rw [decide_eq_false (show ¬ (q : Int) ≤ 7 by omega)]
      refine iteF ?_
      refine ⟨_, rfl, _, _, rfl, rfl, _, rfl, ?_⟩
      have rest : ¬ (11 ≤ q ∧ q ≤ 17) → 8 ≤ q ∧ q ≤ 10 ∨ 18 ≤ q := fun h => by omega
      by_cases h11 : 11 ≤ q
      · rw [decide_eq_true (show (11 : Int) ≤ (q : Int) by omega)]
        refine iteT ⟨_, _, rfl, rfl, _, rfl, ?_⟩
        by_cases h17 : q ≤ 17
        · rw [decide_eq_true (show (q : Int) ≤ 17 by omega)]
          exact iteT ⟨_, rfl, _, rfl, _, rfl, _, rfl, a, s, q, ln, ll, nums, lst, c, rfl, ⟨h11, h17⟩, hs, hln, hll, hlz, h22, hsh, hask, hc, qq⟩
        · rw [decide_eq_false (show ¬ (q : Int) ≤ 17 by omega)]
          exact iteF ⟨_, rfl, _, rfl, _, rfl, _, rfl, a, s, q, ln, ll, nums, lst, c, rfl, rest fun z => h17 z.2, hs, hln, hll, hlz, h22, hsh, hask, hc, qq⟩
      · rw [decide_eq_false (show ¬ (11 : Int) ≤ (q : Int) by omega)]
        exact iteF ⟨_, rfl, iteF ⟨_, rfl, _, rfl, _, rfl, _, rfl, a, s, q, ln, ll, nums, lst, c, rfl, rest fun z => h11 z.1, hs, hln, hll, hlz, h22, hsh, hask, hc, qq⟩⟩
end CW

end

section
namespace CW
open PySem PySem.Spec PyProof.Rows L2 CM
section
variable {K : PySem.W.Frag}
theorem cut_mid (xs : List V) (i j : Nat) (h : i ≤ j) (hj : j ≤ xs.length) : cutV xs (some (i : Int)) (some (j : Int)) = (xs.drop i).take (j - i) := by
  unfold cutV
  rw [HT.sIx_nat, HT.sIx_nat, Nat.min_eq_left hj, Nat.min_eq_left (Nat.le_trans h hj)]
theorem seq_frame {H H' : Hp} {a : HA} {lc : Addr} {xs : List V} {R O : List (Nat × Nat)} {T : TT3} {C : Addr} (hh : HouseAt C H a R O T) (h : SqL K H lc xs) (fr : ∀ b o, H b = some o → b ≠ a.dr → b ≠ a.dO → b ≠ a.dt → H' b = some o) : SqL K H' lc xs := by
  rcases h with (h | ⟨o, h⟩) | h
  · exact .inl (.inl (fr _ _ h (ne_of h hh.rc (by intro z; cases z)) (ne_of h hh.oc (by intro z; cases z)) (ne_of h hh.tc (by intro z; cases z))))
  · exact .inl (.inr ⟨o, fr _ _ h (ne_of h hh.rc (by intro z; cases z)) (ne_of h hh.oc (by intro z; cases z)) (ne_of h hh.tc (by intro z; cases z))⟩)
  · exact .inr h
theorem seq_upd {H : Hp} {l lc : Addr} {o : HO} {xs ys : List V} (h : SqL K H lc xs) (hl : H l = some (.lst ys)) (hne : lc ≠ l) : SqL K (upd H l o) lc xs := by
  rcases h with (h | ⟨u, h⟩) | h
  · exact .inl (.inl (by rw [upd_ne hne]; exact h))
  · exact .inl (.inr ⟨u, by rw [upd_ne hne]; exact h⟩)
  · exact .inr h
theorem inV_ints (q : Nat) (l : List Nat) : inV (nV q) ((l.map fun n : Nat => (n : Int)).map V.int) = decide (q ∈ l) := by
  have e : (l.map fun n : Nat => (n : Int)).map V.int = l.map nV := by
    rw [List.map_map]
    rfl
  rw [e]
  unfold inV
  rw [List.any_map, Bool.eq_iff_iff, List.any_eq_true, decide_eq_true_eq]
  constructor
  · rintro ⟨x, hx, e⟩
    have e' : ((x : Int) == (q : Int)) = true := e
    have : x = q := by
      have := beq_iff_eq.mp e'
      omega
    exact this ▸ hx
  · intro h
    refine ⟨q, h, ?_⟩
    show ((q : Int) == (q : Int)) = true
    exact beq_self_eq_true _
end
variable {P : Program} {w : World} {K : PySem.W.Frag} {mg : Str → Option Value} {base : Heap} {A : Adr}
def spAns (K : PySem.W.Frag) : Sp := fun vs H Q _ => ∃ (a : Addr) (ns : List Int), vs = [.ref a] ∧ SqL K H a (ns.map V.int) ∧ ns.length ≤ 17000 ∧ PyVbchaj.answers_asked ns = true ∧
  ∀ (H' : Hp) (p : Addr), H' p = some (.lst ((PyVbchaj.answers ns).map V.int)) → Q (.ref p) H'
theorem ok_answers (T : Txt K mg A) : FnOk P w K mg base CX0 10 A.f_answers A.d_answers ["calls"] (spAns K) := by
  refine T.F_answers.ok sc_answers (fun vs H Q E h => ?_) (fun cdv A' outer s H vs Q E hr h => ?_)
  · obtain ⟨a, ns, rfl, _⟩ := h
    rfl
  · obtain ⟨lc, ns, rfl, hlc, lenN, hask, q⟩ := h
    have hu := hu_of hr
    refine ⟨_, (pss_cons (ps_set (i := 1) sc_answers.nd rfl (Or.inl rfl) (pe_make0 T.mk_House (ok_House_init T) (hr.mono (by decide)) (by rfl) T.g_House T.b_House_init .nil pass0))
      (pss_cons (ps_set (i := 2) sc_answers.nd rfl (Or.inl rfl) (pe_lst pa_nil))
      (pss_cons (ps_set (i := 3) sc_answers.nd rfl (Or.inl rfl) pe_int)
      (pss_cons (ps_while PassesOwn.never (pt_cmpR op_lt (pv 3) (pe_callB call_len_seq (by rfl) T.n_len PySem.boot_len (pa_cons (pv 0) pa_nil)) (nomark _)) (pss_cons (ps_set (i := 4) sc_answers.nd rfl (Or.inl rfl) (pe_ix ix_list (pv 0) (pv 3) (fun _ _ => rfl)))
      (pss_cons (ps_set (i := 5) sc_answers.nd rfl (Or.inl rfl) (pe_op op_add (pv 3) pe_int))
      (pss_cons (ps_set (i := 3) sc_answers.nd rfl (Or.inl rfl) (pe_op op_add (pv 5) (pe_ix ix_tup (pe_const (by rfl) T.c_PLAIN_NUMBERS) (pv 4) (fun _ _ => rfl))))
      (pss_cons (ps_set (i := 6) sc_answers.nd rfl (Or.inl rfl) (pe_slice sl_list (pv 0) (po_some (pv 5)) (po_some (pv 3))))
      (pss_cons (ps_set (i := 7) sc_answers.nd rfl (Or.inl rfl) (pe_lst pa_nil))
      (C8.pss_cut (ps_if (pt_cmpR op_in_seq (pv 4) (pe_const (by rfl) T.c_WITH_LIST) (by with_unfolding_all rfl)) (pss_cons (ps_set (i := 5) sc_answers.nd rfl (Or.inl rfl) (pe_op op_add (pv 3) pe_int))
      (pss_cons (ps_set (i := 3) sc_answers.nd rfl (Or.inl rfl) (pe_op op_add (pv 5) (pe_ix ix_list (pv 0) (pv 3) (fun _ _ => rfl))))
      (pss_one (ps_set (i := 7) sc_answers.nd rfl (Or.inl rfl) (pe_slice sl_list (pv 0) (po_some (pv 5)) (po_some (pv 3))))))) pss_nil)
      (pss_cons (ps_set (i := 8) sc_answers.nd rfl (Or.inl rfl) (pe_call (ok_answer_to T) (hr.mono (by decide)) (by rfl) T.g_answer_to T.F_answer_to.kp T.b_answer_to .nil pass0 (pa_cons (pv 1) (pa_cons (pv 4) (pa_cons (pv 6) (pa_cons (pv 7) pa_nil))))))
      (pss_cons (ps_expr (pe_bm PySem.F.plainAttrs_list PySem.F.slot_list_append PySem.F.type_list_append mt_append (pv 2) (pa_cons (pe_callB call_len_seq (by rfl) T.n_len PySem.boot_len (pa_cons (pv 8) pa_nil)) pa_nil)))
      (pss_one (ps_expr (pe_bm PySem.F.plainAttrs_list PySem.F.slot_list_extend PySem.F.type_list_extend mt_extend (pv 2) (pa_cons (pv 8) pa_nil)))))))))))))
      (pss_one (ps_ret (pv 2))))))), ?_⟩
    obtain ⟨rest0, lenA⟩ := Rest.start hask
    -- house = House()
    refine fun x dx nx nd ne => ⟨x, dx, rfl, upd_same, fun H1 dr dO dt hh n1 n2 n3 fr1 => ⟨rfl, ?_⟩⟩
    have sm1 : Same H H1 := fun b o e => fr1 b o (made nx nd b o e) (ne_of_none e nx)
    -- told = []; at = 0
    refine ⟨(by show 0 ≤ sizeLine; decide), fun lt hlt => ?_⟩
    have hs1 : HS A.C_House Vbchaj.start H1 ⟨x, dr, dO, dt, lt⟩ := ⟨good_start, [], [], [], hh lt, ⟨List.Perm.nil, List.Perm.nil, List.Perm.nil⟩⟩
    have m1 : H dr = none := made_free nx nd n1
    have m2 : H dO = none := made_free nx nd n2
    have m3 : H dt = none := made_free nx nd n3
    have m4 : H lt = none := sm1.free hlt
    -- while at < len(calls)
    refine ⟨fun n σ H' => ∃ (i : Nat) (s : Vbchaj.State) (acc : List Int) (v4 v5 v6 v7 v8 : Option V), σ = [some (.ref lc), some (.ref x), some (.ref lt), some (nV i), v4, v5, v6, v7, v8] ∧ n = ns.length - i ∧ i ≤ ns.length ∧
        Rest s (ns.drop i) acc (PyVbchaj.answers ns) ∧ HS A.C_House s H' ⟨x, dr, dO, dt, lt⟩ ∧ H' lt = some (.lst (acc.map V.int)) ∧ Same H H',
      ⟨_, 0, Vbchaj.start, [], none, none, none, none, none, rfl, rfl, Nat.zero_le _, rest0, hs1.same (same_new hlt), upd_same, sm1.trans (same_new hlt)⟩, ?_⟩
    rintro n σ H' ⟨i, s, acc, v4, v5, v6, v7, v8, rfl, rfl, hi, rest, hs, hl, sm⟩
    have hc := sm.seq hlc
    refine go_test ⟨_, rfl, _, rfl, lc, _, rfl, .inl hc, _, _, rfl, rfl, _, rfl, ?_⟩
    rw [List.length_map]
    by_cases hlt : i < ns.length
    · rw [decide_eq_true (show (i : Int) < (ns.length : Int) by omega)]
      refine iteT ?_
      have ed : ns.drop i = ns[i] :: ns.drop (i + 1) := List.drop_eq_getElem_cons hlt
      rw [ed] at rest
      obtain ⟨k, m, c, t, hk, hk22, hsh, hm, hask1, rest2, hcase⟩ := rest.step
      have hki : ns[i]? = some (k : Int) := by rw [List.getElem?_eq_getElem hlt, hk]
      have hkV : (ns.map V.int)[i]? = some (nV k) := by rw [List.getElem?_map, hki]; rfl
      rw [List.length_drop] at hm
      obtain ⟨G, R, O, TT, hh', ab⟩ := id hs
      refine ⟨fun σ2 H2 => ∃ (j : Nat) (s : Vbchaj.State) (acc : List Int) (v4 v5 v6 v7 v8 : Option V), i < j ∧ σ2 = [some (.ref lc), some (.ref x), some (.ref lt), some (nV j), v4, v5, v6, v7, v8] ∧ j ≤ ns.length ∧
          Rest s (ns.drop j) acc (PyVbchaj.answers ns) ∧ HS A.C_House s H2 ⟨x, dr, dO, dt, lt⟩ ∧ H2 lt = some (.lst (acc.map V.int)) ∧ Same H H2,
        fun σ2 H2 ⟨j, s2, acc2, w4, w5, w6, w7, w8, hij, e, r1, r2, r3, r4, r5⟩ => ⟨ns.length - j, by omega, j, s2, acc2, w4, w5, w6, w7, w8, e, rfl, r1, r2, r3, r4, r5⟩, ?_⟩
      -- call = calls[at]; start = at + 1; at = start + PLAIN_NUMBERS[call]
      refine ⟨_, rfl, _, rfl, lc, _, (i : Int), nV k, rfl, rfl, hc, atI_nat hkV, ?_⟩
      refine ⟨_, rfl, _, _, rfl, rfl, ?_⟩
      have hPN : atI (([2, 2, 1, 1, 2, 2, 1, 0, 0, 0, 1, 1, 1, 0, 0, 1, 1, 1, 2, 0, 0, 0] : List Int).map V.int) (k : Int) = some (nV m) := by
        refine atI_nat ?_
        show ((shapeN.map fun n : Nat => (n : Int)).map V.int)[k]? = some (nV m)
        rw [List.getElem?_map, List.getElem?_map, hsh]
        rfl
      refine ⟨_, rfl, _, rfl, A.t_PLAIN_NUMBERS, _, (k : Int), nV m, rfl, rfl, T.s_PLAIN_NUMBERS H', hPN, _, _, rfl, rfl, ?_⟩
      -- numbers = calls[start:at]
      refine ⟨_, rfl, _, rfl, _, rfl, _, rfl, _, rfl, lc, _, rfl, hc, fun ln hln => ?_⟩
      have e1 : cutV (ns.map V.int) (some ((i : Int) + 1)) (some ((i : Int) + 1 + (m : Int))) = ((ns.drop (i + 1)).take m).map V.int := by
        have := cut_mid (ns.map V.int) (i + 1) (i + 1 + m) (by omega) (by rw [List.length_map]; omega)
        rw [show ((i + 1 : Nat) : Int) = (i : Int) + 1 from rfl, show ((i + 1 + m : Nat) : Int) = (i : Int) + 1 + (m : Int) by omega] at this
        rw [this, ← List.map_drop, ← List.map_take]
        congr 2
        omega
      rw [e1]
      have sm2 := sm.trans (same_new (o := .lst (((ns.drop (i + 1)).take m).map V.int)) hln)
      have hs2 := hs.same (same_new (o := .lst (((ns.drop (i + 1)).take m).map V.int)) hln)
      have hl2 := same_new (o := .lst (((ns.drop (i + 1)).take m).map V.int)) hln _ _ hl
      have hn2 : (upd H' ln (.lst (((ns.drop (i + 1)).take m).map V.int))) ln = some (.lst (((ns.drop (i + 1)).take m).map V.int)) := upd_same
      generalize upd H' ln (.lst (((ns.drop (i + 1)).take m).map V.int)) = H2 at sm2 hs2 hl2 hn2
      -- listed = []
      refine ⟨(by show 0 ≤ sizeLine; decide), fun ll hll => ?_⟩
      have sm3 := sm2.trans (same_new (o := .lst []) hll)
      have hs3 := hs2.same (same_new (o := .lst []) hll)
      have hl3 := same_new (o := .lst []) hll _ _ hl2
      have hn3 := same_new (o := .lst []) hll _ _ hn2
      have hll3 : (upd H2 ll (.lst [])) ll = some (.lst (([] : List Int).map V.int)) := upd_same
      generalize upd H2 ll (.lst []) = H3 at sm3 hs3 hl3 hn3 hll3
      have lenNum : ((ns.drop (i + 1)).take m).length = m := by
        rw [List.length_take, List.length_drop]
        omega
      -- if call in WITH_LIST: the list is read; behind it Mid
      refine ⟨fun σ2 H4 => ∃ (j : Nat) (lst : List Int) (lm : Addr) (v5 : Option V), σ2 = [some (.ref lc), some (.ref x), some (.ref lt), some (nV j), some (nV k), v5, some (.ref ln), some (.ref lm), v8] ∧ Same H H4 ∧ HS A.C_House s H4 ⟨x, dr, dO, dt, lt⟩ ∧
          H4 lt = some (.lst (acc.map V.int)) ∧ H4 ln = some (.lst (((ns.drop (i + 1)).take m).map V.int)) ∧ H4 lm = some (.lst (lst.map V.int)) ∧ lm ≠ lt ∧ i < j ∧ j ≤ ns.length ∧ t = ns.drop j ∧
          ((k ∉ shapeL ∧ c = [(k : Int) :: (ns.drop (i + 1)).take m]) ∨ (k ∈ shapeL ∧ c = [(k : Int) :: (ns.drop (i + 1)).take m, lst])), ?_, ?_⟩
      · have hWL : (([1, 6, 12, 13, 19] : List Int).map V.int).all flatV = true := by decide
        refine go_if (go_test ⟨_, rfl, A.t_WITH_LIST, _, rfl, .inr (T.s_WITH_LIST H3), rfl, hWL, _, rfl, ?_⟩)
        have eIn : inV (nV k) (([1, 6, 12, 13, 19] : List Int).map V.int) = decide (k ∈ shapeL) := inV_ints k shapeL
        rw [if_neg Bool.false_ne_true, eIn]
        rcases hcase with ⟨hk1, hc1, ht1⟩ | ⟨hk1, m1', r', hd, hm1, hc1, ht1⟩
        · rw [decide_eq_false hk1]
          refine iteF ⟨i + 1 + m, [], ll, _, rfl, sm3, hs3, hl3, hn3, hll3, (ne_of_none hl2 hll).symm, by omega, by omega, ?_, .inl ⟨hk1, by rw [hc1, hk]⟩⟩
          rw [ht1, List.drop_drop]
        · rw [decide_eq_true hk1]
          refine iteT ?_
          have hc3 := sm3.seq hlc
          have hd2 : ns.drop (i + 1 + m) = (m1' : Int) :: r' := by rw [← hd, List.drop_drop]
          have hlt2 : i + 1 + m < ns.length := by
            have := congrArg List.length hd2
            rw [List.length_drop, List.length_cons] at this
            omega
          have er' : r' = ns.drop (i + 1 + m + 1) := by
            rw [List.drop_eq_getElem_cons hlt2] at hd2
            exact (List.cons.inj hd2).2.symm
          have hat : ns[i + 1 + m]? = some (m1' : Int) := by
            rw [List.drop_eq_getElem_cons hlt2] at hd2
            rw [List.getElem?_eq_getElem hlt2, (List.cons.inj hd2).1]
          have hatV : (ns.map V.int)[i + 1 + m]? = some (nV m1') := by rw [List.getElem?_map, hat]; rfl
          have lr : r'.length = ns.length - (i + 1 + m + 1) := by rw [er', List.length_drop]
          -- start = at + 1; at = start + calls[at]; listed = calls[start:at]
          refine ⟨_, rfl, _, _, rfl, rfl, ?_⟩
          refine ⟨_, rfl, _, rfl, _, rfl, lc, _, (i : Int) + 1 + (m : Int), nV m1', rfl, rfl, hc3, at_of (j := i + 1 + m) (by omega) hatV, _, _, rfl, rfl, ?_⟩
          refine ⟨_, rfl, _, rfl, _, rfl, _, rfl, _, rfl, lc, _, rfl, hc3, fun lm hlm => ?_⟩
          have e2 : cutV (ns.map V.int) (some ((i : Int) + 1 + (m : Int) + 1)) (some ((i : Int) + 1 + (m : Int) + 1 + (m1' : Int))) = (r'.take m1').map V.int := by
            have := cut_mid (ns.map V.int) (i + 1 + m + 1) (i + 1 + m + 1 + m1') (by omega) (by rw [List.length_map]; omega)
            rw [show ((i + 1 + m + 1 : Nat) : Int) = (i : Int) + 1 + (m : Int) + 1 by omega, show ((i + 1 + m + 1 + m1' : Nat) : Int) = (i : Int) + 1 + (m : Int) + 1 + (m1' : Int) by omega] at this
            rw [this, er', ← List.map_drop, ← List.map_take]
            congr 2
            omega
          rw [e2]
          have smn := same_new (o := .lst ((r'.take m1').map V.int)) hlm
          refine ⟨i + 1 + m + 1 + m1', r'.take m1', lm, some (.int ((i : Int) + 1 + (m : Int) + 1)), ?_, sm3.trans smn, hs3.same smn, smn _ _ hl3, smn _ _ hn3, upd_same, (ne_of_none hl3 hlm).symm, by omega, by omega, ?_, .inr ⟨hk1, by rw [hc1, hk]⟩⟩
          · have e3 : V.int ((i : Int) + 1 + (m : Int) + 1 + (m1' : Int)) = nV (i + 1 + m + 1 + m1') := by
              show V.int _ = V.int _
              congr 1
            rw [← e3]
            rfl
          · rw [ht1, er', List.drop_drop]
      · -- answer = answer_to(house, call, numbers, listed)
        rintro σ2 H4 ⟨j, lst, lm, w5, rfl, sm4, hs4, hl4, hn4, hm4, hmz, hij, hj, rfl, hcc⟩
        refine ⟨_, rfl, _, rfl, _, rfl, _, rfl, ⟨x, dr, dO, dt, lt⟩, s, k, ln, lm, (ns.drop (i + 1)).take m, lst, c, rfl, trivial, hs4, hn4, hm4, hmz, hk22, by rw [lenNum]; exact hsh, hask1, hcc, fun H5 la hs5 hla0 hla fr5 => ?_⟩
        obtain ⟨_, R4, O4, T4, hh4, _⟩ := id hs4
        have nr : lt ≠ dr := ne_of hl4 hh4.rc (by intro z; cases z)
        have no : lt ≠ dO := ne_of hl4 hh4.oc (by intro z; cases z)
        have nt : lt ≠ dt := ne_of hl4 hh4.tc (by intro z; cases z)
        have hl5 := fr5 _ _ hl4 nr no nt
        have nla : lt ≠ la := ne_of_none hl4 hla0
        have sm5 : Same H H5 := fun b o e => fr5 b o (sm4 b o e) (ne_of_none e m1) (ne_of_none e m2) (ne_of_none e m3)
        have lenAcc := rest2.le
        rw [List.length_append, List.length_cons] at lenAcc
        have big : ∀ n : Nat, n ≤ 10000000 → n < sizeLine := fun n h => Nat.lt_of_le_of_lt h (by decide)
        -- told.append(len(answer)); told.extend(answer)
        refine ⟨_, rfl, .inl ⟨rfl, _, SqL.of hl5⟩, _, rfl, la, _, rfl, .inl (SqL.of hla), lt, _, _, rfl, rfl, hl5, (by rw [List.length_map]; exact big _ (by omega)), ?_⟩
        have hla6 : (upd H5 lt (.lst (acc.map V.int ++ [V.int ((((VbchajNeutral.step s c).2).map V.int).length : Nat)]))) la = some (.lst (((VbchajNeutral.step s c).2).map V.int)) := by
          rw [upd_ne nla.symm]
          exact hla
        refine ⟨_, rfl, .inl ⟨rfl, _, SqL.of upd_same⟩, _, rfl, lt, la, _, _, rfl, rfl, upd_same, hla6, ?_, ?_⟩
        · rw [List.length_append, List.length_map, List.length_map, List.length_singleton]
          exact Nat.le_of_lt (big _ (by omega))
        · rw [upd_upd]
          obtain ⟨G5, R5, O5, T5, hh5, ab5⟩ := id hs5
          have hs6 : HS A.C_House (VbchajNeutral.step s c).1 (upd H5 lt (.lst (acc.map V.int ++ [V.int ((((VbchajNeutral.step s c).2).map V.int).length : Nat)] ++ ((VbchajNeutral.step s c).2).map V.int))) ⟨x, dr, dO, dt, lt⟩ := by
            obtain ⟨dx5, ob5⟩ := hh5.ob
            refine ⟨G5, R5, O5, T5, ⟨⟨dx5, by rw [upd_ne (ne_of ob5 hl5 (by intro z; cases z))]; exact ob5⟩, by rw [upd_ne nr.symm]; exact hh5.rc, by rw [upd_ne no.symm]; exact hh5.oc, by rw [upd_ne nt.symm]; exact hh5.tc, fun y hy => ?_, hh5.d1, hh5.d2, hh5.d3, hh5.nz⟩, ab5⟩
            rw [upd_ne (hh5.nz y hy)]
            exact hh5.tl y hy
          refine ⟨j, (VbchajNeutral.step s c).1, acc ++ (((VbchajNeutral.step s c).2.length : Nat) : Int) :: (VbchajNeutral.step s c).2, _, _, _, _, _, hij, rfl, hj, rest2, hs6, ?_, fun b o e => ?_⟩
          · rw [upd_same, List.map_append, List.map_cons, List.length_map, List.append_assoc]
            rfl
          · rw [upd_ne (ne_of_none e m4)]
            exact sm5 b o e
    · rw [decide_eq_false (show ¬ (i : Int) < (ns.length : Int) by omega)]
      refine iteF ?_
      have ei : i = ns.length := by omega
      rw [ei, List.drop_length] at rest
      refine ⟨_, rfl, ?_⟩
      have e := rest.done
      exact q H' lt (by rw [e]; exact hl)
end CW

end

section
namespace CW
open PySem PySem.Spec PyProof.Rows L2
theorem txt_mk {K : PySem.W.Frag} {h : Heap} {mg : Str → Option Value} (X : K.In h) (G : h.Ns mainGlobals mg)
    {C_Plan : Addr}
    {C_House : Addr}
    {f_is_key : Addr} {od_is_key an_is_key : Option Addr} {sl_is_key : Array (Option Value)} {oc_is_key kV_is_key dc_is_key pm_is_key cd_is_key ct_is_key : Value}
    {f_is_room : Addr} {od_is_room an_is_room : Option Addr} {sl_is_room : Array (Option Value)} {oc_is_room kV_is_room dc_is_room pm_is_room cd_is_room ct_is_room : Value}
    {f_is_order : Addr} {od_is_order an_is_order : Option Addr} {sl_is_order : Array (Option Value)} {oc_is_order kV_is_order dc_is_order pm_is_order cd_is_order ct_is_order : Value}
    {f_is_list_of_keys : Addr} {od_is_list_of_keys an_is_list_of_keys : Option Addr} {sl_is_list_of_keys : Array (Option Value)} {oc_is_list_of_keys kV_is_list_of_keys dc_is_list_of_keys pm_is_list_of_keys cd_is_list_of_keys ct_is_list_of_keys : Value}
    {f_is_list_of_places : Addr} {od_is_list_of_places an_is_list_of_places : Option Addr} {sl_is_list_of_places : Array (Option Value)} {oc_is_list_of_places kV_is_list_of_places dc_is_list_of_places pm_is_list_of_places cd_is_list_of_places ct_is_list_of_places : Value}
    {f_has_one_twice : Addr} {od_has_one_twice an_has_one_twice : Option Addr} {sl_has_one_twice : Array (Option Value)} {oc_has_one_twice kV_has_one_twice dc_has_one_twice pm_has_one_twice cd_has_one_twice ct_has_one_twice : Value}
    {f_Plan_init : Addr} {od_Plan_init an_Plan_init : Option Addr} {sl_Plan_init : Array (Option Value)} {oc_Plan_init kV_Plan_init dc_Plan_init pm_Plan_init cd_Plan_init ct_Plan_init : Value}
    {f_Plan_give_place : Addr} {od_Plan_give_place an_Plan_give_place : Option Addr} {sl_Plan_give_place : Array (Option Value)} {oc_Plan_give_place kV_Plan_give_place dc_Plan_give_place pm_Plan_give_place cd_Plan_give_place ct_Plan_give_place : Value}
    {f_Plan_comers_for : Addr} {od_Plan_comers_for an_Plan_comers_for : Option Addr} {sl_Plan_comers_for : Array (Option Value)} {oc_Plan_comers_for kV_Plan_comers_for dc_Plan_comers_for pm_Plan_comers_for cd_Plan_comers_for ct_Plan_comers_for : Value}
    {f_Plan_reach_on : Addr} {od_Plan_reach_on an_Plan_reach_on : Option Addr} {sl_Plan_reach_on : Array (Option Value)} {oc_Plan_reach_on kV_Plan_reach_on dc_Plan_reach_on pm_Plan_reach_on cd_Plan_reach_on ct_Plan_reach_on : Value}
    {f_Plan_shift : Addr} {od_Plan_shift an_Plan_shift : Option Addr} {sl_Plan_shift : Array (Option Value)} {oc_Plan_shift kV_Plan_shift dc_Plan_shift pm_Plan_shift cd_Plan_shift ct_Plan_shift : Value}
    {f_Plan_settle : Addr} {od_Plan_settle an_Plan_settle : Option Addr} {sl_Plan_settle : Array (Option Value)} {oc_Plan_settle kV_Plan_settle dc_Plan_settle pm_Plan_settle cd_Plan_settle ct_Plan_settle : Value}
    {f_moved_clients : Addr} {od_moved_clients an_moved_clients : Option Addr} {sl_moved_clients : Array (Option Value)} {oc_moved_clients kV_moved_clients dc_moved_clients pm_moved_clients cd_moved_clients ct_moved_clients : Value}
    {f_moved_of : Addr} {od_moved_of an_moved_of : Option Addr} {sl_moved_of : Array (Option Value)} {oc_moved_of kV_moved_of dc_moved_of pm_moved_of cd_moved_of ct_moved_of : Value}
    {f_places_told : Addr} {od_places_told an_places_told : Option Addr} {sl_places_told : Array (Option Value)} {oc_places_told kV_places_told dc_places_told pm_places_told cd_places_told ct_places_told : Value}
    {f_clients_left : Addr} {od_clients_left an_clients_left : Option Addr} {sl_clients_left : Array (Option Value)} {oc_clients_left kV_clients_left dc_clients_left pm_clients_left cd_clients_left ct_clients_left : Value}
    {f_can_go_to : Addr} {od_can_go_to an_can_go_to : Option Addr} {sl_can_go_to : Array (Option Value)} {oc_can_go_to kV_can_go_to dc_can_go_to pm_can_go_to cd_can_go_to ct_can_go_to : Value}
    {f_is_placing : Addr} {od_is_placing an_is_placing : Option Addr} {sl_is_placing : Array (Option Value)} {oc_is_placing kV_is_placing dc_is_placing pm_is_placing cd_is_placing ct_is_placing : Value}
    {f_refusal_of_member : Addr} {od_refusal_of_member an_refusal_of_member : Option Addr} {sl_refusal_of_member : Array (Option Value)} {oc_refusal_of_member kV_refusal_of_member dc_refusal_of_member pm_refusal_of_member cd_refusal_of_member ct_refusal_of_member : Value}
    {f_refusal_of_client : Addr} {od_refusal_of_client an_refusal_of_client : Option Addr} {sl_refusal_of_client : Array (Option Value)} {oc_refusal_of_client kV_refusal_of_client dc_refusal_of_client pm_refusal_of_client cd_refusal_of_client ct_refusal_of_client : Value}
    {f_refusal_of_members : Addr} {od_refusal_of_members an_refusal_of_members : Option Addr} {sl_refusal_of_members : Array (Option Value)} {oc_refusal_of_members kV_refusal_of_members dc_refusal_of_members pm_refusal_of_members cd_refusal_of_members ct_refusal_of_members : Value}
    {f_add_member : Addr} {od_add_member an_add_member : Option Addr} {sl_add_member : Array (Option Value)} {oc_add_member kV_add_member dc_add_member pm_add_member cd_add_member ct_add_member : Value}
    {f_add_client : Addr} {od_add_client an_add_client : Option Addr} {sl_add_client : Array (Option Value)} {oc_add_client kV_add_client dc_add_client pm_add_client cd_add_client ct_add_client : Value}
    {f_end_member : Addr} {od_end_member an_end_member : Option Addr} {sl_end_member : Array (Option Value)} {oc_end_member kV_end_member dc_end_member pm_end_member cd_end_member ct_end_member : Value}
    {f_drop_client : Addr} {od_drop_client an_drop_client : Option Addr} {sl_drop_client : Array (Option Value)} {oc_drop_client kV_drop_client dc_drop_client pm_drop_client cd_drop_client ct_drop_client : Value}
    {f_change_room : Addr} {od_change_room an_change_room : Option Addr} {sl_change_room : Array (Option Value)} {oc_change_room kV_change_room dc_change_room pm_change_room cd_change_room ct_change_room : Value}
    {f_change_order : Addr} {od_change_order an_change_order : Option Addr} {sl_change_order : Array (Option Value)} {oc_change_order kV_change_order dc_change_order pm_change_order cd_change_order ct_change_order : Value}
    {f_change_takers : Addr} {od_change_takers an_change_takers : Option Addr} {sl_change_takers : Array (Option Value)} {oc_change_takers kV_change_takers dc_change_takers pm_change_takers cd_change_takers ct_change_takers : Value}
    {f_move_clients : Addr} {od_move_clients an_move_clients : Option Addr} {sl_move_clients : Array (Option Value)} {oc_move_clients kV_move_clients dc_move_clients pm_move_clients cd_move_clients ct_move_clients : Value}
    {f_tell_without : Addr} {od_tell_without an_tell_without : Option Addr} {sl_tell_without : Array (Option Value)} {oc_tell_without kV_tell_without dc_tell_without pm_tell_without cd_tell_without ct_tell_without : Value}
    {f_tell_roomier : Addr} {od_tell_roomier an_tell_roomier : Option Addr} {sl_tell_roomier : Array (Option Value)} {oc_tell_roomier kV_tell_roomier dc_tell_roomier pm_tell_roomier cd_tell_roomier ct_tell_roomier : Value}
    {f_tell_first : Addr} {od_tell_first an_tell_first : Option Addr} {sl_tell_first : Array (Option Value)} {oc_tell_first kV_tell_first dc_tell_first pm_tell_first cd_tell_first ct_tell_first : Value}
    {f_told_but : Addr} {od_told_but an_told_but : Option Addr} {sl_told_but : Array (Option Value)} {oc_told_but kV_told_but dc_told_but pm_told_but cd_told_but ct_told_but : Value}
    {f_tell_why : Addr} {od_tell_why an_tell_why : Option Addr} {sl_tell_why : Array (Option Value)} {oc_tell_why kV_tell_why dc_tell_why pm_tell_why cd_tell_why ct_tell_why : Value}
    {f_tell_check : Addr} {od_tell_check an_tell_check : Option Addr} {sl_tell_check : Array (Option Value)} {oc_tell_check kV_tell_check dc_tell_check pm_tell_check cd_tell_check ct_tell_check : Value}
    {f_tell_bound : Addr} {od_tell_bound an_tell_bound : Option Addr} {sl_tell_bound : Array (Option Value)} {oc_tell_bound kV_tell_bound dc_tell_bound pm_tell_bound cd_tell_bound ct_tell_bound : Value}
    {f_tell_cover : Addr} {od_tell_cover an_tell_cover : Option Addr} {sl_tell_cover : Array (Option Value)} {oc_tell_cover kV_tell_cover dc_tell_cover pm_tell_cover cd_tell_cover ct_tell_cover : Value}
    {f_keeps : Addr} {od_keeps an_keeps : Option Addr} {sl_keeps : Array (Option Value)} {oc_keeps kV_keeps dc_keeps pm_keeps cd_keeps ct_keeps : Value}
    {f_rooms_together : Addr} {od_rooms_together an_rooms_together : Option Addr} {sl_rooms_together : Array (Option Value)} {oc_rooms_together kV_rooms_together dc_rooms_together pm_rooms_together cd_rooms_together ct_rooms_together : Value}
    {f_proves : Addr} {od_proves an_proves : Option Addr} {sl_proves : Array (Option Value)} {oc_proves kV_proves dc_proves pm_proves cd_proves ct_proves : Value}
    {f_House_init : Addr} {od_House_init an_House_init : Option Addr} {sl_House_init : Array (Option Value)} {oc_House_init kV_House_init dc_House_init pm_House_init cd_House_init ct_House_init : Value}
    {f_House_has_members : Addr} {od_House_has_members an_House_has_members : Option Addr} {sl_House_has_members : Array (Option Value)} {oc_House_has_members kV_House_has_members dc_House_has_members pm_House_has_members cd_House_has_members ct_House_has_members : Value}
    {f_House_is_taker : Addr} {od_House_is_taker an_House_is_taker : Option Addr} {sl_House_is_taker : Array (Option Value)} {oc_House_is_taker kV_House_is_taker dc_House_is_taker pm_House_is_taker cd_House_is_taker ct_House_is_taker : Value}
    {f_House_clients_in_order : Addr} {od_House_clients_in_order an_House_clients_in_order : Option Addr} {sl_House_clients_in_order : Array (Option Value)} {oc_House_clients_in_order kV_House_clients_in_order dc_House_clients_in_order pm_House_clients_in_order cd_House_clients_in_order ct_House_clients_in_order : Value}
    {f_House_clients_before : Addr} {od_House_clients_before an_House_clients_before : Option Addr} {sl_House_clients_before : Array (Option Value)} {oc_House_clients_before kV_House_clients_before dc_House_clients_before pm_House_clients_before cd_House_clients_before ct_House_clients_before : Value}
    {f_House_forget_client : Addr} {od_House_forget_client an_House_forget_client : Option Addr} {sl_House_forget_client : Array (Option Value)} {oc_House_forget_client kV_House_forget_client dc_House_forget_client pm_House_forget_client cd_House_forget_client ct_House_forget_client : Value}
    {f_tell_moved : Addr} {od_tell_moved an_tell_moved : Option Addr} {sl_tell_moved : Array (Option Value)} {oc_tell_moved kV_tell_moved dc_tell_moved pm_tell_moved cd_tell_moved ct_tell_moved : Value}
    {f_tell_left : Addr} {od_tell_left an_tell_left : Option Addr} {sl_tell_left : Array (Option Value)} {oc_tell_left kV_tell_left dc_tell_left pm_tell_left cd_tell_left ct_tell_left : Value}
    {f_tell_where : Addr} {od_tell_where an_tell_where : Option Addr} {sl_tell_where : Array (Option Value)} {oc_tell_where kV_tell_where dc_tell_where pm_tell_where cd_tell_where ct_tell_where : Value}
    {f_tell_may : Addr} {od_tell_may an_tell_may : Option Addr} {sl_tell_may : Array (Option Value)} {oc_tell_may kV_tell_may dc_tell_may pm_tell_may cd_tell_may ct_tell_may : Value}
    {f_tell_isplan : Addr} {od_tell_isplan an_tell_isplan : Option Addr} {sl_tell_isplan : Array (Option Value)} {oc_tell_isplan kV_tell_isplan dc_tell_isplan pm_tell_isplan cd_tell_isplan ct_tell_isplan : Value}
    {f_tell_members : Addr} {od_tell_members an_tell_members : Option Addr} {sl_tell_members : Array (Option Value)} {oc_tell_members kV_tell_members dc_tell_members pm_tell_members cd_tell_members ct_tell_members : Value}
    {f_tell_clients : Addr} {od_tell_clients an_tell_clients : Option Addr} {sl_tell_clients : Array (Option Value)} {oc_tell_clients kV_tell_clients dc_tell_clients pm_tell_clients cd_tell_clients ct_tell_clients : Value}
    {f_answers : Addr} {od_answers an_answers : Option Addr} {sl_answers : Array (Option Value)} {oc_answers kV_answers dc_answers pm_answers cd_answers ct_answers : Value}
    {f_answer_to : Addr} {od_answer_to an_answer_to : Option Addr} {sl_answer_to : Array (Option Value)} {oc_answer_to kV_answer_to dc_answer_to pm_answer_to cd_answer_to ct_answer_to : Value}
    {f_change : Addr} {od_change an_change : Option Addr} {sl_change : Array (Option Value)} {oc_change kV_change dc_change pm_change cd_change ct_change : Value}
    {f_tell : Addr} {od_tell an_tell : Option Addr} {sl_tell : Array (Option Value)} {oc_tell kV_tell dc_tell pm_tell cd_tell ct_tell : Value}
    {f_tell_reasons : Addr} {od_tell_reasons an_tell_reasons : Option Addr} {sl_tell_reasons : Array (Option Value)} {oc_tell_reasons kV_tell_reasons dc_tell_reasons pm_tell_reasons cd_tell_reasons ct_tell_reasons : Value}
    {u_OUT_OF_RANGE : Value}
    {u_KEY_IS_USED : Value}
    {u_ONE_TWICE : Value}
    {u_NOT_THERE : Value}
    {u_IS_MOVED : Value}
    {u_IS_A_TAKER : Value}
    {u_HOUSE_IS_FULL : Value}
    {u_HIGHEST_KEY : Value}
    {u_HIGHEST_ROOM : Value}
    {u_HIGHEST_ORDER : Value}
    {u_MOST_MEMBERS : Value}
    {u_MOST_CLIENTS : Value}
    {u_MOST_PLACES : Value}
    {u_MEMBER : Value}
    {u_CLIENT : Value}
    {u_GONE : Value}
    {u_DROP : Value}
    {u_ROOM : Value}
    {u_ORDER : Value}
    {u_TAKERS : Value}
    {u_MOVE : Value}
    {u_MOVED : Value}
    {u_LEFT : Value}
    {u_WHERE : Value}
    {u_WHY : Value}
    {u_CHECK : Value}
    {u_BOUND : Value}
    {u_COVER : Value}
    {u_WITHOUT : Value}
    {u_ROOMIER : Value}
    {u_FIRST : Value}
    {u_MAY : Value}
    {u_ISPLAN : Value}
    {u_MEMBERS : Value}
    {t_PLAIN_NUMBERS : Addr} {ot_PLAIN_NUMBERS : Option Addr} {it_PLAIN_NUMBERS : Array Value} {nt_PLAIN_NUMBERS : Nat} {st_PLAIN_NUMBERS : Array (Option Value)}
    {t_WITH_LIST : Addr} {ot_WITH_LIST : Option Addr} {it_WITH_LIST : Array Value} {nt_WITH_LIST : Nat} {st_WITH_LIST : Array (Option Value)}
    (aC_Plan : PySem.W.nsIn K mainGlobals "Plan" = some (some (.ref C_Plan)))
    (pg_Plan : PySem.W.plainGet K C_Plan Str.empty = true)
    (hd_Plan : PySem.W.hasDictIn K C_Plan = true)
    (po_Plan : PySem.W.plainOver K C_Plan = true)
    (sa_Plan : PySem.W.findIn K (.ref C_Plan) "__setattr__" = some (some (.builtin "object.__setattr__")))
    (mk_Plan : PySem.W.makesIn K C_Plan = true)
    (kc_Plan : PySem.W.keepIn K (.ref C_Plan) = true)
    (n_Plan_free : PySem.W.findIn K (.ref C_Plan) "free" = some none)
    (n_Plan_takers : PySem.W.findIn K (.ref C_Plan) "takers" = some none)
    (n_Plan_places : PySem.W.findIn K (.ref C_Plan) "places" = some none)
    (n_Plan_settled : PySem.W.findIn K (.ref C_Plan) "settled" = some none)
    (aC_House : PySem.W.nsIn K mainGlobals "House" = some (some (.ref C_House)))
    (pg_House : PySem.W.plainGet K C_House Str.empty = true)
    (hd_House : PySem.W.hasDictIn K C_House = true)
    (po_House : PySem.W.plainOver K C_House = true)
    (sa_House : PySem.W.findIn K (.ref C_House) "__setattr__" = some (some (.builtin "object.__setattr__")))
    (mk_House : PySem.W.makesIn K C_House = true)
    (kc_House : PySem.W.keepIn K (.ref C_House) = true)
    (n_House_rooms : PySem.W.findIn K (.ref C_House) "rooms" = some none)
    (n_House_orders : PySem.W.findIn K (.ref C_House) "orders" = some none)
    (n_House_takers : PySem.W.findIn K (.ref C_House) "takers" = some none)
    (a_is_key : PySem.W.nsIn K mainGlobals "is_key" = some (some (.ref f_is_key)))
    (l_is_key : K.lookup f_is_key = some ⟨oc_is_key, od_is_key, .func (PySem.W.fnOf "is_key" "is_key" (defArgs s_is_key) (defBody s_is_key) (defScope s_is_key) .none kV_is_key dc_is_key pm_is_key an_is_key cd_is_key ct_is_key), sl_is_key⟩)
    (c_is_key : PySem.W.codeIn K cd_is_key "is_key" = true)
    (k_is_key : PySem.W.keepIn K (.ref f_is_key) = true)
    (a_is_room : PySem.W.nsIn K mainGlobals "is_room" = some (some (.ref f_is_room)))
    (l_is_room : K.lookup f_is_room = some ⟨oc_is_room, od_is_room, .func (PySem.W.fnOf "is_room" "is_room" (defArgs s_is_room) (defBody s_is_room) (defScope s_is_room) .none kV_is_room dc_is_room pm_is_room an_is_room cd_is_room ct_is_room), sl_is_room⟩)
    (c_is_room : PySem.W.codeIn K cd_is_room "is_room" = true)
    (k_is_room : PySem.W.keepIn K (.ref f_is_room) = true)
    (a_is_order : PySem.W.nsIn K mainGlobals "is_order" = some (some (.ref f_is_order)))
    (l_is_order : K.lookup f_is_order = some ⟨oc_is_order, od_is_order, .func (PySem.W.fnOf "is_order" "is_order" (defArgs s_is_order) (defBody s_is_order) (defScope s_is_order) .none kV_is_order dc_is_order pm_is_order an_is_order cd_is_order ct_is_order), sl_is_order⟩)
    (c_is_order : PySem.W.codeIn K cd_is_order "is_order" = true)
    (k_is_order : PySem.W.keepIn K (.ref f_is_order) = true)
    (a_is_list_of_keys : PySem.W.nsIn K mainGlobals "is_list_of_keys" = some (some (.ref f_is_list_of_keys)))
    (l_is_list_of_keys : K.lookup f_is_list_of_keys = some ⟨oc_is_list_of_keys, od_is_list_of_keys, .func (PySem.W.fnOf "is_list_of_keys" "is_list_of_keys" (defArgs s_is_list_of_keys) (defBody s_is_list_of_keys) (defScope s_is_list_of_keys) .none kV_is_list_of_keys dc_is_list_of_keys pm_is_list_of_keys an_is_list_of_keys cd_is_list_of_keys ct_is_list_of_keys), sl_is_list_of_keys⟩)
    (c_is_list_of_keys : PySem.W.codeIn K cd_is_list_of_keys "is_list_of_keys" = true)
    (k_is_list_of_keys : PySem.W.keepIn K (.ref f_is_list_of_keys) = true)
    (a_is_list_of_places : PySem.W.nsIn K mainGlobals "is_list_of_places" = some (some (.ref f_is_list_of_places)))
    (l_is_list_of_places : K.lookup f_is_list_of_places = some ⟨oc_is_list_of_places, od_is_list_of_places, .func (PySem.W.fnOf "is_list_of_places" "is_list_of_places" (defArgs s_is_list_of_places) (defBody s_is_list_of_places) (defScope s_is_list_of_places) .none kV_is_list_of_places dc_is_list_of_places pm_is_list_of_places an_is_list_of_places cd_is_list_of_places ct_is_list_of_places), sl_is_list_of_places⟩)
    (c_is_list_of_places : PySem.W.codeIn K cd_is_list_of_places "is_list_of_places" = true)
    (k_is_list_of_places : PySem.W.keepIn K (.ref f_is_list_of_places) = true)
    (a_has_one_twice : PySem.W.nsIn K mainGlobals "has_one_twice" = some (some (.ref f_has_one_twice)))
    (l_has_one_twice : K.lookup f_has_one_twice = some ⟨oc_has_one_twice, od_has_one_twice, .func (PySem.W.fnOf "has_one_twice" "has_one_twice" (defArgs s_has_one_twice) (defBody s_has_one_twice) (defScope s_has_one_twice) .none kV_has_one_twice dc_has_one_twice pm_has_one_twice an_has_one_twice cd_has_one_twice ct_has_one_twice), sl_has_one_twice⟩)
    (c_has_one_twice : PySem.W.codeIn K cd_has_one_twice "has_one_twice" = true)
    (k_has_one_twice : PySem.W.keepIn K (.ref f_has_one_twice) = true)
    (a_Plan_init : PySem.W.findIn K (.ref C_Plan) "__init__" = some (some (.ref f_Plan_init)))
    (i_Plan_init : PySem.W.isFn K (.ref f_Plan_init) = true)
    (l_Plan_init : K.lookup f_Plan_init = some ⟨oc_Plan_init, od_Plan_init, .func (PySem.W.fnOf "__init__" "Plan.__init__" (defArgs s_Plan_init) (defBody s_Plan_init) (defScope s_Plan_init) .none kV_Plan_init dc_Plan_init pm_Plan_init an_Plan_init cd_Plan_init ct_Plan_init), sl_Plan_init⟩)
    (c_Plan_init : PySem.W.codeIn K cd_Plan_init "Plan.__init__" = true)
    (k_Plan_init : PySem.W.keepIn K (.ref f_Plan_init) = true)
    (a_Plan_give_place : PySem.W.findIn K (.ref C_Plan) "give_place" = some (some (.ref f_Plan_give_place)))
    (i_Plan_give_place : PySem.W.isFn K (.ref f_Plan_give_place) = true)
    (l_Plan_give_place : K.lookup f_Plan_give_place = some ⟨oc_Plan_give_place, od_Plan_give_place, .func (PySem.W.fnOf "give_place" "Plan.give_place" (defArgs s_Plan_give_place) (defBody s_Plan_give_place) (defScope s_Plan_give_place) .none kV_Plan_give_place dc_Plan_give_place pm_Plan_give_place an_Plan_give_place cd_Plan_give_place ct_Plan_give_place), sl_Plan_give_place⟩)
    (c_Plan_give_place : PySem.W.codeIn K cd_Plan_give_place "Plan.give_place" = true)
    (k_Plan_give_place : PySem.W.keepIn K (.ref f_Plan_give_place) = true)
    (a_Plan_comers_for : PySem.W.findIn K (.ref C_Plan) "comers_for" = some (some (.ref f_Plan_comers_for)))
    (i_Plan_comers_for : PySem.W.isFn K (.ref f_Plan_comers_for) = true)
    (l_Plan_comers_for : K.lookup f_Plan_comers_for = some ⟨oc_Plan_comers_for, od_Plan_comers_for, .func (PySem.W.fnOf "comers_for" "Plan.comers_for" (defArgs s_Plan_comers_for) (defBody s_Plan_comers_for) (defScope s_Plan_comers_for) .none kV_Plan_comers_for dc_Plan_comers_for pm_Plan_comers_for an_Plan_comers_for cd_Plan_comers_for ct_Plan_comers_for), sl_Plan_comers_for⟩)
    (c_Plan_comers_for : PySem.W.codeIn K cd_Plan_comers_for "Plan.comers_for" = true)
    (k_Plan_comers_for : PySem.W.keepIn K (.ref f_Plan_comers_for) = true)
    (a_Plan_reach_on : PySem.W.findIn K (.ref C_Plan) "reach_on" = some (some (.ref f_Plan_reach_on)))
    (i_Plan_reach_on : PySem.W.isFn K (.ref f_Plan_reach_on) = true)
    (l_Plan_reach_on : K.lookup f_Plan_reach_on = some ⟨oc_Plan_reach_on, od_Plan_reach_on, .func (PySem.W.fnOf "reach_on" "Plan.reach_on" (defArgs s_Plan_reach_on) (defBody s_Plan_reach_on) (defScope s_Plan_reach_on) .none kV_Plan_reach_on dc_Plan_reach_on pm_Plan_reach_on an_Plan_reach_on cd_Plan_reach_on ct_Plan_reach_on), sl_Plan_reach_on⟩)
    (c_Plan_reach_on : PySem.W.codeIn K cd_Plan_reach_on "Plan.reach_on" = true)
    (k_Plan_reach_on : PySem.W.keepIn K (.ref f_Plan_reach_on) = true)
    (a_Plan_shift : PySem.W.findIn K (.ref C_Plan) "shift" = some (some (.ref f_Plan_shift)))
    (i_Plan_shift : PySem.W.isFn K (.ref f_Plan_shift) = true)
    (l_Plan_shift : K.lookup f_Plan_shift = some ⟨oc_Plan_shift, od_Plan_shift, .func (PySem.W.fnOf "shift" "Plan.shift" (defArgs s_Plan_shift) (defBody s_Plan_shift) (defScope s_Plan_shift) .none kV_Plan_shift dc_Plan_shift pm_Plan_shift an_Plan_shift cd_Plan_shift ct_Plan_shift), sl_Plan_shift⟩)
    (c_Plan_shift : PySem.W.codeIn K cd_Plan_shift "Plan.shift" = true)
    (k_Plan_shift : PySem.W.keepIn K (.ref f_Plan_shift) = true)
    (a_Plan_settle : PySem.W.findIn K (.ref C_Plan) "settle" = some (some (.ref f_Plan_settle)))
    (i_Plan_settle : PySem.W.isFn K (.ref f_Plan_settle) = true)
    (l_Plan_settle : K.lookup f_Plan_settle = some ⟨oc_Plan_settle, od_Plan_settle, .func (PySem.W.fnOf "settle" "Plan.settle" (defArgs s_Plan_settle) (defBody s_Plan_settle) (defScope s_Plan_settle) .none kV_Plan_settle dc_Plan_settle pm_Plan_settle an_Plan_settle cd_Plan_settle ct_Plan_settle), sl_Plan_settle⟩)
    (c_Plan_settle : PySem.W.codeIn K cd_Plan_settle "Plan.settle" = true)
    (k_Plan_settle : PySem.W.keepIn K (.ref f_Plan_settle) = true)
    (a_moved_clients : PySem.W.nsIn K mainGlobals "moved_clients" = some (some (.ref f_moved_clients)))
    (l_moved_clients : K.lookup f_moved_clients = some ⟨oc_moved_clients, od_moved_clients, .func (PySem.W.fnOf "moved_clients" "moved_clients" (defArgs s_moved_clients) (defBody s_moved_clients) (defScope s_moved_clients) .none kV_moved_clients dc_moved_clients pm_moved_clients an_moved_clients cd_moved_clients ct_moved_clients), sl_moved_clients⟩)
    (c_moved_clients : PySem.W.codeIn K cd_moved_clients "moved_clients" = true)
    (k_moved_clients : PySem.W.keepIn K (.ref f_moved_clients) = true)
    (a_moved_of : PySem.W.nsIn K mainGlobals "moved_of" = some (some (.ref f_moved_of)))
    (l_moved_of : K.lookup f_moved_of = some ⟨oc_moved_of, od_moved_of, .func (PySem.W.fnOf "moved_of" "moved_of" (defArgs s_moved_of) (defBody s_moved_of) (defScope s_moved_of) .none kV_moved_of dc_moved_of pm_moved_of an_moved_of cd_moved_of ct_moved_of), sl_moved_of⟩)
    (c_moved_of : PySem.W.codeIn K cd_moved_of "moved_of" = true)
    (k_moved_of : PySem.W.keepIn K (.ref f_moved_of) = true)
    (a_places_told : PySem.W.nsIn K mainGlobals "places_told" = some (some (.ref f_places_told)))
    (l_places_told : K.lookup f_places_told = some ⟨oc_places_told, od_places_told, .func (PySem.W.fnOf "places_told" "places_told" (defArgs s_places_told) (defBody s_places_told) (defScope s_places_told) .none kV_places_told dc_places_told pm_places_told an_places_told cd_places_told ct_places_told), sl_places_told⟩)
    (c_places_told : PySem.W.codeIn K cd_places_told "places_told" = true)
    (k_places_told : PySem.W.keepIn K (.ref f_places_told) = true)
    (a_clients_left : PySem.W.nsIn K mainGlobals "clients_left" = some (some (.ref f_clients_left)))
    (l_clients_left : K.lookup f_clients_left = some ⟨oc_clients_left, od_clients_left, .func (PySem.W.fnOf "clients_left" "clients_left" (defArgs s_clients_left) (defBody s_clients_left) (defScope s_clients_left) .none kV_clients_left dc_clients_left pm_clients_left an_clients_left cd_clients_left ct_clients_left), sl_clients_left⟩)
    (c_clients_left : PySem.W.codeIn K cd_clients_left "clients_left" = true)
    (k_clients_left : PySem.W.keepIn K (.ref f_clients_left) = true)
    (a_can_go_to : PySem.W.nsIn K mainGlobals "can_go_to" = some (some (.ref f_can_go_to)))
    (l_can_go_to : K.lookup f_can_go_to = some ⟨oc_can_go_to, od_can_go_to, .func (PySem.W.fnOf "can_go_to" "can_go_to" (defArgs s_can_go_to) (defBody s_can_go_to) (defScope s_can_go_to) .none kV_can_go_to dc_can_go_to pm_can_go_to an_can_go_to cd_can_go_to ct_can_go_to), sl_can_go_to⟩)
    (c_can_go_to : PySem.W.codeIn K cd_can_go_to "can_go_to" = true)
    (k_can_go_to : PySem.W.keepIn K (.ref f_can_go_to) = true)
    (a_is_placing : PySem.W.nsIn K mainGlobals "is_placing" = some (some (.ref f_is_placing)))
    (l_is_placing : K.lookup f_is_placing = some ⟨oc_is_placing, od_is_placing, .func (PySem.W.fnOf "is_placing" "is_placing" (defArgs s_is_placing) (defBody s_is_placing) (defScope s_is_placing) .none kV_is_placing dc_is_placing pm_is_placing an_is_placing cd_is_placing ct_is_placing), sl_is_placing⟩)
    (c_is_placing : PySem.W.codeIn K cd_is_placing "is_placing" = true)
    (k_is_placing : PySem.W.keepIn K (.ref f_is_placing) = true)
    (a_refusal_of_member : PySem.W.nsIn K mainGlobals "refusal_of_member" = some (some (.ref f_refusal_of_member)))
    (l_refusal_of_member : K.lookup f_refusal_of_member = some ⟨oc_refusal_of_member, od_refusal_of_member, .func (PySem.W.fnOf "refusal_of_member" "refusal_of_member" (defArgs s_refusal_of_member) (defBody s_refusal_of_member) (defScope s_refusal_of_member) .none kV_refusal_of_member dc_refusal_of_member pm_refusal_of_member an_refusal_of_member cd_refusal_of_member ct_refusal_of_member), sl_refusal_of_member⟩)
    (c_refusal_of_member : PySem.W.codeIn K cd_refusal_of_member "refusal_of_member" = true)
    (k_refusal_of_member : PySem.W.keepIn K (.ref f_refusal_of_member) = true)
    (a_refusal_of_client : PySem.W.nsIn K mainGlobals "refusal_of_client" = some (some (.ref f_refusal_of_client)))
    (l_refusal_of_client : K.lookup f_refusal_of_client = some ⟨oc_refusal_of_client, od_refusal_of_client, .func (PySem.W.fnOf "refusal_of_client" "refusal_of_client" (defArgs s_refusal_of_client) (defBody s_refusal_of_client) (defScope s_refusal_of_client) .none kV_refusal_of_client dc_refusal_of_client pm_refusal_of_client an_refusal_of_client cd_refusal_of_client ct_refusal_of_client), sl_refusal_of_client⟩)
    (c_refusal_of_client : PySem.W.codeIn K cd_refusal_of_client "refusal_of_client" = true)
    (k_refusal_of_client : PySem.W.keepIn K (.ref f_refusal_of_client) = true)
    (a_refusal_of_members : PySem.W.nsIn K mainGlobals "refusal_of_members" = some (some (.ref f_refusal_of_members)))
    (l_refusal_of_members : K.lookup f_refusal_of_members = some ⟨oc_refusal_of_members, od_refusal_of_members, .func (PySem.W.fnOf "refusal_of_members" "refusal_of_members" (defArgs s_refusal_of_members) (defBody s_refusal_of_members) (defScope s_refusal_of_members) .none kV_refusal_of_members dc_refusal_of_members pm_refusal_of_members an_refusal_of_members cd_refusal_of_members ct_refusal_of_members), sl_refusal_of_members⟩)
    (c_refusal_of_members : PySem.W.codeIn K cd_refusal_of_members "refusal_of_members" = true)
    (k_refusal_of_members : PySem.W.keepIn K (.ref f_refusal_of_members) = true)
    (a_add_member : PySem.W.nsIn K mainGlobals "add_member" = some (some (.ref f_add_member)))
    (l_add_member : K.lookup f_add_member = some ⟨oc_add_member, od_add_member, .func (PySem.W.fnOf "add_member" "add_member" (defArgs s_add_member) (defBody s_add_member) (defScope s_add_member) .none kV_add_member dc_add_member pm_add_member an_add_member cd_add_member ct_add_member), sl_add_member⟩)
    (c_add_member : PySem.W.codeIn K cd_add_member "add_member" = true)
    (k_add_member : PySem.W.keepIn K (.ref f_add_member) = true)
    (a_add_client : PySem.W.nsIn K mainGlobals "add_client" = some (some (.ref f_add_client)))
    (l_add_client : K.lookup f_add_client = some ⟨oc_add_client, od_add_client, .func (PySem.W.fnOf "add_client" "add_client" (defArgs s_add_client) (defBody s_add_client) (defScope s_add_client) .none kV_add_client dc_add_client pm_add_client an_add_client cd_add_client ct_add_client), sl_add_client⟩)
    (c_add_client : PySem.W.codeIn K cd_add_client "add_client" = true)
    (k_add_client : PySem.W.keepIn K (.ref f_add_client) = true)
    (a_end_member : PySem.W.nsIn K mainGlobals "end_member" = some (some (.ref f_end_member)))
    (l_end_member : K.lookup f_end_member = some ⟨oc_end_member, od_end_member, .func (PySem.W.fnOf "end_member" "end_member" (defArgs s_end_member) (defBody s_end_member) (defScope s_end_member) .none kV_end_member dc_end_member pm_end_member an_end_member cd_end_member ct_end_member), sl_end_member⟩)
    (c_end_member : PySem.W.codeIn K cd_end_member "end_member" = true)
    (k_end_member : PySem.W.keepIn K (.ref f_end_member) = true)
    (a_drop_client : PySem.W.nsIn K mainGlobals "drop_client" = some (some (.ref f_drop_client)))
    (l_drop_client : K.lookup f_drop_client = some ⟨oc_drop_client, od_drop_client, .func (PySem.W.fnOf "drop_client" "drop_client" (defArgs s_drop_client) (defBody s_drop_client) (defScope s_drop_client) .none kV_drop_client dc_drop_client pm_drop_client an_drop_client cd_drop_client ct_drop_client), sl_drop_client⟩)
    (c_drop_client : PySem.W.codeIn K cd_drop_client "drop_client" = true)
    (k_drop_client : PySem.W.keepIn K (.ref f_drop_client) = true)
    (a_change_room : PySem.W.nsIn K mainGlobals "change_room" = some (some (.ref f_change_room)))
    (l_change_room : K.lookup f_change_room = some ⟨oc_change_room, od_change_room, .func (PySem.W.fnOf "change_room" "change_room" (defArgs s_change_room) (defBody s_change_room) (defScope s_change_room) .none kV_change_room dc_change_room pm_change_room an_change_room cd_change_room ct_change_room), sl_change_room⟩)
    (c_change_room : PySem.W.codeIn K cd_change_room "change_room" = true)
    (k_change_room : PySem.W.keepIn K (.ref f_change_room) = true)
    (a_change_order : PySem.W.nsIn K mainGlobals "change_order" = some (some (.ref f_change_order)))
    (l_change_order : K.lookup f_change_order = some ⟨oc_change_order, od_change_order, .func (PySem.W.fnOf "change_order" "change_order" (defArgs s_change_order) (defBody s_change_order) (defScope s_change_order) .none kV_change_order dc_change_order pm_change_order an_change_order cd_change_order ct_change_order), sl_change_order⟩)
    (c_change_order : PySem.W.codeIn K cd_change_order "change_order" = true)
    (k_change_order : PySem.W.keepIn K (.ref f_change_order) = true)
    (a_change_takers : PySem.W.nsIn K mainGlobals "change_takers" = some (some (.ref f_change_takers)))
    (l_change_takers : K.lookup f_change_takers = some ⟨oc_change_takers, od_change_takers, .func (PySem.W.fnOf "change_takers" "change_takers" (defArgs s_change_takers) (defBody s_change_takers) (defScope s_change_takers) .none kV_change_takers dc_change_takers pm_change_takers an_change_takers cd_change_takers ct_change_takers), sl_change_takers⟩)
    (c_change_takers : PySem.W.codeIn K cd_change_takers "change_takers" = true)
    (k_change_takers : PySem.W.keepIn K (.ref f_change_takers) = true)
    (a_move_clients : PySem.W.nsIn K mainGlobals "move_clients" = some (some (.ref f_move_clients)))
    (l_move_clients : K.lookup f_move_clients = some ⟨oc_move_clients, od_move_clients, .func (PySem.W.fnOf "move_clients" "move_clients" (defArgs s_move_clients) (defBody s_move_clients) (defScope s_move_clients) .none kV_move_clients dc_move_clients pm_move_clients an_move_clients cd_move_clients ct_move_clients), sl_move_clients⟩)
    (c_move_clients : PySem.W.codeIn K cd_move_clients "move_clients" = true)
    (k_move_clients : PySem.W.keepIn K (.ref f_move_clients) = true)
    (a_tell_without : PySem.W.nsIn K mainGlobals "tell_without" = some (some (.ref f_tell_without)))
    (l_tell_without : K.lookup f_tell_without = some ⟨oc_tell_without, od_tell_without, .func (PySem.W.fnOf "tell_without" "tell_without" (defArgs s_tell_without) (defBody s_tell_without) (defScope s_tell_without) .none kV_tell_without dc_tell_without pm_tell_without an_tell_without cd_tell_without ct_tell_without), sl_tell_without⟩)
    (c_tell_without : PySem.W.codeIn K cd_tell_without "tell_without" = true)
    (k_tell_without : PySem.W.keepIn K (.ref f_tell_without) = true)
    (a_tell_roomier : PySem.W.nsIn K mainGlobals "tell_roomier" = some (some (.ref f_tell_roomier)))
    (l_tell_roomier : K.lookup f_tell_roomier = some ⟨oc_tell_roomier, od_tell_roomier, .func (PySem.W.fnOf "tell_roomier" "tell_roomier" (defArgs s_tell_roomier) (defBody s_tell_roomier) (defScope s_tell_roomier) .none kV_tell_roomier dc_tell_roomier pm_tell_roomier an_tell_roomier cd_tell_roomier ct_tell_roomier), sl_tell_roomier⟩)
    (c_tell_roomier : PySem.W.codeIn K cd_tell_roomier "tell_roomier" = true)
    (k_tell_roomier : PySem.W.keepIn K (.ref f_tell_roomier) = true)
    (a_tell_first : PySem.W.nsIn K mainGlobals "tell_first" = some (some (.ref f_tell_first)))
    (l_tell_first : K.lookup f_tell_first = some ⟨oc_tell_first, od_tell_first, .func (PySem.W.fnOf "tell_first" "tell_first" (defArgs s_tell_first) (defBody s_tell_first) (defScope s_tell_first) .none kV_tell_first dc_tell_first pm_tell_first an_tell_first cd_tell_first ct_tell_first), sl_tell_first⟩)
    (c_tell_first : PySem.W.codeIn K cd_tell_first "tell_first" = true)
    (k_tell_first : PySem.W.keepIn K (.ref f_tell_first) = true)
    (a_told_but : PySem.W.nsIn K mainGlobals "told_but" = some (some (.ref f_told_but)))
    (l_told_but : K.lookup f_told_but = some ⟨oc_told_but, od_told_but, .func (PySem.W.fnOf "told_but" "told_but" (defArgs s_told_but) (defBody s_told_but) (defScope s_told_but) .none kV_told_but dc_told_but pm_told_but an_told_but cd_told_but ct_told_but), sl_told_but⟩)
    (c_told_but : PySem.W.codeIn K cd_told_but "told_but" = true)
    (k_told_but : PySem.W.keepIn K (.ref f_told_but) = true)
    (a_tell_why : PySem.W.nsIn K mainGlobals "tell_why" = some (some (.ref f_tell_why)))
    (l_tell_why : K.lookup f_tell_why = some ⟨oc_tell_why, od_tell_why, .func (PySem.W.fnOf "tell_why" "tell_why" (defArgs s_tell_why) (defBody s_tell_why) (defScope s_tell_why) .none kV_tell_why dc_tell_why pm_tell_why an_tell_why cd_tell_why ct_tell_why), sl_tell_why⟩)
    (c_tell_why : PySem.W.codeIn K cd_tell_why "tell_why" = true)
    (k_tell_why : PySem.W.keepIn K (.ref f_tell_why) = true)
    (a_tell_check : PySem.W.nsIn K mainGlobals "tell_check" = some (some (.ref f_tell_check)))
    (l_tell_check : K.lookup f_tell_check = some ⟨oc_tell_check, od_tell_check, .func (PySem.W.fnOf "tell_check" "tell_check" (defArgs s_tell_check) (defBody s_tell_check) (defScope s_tell_check) .none kV_tell_check dc_tell_check pm_tell_check an_tell_check cd_tell_check ct_tell_check), sl_tell_check⟩)
    (c_tell_check : PySem.W.codeIn K cd_tell_check "tell_check" = true)
    (k_tell_check : PySem.W.keepIn K (.ref f_tell_check) = true)
    (a_tell_bound : PySem.W.nsIn K mainGlobals "tell_bound" = some (some (.ref f_tell_bound)))
    (l_tell_bound : K.lookup f_tell_bound = some ⟨oc_tell_bound, od_tell_bound, .func (PySem.W.fnOf "tell_bound" "tell_bound" (defArgs s_tell_bound) (defBody s_tell_bound) (defScope s_tell_bound) .none kV_tell_bound dc_tell_bound pm_tell_bound an_tell_bound cd_tell_bound ct_tell_bound), sl_tell_bound⟩)
    (c_tell_bound : PySem.W.codeIn K cd_tell_bound "tell_bound" = true)
    (k_tell_bound : PySem.W.keepIn K (.ref f_tell_bound) = true)
    (a_tell_cover : PySem.W.nsIn K mainGlobals "tell_cover" = some (some (.ref f_tell_cover)))
    (l_tell_cover : K.lookup f_tell_cover = some ⟨oc_tell_cover, od_tell_cover, .func (PySem.W.fnOf "tell_cover" "tell_cover" (defArgs s_tell_cover) (defBody s_tell_cover) (defScope s_tell_cover) .none kV_tell_cover dc_tell_cover pm_tell_cover an_tell_cover cd_tell_cover ct_tell_cover), sl_tell_cover⟩)
    (c_tell_cover : PySem.W.codeIn K cd_tell_cover "tell_cover" = true)
    (k_tell_cover : PySem.W.keepIn K (.ref f_tell_cover) = true)
    (a_keeps : PySem.W.nsIn K mainGlobals "keeps" = some (some (.ref f_keeps)))
    (l_keeps : K.lookup f_keeps = some ⟨oc_keeps, od_keeps, .func (PySem.W.fnOf "keeps" "keeps" (defArgs s_keeps) (defBody s_keeps) (defScope s_keeps) .none kV_keeps dc_keeps pm_keeps an_keeps cd_keeps ct_keeps), sl_keeps⟩)
    (c_keeps : PySem.W.codeIn K cd_keeps "keeps" = true)
    (k_keeps : PySem.W.keepIn K (.ref f_keeps) = true)
    (a_rooms_together : PySem.W.nsIn K mainGlobals "rooms_together" = some (some (.ref f_rooms_together)))
    (l_rooms_together : K.lookup f_rooms_together = some ⟨oc_rooms_together, od_rooms_together, .func (PySem.W.fnOf "rooms_together" "rooms_together" (defArgs s_rooms_together) (defBody s_rooms_together) (defScope s_rooms_together) .none kV_rooms_together dc_rooms_together pm_rooms_together an_rooms_together cd_rooms_together ct_rooms_together), sl_rooms_together⟩)
    (c_rooms_together : PySem.W.codeIn K cd_rooms_together "rooms_together" = true)
    (k_rooms_together : PySem.W.keepIn K (.ref f_rooms_together) = true)
    (a_proves : PySem.W.nsIn K mainGlobals "proves" = some (some (.ref f_proves)))
    (l_proves : K.lookup f_proves = some ⟨oc_proves, od_proves, .func (PySem.W.fnOf "proves" "proves" (defArgs s_proves) (defBody s_proves) (defScope s_proves) .none kV_proves dc_proves pm_proves an_proves cd_proves ct_proves), sl_proves⟩)
    (c_proves : PySem.W.codeIn K cd_proves "proves" = true)
    (k_proves : PySem.W.keepIn K (.ref f_proves) = true)
    (a_House_init : PySem.W.findIn K (.ref C_House) "__init__" = some (some (.ref f_House_init)))
    (i_House_init : PySem.W.isFn K (.ref f_House_init) = true)
    (l_House_init : K.lookup f_House_init = some ⟨oc_House_init, od_House_init, .func (PySem.W.fnOf "__init__" "House.__init__" (defArgs s_House_init) (defBody s_House_init) (defScope s_House_init) .none kV_House_init dc_House_init pm_House_init an_House_init cd_House_init ct_House_init), sl_House_init⟩)
    (c_House_init : PySem.W.codeIn K cd_House_init "House.__init__" = true)
    (k_House_init : PySem.W.keepIn K (.ref f_House_init) = true)
    (a_House_has_members : PySem.W.findIn K (.ref C_House) "has_members" = some (some (.ref f_House_has_members)))
    (i_House_has_members : PySem.W.isFn K (.ref f_House_has_members) = true)
    (l_House_has_members : K.lookup f_House_has_members = some ⟨oc_House_has_members, od_House_has_members, .func (PySem.W.fnOf "has_members" "House.has_members" (defArgs s_House_has_members) (defBody s_House_has_members) (defScope s_House_has_members) .none kV_House_has_members dc_House_has_members pm_House_has_members an_House_has_members cd_House_has_members ct_House_has_members), sl_House_has_members⟩)
    (c_House_has_members : PySem.W.codeIn K cd_House_has_members "House.has_members" = true)
    (k_House_has_members : PySem.W.keepIn K (.ref f_House_has_members) = true)
    (a_House_is_taker : PySem.W.findIn K (.ref C_House) "is_taker" = some (some (.ref f_House_is_taker)))
    (i_House_is_taker : PySem.W.isFn K (.ref f_House_is_taker) = true)
    (l_House_is_taker : K.lookup f_House_is_taker = some ⟨oc_House_is_taker, od_House_is_taker, .func (PySem.W.fnOf "is_taker" "House.is_taker" (defArgs s_House_is_taker) (defBody s_House_is_taker) (defScope s_House_is_taker) .none kV_House_is_taker dc_House_is_taker pm_House_is_taker an_House_is_taker cd_House_is_taker ct_House_is_taker), sl_House_is_taker⟩)
    (c_House_is_taker : PySem.W.codeIn K cd_House_is_taker "House.is_taker" = true)
    (k_House_is_taker : PySem.W.keepIn K (.ref f_House_is_taker) = true)
    (a_House_clients_in_order : PySem.W.findIn K (.ref C_House) "clients_in_order" = some (some (.ref f_House_clients_in_order)))
    (i_House_clients_in_order : PySem.W.isFn K (.ref f_House_clients_in_order) = true)
    (l_House_clients_in_order : K.lookup f_House_clients_in_order = some ⟨oc_House_clients_in_order, od_House_clients_in_order, .func (PySem.W.fnOf "clients_in_order" "House.clients_in_order" (defArgs s_House_clients_in_order) (defBody s_House_clients_in_order) (defScope s_House_clients_in_order) .none kV_House_clients_in_order dc_House_clients_in_order pm_House_clients_in_order an_House_clients_in_order cd_House_clients_in_order ct_House_clients_in_order), sl_House_clients_in_order⟩)
    (c_House_clients_in_order : PySem.W.codeIn K cd_House_clients_in_order "House.clients_in_order" = true)
    (k_House_clients_in_order : PySem.W.keepIn K (.ref f_House_clients_in_order) = true)
    (a_House_clients_before : PySem.W.findIn K (.ref C_House) "clients_before" = some (some (.ref f_House_clients_before)))
    (i_House_clients_before : PySem.W.isFn K (.ref f_House_clients_before) = true)
    (l_House_clients_before : K.lookup f_House_clients_before = some ⟨oc_House_clients_before, od_House_clients_before, .func (PySem.W.fnOf "clients_before" "House.clients_before" (defArgs s_House_clients_before) (defBody s_House_clients_before) (defScope s_House_clients_before) .none kV_House_clients_before dc_House_clients_before pm_House_clients_before an_House_clients_before cd_House_clients_before ct_House_clients_before), sl_House_clients_before⟩)
    (c_House_clients_before : PySem.W.codeIn K cd_House_clients_before "House.clients_before" = true)
    (k_House_clients_before : PySem.W.keepIn K (.ref f_House_clients_before) = true)
    (a_House_forget_client : PySem.W.findIn K (.ref C_House) "forget_client" = some (some (.ref f_House_forget_client)))
    (i_House_forget_client : PySem.W.isFn K (.ref f_House_forget_client) = true)
    (l_House_forget_client : K.lookup f_House_forget_client = some ⟨oc_House_forget_client, od_House_forget_client, .func (PySem.W.fnOf "forget_client" "House.forget_client" (defArgs s_House_forget_client) (defBody s_House_forget_client) (defScope s_House_forget_client) .none kV_House_forget_client dc_House_forget_client pm_House_forget_client an_House_forget_client cd_House_forget_client ct_House_forget_client), sl_House_forget_client⟩)
    (c_House_forget_client : PySem.W.codeIn K cd_House_forget_client "House.forget_client" = true)
    (k_House_forget_client : PySem.W.keepIn K (.ref f_House_forget_client) = true)
    (a_tell_moved : PySem.W.nsIn K mainGlobals "tell_moved" = some (some (.ref f_tell_moved)))
    (l_tell_moved : K.lookup f_tell_moved = some ⟨oc_tell_moved, od_tell_moved, .func (PySem.W.fnOf "tell_moved" "tell_moved" (defArgs s_tell_moved) (defBody s_tell_moved) (defScope s_tell_moved) .none kV_tell_moved dc_tell_moved pm_tell_moved an_tell_moved cd_tell_moved ct_tell_moved), sl_tell_moved⟩)
    (c_tell_moved : PySem.W.codeIn K cd_tell_moved "tell_moved" = true)
    (k_tell_moved : PySem.W.keepIn K (.ref f_tell_moved) = true)
    (a_tell_left : PySem.W.nsIn K mainGlobals "tell_left" = some (some (.ref f_tell_left)))
    (l_tell_left : K.lookup f_tell_left = some ⟨oc_tell_left, od_tell_left, .func (PySem.W.fnOf "tell_left" "tell_left" (defArgs s_tell_left) (defBody s_tell_left) (defScope s_tell_left) .none kV_tell_left dc_tell_left pm_tell_left an_tell_left cd_tell_left ct_tell_left), sl_tell_left⟩)
    (c_tell_left : PySem.W.codeIn K cd_tell_left "tell_left" = true)
    (k_tell_left : PySem.W.keepIn K (.ref f_tell_left) = true)
    (a_tell_where : PySem.W.nsIn K mainGlobals "tell_where" = some (some (.ref f_tell_where)))
    (l_tell_where : K.lookup f_tell_where = some ⟨oc_tell_where, od_tell_where, .func (PySem.W.fnOf "tell_where" "tell_where" (defArgs s_tell_where) (defBody s_tell_where) (defScope s_tell_where) .none kV_tell_where dc_tell_where pm_tell_where an_tell_where cd_tell_where ct_tell_where), sl_tell_where⟩)
    (c_tell_where : PySem.W.codeIn K cd_tell_where "tell_where" = true)
    (k_tell_where : PySem.W.keepIn K (.ref f_tell_where) = true)
    (a_tell_may : PySem.W.nsIn K mainGlobals "tell_may" = some (some (.ref f_tell_may)))
    (l_tell_may : K.lookup f_tell_may = some ⟨oc_tell_may, od_tell_may, .func (PySem.W.fnOf "tell_may" "tell_may" (defArgs s_tell_may) (defBody s_tell_may) (defScope s_tell_may) .none kV_tell_may dc_tell_may pm_tell_may an_tell_may cd_tell_may ct_tell_may), sl_tell_may⟩)
    (c_tell_may : PySem.W.codeIn K cd_tell_may "tell_may" = true)
    (k_tell_may : PySem.W.keepIn K (.ref f_tell_may) = true)
    (a_tell_isplan : PySem.W.nsIn K mainGlobals "tell_isplan" = some (some (.ref f_tell_isplan)))
    (l_tell_isplan : K.lookup f_tell_isplan = some ⟨oc_tell_isplan, od_tell_isplan, .func (PySem.W.fnOf "tell_isplan" "tell_isplan" (defArgs s_tell_isplan) (defBody s_tell_isplan) (defScope s_tell_isplan) .none kV_tell_isplan dc_tell_isplan pm_tell_isplan an_tell_isplan cd_tell_isplan ct_tell_isplan), sl_tell_isplan⟩)
    (c_tell_isplan : PySem.W.codeIn K cd_tell_isplan "tell_isplan" = true)
    (k_tell_isplan : PySem.W.keepIn K (.ref f_tell_isplan) = true)
    (a_tell_members : PySem.W.nsIn K mainGlobals "tell_members" = some (some (.ref f_tell_members)))
    (l_tell_members : K.lookup f_tell_members = some ⟨oc_tell_members, od_tell_members, .func (PySem.W.fnOf "tell_members" "tell_members" (defArgs s_tell_members) (defBody s_tell_members) (defScope s_tell_members) .none kV_tell_members dc_tell_members pm_tell_members an_tell_members cd_tell_members ct_tell_members), sl_tell_members⟩)
    (c_tell_members : PySem.W.codeIn K cd_tell_members "tell_members" = true)
    (k_tell_members : PySem.W.keepIn K (.ref f_tell_members) = true)
    (a_tell_clients : PySem.W.nsIn K mainGlobals "tell_clients" = some (some (.ref f_tell_clients)))
    (l_tell_clients : K.lookup f_tell_clients = some ⟨oc_tell_clients, od_tell_clients, .func (PySem.W.fnOf "tell_clients" "tell_clients" (defArgs s_tell_clients) (defBody s_tell_clients) (defScope s_tell_clients) .none kV_tell_clients dc_tell_clients pm_tell_clients an_tell_clients cd_tell_clients ct_tell_clients), sl_tell_clients⟩)
    (c_tell_clients : PySem.W.codeIn K cd_tell_clients "tell_clients" = true)
    (k_tell_clients : PySem.W.keepIn K (.ref f_tell_clients) = true)
    (a_answers : PySem.W.nsIn K mainGlobals "answers" = some (some (.ref f_answers)))
    (l_answers : K.lookup f_answers = some ⟨oc_answers, od_answers, .func (PySem.W.fnOf "answers" "answers" (defArgs s_answers) (defBody s_answers) (defScope s_answers) .none kV_answers dc_answers pm_answers an_answers cd_answers ct_answers), sl_answers⟩)
    (c_answers : PySem.W.codeIn K cd_answers "answers" = true)
    (k_answers : PySem.W.keepIn K (.ref f_answers) = true)
    (a_answer_to : PySem.W.nsIn K mainGlobals "answer_to" = some (some (.ref f_answer_to)))
    (l_answer_to : K.lookup f_answer_to = some ⟨oc_answer_to, od_answer_to, .func (PySem.W.fnOf "answer_to" "answer_to" (defArgs s_answer_to) (defBody s_answer_to) (defScope s_answer_to) .none kV_answer_to dc_answer_to pm_answer_to an_answer_to cd_answer_to ct_answer_to), sl_answer_to⟩)
    (c_answer_to : PySem.W.codeIn K cd_answer_to "answer_to" = true)
    (k_answer_to : PySem.W.keepIn K (.ref f_answer_to) = true)
    (a_change : PySem.W.nsIn K mainGlobals "change" = some (some (.ref f_change)))
    (l_change : K.lookup f_change = some ⟨oc_change, od_change, .func (PySem.W.fnOf "change" "change" (defArgs s_change) (defBody s_change) (defScope s_change) .none kV_change dc_change pm_change an_change cd_change ct_change), sl_change⟩)
    (c_change : PySem.W.codeIn K cd_change "change" = true)
    (k_change : PySem.W.keepIn K (.ref f_change) = true)
    (a_tell : PySem.W.nsIn K mainGlobals "tell" = some (some (.ref f_tell)))
    (l_tell : K.lookup f_tell = some ⟨oc_tell, od_tell, .func (PySem.W.fnOf "tell" "tell" (defArgs s_tell) (defBody s_tell) (defScope s_tell) .none kV_tell dc_tell pm_tell an_tell cd_tell ct_tell), sl_tell⟩)
    (c_tell : PySem.W.codeIn K cd_tell "tell" = true)
    (k_tell : PySem.W.keepIn K (.ref f_tell) = true)
    (a_tell_reasons : PySem.W.nsIn K mainGlobals "tell_reasons" = some (some (.ref f_tell_reasons)))
    (l_tell_reasons : K.lookup f_tell_reasons = some ⟨oc_tell_reasons, od_tell_reasons, .func (PySem.W.fnOf "tell_reasons" "tell_reasons" (defArgs s_tell_reasons) (defBody s_tell_reasons) (defScope s_tell_reasons) .none kV_tell_reasons dc_tell_reasons pm_tell_reasons an_tell_reasons cd_tell_reasons ct_tell_reasons), sl_tell_reasons⟩)
    (c_tell_reasons : PySem.W.codeIn K cd_tell_reasons "tell_reasons" = true)
    (k_tell_reasons : PySem.W.keepIn K (.ref f_tell_reasons) = true)
    (e_OUT_OF_RANGE : PySem.W.nsIn K mainGlobals "OUT_OF_RANGE" = some (some u_OUT_OF_RANGE))
    (v_OUT_OF_RANGE : RelV (.int (-1)) u_OUT_OF_RANGE)
    (e_KEY_IS_USED : PySem.W.nsIn K mainGlobals "KEY_IS_USED" = some (some u_KEY_IS_USED))
    (v_KEY_IS_USED : RelV (.int (-2)) u_KEY_IS_USED)
    (e_ONE_TWICE : PySem.W.nsIn K mainGlobals "ONE_TWICE" = some (some u_ONE_TWICE))
    (v_ONE_TWICE : RelV (.int (-3)) u_ONE_TWICE)
    (e_NOT_THERE : PySem.W.nsIn K mainGlobals "NOT_THERE" = some (some u_NOT_THERE))
    (v_NOT_THERE : RelV (.int (-4)) u_NOT_THERE)
    (e_IS_MOVED : PySem.W.nsIn K mainGlobals "IS_MOVED" = some (some u_IS_MOVED))
    (v_IS_MOVED : RelV (.int (-6)) u_IS_MOVED)
    (e_IS_A_TAKER : PySem.W.nsIn K mainGlobals "IS_A_TAKER" = some (some u_IS_A_TAKER))
    (v_IS_A_TAKER : RelV (.int (-7)) u_IS_A_TAKER)
    (e_HOUSE_IS_FULL : PySem.W.nsIn K mainGlobals "HOUSE_IS_FULL" = some (some u_HOUSE_IS_FULL))
    (v_HOUSE_IS_FULL : RelV (.int (-9)) u_HOUSE_IS_FULL)
    (e_HIGHEST_KEY : PySem.W.nsIn K mainGlobals "HIGHEST_KEY" = some (some u_HIGHEST_KEY))
    (v_HIGHEST_KEY : RelV (.int (1000000000)) u_HIGHEST_KEY)
    (e_HIGHEST_ROOM : PySem.W.nsIn K mainGlobals "HIGHEST_ROOM" = some (some u_HIGHEST_ROOM))
    (v_HIGHEST_ROOM : RelV (.int (16)) u_HIGHEST_ROOM)
    (e_HIGHEST_ORDER : PySem.W.nsIn K mainGlobals "HIGHEST_ORDER" = some (some u_HIGHEST_ORDER))
    (v_HIGHEST_ORDER : RelV (.int (1000000)) u_HIGHEST_ORDER)
    (e_MOST_MEMBERS : PySem.W.nsIn K mainGlobals "MOST_MEMBERS" = some (some u_MOST_MEMBERS))
    (v_MOST_MEMBERS : RelV (.int (8)) u_MOST_MEMBERS)
    (e_MOST_CLIENTS : PySem.W.nsIn K mainGlobals "MOST_CLIENTS" = some (some u_MOST_CLIENTS))
    (v_MOST_CLIENTS : RelV (.int (16)) u_MOST_CLIENTS)
    (e_MOST_PLACES : PySem.W.nsIn K mainGlobals "MOST_PLACES" = some (some u_MOST_PLACES))
    (v_MOST_PLACES : RelV (.int (32)) u_MOST_PLACES)
    (e_MEMBER : PySem.W.nsIn K mainGlobals "MEMBER" = some (some u_MEMBER))
    (v_MEMBER : RelV (.int (0)) u_MEMBER)
    (e_CLIENT : PySem.W.nsIn K mainGlobals "CLIENT" = some (some u_CLIENT))
    (v_CLIENT : RelV (.int (1)) u_CLIENT)
    (e_GONE : PySem.W.nsIn K mainGlobals "GONE" = some (some u_GONE))
    (v_GONE : RelV (.int (2)) u_GONE)
    (e_DROP : PySem.W.nsIn K mainGlobals "DROP" = some (some u_DROP))
    (v_DROP : RelV (.int (3)) u_DROP)
    (e_ROOM : PySem.W.nsIn K mainGlobals "ROOM" = some (some u_ROOM))
    (v_ROOM : RelV (.int (4)) u_ROOM)
    (e_ORDER : PySem.W.nsIn K mainGlobals "ORDER" = some (some u_ORDER))
    (v_ORDER : RelV (.int (5)) u_ORDER)
    (e_TAKERS : PySem.W.nsIn K mainGlobals "TAKERS" = some (some u_TAKERS))
    (v_TAKERS : RelV (.int (6)) u_TAKERS)
    (e_MOVE : PySem.W.nsIn K mainGlobals "MOVE" = some (some u_MOVE))
    (v_MOVE : RelV (.int (7)) u_MOVE)
    (e_MOVED : PySem.W.nsIn K mainGlobals "MOVED" = some (some u_MOVED))
    (v_MOVED : RelV (.int (8)) u_MOVED)
    (e_LEFT : PySem.W.nsIn K mainGlobals "LEFT" = some (some u_LEFT))
    (v_LEFT : RelV (.int (9)) u_LEFT)
    (e_WHERE : PySem.W.nsIn K mainGlobals "WHERE" = some (some u_WHERE))
    (v_WHERE : RelV (.int (10)) u_WHERE)
    (e_WHY : PySem.W.nsIn K mainGlobals "WHY" = some (some u_WHY))
    (v_WHY : RelV (.int (11)) u_WHY)
    (e_CHECK : PySem.W.nsIn K mainGlobals "CHECK" = some (some u_CHECK))
    (v_CHECK : RelV (.int (12)) u_CHECK)
    (e_BOUND : PySem.W.nsIn K mainGlobals "BOUND" = some (some u_BOUND))
    (v_BOUND : RelV (.int (13)) u_BOUND)
    (e_COVER : PySem.W.nsIn K mainGlobals "COVER" = some (some u_COVER))
    (v_COVER : RelV (.int (14)) u_COVER)
    (e_WITHOUT : PySem.W.nsIn K mainGlobals "WITHOUT" = some (some u_WITHOUT))
    (v_WITHOUT : RelV (.int (15)) u_WITHOUT)
    (e_ROOMIER : PySem.W.nsIn K mainGlobals "ROOMIER" = some (some u_ROOMIER))
    (v_ROOMIER : RelV (.int (16)) u_ROOMIER)
    (e_FIRST : PySem.W.nsIn K mainGlobals "FIRST" = some (some u_FIRST))
    (v_FIRST : RelV (.int (17)) u_FIRST)
    (e_MAY : PySem.W.nsIn K mainGlobals "MAY" = some (some u_MAY))
    (v_MAY : RelV (.int (18)) u_MAY)
    (e_ISPLAN : PySem.W.nsIn K mainGlobals "ISPLAN" = some (some u_ISPLAN))
    (v_ISPLAN : RelV (.int (19)) u_ISPLAN)
    (e_MEMBERS : PySem.W.nsIn K mainGlobals "MEMBERS" = some (some u_MEMBERS))
    (v_MEMBERS : RelV (.int (20)) u_MEMBERS)
    (e_PLAIN_NUMBERS : PySem.W.nsIn K mainGlobals "PLAIN_NUMBERS" = some (some (.ref t_PLAIN_NUMBERS)))
    (l_PLAIN_NUMBERS : K.lookup t_PLAIN_NUMBERS = some ⟨.type "tuple", ot_PLAIN_NUMBERS, .seq it_PLAIN_NUMBERS nt_PLAIN_NUMBERS, st_PLAIN_NUMBERS⟩)
    (v_PLAIN_NUMBERS : Vals ([(2 : Int), (2 : Int), (1 : Int), (1 : Int), (2 : Int), (2 : Int), (1 : Int), (0 : Int), (0 : Int), (0 : Int), (1 : Int), (1 : Int), (1 : Int), (0 : Int), (0 : Int), (1 : Int), (1 : Int), (1 : Int), (2 : Int), (0 : Int), (0 : Int), (0 : Int)].map V.int) it_PLAIN_NUMBERS.toList)
    (z_PLAIN_NUMBERS : it_PLAIN_NUMBERS.size ≤ sizeLine)
    (e_WITH_LIST : PySem.W.nsIn K mainGlobals "WITH_LIST" = some (some (.ref t_WITH_LIST)))
    (l_WITH_LIST : K.lookup t_WITH_LIST = some ⟨.type "tuple", ot_WITH_LIST, .seq it_WITH_LIST nt_WITH_LIST, st_WITH_LIST⟩)
    (v_WITH_LIST : Vals ([(1 : Int), (6 : Int), (12 : Int), (13 : Int), (19 : Int)].map V.int) it_WITH_LIST.toList)
    (z_WITH_LIST : it_WITH_LIST.size ≤ sizeLine)
    (b_all : PySem.W.nsIn K mainGlobals "all" = some none)
    (b_any : PySem.W.nsIn K mainGlobals "any" = some none)
    (b_dict : PySem.W.nsIn K mainGlobals "dict" = some none)
    (b_len : PySem.W.nsIn K mainGlobals "len" = some none)
    (b_list : PySem.W.nsIn K mainGlobals "list" = some none)
    (b_set : PySem.W.nsIn K mainGlobals "set" = some none)
    (b_sorted : PySem.W.nsIn K mainGlobals "sorted" = some none)
    (b_sum : PySem.W.nsIn K mainGlobals "sum" = some none)
    (b_zip : PySem.W.nsIn K mainGlobals "zip" = some none)
    : ∃ A : Adr, Txt K mg A ∧ A.f_answers = f_answers := by
  have F_is_key := fun_mk (st := s_is_key) l_is_key c_is_key k_is_key
  have F_is_room := fun_mk (st := s_is_room) l_is_room c_is_room k_is_room
  have F_is_order := fun_mk (st := s_is_order) l_is_order c_is_order k_is_order
  have F_is_list_of_keys := fun_mk (st := s_is_list_of_keys) l_is_list_of_keys c_is_list_of_keys k_is_list_of_keys
  have F_is_list_of_places := fun_mk (st := s_is_list_of_places) l_is_list_of_places c_is_list_of_places k_is_list_of_places
  have F_has_one_twice := fun_mk (st := s_has_one_twice) l_has_one_twice c_has_one_twice k_has_one_twice
  have F_Plan_init := fun_mk (st := s_Plan_init) l_Plan_init c_Plan_init k_Plan_init
  have F_Plan_give_place := fun_mk (st := s_Plan_give_place) l_Plan_give_place c_Plan_give_place k_Plan_give_place
  have F_Plan_comers_for := fun_mk (st := s_Plan_comers_for) l_Plan_comers_for c_Plan_comers_for k_Plan_comers_for
  have F_Plan_reach_on := fun_mk (st := s_Plan_reach_on) l_Plan_reach_on c_Plan_reach_on k_Plan_reach_on
  have F_Plan_shift := fun_mk (st := s_Plan_shift) l_Plan_shift c_Plan_shift k_Plan_shift
  have F_Plan_settle := fun_mk (st := s_Plan_settle) l_Plan_settle c_Plan_settle k_Plan_settle
  have F_moved_clients := fun_mk (st := s_moved_clients) l_moved_clients c_moved_clients k_moved_clients
  have F_moved_of := fun_mk (st := s_moved_of) l_moved_of c_moved_of k_moved_of
  have F_places_told := fun_mk (st := s_places_told) l_places_told c_places_told k_places_told
  have F_clients_left := fun_mk (st := s_clients_left) l_clients_left c_clients_left k_clients_left
  have F_can_go_to := fun_mk (st := s_can_go_to) l_can_go_to c_can_go_to k_can_go_to
  have F_is_placing := fun_mk (st := s_is_placing) l_is_placing c_is_placing k_is_placing
  have F_refusal_of_member := fun_mk (st := s_refusal_of_member) l_refusal_of_member c_refusal_of_member k_refusal_of_member
  have F_refusal_of_client := fun_mk (st := s_refusal_of_client) l_refusal_of_client c_refusal_of_client k_refusal_of_client
  have F_refusal_of_members := fun_mk (st := s_refusal_of_members) l_refusal_of_members c_refusal_of_members k_refusal_of_members
  have F_add_member := fun_mk (st := s_add_member) l_add_member c_add_member k_add_member
  have F_add_client := fun_mk (st := s_add_client) l_add_client c_add_client k_add_client
  have F_end_member := fun_mk (st := s_end_member) l_end_member c_end_member k_end_member
  have F_drop_client := fun_mk (st := s_drop_client) l_drop_client c_drop_client k_drop_client
  have F_change_room := fun_mk (st := s_change_room) l_change_room c_change_room k_change_room
  have F_change_order := fun_mk (st := s_change_order) l_change_order c_change_order k_change_order
  have F_change_takers := fun_mk (st := s_change_takers) l_change_takers c_change_takers k_change_takers
  have F_move_clients := fun_mk (st := s_move_clients) l_move_clients c_move_clients k_move_clients
  have F_tell_without := fun_mk (st := s_tell_without) l_tell_without c_tell_without k_tell_without
  have F_tell_roomier := fun_mk (st := s_tell_roomier) l_tell_roomier c_tell_roomier k_tell_roomier
  have F_tell_first := fun_mk (st := s_tell_first) l_tell_first c_tell_first k_tell_first
  have F_told_but := fun_mk (st := s_told_but) l_told_but c_told_but k_told_but
  have F_tell_why := fun_mk (st := s_tell_why) l_tell_why c_tell_why k_tell_why
  have F_tell_check := fun_mk (st := s_tell_check) l_tell_check c_tell_check k_tell_check
  have F_tell_bound := fun_mk (st := s_tell_bound) l_tell_bound c_tell_bound k_tell_bound
  have F_tell_cover := fun_mk (st := s_tell_cover) l_tell_cover c_tell_cover k_tell_cover
  have F_keeps := fun_mk (st := s_keeps) l_keeps c_keeps k_keeps
  have F_rooms_together := fun_mk (st := s_rooms_together) l_rooms_together c_rooms_together k_rooms_together
  have F_proves := fun_mk (st := s_proves) l_proves c_proves k_proves
  have F_House_init := fun_mk (st := s_House_init) l_House_init c_House_init k_House_init
  have F_House_has_members := fun_mk (st := s_House_has_members) l_House_has_members c_House_has_members k_House_has_members
  have F_House_is_taker := fun_mk (st := s_House_is_taker) l_House_is_taker c_House_is_taker k_House_is_taker
  have F_House_clients_in_order := fun_mk (st := s_House_clients_in_order) l_House_clients_in_order c_House_clients_in_order k_House_clients_in_order
  have F_House_clients_before := fun_mk (st := s_House_clients_before) l_House_clients_before c_House_clients_before k_House_clients_before
  have F_House_forget_client := fun_mk (st := s_House_forget_client) l_House_forget_client c_House_forget_client k_House_forget_client
  have F_tell_moved := fun_mk (st := s_tell_moved) l_tell_moved c_tell_moved k_tell_moved
  have F_tell_left := fun_mk (st := s_tell_left) l_tell_left c_tell_left k_tell_left
  have F_tell_where := fun_mk (st := s_tell_where) l_tell_where c_tell_where k_tell_where
  have F_tell_may := fun_mk (st := s_tell_may) l_tell_may c_tell_may k_tell_may
  have F_tell_isplan := fun_mk (st := s_tell_isplan) l_tell_isplan c_tell_isplan k_tell_isplan
  have F_tell_members := fun_mk (st := s_tell_members) l_tell_members c_tell_members k_tell_members
  have F_tell_clients := fun_mk (st := s_tell_clients) l_tell_clients c_tell_clients k_tell_clients
  have F_answers := fun_mk (st := s_answers) l_answers c_answers k_answers
  have F_answer_to := fun_mk (st := s_answer_to) l_answer_to c_answer_to k_answer_to
  have F_change := fun_mk (st := s_change) l_change c_change k_change
  have F_tell := fun_mk (st := s_tell) l_tell c_tell k_tell
  have F_tell_reasons := fun_mk (st := s_tell_reasons) l_tell_reasons c_tell_reasons k_tell_reasons
  have b_is_key := F_is_key.binds (ps := ["number"]) fun _ _ _ _ _ _ us hl => match us, hl with | [_], _ => rfl
  have b_is_room := F_is_room.binds (ps := ["number"]) fun _ _ _ _ _ _ us hl => match us, hl with | [_], _ => rfl
  have b_is_order := F_is_order.binds (ps := ["number"]) fun _ _ _ _ _ _ us hl => match us, hl with | [_], _ => rfl
  have b_is_list_of_keys := F_is_list_of_keys.binds (ps := ["numbers"]) fun _ _ _ _ _ _ us hl => match us, hl with | [_], _ => rfl
  have b_is_list_of_places := F_is_list_of_places.binds (ps := ["numbers"]) fun _ _ _ _ _ _ us hl => match us, hl with | [_], _ => rfl
  have b_has_one_twice := F_has_one_twice.binds (ps := ["numbers"]) fun _ _ _ _ _ _ us hl => match us, hl with | [_], _ => rfl
  have b_Plan_init := F_Plan_init.binds (ps := ["self", "rooms", "takers"]) fun _ _ _ _ _ _ us hl => match us, hl with | [_, _, _], _ => rfl
  have b_Plan_give_place := F_Plan_give_place.binds (ps := ["self", "client", "wanted"]) fun _ _ _ _ _ _ us hl => match us, hl with | [_, _, _], _ => rfl
  have b_Plan_comers_for := F_Plan_comers_for.binds (ps := ["self", "client", "wanted"]) fun _ _ _ _ _ _ us hl => match us, hl with | [_, _, _], _ => rfl
  have b_Plan_reach_on := F_Plan_reach_on.binds (ps := ["self", "member", "comers", "reached"]) fun _ _ _ _ _ _ us hl => match us, hl with | [_, _, _, _], _ => rfl
  have b_Plan_shift := F_Plan_shift.binds (ps := ["self", "client", "last", "comers"]) fun _ _ _ _ _ _ us hl => match us, hl with | [_, _, _, _], _ => rfl
  have b_Plan_settle := F_Plan_settle.binds (ps := ["self", "client"]) fun _ _ _ _ _ _ us hl => match us, hl with | [_, _], _ => rfl
  have b_moved_clients := F_moved_clients.binds (ps := ["plan", "clients"]) fun _ _ _ _ _ _ us hl => match us, hl with | [_, _], _ => rfl
  have b_moved_of := F_moved_of.binds (ps := ["house", "clients"]) fun _ _ _ _ _ _ us hl => match us, hl with | [_, _], _ => rfl
  have b_places_told := F_places_told.binds (ps := ["house"]) fun _ _ _ _ _ _ us hl => match us, hl with | [_], _ => rfl
  have b_clients_left := F_clients_left.binds (ps := ["house"]) fun _ _ _ _ _ _ us hl => match us, hl with | [_], _ => rfl
  have b_can_go_to := F_can_go_to.binds (ps := ["house", "moved", "client", "member"]) fun _ _ _ _ _ _ us hl => match us, hl with | [_, _, _, _], _ => rfl
  have b_is_placing := F_is_placing.binds (ps := ["house", "clients", "members"]) fun _ _ _ _ _ _ us hl => match us, hl with | [_, _, _], _ => rfl
  have b_refusal_of_member := F_refusal_of_member.binds (ps := ["house", "key"]) fun _ _ _ _ _ _ us hl => match us, hl with | [_, _], _ => rfl
  have b_refusal_of_client := F_refusal_of_client.binds (ps := ["house", "key"]) fun _ _ _ _ _ _ us hl => match us, hl with | [_, _], _ => rfl
  have b_refusal_of_members := F_refusal_of_members.binds (ps := ["house", "keys"]) fun _ _ _ _ _ _ us hl => match us, hl with | [_, _], _ => rfl
  have b_add_member := F_add_member.binds (ps := ["house", "key", "room"]) fun _ _ _ _ _ _ us hl => match us, hl with | [_, _, _], _ => rfl
  have b_add_client := F_add_client.binds (ps := ["house", "key", "order", "takers"]) fun _ _ _ _ _ _ us hl => match us, hl with | [_, _, _, _], _ => rfl
  have b_end_member := F_end_member.binds (ps := ["house", "key"]) fun _ _ _ _ _ _ us hl => match us, hl with | [_, _], _ => rfl
  have b_drop_client := F_drop_client.binds (ps := ["house", "key"]) fun _ _ _ _ _ _ us hl => match us, hl with | [_, _], _ => rfl
  have b_change_room := F_change_room.binds (ps := ["house", "key", "room"]) fun _ _ _ _ _ _ us hl => match us, hl with | [_, _, _], _ => rfl
  have b_change_order := F_change_order.binds (ps := ["house", "key", "order"]) fun _ _ _ _ _ _ us hl => match us, hl with | [_, _, _], _ => rfl
  have b_change_takers := F_change_takers.binds (ps := ["house", "key", "takers"]) fun _ _ _ _ _ _ us hl => match us, hl with | [_, _, _], _ => rfl
  have b_move_clients := F_move_clients.binds (ps := ["house"]) fun _ _ _ _ _ _ us hl => match us, hl with | [_], _ => rfl
  have b_tell_without := F_tell_without.binds (ps := ["house", "key"]) fun _ _ _ _ _ _ us hl => match us, hl with | [_, _], _ => rfl
  have b_tell_roomier := F_tell_roomier.binds (ps := ["house", "key"]) fun _ _ _ _ _ _ us hl => match us, hl with | [_, _], _ => rfl
  have b_tell_first := F_tell_first.binds (ps := ["house", "key"]) fun _ _ _ _ _ _ us hl => match us, hl with | [_, _], _ => rfl
  have b_told_but := F_told_but.binds (ps := ["some", "others"]) fun _ _ _ _ _ _ us hl => match us, hl with | [_, _], _ => rfl
  have b_tell_why := F_tell_why.binds (ps := ["house", "key"]) fun _ _ _ _ _ _ us hl => match us, hl with | [_, _], _ => rfl
  have b_tell_check := F_tell_check.binds (ps := ["house", "key", "members"]) fun _ _ _ _ _ _ us hl => match us, hl with | [_, _, _], _ => rfl
  have b_tell_bound := F_tell_bound.binds (ps := ["house", "members"]) fun _ _ _ _ _ _ us hl => match us, hl with | [_, _], _ => rfl
  have b_tell_cover := F_tell_cover.binds (ps := ["house"]) fun _ _ _ _ _ _ us hl => match us, hl with | [_], _ => rfl
  have b_keeps := F_keeps.binds (ps := ["house", "members", "client"]) fun _ _ _ _ _ _ us hl => match us, hl with | [_, _, _], _ => rfl
  have b_rooms_together := F_rooms_together.binds (ps := ["house", "members"]) fun _ _ _ _ _ _ us hl => match us, hl with | [_, _], _ => rfl
  have b_proves := F_proves.binds (ps := ["house", "members", "client"]) fun _ _ _ _ _ _ us hl => match us, hl with | [_, _, _], _ => rfl
  have b_House_init := F_House_init.binds (ps := ["self"]) fun _ _ _ _ _ _ us hl => match us, hl with | [_], _ => rfl
  have b_House_has_members := F_House_has_members.binds (ps := ["self", "keys"]) fun _ _ _ _ _ _ us hl => match us, hl with | [_, _], _ => rfl
  have b_House_is_taker := F_House_is_taker.binds (ps := ["self", "member"]) fun _ _ _ _ _ _ us hl => match us, hl with | [_, _], _ => rfl
  have b_House_clients_in_order := F_House_clients_in_order.binds (ps := ["self"]) fun _ _ _ _ _ _ us hl => match us, hl with | [_], _ => rfl
  have b_House_clients_before := F_House_clients_before.binds (ps := ["self", "client"]) fun _ _ _ _ _ _ us hl => match us, hl with | [_, _], _ => rfl
  have b_House_forget_client := F_House_forget_client.binds (ps := ["self", "client"]) fun _ _ _ _ _ _ us hl => match us, hl with | [_, _], _ => rfl
  have b_tell_moved := F_tell_moved.binds (ps := ["house"]) fun _ _ _ _ _ _ us hl => match us, hl with | [_], _ => rfl
  have b_tell_left := F_tell_left.binds (ps := ["house"]) fun _ _ _ _ _ _ us hl => match us, hl with | [_], _ => rfl
  have b_tell_where := F_tell_where.binds (ps := ["house", "key"]) fun _ _ _ _ _ _ us hl => match us, hl with | [_, _], _ => rfl
  have b_tell_may := F_tell_may.binds (ps := ["house", "key", "member"]) fun _ _ _ _ _ _ us hl => match us, hl with | [_, _, _], _ => rfl
  have b_tell_isplan := F_tell_isplan.binds (ps := ["house", "places"]) fun _ _ _ _ _ _ us hl => match us, hl with | [_, _], _ => rfl
  have b_tell_members := F_tell_members.binds (ps := ["house"]) fun _ _ _ _ _ _ us hl => match us, hl with | [_], _ => rfl
  have b_tell_clients := F_tell_clients.binds (ps := ["house"]) fun _ _ _ _ _ _ us hl => match us, hl with | [_], _ => rfl
  have b_answers := F_answers.binds (ps := ["calls"]) fun _ _ _ _ _ _ us hl => match us, hl with | [_], _ => rfl
  have b_answer_to := F_answer_to.binds (ps := ["house", "call", "numbers", "listed"]) fun _ _ _ _ _ _ us hl => match us, hl with | [_, _, _, _], _ => rfl
  have b_change := F_change.binds (ps := ["house", "call", "numbers", "listed"]) fun _ _ _ _ _ _ us hl => match us, hl with | [_, _, _, _], _ => rfl
  have b_tell := F_tell.binds (ps := ["house", "call", "numbers", "listed"]) fun _ _ _ _ _ _ us hl => match us, hl with | [_, _, _, _], _ => rfl
  have b_tell_reasons := F_tell_reasons.binds (ps := ["house", "call", "numbers", "listed"]) fun _ _ _ _ _ _ us hl => match us, hl with | [_, _, _, _], _ => rfl
  exact ⟨{ C_Plan := C_Plan,
                  C_House := C_House,
                  f_is_key := f_is_key, d_is_key := _,
                  f_is_room := f_is_room, d_is_room := _,
                  f_is_order := f_is_order, d_is_order := _,
                  f_is_list_of_keys := f_is_list_of_keys, d_is_list_of_keys := _,
                  f_is_list_of_places := f_is_list_of_places, d_is_list_of_places := _,
                  f_has_one_twice := f_has_one_twice, d_has_one_twice := _,
                  f_Plan_init := f_Plan_init, d_Plan_init := _,
                  f_Plan_give_place := f_Plan_give_place, d_Plan_give_place := _,
                  f_Plan_comers_for := f_Plan_comers_for, d_Plan_comers_for := _,
                  f_Plan_reach_on := f_Plan_reach_on, d_Plan_reach_on := _,
                  f_Plan_shift := f_Plan_shift, d_Plan_shift := _,
                  f_Plan_settle := f_Plan_settle, d_Plan_settle := _,
                  f_moved_clients := f_moved_clients, d_moved_clients := _,
                  f_moved_of := f_moved_of, d_moved_of := _,
                  f_places_told := f_places_told, d_places_told := _,
                  f_clients_left := f_clients_left, d_clients_left := _,
                  f_can_go_to := f_can_go_to, d_can_go_to := _,
                  f_is_placing := f_is_placing, d_is_placing := _,
                  f_refusal_of_member := f_refusal_of_member, d_refusal_of_member := _,
                  f_refusal_of_client := f_refusal_of_client, d_refusal_of_client := _,
                  f_refusal_of_members := f_refusal_of_members, d_refusal_of_members := _,
                  f_add_member := f_add_member, d_add_member := _,
                  f_add_client := f_add_client, d_add_client := _,
                  f_end_member := f_end_member, d_end_member := _,
                  f_drop_client := f_drop_client, d_drop_client := _,
                  f_change_room := f_change_room, d_change_room := _,
                  f_change_order := f_change_order, d_change_order := _,
                  f_change_takers := f_change_takers, d_change_takers := _,
                  f_move_clients := f_move_clients, d_move_clients := _,
                  f_tell_without := f_tell_without, d_tell_without := _,
                  f_tell_roomier := f_tell_roomier, d_tell_roomier := _,
                  f_tell_first := f_tell_first, d_tell_first := _,
                  f_told_but := f_told_but, d_told_but := _,
                  f_tell_why := f_tell_why, d_tell_why := _,
                  f_tell_check := f_tell_check, d_tell_check := _,
                  f_tell_bound := f_tell_bound, d_tell_bound := _,
                  f_tell_cover := f_tell_cover, d_tell_cover := _,
                  f_keeps := f_keeps, d_keeps := _,
                  f_rooms_together := f_rooms_together, d_rooms_together := _,
                  f_proves := f_proves, d_proves := _,
                  f_House_init := f_House_init, d_House_init := _,
                  f_House_has_members := f_House_has_members, d_House_has_members := _,
                  f_House_is_taker := f_House_is_taker, d_House_is_taker := _,
                  f_House_clients_in_order := f_House_clients_in_order, d_House_clients_in_order := _,
                  f_House_clients_before := f_House_clients_before, d_House_clients_before := _,
                  f_House_forget_client := f_House_forget_client, d_House_forget_client := _,
                  f_tell_moved := f_tell_moved, d_tell_moved := _,
                  f_tell_left := f_tell_left, d_tell_left := _,
                  f_tell_where := f_tell_where, d_tell_where := _,
                  f_tell_may := f_tell_may, d_tell_may := _,
                  f_tell_isplan := f_tell_isplan, d_tell_isplan := _,
                  f_tell_members := f_tell_members, d_tell_members := _,
                  f_tell_clients := f_tell_clients, d_tell_clients := _,
                  f_answers := f_answers, d_answers := _,
                  f_answer_to := f_answer_to, d_answer_to := _,
                  f_change := f_change, d_change := _,
                  f_tell := f_tell, d_tell := _,
                  f_tell_reasons := f_tell_reasons, d_tell_reasons := _,
                  t_PLAIN_NUMBERS := t_PLAIN_NUMBERS,
                  t_WITH_LIST := t_WITH_LIST },
    { cl_Plan := ⟨pg_Plan, hd_Plan, po_Plan, sa_Plan⟩,
                  mk_Plan := ⟨mk_Plan, a_Plan_init, i_Plan_init, kc_Plan⟩,
                  g_Plan := PySem.W.mg_of X G aC_Plan,
                  a_Plan_free := n_Plan_free,
                  a_Plan_takers := n_Plan_takers,
                  a_Plan_places := n_Plan_places,
                  a_Plan_settled := n_Plan_settled,
                  cl_House := ⟨pg_House, hd_House, po_House, sa_House⟩,
                  mk_House := ⟨mk_House, a_House_init, i_House_init, kc_House⟩,
                  g_House := PySem.W.mg_of X G aC_House,
                  a_House_rooms := n_House_rooms,
                  a_House_orders := n_House_orders,
                  a_House_takers := n_House_takers,
                  F_is_key := F_is_key,
                  b_is_key := b_is_key,
                  g_is_key := PySem.W.mg_of X G a_is_key,
                  F_is_room := F_is_room,
                  b_is_room := b_is_room,
                  g_is_room := PySem.W.mg_of X G a_is_room,
                  F_is_order := F_is_order,
                  b_is_order := b_is_order,
                  g_is_order := PySem.W.mg_of X G a_is_order,
                  F_is_list_of_keys := F_is_list_of_keys,
                  b_is_list_of_keys := b_is_list_of_keys,
                  g_is_list_of_keys := PySem.W.mg_of X G a_is_list_of_keys,
                  F_is_list_of_places := F_is_list_of_places,
                  b_is_list_of_places := b_is_list_of_places,
                  g_is_list_of_places := PySem.W.mg_of X G a_is_list_of_places,
                  F_has_one_twice := F_has_one_twice,
                  b_has_one_twice := b_has_one_twice,
                  g_has_one_twice := PySem.W.mg_of X G a_has_one_twice,
                  F_Plan_init := F_Plan_init,
                  b_Plan_init := b_Plan_init,
                  F_Plan_give_place := F_Plan_give_place,
                  b_Plan_give_place := b_Plan_give_place,
                  m_Plan_give_place := ⟨a_Plan_give_place, i_Plan_give_place, k_Plan_give_place⟩,
                  F_Plan_comers_for := F_Plan_comers_for,
                  b_Plan_comers_for := b_Plan_comers_for,
                  m_Plan_comers_for := ⟨a_Plan_comers_for, i_Plan_comers_for, k_Plan_comers_for⟩,
                  F_Plan_reach_on := F_Plan_reach_on,
                  b_Plan_reach_on := b_Plan_reach_on,
                  m_Plan_reach_on := ⟨a_Plan_reach_on, i_Plan_reach_on, k_Plan_reach_on⟩,
                  F_Plan_shift := F_Plan_shift,
                  b_Plan_shift := b_Plan_shift,
                  m_Plan_shift := ⟨a_Plan_shift, i_Plan_shift, k_Plan_shift⟩,
                  F_Plan_settle := F_Plan_settle,
                  b_Plan_settle := b_Plan_settle,
                  m_Plan_settle := ⟨a_Plan_settle, i_Plan_settle, k_Plan_settle⟩,
                  F_moved_clients := F_moved_clients,
                  b_moved_clients := b_moved_clients,
                  g_moved_clients := PySem.W.mg_of X G a_moved_clients,
                  F_moved_of := F_moved_of,
                  b_moved_of := b_moved_of,
                  g_moved_of := PySem.W.mg_of X G a_moved_of,
                  F_places_told := F_places_told,
                  b_places_told := b_places_told,
                  g_places_told := PySem.W.mg_of X G a_places_told,
                  F_clients_left := F_clients_left,
                  b_clients_left := b_clients_left,
                  g_clients_left := PySem.W.mg_of X G a_clients_left,
                  F_can_go_to := F_can_go_to,
                  b_can_go_to := b_can_go_to,
                  g_can_go_to := PySem.W.mg_of X G a_can_go_to,
                  F_is_placing := F_is_placing,
                  b_is_placing := b_is_placing,
                  g_is_placing := PySem.W.mg_of X G a_is_placing,
                  F_refusal_of_member := F_refusal_of_member,
                  b_refusal_of_member := b_refusal_of_member,
                  g_refusal_of_member := PySem.W.mg_of X G a_refusal_of_member,
                  F_refusal_of_client := F_refusal_of_client,
                  b_refusal_of_client := b_refusal_of_client,
                  g_refusal_of_client := PySem.W.mg_of X G a_refusal_of_client,
                  F_refusal_of_members := F_refusal_of_members,
                  b_refusal_of_members := b_refusal_of_members,
                  g_refusal_of_members := PySem.W.mg_of X G a_refusal_of_members,
                  F_add_member := F_add_member,
                  b_add_member := b_add_member,
                  g_add_member := PySem.W.mg_of X G a_add_member,
                  F_add_client := F_add_client,
                  b_add_client := b_add_client,
                  g_add_client := PySem.W.mg_of X G a_add_client,
                  F_end_member := F_end_member,
                  b_end_member := b_end_member,
                  g_end_member := PySem.W.mg_of X G a_end_member,
                  F_drop_client := F_drop_client,
                  b_drop_client := b_drop_client,
                  g_drop_client := PySem.W.mg_of X G a_drop_client,
                  F_change_room := F_change_room,
                  b_change_room := b_change_room,
                  g_change_room := PySem.W.mg_of X G a_change_room,
                  F_change_order := F_change_order,
                  b_change_order := b_change_order,
                  g_change_order := PySem.W.mg_of X G a_change_order,
                  F_change_takers := F_change_takers,
                  b_change_takers := b_change_takers,
                  g_change_takers := PySem.W.mg_of X G a_change_takers,
                  F_move_clients := F_move_clients,
                  b_move_clients := b_move_clients,
                  g_move_clients := PySem.W.mg_of X G a_move_clients,
                  F_tell_without := F_tell_without,
                  b_tell_without := b_tell_without,
                  g_tell_without := PySem.W.mg_of X G a_tell_without,
                  F_tell_roomier := F_tell_roomier,
                  b_tell_roomier := b_tell_roomier,
                  g_tell_roomier := PySem.W.mg_of X G a_tell_roomier,
                  F_tell_first := F_tell_first,
                  b_tell_first := b_tell_first,
                  g_tell_first := PySem.W.mg_of X G a_tell_first,
                  F_told_but := F_told_but,
                  b_told_but := b_told_but,
                  g_told_but := PySem.W.mg_of X G a_told_but,
                  F_tell_why := F_tell_why,
                  b_tell_why := b_tell_why,
                  g_tell_why := PySem.W.mg_of X G a_tell_why,
                  F_tell_check := F_tell_check,
                  b_tell_check := b_tell_check,
                  g_tell_check := PySem.W.mg_of X G a_tell_check,
                  F_tell_bound := F_tell_bound,
                  b_tell_bound := b_tell_bound,
                  g_tell_bound := PySem.W.mg_of X G a_tell_bound,
                  F_tell_cover := F_tell_cover,
                  b_tell_cover := b_tell_cover,
                  g_tell_cover := PySem.W.mg_of X G a_tell_cover,
                  F_keeps := F_keeps,
                  b_keeps := b_keeps,
                  g_keeps := PySem.W.mg_of X G a_keeps,
                  F_rooms_together := F_rooms_together,
                  b_rooms_together := b_rooms_together,
                  g_rooms_together := PySem.W.mg_of X G a_rooms_together,
                  F_proves := F_proves,
                  b_proves := b_proves,
                  g_proves := PySem.W.mg_of X G a_proves,
                  F_House_init := F_House_init,
                  b_House_init := b_House_init,
                  F_House_has_members := F_House_has_members,
                  b_House_has_members := b_House_has_members,
                  m_House_has_members := ⟨a_House_has_members, i_House_has_members, k_House_has_members⟩,
                  F_House_is_taker := F_House_is_taker,
                  b_House_is_taker := b_House_is_taker,
                  m_House_is_taker := ⟨a_House_is_taker, i_House_is_taker, k_House_is_taker⟩,
                  F_House_clients_in_order := F_House_clients_in_order,
                  b_House_clients_in_order := b_House_clients_in_order,
                  m_House_clients_in_order := ⟨a_House_clients_in_order, i_House_clients_in_order, k_House_clients_in_order⟩,
                  F_House_clients_before := F_House_clients_before,
                  b_House_clients_before := b_House_clients_before,
                  m_House_clients_before := ⟨a_House_clients_before, i_House_clients_before, k_House_clients_before⟩,
                  F_House_forget_client := F_House_forget_client,
                  b_House_forget_client := b_House_forget_client,
                  m_House_forget_client := ⟨a_House_forget_client, i_House_forget_client, k_House_forget_client⟩,
                  F_tell_moved := F_tell_moved,
                  b_tell_moved := b_tell_moved,
                  g_tell_moved := PySem.W.mg_of X G a_tell_moved,
                  F_tell_left := F_tell_left,
                  b_tell_left := b_tell_left,
                  g_tell_left := PySem.W.mg_of X G a_tell_left,
                  F_tell_where := F_tell_where,
                  b_tell_where := b_tell_where,
                  g_tell_where := PySem.W.mg_of X G a_tell_where,
                  F_tell_may := F_tell_may,
                  b_tell_may := b_tell_may,
                  g_tell_may := PySem.W.mg_of X G a_tell_may,
                  F_tell_isplan := F_tell_isplan,
                  b_tell_isplan := b_tell_isplan,
                  g_tell_isplan := PySem.W.mg_of X G a_tell_isplan,
                  F_tell_members := F_tell_members,
                  b_tell_members := b_tell_members,
                  g_tell_members := PySem.W.mg_of X G a_tell_members,
                  F_tell_clients := F_tell_clients,
                  b_tell_clients := b_tell_clients,
                  g_tell_clients := PySem.W.mg_of X G a_tell_clients,
                  F_answers := F_answers,
                  b_answers := b_answers,
                  g_answers := PySem.W.mg_of X G a_answers,
                  F_answer_to := F_answer_to,
                  b_answer_to := b_answer_to,
                  g_answer_to := PySem.W.mg_of X G a_answer_to,
                  F_change := F_change,
                  b_change := b_change,
                  g_change := PySem.W.mg_of X G a_change,
                  F_tell := F_tell,
                  b_tell := b_tell,
                  g_tell := PySem.W.mg_of X G a_tell,
                  F_tell_reasons := F_tell_reasons,
                  b_tell_reasons := b_tell_reasons,
                  g_tell_reasons := PySem.W.mg_of X G a_tell_reasons,
                  c_OUT_OF_RANGE := ⟨_, PySem.W.mg_of X G e_OUT_OF_RANGE, v_OUT_OF_RANGE⟩,
                  c_KEY_IS_USED := ⟨_, PySem.W.mg_of X G e_KEY_IS_USED, v_KEY_IS_USED⟩,
                  c_ONE_TWICE := ⟨_, PySem.W.mg_of X G e_ONE_TWICE, v_ONE_TWICE⟩,
                  c_NOT_THERE := ⟨_, PySem.W.mg_of X G e_NOT_THERE, v_NOT_THERE⟩,
                  c_IS_MOVED := ⟨_, PySem.W.mg_of X G e_IS_MOVED, v_IS_MOVED⟩,
                  c_IS_A_TAKER := ⟨_, PySem.W.mg_of X G e_IS_A_TAKER, v_IS_A_TAKER⟩,
                  c_HOUSE_IS_FULL := ⟨_, PySem.W.mg_of X G e_HOUSE_IS_FULL, v_HOUSE_IS_FULL⟩,
                  c_HIGHEST_KEY := ⟨_, PySem.W.mg_of X G e_HIGHEST_KEY, v_HIGHEST_KEY⟩,
                  c_HIGHEST_ROOM := ⟨_, PySem.W.mg_of X G e_HIGHEST_ROOM, v_HIGHEST_ROOM⟩,
                  c_HIGHEST_ORDER := ⟨_, PySem.W.mg_of X G e_HIGHEST_ORDER, v_HIGHEST_ORDER⟩,
                  c_MOST_MEMBERS := ⟨_, PySem.W.mg_of X G e_MOST_MEMBERS, v_MOST_MEMBERS⟩,
                  c_MOST_CLIENTS := ⟨_, PySem.W.mg_of X G e_MOST_CLIENTS, v_MOST_CLIENTS⟩,
                  c_MOST_PLACES := ⟨_, PySem.W.mg_of X G e_MOST_PLACES, v_MOST_PLACES⟩,
                  c_MEMBER := ⟨_, PySem.W.mg_of X G e_MEMBER, v_MEMBER⟩,
                  c_CLIENT := ⟨_, PySem.W.mg_of X G e_CLIENT, v_CLIENT⟩,
                  c_GONE := ⟨_, PySem.W.mg_of X G e_GONE, v_GONE⟩,
                  c_DROP := ⟨_, PySem.W.mg_of X G e_DROP, v_DROP⟩,
                  c_ROOM := ⟨_, PySem.W.mg_of X G e_ROOM, v_ROOM⟩,
                  c_ORDER := ⟨_, PySem.W.mg_of X G e_ORDER, v_ORDER⟩,
                  c_TAKERS := ⟨_, PySem.W.mg_of X G e_TAKERS, v_TAKERS⟩,
                  c_MOVE := ⟨_, PySem.W.mg_of X G e_MOVE, v_MOVE⟩,
                  c_MOVED := ⟨_, PySem.W.mg_of X G e_MOVED, v_MOVED⟩,
                  c_LEFT := ⟨_, PySem.W.mg_of X G e_LEFT, v_LEFT⟩,
                  c_WHERE := ⟨_, PySem.W.mg_of X G e_WHERE, v_WHERE⟩,
                  c_WHY := ⟨_, PySem.W.mg_of X G e_WHY, v_WHY⟩,
                  c_CHECK := ⟨_, PySem.W.mg_of X G e_CHECK, v_CHECK⟩,
                  c_BOUND := ⟨_, PySem.W.mg_of X G e_BOUND, v_BOUND⟩,
                  c_COVER := ⟨_, PySem.W.mg_of X G e_COVER, v_COVER⟩,
                  c_WITHOUT := ⟨_, PySem.W.mg_of X G e_WITHOUT, v_WITHOUT⟩,
                  c_ROOMIER := ⟨_, PySem.W.mg_of X G e_ROOMIER, v_ROOMIER⟩,
                  c_FIRST := ⟨_, PySem.W.mg_of X G e_FIRST, v_FIRST⟩,
                  c_MAY := ⟨_, PySem.W.mg_of X G e_MAY, v_MAY⟩,
                  c_ISPLAN := ⟨_, PySem.W.mg_of X G e_ISPLAN, v_ISPLAN⟩,
                  c_MEMBERS := ⟨_, PySem.W.mg_of X G e_MEMBERS, v_MEMBERS⟩,
                  c_PLAIN_NUMBERS := ⟨_, PySem.W.mg_of X G e_PLAIN_NUMBERS, rfl⟩,
                  s_PLAIN_NUMBERS := fun _ => .inr ⟨_, _, _, l_PLAIN_NUMBERS, rfl, rfl, z_PLAIN_NUMBERS, v_PLAIN_NUMBERS⟩,
                  c_WITH_LIST := ⟨_, PySem.W.mg_of X G e_WITH_LIST, rfl⟩,
                  s_WITH_LIST := fun _ => .inr ⟨_, _, _, l_WITH_LIST, rfl, rfl, z_WITH_LIST, v_WITH_LIST⟩,
                  n_all := PySem.W.mg_none_of X G b_all,
                  n_any := PySem.W.mg_none_of X G b_any,
                  n_dict := PySem.W.mg_none_of X G b_dict,
                  n_len := PySem.W.mg_none_of X G b_len,
                  n_list := PySem.W.mg_none_of X G b_list,
                  n_set := PySem.W.mg_none_of X G b_set,
                  n_sorted := PySem.W.mg_none_of X G b_sorted,
                  n_sum := PySem.W.mg_none_of X G b_sum,
                  n_zip := PySem.W.mg_none_of X G b_zip }, rfl⟩
end CW

end

section
namespace CW
open PySem PySem.Spec PyProof.Rows L2 CM
theorem all_mk {P : Program} {w : World} {K : PySem.W.Frag} {h : Heap} {mg : Str → Option Value} {fa : Addr} (X : K.In h) (G : h.Ns mainGlobals mg) (hfa : mg "answers" = some (.ref fa)) {f : Addr} (e : ∃ A : Adr, Txt K mg A ∧ A.f_answers = f) :
    ∃ fd : FuncData, (∀ (s : Shared) (us : List Value), us.length = (["calls"] : List Str).length → BindsTo s fd ⟨us, []⟩ ((["calls"] : List Str).zip us)) ∧ ∀ base : Heap, K.In base → base.Ns mainGlobals mg → FnOk P w K mg base CX0 10 fa fd ["calls"] (spAns K) := by
  obtain ⟨A, T, e⟩ := e
  have g := T.g_answers
  rw [hfa] at g
  have ef : fa = A.f_answers := Value.ref.inj (Option.some.inj g)
  subst ef
  obtain ⟨oc, od, kV, doc, pm, an, cdv, ct, osl, efd, lk, hcd⟩ := T.F_answers.ex
  refine ⟨A.d_answers, fun s us hu => ?_, fun base _ _ => ok_answers T⟩
  rw [efd]
  match us, hu with
  | [_], _ => exact .of_eq rfl
end CW
open PySem PySem.W PyProof.Rows
set_option maxRecDepth 100000 in
set_option maxHeartbeats 8000000 in
theorem PySem.Challenge.cw_clientmoves_s01_answers_holds : PySem.Challenge.rw_clientmoves_s01_answers.Holds := by
  w_on; k_headS; (case hw => exact ⟨[.list [.int 20]], by decide +kernel, by decide +kernel⟩)
  k_fillS
  refine L2.walk_specK (r := PySem.Challenge.rw_clientmoves_s01_answers) (k := 10) (CX := L2.CX0) (ps := ["calls"]) (sp := CW.spAns) (by decide +kernel) rfl rfl ⟨rfl, by decide, by decide⟩ (fun w h Y => PySem.W.kIn_of Y) ?F ?S (fun _ _ _ _ z => z)
  case F =>
    intro w mg fa h Y KX G hmg
    refine' CW.all_mk KX G hmg (CW.txt_mk KX G ?aC_Plan ?pg_Plan ?hd_Plan ?po_Plan ?sa_Plan ?mk_Plan ?kc_Plan ?n_Plan_free ?n_Plan_takers ?n_Plan_places ?n_Plan_settled ?aC_House ?pg_House ?hd_House ?po_House ?sa_House ?mk_House ?kc_House ?n_House_rooms ?n_House_orders ?n_House_takers ?a_is_key ?l_is_key ?c_is_key ?k_is_key ?a_is_room ?l_is_room ?c_is_room ?k_is_room ?a_is_order ?l_is_order ?c_is_order ?k_is_order ?a_is_list_of_keys ?l_is_list_of_keys ?c_is_list_of_keys ?k_is_list_of_keys ?a_is_list_of_places ?l_is_list_of_places ?c_is_list_of_places ?k_is_list_of_places ?a_has_one_twice ?l_has_one_twice ?c_has_one_twice ?k_has_one_twice ?a_Plan_init ?i_Plan_init ?l_Plan_init ?c_Plan_init ?k_Plan_init ?a_Plan_give_place ?i_Plan_give_place ?l_Plan_give_place ?c_Plan_give_place ?k_Plan_give_place ?a_Plan_comers_for ?i_Plan_comers_for ?l_Plan_comers_for ?c_Plan_comers_for ?k_Plan_comers_for ?a_Plan_reach_on ?i_Plan_reach_on ?l_Plan_reach_on ?c_Plan_reach_on ?k_Plan_reach_on ?a_Plan_shift ?i_Plan_shift ?l_Plan_shift ?c_Plan_shift ?k_Plan_shift ?a_Plan_settle ?i_Plan_settle ?l_Plan_settle ?c_Plan_settle ?k_Plan_settle ?a_moved_clients ?l_moved_clients ?c_moved_clients ?k_moved_clients ?a_moved_of ?l_moved_of ?c_moved_of ?k_moved_of ?a_places_told ?l_places_told ?c_places_told ?k_places_told ?a_clients_left ?l_clients_left ?c_clients_left ?k_clients_left ?a_can_go_to ?l_can_go_to ?c_can_go_to ?k_can_go_to ?a_is_placing ?l_is_placing ?c_is_placing ?k_is_placing ?a_refusal_of_member ?l_refusal_of_member ?c_refusal_of_member ?k_refusal_of_member ?a_refusal_of_client ?l_refusal_of_client ?c_refusal_of_client ?k_refusal_of_client ?a_refusal_of_members ?l_refusal_of_members ?c_refusal_of_members ?k_refusal_of_members ?a_add_member ?l_add_member ?c_add_member ?k_add_member ?a_add_client ?l_add_client ?c_add_client ?k_add_client ?a_end_member ?l_end_member ?c_end_member ?k_end_member ?a_drop_client ?l_drop_client ?c_drop_client ?k_drop_client ?a_change_room ?l_change_room ?c_change_room ?k_change_room ?a_change_order ?l_change_order ?c_change_order ?k_change_order ?a_change_takers ?l_change_takers ?c_change_takers ?k_change_takers ?a_move_clients ?l_move_clients ?c_move_clients ?k_move_clients ?a_tell_without ?l_tell_without ?c_tell_without ?k_tell_without ?a_tell_roomier ?l_tell_roomier ?c_tell_roomier ?k_tell_roomier ?a_tell_first ?l_tell_first ?c_tell_first ?k_tell_first ?a_told_but ?l_told_but ?c_told_but ?k_told_but ?a_tell_why ?l_tell_why ?c_tell_why ?k_tell_why ?a_tell_check ?l_tell_check ?c_tell_check ?k_tell_check ?a_tell_bound ?l_tell_bound ?c_tell_bound ?k_tell_bound ?a_tell_cover ?l_tell_cover ?c_tell_cover ?k_tell_cover ?a_keeps ?l_keeps ?c_keeps ?k_keeps ?a_rooms_together ?l_rooms_together ?c_rooms_together ?k_rooms_together ?a_proves ?l_proves ?c_proves ?k_proves ?a_House_init ?i_House_init ?l_House_init ?c_House_init ?k_House_init ?a_House_has_members ?i_House_has_members ?l_House_has_members ?c_House_has_members ?k_House_has_members ?a_House_is_taker ?i_House_is_taker ?l_House_is_taker ?c_House_is_taker ?k_House_is_taker ?a_House_clients_in_order ?i_House_clients_in_order ?l_House_clients_in_order ?c_House_clients_in_order ?k_House_clients_in_order ?a_House_clients_before ?i_House_clients_before ?l_House_clients_before ?c_House_clients_before ?k_House_clients_before ?a_House_forget_client ?i_House_forget_client ?l_House_forget_client ?c_House_forget_client ?k_House_forget_client ?a_tell_moved ?l_tell_moved ?c_tell_moved ?k_tell_moved ?a_tell_left ?l_tell_left ?c_tell_left ?k_tell_left ?a_tell_where ?l_tell_where ?c_tell_where ?k_tell_where ?a_tell_may ?l_tell_may ?c_tell_may ?k_tell_may ?a_tell_isplan ?l_tell_isplan ?c_tell_isplan ?k_tell_isplan ?a_tell_members ?l_tell_members ?c_tell_members ?k_tell_members ?a_tell_clients ?l_tell_clients ?c_tell_clients ?k_tell_clients ?a_answers ?l_answers ?c_answers ?k_answers ?a_answer_to ?l_answer_to ?c_answer_to ?k_answer_to ?a_change ?l_change ?c_change ?k_change ?a_tell ?l_tell ?c_tell ?k_tell ?a_tell_reasons ?l_tell_reasons ?c_tell_reasons ?k_tell_reasons ?e_OUT_OF_RANGE ?v_OUT_OF_RANGE ?e_KEY_IS_USED ?v_KEY_IS_USED ?e_ONE_TWICE ?v_ONE_TWICE ?e_NOT_THERE ?v_NOT_THERE ?e_IS_MOVED ?v_IS_MOVED ?e_IS_A_TAKER ?v_IS_A_TAKER ?e_HOUSE_IS_FULL ?v_HOUSE_IS_FULL ?e_HIGHEST_KEY ?v_HIGHEST_KEY ?e_HIGHEST_ROOM ?v_HIGHEST_ROOM ?e_HIGHEST_ORDER ?v_HIGHEST_ORDER ?e_MOST_MEMBERS ?v_MOST_MEMBERS ?e_MOST_CLIENTS ?v_MOST_CLIENTS ?e_MOST_PLACES ?v_MOST_PLACES ?e_MEMBER ?v_MEMBER ?e_CLIENT ?v_CLIENT ?e_GONE ?v_GONE ?e_DROP ?v_DROP ?e_ROOM ?v_ROOM ?e_ORDER ?v_ORDER ?e_TAKERS ?v_TAKERS ?e_MOVE ?v_MOVE ?e_MOVED ?v_MOVED ?e_LEFT ?v_LEFT ?e_WHERE ?v_WHERE ?e_WHY ?v_WHY ?e_CHECK ?v_CHECK ?e_BOUND ?v_BOUND ?e_COVER ?v_COVER ?e_WITHOUT ?v_WITHOUT ?e_ROOMIER ?v_ROOMIER ?e_FIRST ?v_FIRST ?e_MAY ?v_MAY ?e_ISPLAN ?v_ISPLAN ?e_MEMBERS ?v_MEMBERS ?e_PLAIN_NUMBERS ?l_PLAIN_NUMBERS ?v_PLAIN_NUMBERS ?z_PLAIN_NUMBERS ?e_WITH_LIST ?l_WITH_LIST ?v_WITH_LIST ?z_WITH_LIST ?b_all ?b_any ?b_dict ?b_len ?b_list ?b_set ?b_sorted ?b_sum ?b_zip)
    (case aC_Plan => k_is)
    (case pg_Plan => k_is)
    (case hd_Plan => k_is)
    (case po_Plan => k_is)
    (case sa_Plan => k_is)
    (case mk_Plan => k_is)
    (case kc_Plan => k_is)
    (case n_Plan_free => k_is)
    (case n_Plan_takers => k_is)
    (case n_Plan_places => k_is)
    (case n_Plan_settled => k_is)
    (case aC_House => k_is)
    (case pg_House => k_is)
    (case hd_House => k_is)
    (case po_House => k_is)
    (case sa_House => k_is)
    (case mk_House => k_is)
    (case kc_House => k_is)
    (case n_House_rooms => k_is)
    (case n_House_orders => k_is)
    (case n_House_takers => k_is)
    (case a_is_key => k_is)
    (case l_is_key => k_is)
    (case c_is_key => k_is)
    (case k_is_key => k_is)
    (case a_is_room => k_is)
    (case l_is_room => k_is)
    (case c_is_room => k_is)
    (case k_is_room => k_is)
    (case a_is_order => k_is)
    (case l_is_order => k_is)
    (case c_is_order => k_is)
    (case k_is_order => k_is)
    (case a_is_list_of_keys => k_is)
    (case l_is_list_of_keys => k_is)
    (case c_is_list_of_keys => k_is)
    (case k_is_list_of_keys => k_is)
    (case a_is_list_of_places => k_is)
    (case l_is_list_of_places => k_is)
    (case c_is_list_of_places => k_is)
    (case k_is_list_of_places => k_is)
    (case a_has_one_twice => k_is)
    (case l_has_one_twice => k_is)
    (case c_has_one_twice => k_is)
    (case k_has_one_twice => k_is)
    (case a_Plan_init => k_is)
    (case i_Plan_init => k_is)
    (case l_Plan_init => k_is)
    (case c_Plan_init => k_is)
    (case k_Plan_init => k_is)
    (case a_Plan_give_place => k_is)
    (case i_Plan_give_place => k_is)
    (case l_Plan_give_place => k_is)
    (case c_Plan_give_place => k_is)
    (case k_Plan_give_place => k_is)
    (case a_Plan_comers_for => k_is)
    (case i_Plan_comers_for => k_is)
    (case l_Plan_comers_for => k_is)
    (case c_Plan_comers_for => k_is)
    (case k_Plan_comers_for => k_is)
    (case a_Plan_reach_on => k_is)
    (case i_Plan_reach_on => k_is)
    (case l_Plan_reach_on => k_is)
    (case c_Plan_reach_on => k_is)
    (case k_Plan_reach_on => k_is)
    (case a_Plan_shift => k_is)
    (case i_Plan_shift => k_is)
    (case l_Plan_shift => k_is)
    (case c_Plan_shift => k_is)
    (case k_Plan_shift => k_is)
    (case a_Plan_settle => k_is)
    (case i_Plan_settle => k_is)
    (case l_Plan_settle => k_is)
    (case c_Plan_settle => k_is)
    (case k_Plan_settle => k_is)
    (case a_moved_clients => k_is)
    (case l_moved_clients => k_is)
    (case c_moved_clients => k_is)
    (case k_moved_clients => k_is)
    (case a_moved_of => k_is)
    (case l_moved_of => k_is)
    (case c_moved_of => k_is)
    (case k_moved_of => k_is)
    (case a_places_told => k_is)
    (case l_places_told => k_is)
    (case c_places_told => k_is)
    (case k_places_told => k_is)
    (case a_clients_left => k_is)
    (case l_clients_left => k_is)
    (case c_clients_left => k_is)
    (case k_clients_left => k_is)
    (case a_can_go_to => k_is)
    (case l_can_go_to => k_is)
    (case c_can_go_to => k_is)
    (case k_can_go_to => k_is)
    (case a_is_placing => k_is)
    (case l_is_placing => k_is)
    (case c_is_placing => k_is)
    (case k_is_placing => k_is)
    (case a_refusal_of_member => k_is)
    (case l_refusal_of_member => k_is)
    (case c_refusal_of_member => k_is)
    (case k_refusal_of_member => k_is)
    (case a_refusal_of_client => k_is)
    (case l_refusal_of_client => k_is)
    (case c_refusal_of_client => k_is)
    (case k_refusal_of_client => k_is)
    (case a_refusal_of_members => k_is)
    (case l_refusal_of_members => k_is)
    (case c_refusal_of_members => k_is)
    (case k_refusal_of_members => k_is)
    (case a_add_member => k_is)
    (case l_add_member => k_is)
    (case c_add_member => k_is)
    (case k_add_member => k_is)
    (case a_add_client => k_is)
    (case l_add_client => k_is)
    (case c_add_client => k_is)
    (case k_add_client => k_is)
    (case a_end_member => k_is)
    (case l_end_member => k_is)
    (case c_end_member => k_is)
    (case k_end_member => k_is)
    (case a_drop_client => k_is)
    (case l_drop_client => k_is)
    (case c_drop_client => k_is)
    (case k_drop_client => k_is)
    (case a_change_room => k_is)
    (case l_change_room => k_is)
    (case c_change_room => k_is)
    (case k_change_room => k_is)
    (case a_change_order => k_is)
    (case l_change_order => k_is)
    (case c_change_order => k_is)
    (case k_change_order => k_is)
    (case a_change_takers => k_is)
    (case l_change_takers => k_is)
    (case c_change_takers => k_is)
    (case k_change_takers => k_is)
    (case a_move_clients => k_is)
    (case l_move_clients => k_is)
    (case c_move_clients => k_is)
    (case k_move_clients => k_is)
    (case a_tell_without => k_is)
    (case l_tell_without => k_is)
    (case c_tell_without => k_is)
    (case k_tell_without => k_is)
    (case a_tell_roomier => k_is)
    (case l_tell_roomier => k_is)
    (case c_tell_roomier => k_is)
    (case k_tell_roomier => k_is)
    (case a_tell_first => k_is)
    (case l_tell_first => k_is)
    (case c_tell_first => k_is)
    (case k_tell_first => k_is)
    (case a_told_but => k_is)
    (case l_told_but => k_is)
    (case c_told_but => k_is)
    (case k_told_but => k_is)
    (case a_tell_why => k_is)
    (case l_tell_why => k_is)
    (case c_tell_why => k_is)
    (case k_tell_why => k_is)
    (case a_tell_check => k_is)
    (case l_tell_check => k_is)
    (case c_tell_check => k_is)
    (case k_tell_check => k_is)
    (case a_tell_bound => k_is)
    (case l_tell_bound => k_is)
    (case c_tell_bound => k_is)
    (case k_tell_bound => k_is)
    (case a_tell_cover => k_is)
    (case l_tell_cover => k_is)
    (case c_tell_cover => k_is)
    (case k_tell_cover => k_is)
    (case a_keeps => k_is)
    (case l_keeps => k_is)
    (case c_keeps => k_is)
    (case k_keeps => k_is)
    (case a_rooms_together => k_is)
    (case l_rooms_together => k_is)
    (case c_rooms_together => k_is)
    (case k_rooms_together => k_is)
    (case a_proves => k_is)
    (case l_proves => k_is)
    (case c_proves => k_is)
    (case k_proves => k_is)
    (case a_House_init => k_is)
    (case i_House_init => k_is)
    (case l_House_init => k_is)
    (case c_House_init => k_is)
    (case k_House_init => k_is)
    (case a_House_has_members => k_is)
    (case i_House_has_members => k_is)
    (case l_House_has_members => k_is)
    (case c_House_has_members => k_is)
    (case k_House_has_members => k_is)
    (case a_House_is_taker => k_is)
    (case i_House_is_taker => k_is)
    (case l_House_is_taker => k_is)
    (case c_House_is_taker => k_is)
    (case k_House_is_taker => k_is)
    (case a_House_clients_in_order => k_is)
    (case i_House_clients_in_order => k_is)
    (case l_House_clients_in_order => k_is)
    (case c_House_clients_in_order => k_is)
    (case k_House_clients_in_order => k_is)
    (case a_House_clients_before => k_is)
    (case i_House_clients_before => k_is)
    (case l_House_clients_before => k_is)
    (case c_House_clients_before => k_is)
    (case k_House_clients_before => k_is)
    (case a_House_forget_client => k_is)
    (case i_House_forget_client => k_is)
    (case l_House_forget_client => k_is)
    (case c_House_forget_client => k_is)
    (case k_House_forget_client => k_is)
    (case a_tell_moved => k_is)
    (case l_tell_moved => k_is)
    (case c_tell_moved => k_is)
    (case k_tell_moved => k_is)
    (case a_tell_left => k_is)
    (case l_tell_left => k_is)
    (case c_tell_left => k_is)
    (case k_tell_left => k_is)
    (case a_tell_where => k_is)
    (case l_tell_where => k_is)
    (case c_tell_where => k_is)
    (case k_tell_where => k_is)
    (case a_tell_may => k_is)
    (case l_tell_may => k_is)
    (case c_tell_may => k_is)
    (case k_tell_may => k_is)
    (case a_tell_isplan => k_is)
    (case l_tell_isplan => k_is)
    (case c_tell_isplan => k_is)
    (case k_tell_isplan => k_is)
    (case a_tell_members => k_is)
    (case l_tell_members => k_is)
    (case c_tell_members => k_is)
    (case k_tell_members => k_is)
    (case a_tell_clients => k_is)
    (case l_tell_clients => k_is)
    (case c_tell_clients => k_is)
    (case k_tell_clients => k_is)
    (case a_answers => k_is)
    (case l_answers => k_is)
    (case c_answers => k_is)
    (case k_answers => k_is)
    (case a_answer_to => k_is)
    (case l_answer_to => k_is)
    (case c_answer_to => k_is)
    (case k_answer_to => k_is)
    (case a_change => k_is)
    (case l_change => k_is)
    (case c_change => k_is)
    (case k_change => k_is)
    (case a_tell => k_is)
    (case l_tell => k_is)
    (case c_tell => k_is)
    (case k_tell => k_is)
    (case a_tell_reasons => k_is)
    (case l_tell_reasons => k_is)
    (case c_tell_reasons => k_is)
    (case k_tell_reasons => k_is)
    (case e_OUT_OF_RANGE => k_is)
    (case e_KEY_IS_USED => k_is)
    (case e_ONE_TWICE => k_is)
    (case e_NOT_THERE => k_is)
    (case e_IS_MOVED => k_is)
    (case e_IS_A_TAKER => k_is)
    (case e_HOUSE_IS_FULL => k_is)
    (case e_HIGHEST_KEY => k_is)
    (case e_HIGHEST_ROOM => k_is)
    (case e_HIGHEST_ORDER => k_is)
    (case e_MOST_MEMBERS => k_is)
    (case e_MOST_CLIENTS => k_is)
    (case e_MOST_PLACES => k_is)
    (case e_MEMBER => k_is)
    (case e_CLIENT => k_is)
    (case e_GONE => k_is)
    (case e_DROP => k_is)
    (case e_ROOM => k_is)
    (case e_ORDER => k_is)
    (case e_TAKERS => k_is)
    (case e_MOVE => k_is)
    (case e_MOVED => k_is)
    (case e_LEFT => k_is)
    (case e_WHERE => k_is)
    (case e_WHY => k_is)
    (case e_CHECK => k_is)
    (case e_BOUND => k_is)
    (case e_COVER => k_is)
    (case e_WITHOUT => k_is)
    (case e_ROOMIER => k_is)
    (case e_FIRST => k_is)
    (case e_MAY => k_is)
    (case e_ISPLAN => k_is)
    (case e_MEMBERS => k_is)
    (case e_PLAIN_NUMBERS => k_is)
    (case l_PLAIN_NUMBERS => k_is)
    (case e_WITH_LIST => k_is)
    (case l_WITH_LIST => k_is)
    (case b_all => k_is)
    (case b_any => k_is)
    (case b_dict => k_is)
    (case b_len => k_is)
    (case b_list => k_is)
    (case b_set => k_is)
    (case b_sorted => k_is)
    (case b_sum => k_is)
    (case b_zip => k_is)
    (case v_OUT_OF_RANGE => exact ⟨_, rfl⟩)
    (case v_KEY_IS_USED => exact ⟨_, rfl⟩)
    (case v_ONE_TWICE => exact ⟨_, rfl⟩)
    (case v_NOT_THERE => exact ⟨_, rfl⟩)
    (case v_IS_MOVED => exact ⟨_, rfl⟩)
    (case v_IS_A_TAKER => exact ⟨_, rfl⟩)
    (case v_HOUSE_IS_FULL => exact ⟨_, rfl⟩)
    (case v_HIGHEST_KEY => exact ⟨_, rfl⟩)
    (case v_HIGHEST_ROOM => exact ⟨_, rfl⟩)
    (case v_HIGHEST_ORDER => exact ⟨_, rfl⟩)
    (case v_MOST_MEMBERS => exact ⟨_, rfl⟩)
    (case v_MOST_CLIENTS => exact ⟨_, rfl⟩)
    (case v_MOST_PLACES => exact ⟨_, rfl⟩)
    (case v_MEMBER => exact ⟨_, rfl⟩)
    (case v_CLIENT => exact ⟨_, rfl⟩)
    (case v_GONE => exact ⟨_, rfl⟩)
    (case v_DROP => exact ⟨_, rfl⟩)
    (case v_ROOM => exact ⟨_, rfl⟩)
    (case v_ORDER => exact ⟨_, rfl⟩)
    (case v_TAKERS => exact ⟨_, rfl⟩)
    (case v_MOVE => exact ⟨_, rfl⟩)
    (case v_MOVED => exact ⟨_, rfl⟩)
    (case v_LEFT => exact ⟨_, rfl⟩)
    (case v_WHERE => exact ⟨_, rfl⟩)
    (case v_WHY => exact ⟨_, rfl⟩)
    (case v_CHECK => exact ⟨_, rfl⟩)
    (case v_BOUND => exact ⟨_, rfl⟩)
    (case v_COVER => exact ⟨_, rfl⟩)
    (case v_WITHOUT => exact ⟨_, rfl⟩)
    (case v_ROOMIER => exact ⟨_, rfl⟩)
    (case v_FIRST => exact ⟨_, rfl⟩)
    (case v_MAY => exact ⟨_, rfl⟩)
    (case v_ISPLAN => exact ⟨_, rfl⟩)
    (case v_MEMBERS => exact ⟨_, rfl⟩)
    (case v_PLAIN_NUMBERS => repeat (first | exact .nil | refine .cons ⟨_, rfl⟩ ?_))
    (case z_PLAIN_NUMBERS => decide)
    (case v_WITH_LIST => repeat (first | exact .nil | refine .cons ⟨_, rfl⟩ ?_))
    (case z_WITH_LIST => decide)
  case S =>
    intro K H xs a hO hwi hask hx
    cases hx with
    | cons h1 h2 =>
      cases h2
      cases h1 with
      | lst hs ha =>
        have e := L2.ints_dw a.1 _ ha
        subst e
        have q : ((Codec.inLen 0 17000 a.1 && a.1.all (Codec.inInt (-1000000000000000000) 1000000000000000000)) && true) = true := hwi
        rw [Bool.and_eq_true, Bool.and_eq_true] at q
        exact ⟨_, a.1, rfl, hs, (Codec.inNat_iff.mp q.1.1).2, hask, fun H' p hp => .lst (L2.SqL.of hp) (L2.dw_ints _)⟩

end
