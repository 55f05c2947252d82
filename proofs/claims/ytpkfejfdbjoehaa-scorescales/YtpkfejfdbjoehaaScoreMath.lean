/-
  Scores, plain: a channel's score, how much it is liked, which channels are in the order, and in which.
-/
import Derived.Test.YtpkfejfdbjoehaaLedgerLaws
import Derived.Test.YtpkfejfdbjoehaaApi2
import Derived.Test.YtpkfejfdbjoehaaPackFl
namespace Go.Proofs.Ytpkfejfdbjoehaa
open Go.RowKit Go.WalkArith

def scoreV (rm aa : Int) (w n : Nat) : Option Nat :=
  (floatBits .sub .f64 (floatOfInt .f64 rm) n).bind fun left => (floatBits .quo .f64 left (floatOfInt .f64 aa)).bind fun part => floatBits .mul .f64 w part
noncomputable def oneO (c : Chn) (w n : Nat) : Option Nat := if chE c = 0 then scoreV (rmV c) (aaV c) w n else some 0
def oneF : Nat := 4607182418800017408
def weighV (l : List Wgt) (id : Int) : Nat := match l.find? (fun x => x.Id == id) with | some x => x.W | none => oneF
noncomputable def keyC (l : List Wgt) (n : Nat) (c : Chn) : Int × Int := keyO (oneO c (weighV l c.Id) n)
/-- Whether a channel is in the order. -/
noncomputable def elig (n : Int) (c : Chn) : Bool := c.Open && decide (rmV c ≠ 0) && decide (n ≤ rmV c)
abbrev Itk : Type := Int × (Int × Int)
/-- Which one comes first. -/
def befB (x y : Itk) : Bool := ltK y.2 x.2 || (x.2 == y.2 && decide (x.1 < y.1))
def insI (x : Itk) : List Itk → List Itk
  | [] => [x]
  | y :: l => if befB x y = true then x :: y :: l else y :: insI x l
def sortI (l : List Itk) : List Itk := l.foldl (fun acc x => insI x acc) []
noncomputable def itemsI (l : List Chn) (w : List Wgt) (n : Int) : List Itk := (l.filter (elig n)).map fun c => (c.Id, keyC w (floatOfInt .f64 n) c)
noncomputable def ordI (l : List Chn) (w : List Wgt) (n : Int) : List Itk := sortI (itemsI l w n)
noncomputable def ordL (l : List Chn) (w : List Wgt) (n : Int) : List Int := if LgOk l then (ordI l w n).map Prod.fst else []
noncomputable def fiE (l : List Chn) (w : List Wgt) (n : Int) : Int := if LgOk l then (if ordL l w n = [] then 5 else 0) else 1
noncomputable def fiV (l : List Chn) (w : List Wgt) (n : Int) : Int := if LgOk l then (ordL l w n).headD 0 else 0

theorem befB_iff {x y : Itk} : befB x y = true ↔ ltK y.2 x.2 = true ∨ (x.2 = y.2 ∧ x.1 < y.1) := by
  unfold befB
  rw [Bool.or_eq_true, Bool.and_eq_true, beq_iff_eq, decide_eq_true_eq]
theorem bef_irr (x : Itk) : befB x x = false := by
  rw [Bool.eq_false_iff]
  intro h
  rcases befB_iff.1 h with q | ⟨-, q⟩
  · rw [ltK_irr] at q; cases q
  · omega
theorem bef_trans {x y z : Itk} (h : befB x y = true) (h2 : befB y z = true) : befB x z = true := by
  rcases befB_iff.1 h with q | ⟨q, q'⟩ <;> rcases befB_iff.1 h2 with r | ⟨r, r'⟩
  · exact befB_iff.2 (.inl (ltK_trans r q))
  · exact befB_iff.2 (.inl (by rw [← r]; exact q))
  · exact befB_iff.2 (.inl (by rw [q]; exact r))
  · exact befB_iff.2 (.inr ⟨q.trans r, by omega⟩)
theorem bef_asym {x y : Itk} (h : befB x y = true) : befB y x = false := by
  cases h2 : befB y x with
  | false => rfl
  | true => have := bef_trans h h2; rw [bef_irr] at this; cases this
theorem bef_total {x y : Itk} (h : x.1 ≠ y.1) (h2 : befB x y = false) : befB y x = true := by
  have a := mt befB_iff.2 (by rw [h2]; simp)
  rw [befB_iff]
  by_cases q : ltK x.2 y.2 = true
  · exact .inl q
  · have q' : ltK x.2 y.2 = false := by simpa using q
    have r' : ltK y.2 x.2 = false := by
      cases r : ltK y.2 x.2 with
      | false => rfl
      | true => exact absurd (.inl r) a
    have e := ltK_same q' r'
    exact .inr ⟨e.symm, by have : ¬ x.1 < y.1 := fun k => a (.inr ⟨e, k⟩); omega⟩
def SortedI (l : List Itk) : Prop := l.Pairwise fun a b => befB a b = true
theorem ins_mem {x y : Itk} : ∀ {l : List Itk}, y ∈ insI x l ↔ y = x ∨ y ∈ l
  | [] => by simp [insI]
  | z :: l => by
    unfold insI
    split
    · simp
    · rw [List.mem_cons, ins_mem, List.mem_cons]
      constructor
      · rintro (h | h | h)
        · exact .inr (.inl h)
        · exact .inl h
        · exact .inr (.inr h)
      · rintro (h | h | h)
        · exact .inr (.inl h)
        · exact .inl h
        · exact .inr (.inr h)
theorem ins_len (x : Itk) : ∀ (l : List Itk), (insI x l).length = l.length + 1
  | [] => rfl
  | z :: l => by
    unfold insI
    split
    · rfl
    · rw [List.length_cons, ins_len x l]; rfl
theorem ins_sorted {x : Itk} : ∀ {l : List Itk}, SortedI l → (∀ y ∈ l, y.1 ≠ x.1) → SortedI (insI x l)
  | [], _, _ => List.pairwise_singleton _ _
  | z :: l, h, hn => by
    have h' := List.pairwise_cons.1 h
    unfold insI
    split
    · rename_i hb
      refine List.pairwise_cons.2 ⟨fun a ha => ?_, h⟩
      rcases List.mem_cons.1 ha with rfl | ha
      · exact hb
      · exact bef_trans hb (h'.1 a ha)
    · rename_i hb
      have hb : befB x z = false := by simpa using hb
      refine List.pairwise_cons.2 ⟨fun a ha => ?_, ins_sorted h'.2 fun y hy => hn y (List.mem_cons_of_mem _ hy)⟩
      rcases ins_mem.1 ha with rfl | ha
      · exact bef_total (fun e => hn z (by simp) e.symm) hb
      · exact h'.1 a ha
/-- Put behind all that are not worse. -/
theorem ins_at {x : Itk} : ∀ {p q : List Itk}, (∀ y ∈ p, befB x y = false) → (∀ y ∈ q, befB x y = true) → insI x (p ++ q) = p ++ [x] ++ q
  | [], [], _, _ => rfl
  | [], z :: q, _, h => by
    show insI x (z :: q) = _
    unfold insI
    rw [if_pos (h z (by simp))]; rfl
  | z :: p, q, h, h2 => by
    show insI x (z :: (p ++ q)) = _
    unfold insI
    rw [if_neg (by rw [h z (by simp)]; simp), ins_at (fun y hy => h y (List.mem_cons_of_mem _ hy)) h2]
    rfl
theorem rev_ind {α : Type} {P : List α → Prop} (h0 : P []) (h1 : ∀ l x, P l → P (l ++ [x])) (l : List α) : P l := by
  have : ∀ m : List α, P m.reverse := fun m => by
    induction m with
    | nil => exact h0
    | cons x m ih => rw [List.reverse_cons]; exact h1 _ _ ih
  have := this l.reverse
  rwa [List.reverse_reverse] at this
theorem sort_step (l : List Itk) (x : Itk) : sortI (l ++ [x]) = insI x (sortI l) := by unfold sortI; rw [List.foldl_append]; rfl
theorem sort_mem {y : Itk} : ∀ {l : List Itk}, y ∈ sortI l ↔ y ∈ l := by
  intro l
  refine rev_ind (P := fun l => y ∈ sortI l ↔ y ∈ l) (by simp [sortI]) (fun l x ih => ?_) l
  rw [sort_step, ins_mem, ih, List.mem_append, List.mem_singleton]; exact or_comm
theorem sort_len : ∀ (l : List Itk), (sortI l).length = l.length := by
  intro l
  refine rev_ind (P := fun l => (sortI l).length = l.length) rfl (fun l x ih => ?_) l
  rw [sort_step, ins_len, ih, List.length_append]; rfl
theorem sort_sorted : ∀ {l : List Itk}, (l.Pairwise fun a b => a.1 ≠ b.1) → SortedI (sortI l) := by
  intro l
  refine rev_ind (P := fun l => (l.Pairwise fun a b => a.1 ≠ b.1) → SortedI (sortI l)) (fun _ => List.Pairwise.nil) (fun l x ih h => ?_) l
  rw [List.pairwise_append] at h
  rw [sort_step]
  exact ins_sorted (ih h.1) fun y hy => h.2.2 y (sort_mem.1 hy) x (by simp)
/-- Sorted rows of the same are the same. -/
theorem sorted_ext : ∀ {a b : List Itk}, SortedI a → SortedI b → (∀ x, x ∈ a ↔ x ∈ b) → a = b
  | [], [], _, _, _ => rfl
  | [], y :: b, _, _, h => by have := (h y).2 (by simp); simp at this
  | x :: a, [], _, _, h => by have := (h x).1 (by simp); simp at this
  | x :: a, y :: b, ha, hb, h => by
    have ha' := List.pairwise_cons.1 ha
    have hb' := List.pairwise_cons.1 hb
    have e : x = y := by
      rcases List.mem_cons.1 ((h x).1 (by simp)) with e | h1
      · exact e
      · rcases List.mem_cons.1 ((h y).2 (by simp)) with e | h2
        · exact e.symm
        · have q1 := hb'.1 x h1
          have q2 := ha'.1 y h2
          rw [bef_asym q1] at q2; cases q2
    subst e
    rw [sorted_ext ha'.2 hb'.2 fun z => by
      constructor
      · intro hz
        rcases List.mem_cons.1 ((h z).1 (by simp [hz])) with e | k
        · subst e; have := ha'.1 z hz; rw [bef_irr] at this; cases this
        · exact k
      · intro hz
        rcases List.mem_cons.1 ((h z).2 (by simp [hz])) with e | k
        · subst e; have := hb'.1 z hz; rw [bef_irr] at this; cases this
        · exact k]
theorem items_ids {l : List Chn} (h : LUp l) (w : List Wgt) (n : Int) : (itemsI l w n).Pairwise fun a b => a.1 < b.1 := by
  unfold itemsI
  rw [List.pairwise_map]
  exact (h.filter _)
theorem ord_sorted {l : List Chn} (h : LUp l) (w : List Wgt) (n : Int) : SortedI (ordI l w n) := sort_sorted ((items_ids h w n).imp fun h => by omega)
theorem ord_mem {l : List Chn} {w : List Wgt} {n : Int} {x : Itk} : x ∈ ordI l w n ↔ ∃ c ∈ l, elig n c = true ∧ x = (c.Id, keyC w (floatOfInt .f64 n) c) := by
  unfold ordI itemsI
  rw [sort_mem, List.mem_map]
  constructor
  · rintro ⟨c, hc, rfl⟩
    obtain ⟨h1, h2⟩ := List.mem_filter.1 hc
    exact ⟨c, h1, h2, rfl⟩
  · rintro ⟨c, h1, h2, rfl⟩
    exact ⟨c, List.mem_filter.2 ⟨h1, h2⟩, rfl⟩
theorem ord_len (l : List Chn) (w : List Wgt) (n : Int) : (ordI l w n).length = (l.filter (elig n)).length := by
  unfold ordI itemsI
  rw [sort_len, List.length_map]
theorem elig_iff {n : Int} {c : Chn} : elig n c = true ↔ c.Open = true ∧ rmV c ≠ 0 ∧ n ≤ rmV c := by
  unfold elig
  rw [Bool.and_eq_true, Bool.and_eq_true, decide_eq_true_eq, decide_eq_true_eq, and_assoc]
/-- Two scores are the same. -/
def sameK (a b : Nat) : Bool := !ltK (scK a) (scK b) && !ltK (scK b) (scK a)
theorem sameK_of {a b : Nat} (h : scK a = scK b) : sameK a b = true := by unfold sameK; rw [h, ltK_irr]; rfl
end Go.Proofs.Ytpkfejfdbjoehaa
