import PyProof.Rows.All
import Wide.All
import OpenK.AllK
import Wide.FinOn
import HandS.ForMost
import HandS.ForExc
import HandS.DictComp
import HandS.Deep
import HandS.Star
import HandS.TupLen
import HandS.TupAny
import HandS.Style
import HandS.IsInst
import KE.DataFind
import PyProof.ListStr
import PyProof.CollectStr
import KE.KDictPairs
import HandS.ForSpec
import HandS.TryOnly
import HandS.TupLe
import KE.DataMinMax
import HandS.DictTup
import KE.SortData
import KE.KDictWalk
import KE.KDictCopyH
import KE.KDictSum
import KE.DataCmp
import HandS.TupMul
import PySem.Challenge.RW_settlepages_k24_whole_cuts_between_lette
set_option Elab.async false
set_option linter.all false
set_option maxRecDepth 100000
set_option maxHeartbeats 8000000
/-! Words shaped by pairs: the big steps (with fuel), the small steps of the hand, and why both tell the same; rings on the way down. -/
namespace K24
inductive Deed (α : Type) where
  | kern (n : Int)
  | put (x : α) (l r : Bool) (on : Nat)
inductive Thing (α : Type) where
  | sign (a : α)
  | kern (n : Int)
  deriving DecidableEq
section
variable {α : Type} [DecidableEq α] (e : α) (f : α → α → Option (Deed α))
def rowOf (a b x : α) (l r : Bool) : List α := (if l = true then [a] else []) ++ [x] ++ (if r = true then [b] else [])
def tell (a : α) : List (Thing α) := if a = e then [] else [.sign a]
def tells (as : List α) : List (Thing α) := as.flatMap (tell e)
def evs (g : α → α → Option (List (Thing α) × α)) : α → List α → Option (List (Thing α) × α)
  | h, [] => some ([], h)
  | h, x :: xs => match g h x with
    | none => none
    | some r => match evs g r.2 xs with
      | none => none
      | some q => some (r.1 ++ q.1, q.2)
/-- what a pair comes to by a deed: what it tells, if the rest comes to something -/
def came (g : α → α → Option (List (Thing α) × α)) (a b : α) : Option (Deed α) → Option (List (Thing α) × α)
  | none => some (tell e a, b)
  | some (.kern k) => some (tell e a ++ [.kern k], b)
  | some (.put x l r on) => match (rowOf a b x l r).drop on with
    | [] => none
    | h :: rest => match evs g h rest with
      | none => none
      | some q => some (tells e ((rowOf a b x l r).take on) ++ q.1, q.2)
def ev : Nat → α → α → Option (List (Thing α) × α)
  | 0, _, _ => none
  | n + 1, a, b => came e (ev n) a b (f a b)
/-! ### more fuel -/
theorem evs_mono {g g' : α → α → Option (List (Thing α) × α)} (h : ∀ a b r, g a b = some r → g' a b = some r) : ∀ (xs : List α) (a : α) (r), evs g a xs = some r → evs g' a xs = some r
  | [], a, r, q => q
  | x :: xs, a, r, q => by
    unfold evs at q ⊢
    cases e1 : g a x with
    | none => rw [e1] at q; cases q
    | some r1 =>
      rw [e1] at q
      rw [h _ _ _ e1]
      dsimp only at q ⊢
      cases e2 : evs g r1.2 xs with
      | none => rw [e2] at q; cases q
      | some r2 =>
        rw [e2] at q
        rw [evs_mono h xs _ _ e2]
        exact q
theorem came_mono {g g' : α → α → Option (List (Thing α) × α)} (h : ∀ a b r, g a b = some r → g' a b = some r) {a b : α} {d : Option (Deed α)} {r} (q : came e g a b d = some r) : came e g' a b d = some r := by
  cases d with
  | none => exact q
  | some d =>
    cases d with
    | kern k => exact q
    | put x l r on =>
      unfold came at q ⊢
      dsimp only at q ⊢
      cases e1 : (rowOf a b x l r).drop on with
      | nil => rw [e1] at q; cases q
      | cons y ys =>
        rw [e1] at q
        dsimp only at q ⊢
        cases e2 : evs g y ys with
        | none => rw [e2] at q; cases q
        | some r2 =>
          rw [e2] at q
          rw [evs_mono h ys _ _ e2]
          exact q
theorem ev_succ : ∀ (n : Nat) (a b : α) (r), ev e f n a b = some r → ev e f (n + 1) a b = some r
  | 0, _, _, _, q => by cases q
  | n + 1, a, b, r, q => by
    show came e (ev e f (n + 1)) a b (f a b) = some r
    exact came_mono e (fun a b r z => ev_succ n a b r z) q
theorem ev_mono {n m : Nat} (h : n ≤ m) {a b : α} {r} (q : ev e f n a b = some r) : ev e f m a b = some r := by
  induction m with
  | zero =>
    have z : n = 0 := by omega
    subst z
    exact q
  | succ m ih =>
    by_cases hm : n ≤ m
    · exact ev_succ e f m a b r (ih hm)
    · have z : n = m + 1 := by omega
      subst z
      exact q
theorem evs_le {n m : Nat} (h : n ≤ m) {a : α} {xs : List α} {r} (q : evs (ev e f n) a xs = some r) : evs (ev e f m) a xs = some r :=
  evs_mono (fun _ _ _ z => ev_mono e f h z) xs a r q
theorem ev_one {n m : Nat} {a b : α} {r r'} (q : ev e f n a b = some r) (q' : ev e f m a b = some r') : r = r' := by
  have h1 := ev_mono e f (Nat.le_max_left n m) q
  have h2 := ev_mono e f (Nat.le_max_right n m) q'
  rw [h1] at h2
  exact Option.some.inj h2
theorem evs_one {n m : Nat} {a : α} {xs : List α} {r r'} (q : evs (ev e f n) a xs = some r) (q' : evs (ev e f m) a xs = some r') : r = r' := by
  have h1 := evs_le e f (Nat.le_max_left n m) q
  have h2 := evs_le e f (Nat.le_max_right n m) q'
  rw [h1] at h2
  exact Option.some.inj h2
theorem evs_cons {g : α → α → Option (List (Thing α) × α)} {a x : α} {xs : List α} : evs g a (x :: xs) = (match g a x with
    | none => none
    | some r => match evs g r.2 xs with
      | none => none
      | some q => some (r.1 ++ q.1, q.2)) := rfl
theorem evs_app {g : α → α → Option (List (Thing α) × α)} : ∀ (xs : List α) (a : α) (ys : List α), evs g a (xs ++ ys) = (match evs g a xs with
    | none => none
    | some r => match evs g r.2 ys with
      | none => none
      | some q => some (r.1 ++ q.1, q.2))
  | [], a, ys => by
    show evs g a ys = match evs g a ys with
      | none => none
      | some q => some ([] ++ q.1, q.2)
    cases evs g a ys with
    | none => rfl
    | some q => rfl
  | x :: xs, a, ys => by
    show evs g a (x :: (xs ++ ys)) = _
    rw [evs_cons, evs_cons]
    cases g a x with
    | none => rfl
    | some r1 =>
      dsimp only
      rw [evs_app xs r1.2 ys]
      cases evs g r1.2 xs with
      | none => rfl
      | some r2 =>
        dsimp only
        cases evs g r2.2 ys with
        | none => rfl
        | some r3 =>
          dsimp only
          rw [List.append_assoc]
theorem evs_single {g : α → α → Option (List (Thing α) × α)} {a x : α} : evs g a [x] = g a x := by
  unfold evs
  cases g a x with
  | none => rfl
  | some r =>
    show some (r.1 ++ [], r.2) = some r
    rw [List.append_nil]
/-! ### a pair comes to something, or to nothing ever -/
def Goes (a b : α) (r : List (Thing α) × α) : Prop := ∃ n, ev e f n a b = some r
def Never (a b : α) : Prop := ∀ n, ev e f n a b = none
def GoesAll (a : α) (xs : List α) (r : List (Thing α) × α) : Prop := ∃ n, evs (ev e f n) a xs = some r
def NeverAll (a : α) (xs : List α) : Prop := ∀ n, evs (ev e f n) a xs = none
theorem Goes.one {a b : α} {r r'} (h : Goes e f a b r) (h' : Goes e f a b r') : r = r' := by
  obtain ⟨n, h⟩ := h
  obtain ⟨m, h'⟩ := h'
  exact ev_one e f h h'
theorem GoesAll.nil (a : α) : GoesAll e f a [] ([], a) := ⟨0, rfl⟩
theorem GoesAll.snoc {a : α} {xs : List α} {x : α} {r q} (h : GoesAll e f a xs r) (h' : Goes e f r.2 x q) : GoesAll e f a (xs ++ [x]) (r.1 ++ q.1, q.2) := by
  obtain ⟨n, h⟩ := h
  obtain ⟨m, h'⟩ := h'
  refine ⟨max n m, ?_⟩
  rw [evs_app, evs_le e f (Nat.le_max_left n m) h]
  dsimp only
  rw [evs_single, ev_mono e f (Nat.le_max_right n m) h']
theorem NeverAll.of {a : α} {xs : List α} {x : α} {ys : List α} {r} (h : GoesAll e f a xs r) (h' : Never e f r.2 x) : NeverAll e f a (xs ++ x :: ys) := by
  intro n
  rw [evs_app]
  cases e1 : evs (ev e f n) a xs with
  | none => rfl
  | some r' =>
    obtain ⟨m, h⟩ := h
    have z := evs_one e f e1 h
    subst z
    dsimp only
    unfold evs
    rw [h' n]
theorem Goes.plain {a b : α} (h : f a b = none) : Goes e f a b (tell e a, b) := ⟨1, by show came e _ a b (f a b) = _; rw [h]; rfl⟩
theorem Goes.kern {a b : α} {k : Int} (h : f a b = some (.kern k)) : Goes e f a b (tell e a ++ [.kern k], b) := ⟨1, by show came e _ a b (f a b) = _; rw [h]; rfl⟩
theorem Goes.put {a b x : α} {l r : Bool} {on : Nat} {y : α} {ys : List α} {q} (h : f a b = some (.put x l r on)) (hr : (rowOf a b x l r).drop on = y :: ys) (hq : GoesAll e f y ys q) :
    Goes e f a b (tells e ((rowOf a b x l r).take on) ++ q.1, q.2) := by
  obtain ⟨n, hq⟩ := hq
  refine ⟨n + 1, ?_⟩
  show came e _ a b (f a b) = _
  rw [h]
  unfold came
  dsimp only
  rw [hr]
  dsimp only
  rw [hq]
theorem Never.put {a b x : α} {l r : Bool} {on : Nat} {y : α} {ys : List α} (h : f a b = some (.put x l r on)) (hr : (rowOf a b x l r).drop on = y :: ys) (hq : NeverAll e f y ys) : Never e f a b := by
  intro n
  cases n with
  | zero => rfl
  | succ n =>
    show came e _ a b (f a b) = _
    rw [h]
    unfold came
    dsimp only
    rw [hr]
    dsimp only
    rw [hq n]
/-! ### the stack of pairs that are being worked -/
def Needs (S : List (α × α)) (a b : α) : Prop := ∀ p ∈ S, ∀ n r, ev e f n p.1 p.2 = some r → ∃ m, m < n ∧ ∃ r', ev e f m a b = some r'
theorem Needs.nil (a b : α) : Needs e f [] a b := fun p hp => absurd hp (by simp)
theorem Needs.ring {S : List (α × α)} {a b : α} (h : Needs e f S a b) (hm : (a, b) ∈ S) : Never e f a b := by
  have key : ∀ n r, ev e f n a b ≠ some r := by
    intro n
    induction n using Nat.strongRecOn with
    | ind n ih =>
      intro r q
      obtain ⟨m, hm', r', q'⟩ := h _ hm n r q
      exact ih m hm' r' q'
  intro n
  cases z : ev e f n a b with
  | none => rfl
  | some r => exact absurd z (key n r)
theorem Needs.down {S : List (α × α)} {a b x : α} {l r : Bool} {on : Nat} {y : α} {pre : List α} {z : α} {post : List α} {t} (h : Needs e f S a b) (hf : f a b = some (.put x l r on))
    (hr : (rowOf a b x l r).drop on = y :: (pre ++ z :: post)) (hp : GoesAll e f y pre t) : Needs e f ((a, b) :: S) t.2 z := by
  have base : ∀ n q, ev e f n a b = some q → ∃ m, m < n ∧ ∃ r', ev e f m t.2 z = some r' := by
    intro n q hq
    cases n with
    | zero => cases hq
    | succ n =>
      refine ⟨n, Nat.lt_succ_self n, ?_⟩
      have hq : came e (ev e f n) a b (f a b) = some q := hq
      rw [hf] at hq
      unfold came at hq
      dsimp only at hq
      rw [hr] at hq
      dsimp only at hq
      rw [evs_app] at hq
      cases e1 : evs (ev e f n) y pre with
      | none => rw [e1] at hq; cases hq
      | some t' =>
        rw [e1] at hq
        obtain ⟨m, hp⟩ := hp
        have w := evs_one e f e1 hp
        subst w
        dsimp only at hq
        unfold evs at hq
        cases e2 : ev e f n t'.2 z with
        | none => rw [e2] at hq; cases hq
        | some r' => exact ⟨r', rfl⟩
  intro p hp' n q hq
  rcases List.mem_cons.mp hp' with w | w
  · subst w
    exact base n q hq
  · obtain ⟨m, hm, r', q'⟩ := h p w n q hq
    obtain ⟨m', hm', z'⟩ := base m r' q'
    exact ⟨m', by omega, z'⟩
/-! ### the hand -/
def stepTo (a b : α) (rest : List α) (t : List (Thing α)) : Option (Deed α) → List α × List (Thing α)
  | none => (b :: rest, t ++ tell e a)
  | some (.kern k) => (b :: rest, t ++ tell e a ++ [.kern k])
  | some (.put x l r on) => ((rowOf a b x l r).drop on ++ rest, t ++ tells e ((rowOf a b x l r).take on))
def hand : Nat → List α → List (Thing α) → Option (List (Thing α))
  | 0, line, t => match line with
    | [_] => some t
    | _ => none
  | n + 1, line, t => match line with
    | [] => none
    | [_] => some t
    | a :: b :: rest => hand n (stepTo e a b rest t (f a b)).1 (stepTo e a b rest t (f a b)).2
theorem hand_one (n : Nat) (a : α) (t : List (Thing α)) : hand e f n [a] t = some t := by cases n <;> rfl
theorem hand_two (n : Nat) (a b : α) (rest : List α) (t : List (Thing α)) : hand e f (n + 1) (a :: b :: rest) t = hand e f n (stepTo e a b rest t (f a b)).1 (stepTo e a b rest t (f a b)).2 := rfl
/-- the hand comes to what the big steps come to -/
theorem evs_hand {n : Nat} (ih : ∀ a b r, ev e f n a b = some r → ∃ m, ∀ k rest t, hand e f (m + k) (a :: b :: rest) t = hand e f k (r.2 :: rest) (t ++ r.1)) :
    ∀ (xs : List α) (a : α) (r), evs (ev e f n) a xs = some r → ∃ m, ∀ k rest t, hand e f (m + k) (a :: (xs ++ rest)) t = hand e f k (r.2 :: rest) (t ++ r.1)
  | [], a, r, q => by
    have z : r = ([], a) := (Option.some.inj q).symm
    subst z
    exact ⟨0, fun k rest t => by rw [Nat.zero_add, List.append_nil]; rfl⟩
  | x :: xs, a, r, q => by
    unfold evs at q
    cases e1 : ev e f n a x with
    | none => rw [e1] at q; cases q
    | some r1 =>
      rw [e1] at q
      dsimp only at q
      cases e2 : evs (ev e f n) r1.2 xs with
      | none => rw [e2] at q; cases q
      | some r2 =>
        rw [e2] at q
        have z : r = (r1.1 ++ r2.1, r2.2) := (Option.some.inj q).symm
        subst z
        obtain ⟨m1, h1⟩ := ih a x r1 e1
        obtain ⟨m2, h2⟩ := evs_hand ih xs r1.2 r2 e2
        refine ⟨m1 + m2, fun k rest t => ?_⟩
        show hand e f (m1 + m2 + k) (a :: x :: (xs ++ rest)) t = _
        rw [Nat.add_assoc, h1 (m2 + k) (xs ++ rest) t, h2 k rest (t ++ r1.1), List.append_assoc]
theorem ev_hand : ∀ (n : Nat) (a b : α) (r), ev e f n a b = some r → ∃ m, ∀ k rest t, hand e f (m + k) (a :: b :: rest) t = hand e f k (r.2 :: rest) (t ++ r.1)
  | 0, _, _, _, q => by cases q
  | n + 1, a, b, r, q => by
    have q : came e (ev e f n) a b (f a b) = some r := q
    cases hf : f a b with
    | none =>
      rw [hf] at q
      have z : r = (tell e a, b) := (Option.some.inj q).symm
      subst z
      refine ⟨1, fun k rest t => ?_⟩
      rw [Nat.add_comm 1 k, hand_two, hf]
      rfl
    | some d =>
      rw [hf] at q
      cases d with
      | kern c =>
        have z : r = (tell e a ++ [.kern c], b) := (Option.some.inj q).symm
        subst z
        refine ⟨1, fun k rest t => ?_⟩
        rw [Nat.add_comm 1 k, hand_two, hf]
        show hand e f k (b :: rest) (t ++ tell e a ++ [.kern c]) = _
        rw [List.append_assoc]
      | put x l r' on =>
        unfold came at q
        dsimp only at q
        cases e1 : (rowOf a b x l r').drop on with
        | nil => rw [e1] at q; cases q
        | cons y ys =>
          rw [e1] at q
          dsimp only at q
          cases e2 : evs (ev e f n) y ys with
          | none => rw [e2] at q; cases q
          | some r2 =>
            rw [e2] at q
            have z : r = (tells e ((rowOf a b x l r').take on) ++ r2.1, r2.2) := (Option.some.inj q).symm
            subst z
            obtain ⟨m, h⟩ := evs_hand e f (fun a b r => ev_hand n a b r) ys y r2 e2
            refine ⟨1 + m, fun k rest t => ?_⟩
            rw [show 1 + m + k = (m + k) + 1 by omega, hand_two, hf]
            show hand e f (m + k) ((rowOf a b x l r').drop on ++ rest) (t ++ tells e ((rowOf a b x l r').take on)) = _
            rw [e1]
            show hand e f (m + k) (y :: (ys ++ rest)) _ = _
            rw [h k rest _, List.append_assoc]
/-- where the hand ends, the big steps come to something -/
theorem hand_evs {n : Nat} (ih : ∀ m, m ≤ n → ∀ a b rest t T, hand e f m (a :: b :: rest) t = some T → ∃ r, Goes e f a b r ∧ ∃ k, k < m ∧ hand e f k (r.2 :: rest) (t ++ r.1) = some T) :
    ∀ (xs : List α) (m : Nat), m ≤ n → ∀ (a : α) (rest : List α) (t T : List (Thing α)), hand e f m (a :: (xs ++ rest)) t = some T → ∃ r, GoesAll e f a xs r ∧ ∃ k, k ≤ m ∧ hand e f k (r.2 :: rest) (t ++ r.1) = some T
  | [], m, hm, a, rest, t, T, q => ⟨([], a), GoesAll.nil e f a, m, Nat.le_refl m, by rw [List.append_nil]; exact q⟩
  | x :: xs, m, hm, a, rest, t, T, q => by
    obtain ⟨r1, g1, k1, hk1, q1⟩ := ih m hm a x (xs ++ rest) t T q
    obtain ⟨r2, g2, k2, hk2, q2⟩ := hand_evs ih xs k1 (by omega) r1.2 rest (t ++ r1.1) T q1
    refine ⟨(r1.1 ++ r2.1, r2.2), ?_, k2, by omega, by rw [← List.append_assoc]; exact q2⟩
    obtain ⟨n1, g1⟩ := g1
    obtain ⟨n2, g2⟩ := g2
    refine ⟨max n1 n2, ?_⟩
    unfold evs
    rw [ev_mono e f (Nat.le_max_left n1 n2) g1]
    dsimp only
    rw [evs_le e f (Nat.le_max_right n1 n2) g2]
theorem hand_ev (ok : ∀ a b x l r on, f a b = some (.put x l r on) → (rowOf a b x l r).drop on ≠ []) : ∀ (n m : Nat), m ≤ n → ∀ (a b : α) (rest : List α) (t T : List (Thing α)), hand e f m (a :: b :: rest) t = some T →
    ∃ r, Goes e f a b r ∧ ∃ k, k < m ∧ hand e f k (r.2 :: rest) (t ++ r.1) = some T
  | 0, m, hm, a, b, rest, t, T, q => by
    have z : m = 0 := by omega
    subst z
    cases q
  | n + 1, m, hm, a, b, rest, t, T, q => by
    cases m with
    | zero => cases q
    | succ m =>
      rw [hand_two] at q
      cases hf : f a b with
      | none =>
        rw [hf] at q
        exact ⟨_, Goes.plain e f hf, m, Nat.lt_succ_self m, q⟩
      | some d =>
        rw [hf] at q
        cases d with
        | kern c =>
          refine ⟨_, Goes.kern e f hf, m, Nat.lt_succ_self m, ?_⟩
          rw [← List.append_assoc]
          exact q
        | put x l r' on =>
          have hne := ok a b x l r' on hf
          have q : hand e f m ((rowOf a b x l r').drop on ++ rest) (t ++ tells e ((rowOf a b x l r').take on)) = some T := q
          cases e1 : (rowOf a b x l r').drop on with
          | nil => exact absurd e1 hne
          | cons y ys =>
            rw [e1] at q
            obtain ⟨r2, g2, k2, hk2, q2⟩ := hand_evs e f (n := n) (fun m' hm' => hand_ev ok n m' hm') ys m (by omega) y rest _ T q
            refine ⟨_, Goes.put e f hf e1 g2, k2, by omega, ?_⟩
            rw [← List.append_assoc]
            exact q2
/-- the hand over a word: none for ever where the big steps come to nothing -/
theorem hand_never (ok : ∀ a b x l r on, f a b = some (.put x l r on) → (rowOf a b x l r).drop on ≠ []) {a : α} {xs : List α} (h : NeverAll e f a xs) (n : Nat) (hx : xs ≠ []) : hand e f n (a :: xs) [] = none := by
  cases z : hand e f n (a :: xs) [] with
  | none => rfl
  | some T =>
    have z' : hand e f n (a :: (xs ++ [])) [] = some T := by rw [List.append_nil]; exact z
    obtain ⟨r, ⟨k, g⟩, _⟩ := hand_evs e f (n := n) (fun m _ => hand_ev e f ok m m (Nat.le_refl m)) xs n (Nat.le_refl n) a [] [] T z'
    rw [h k] at g
    cases g
theorem hand_goes (ok : ∀ a b x l r on, f a b = some (.put x l r on) → (rowOf a b x l r).drop on ≠ []) {a : α} {xs : List α} {r} (h : GoesAll e f a xs r) {n : Nat} {T} (z : hand e f n (a :: xs) [] = some T) : T = r.1 := by
  have z' : hand e f n (a :: (xs ++ [])) [] = some T := by rw [List.append_nil]; exact z
  obtain ⟨r', ⟨k, g⟩, k', _, q⟩ := hand_evs e f (n := n) (fun m _ => hand_ev e f ok m m (Nat.le_refl m)) xs n (Nat.le_refl n) a [] [] T z'
  obtain ⟨k2, h⟩ := h
  have w := evs_one e f g h
  subst w
  rw [hand_one, List.nil_append] at q
  exact (Option.some.inj q).symm
end
end K24

namespace K24
open PySem PySem.Spec PyProof.Rows L2
section
variable {X : Cx}
/-! ### a key that is a tuple is stored -/
theorem storeT {pins : List (Addr × Obj)} {σ : L2.St} {H : Hp} {s : Shared} {B : Around} {E : Value → Shared → Prop} {D b : Addr} {kvs : List (List L2.Key × V)} {ks : List L2.Key} {v : V} {r : Value} {Q : Unit → Shared → Prop}
    (hu : B.units < cLine) (J : Inv X pins σ H s) (hD : H D = some (.dT kvs)) (hb : H b = some (.tup (ks.map kV))) (hz : kvs.length < sizeLine) (rv : RelV v r)
    (go : ∀ s', Inv X pins σ (upd H D (.dT (putK kvs ks v))) s' → Q () s') : wpAny (model X.prog X.w) B (dictSet D (.ref b) r) Q E s := by
  obtain ⟨z1, z2, xs, rel, dd⟩ := dt_of J.hok hD
  have lx : xs.length ≤ sizeLine := by
    rw [← Paired.length rel]
    exact z1
  have ly : (putK kvs ks v).length ≤ sizeLine := by
    have := length_putK kvs ks v
    omega
  refine wpAny_dictSet_heap (hsz := lx) (knd := tupleKind (mixKind X.prog X.w)) hu (key_of J.hok hb) dd fun h' d' same => go _ ?_
  obtain ⟨q, es, ep, hq, h2, h3, h4, _, h5⟩ := d'
  have relK := rel.put ks hb rv
  refine d_write J (by rw [hD]; exact True.intro) same ⟨q, hq⟩ ⟨ly, z2, _, relK.keeps fun c ys ec => ?_, q, es, ep, hq, h2, h3, h4, h5⟩
  have nc : c ≠ D := ne_of ec hD (fun z => nomatch z)
  rw [upd_ne nc]
  exact ec
/-! ### a dict comprehension whose keys are tuples -/
def tDcT (wi : TI) (g : TG) (tt : TT) (tk tv : TE) (vs : List Nat) : TE := fun σ H Q =>
  wi σ H fun J H1 => ∀ D, H1 D = none → ∃ W : Nat → Nat → Hp → Prop, (∃ m, W 0 m (upd H1 D (.dT []))) ∧
    ∀ i m H, W i m H → (J.stop i H ∧ Q (.ref D) H) ∨
      (J.go i H ∧ ∃ Nx : Hp → Prop, (∀ H', Nx H' → ∃ m', m' < m ∧ W (i + 1) m' H') ∧
        ∀ x H', J.yld i H x H' → g x (wipe σ vs) H' fun σ2 H2 => wipe σ2 vs = wipe σ vs ∧ tt σ2 H2 fun b H3 =>
          if b = true then
            tk σ2 H3 fun y H4 => tv σ2 H4 fun z H5 => ∃ kvs ks a, y = V.ref a ∧ H5 a = some (.tup (ks.map kV)) ∧ H5 D = some (.dT kvs) ∧ kvs.length < sizeLine ∧ Nx (upd H5 D (.dT (putK kvs ks z)))
          else Nx H3)
theorem dcT_core {pins : List (Addr × Obj)} {s : Shared} {σ : L2.St} {H : Hp} {Q : VK} {kx vx tg iter : Expr} {ifs : List Expr} {scope : Scope} {own : List (Str × Nat)} {pos pos' : Pos}
    {wi : TI} {g : TG} {tt : TT} {tk tv : TE} {use : Option (Value → Sem Unit)} {Qf : Value → Shared → Prop}
    (calm : X.calm = true) (nd : X.N.Nodup) (hu : X.A.units < cLine) (I : Inv X pins σ H s) (hi : PI X tg iter wi) (ok : BlkOk X.N X.env.scope scope own)
    (hg : ∀ s H C cl fp, PG (X.blk s H scope (compEnvC scope cl C X.env) fp) tg g)
    (ht : ∀ s H C cl fp, PTs (X.blk s H scope (compEnvC scope cl C X.env) fp) ifs tt)
    (hk : ∀ s H C cl fp, PE (X.blk s H scope (compEnvC scope cl C X.env) fp) kx tk)
    (hv : ∀ s H C cl fp, PE (X.blk s H scope (compEnvC scope cl C X.env) fp) vx tv)
    (hs : ∀ x, foldedSetIterable iter X.env x = pure x)
    (h : tDcT wi g tt tk tv (own.map (·.2)) σ H Q)
    (done : ∀ D C s' m H', Inv X pins σ H' s' → Q (.ref D) H' → s'.heap.Ns C m → FpOk X pins H' C →
      compPost (model X.prog X.w) X.A X.xe use Qf (.ref D) C (.ok .next) s') :
    wpAny (model X.prog X.w) X.A
      (comprehension (.DictComp kx vx [⟨tg, iter, ifs, 0⟩] scope pos) scope X.env pos' newDict false (eval iter X.env) use) Qf X.xe s := by
  have free : ∀ y ∈ scope.names, y.2 = .free → ∃ c, X.env.cells.lookup y.1 = some c := by
    intro y hy e
    cases ok.free y hy e with
    | inl k => exact I.ok.has _ (.inl k)
    | inr k => exact I.ok.has _ (.inr k)
  refine wpAny_comprehension_free (use := use) rfl hs (closure_ok free) ok.kind
    (fun y hy e => by rw [ok.uniq y hy, e]) (thn (hi.run pins s σ H _ I h) fun xv s1 hx => thn hx fun itv s2 h2 => ?_)
  obtain ⟨it, fp, tn, J, H2, ei, I2, T, st2, f2, q⟩ := h2
  subst ei
  refine wpAny_newObj_type (newEnv_comp ?_)
  generalize hD : s2.heap.objs.size = D
  have free2 : H2 D = none := I2.hok.fresh (Nat.le_of_eq hD)
  obtain ⟨W, ⟨m0, w0⟩, turn⟩ := q D free2
  generalize hs3 : ({ s2 with heap := s2.heap.push { cls := .type "dict", data := .dict #[] } } : Shared) = s3
  have e3 : s3.heap = s2.heap.push { cls := .type "dict", data := .dict #[] } := by rw [← hs3]
  have push3 : ∀ b o, s2.heap.get? b = some o → s3.heap.get? b = some o := fun b o e => by
    rw [e3]
    exact Heap.get?_push_of_some _ e
  have I3 : Inv X pins σ (upd H2 D (.dT [])) s3 := by
    rw [← hs3]
    refine I2.laid (t' := s2.toks) (fun b o e => Heap.get?_push_of_some _ e) (Nat.le_of_eq hD) ?_
    rw [← hD]
    exact dt_empty s2.heap I2.big
  have small : ∀ b ∈ fp, b < s2.heap.objs.size := fun b hb =>
    let ⟨o, e, _⟩ := T.obj _ _ st2 b hb
    Heap.lt_size e
  have f3 : ∀ b ∈ fp, FpOk X pins (upd H2 D (.dT [])) b ∧ b < s3.heap.objs.size := by
    intro b hb
    have lt := small b hb
    have ne : b ≠ D := by
      rw [← hD]
      exact Nat.ne_of_lt lt
    refine ⟨⟨?_, (f2 b hb).2⟩, ?_⟩
    · rw [upd_ne ne]
      exact (f2 b hb).1
    · rw [e3, Heap.size_push]
      exact Nat.lt_succ_of_lt lt
  have st3 : tn 0 s3.heap := T.keep _ _ _ st2 fun b _ o e => push3 b o e
  have I4 := block_start I3 ok nd f3
  have pg := hg s3 (upd H2 D (.dT [])) s3.heap.objs.size (cellsFrom (s3.heap.objs.size + 1) scope.names (cloFrom X.env.cells scope.names [])) fp
  have pt := ht s3 (upd H2 D (.dT [])) s3.heap.objs.size (cellsFrom (s3.heap.objs.size + 1) scope.names (cloFrom X.env.cells scope.names [])) fp
  have pk := hk s3 (upd H2 D (.dT [])) s3.heap.objs.size (cellsFrom (s3.heap.objs.size + 1) scope.names (cloFrom X.env.cells scope.names [])) fp
  have pe := hv s3 (upd H2 D (.dT [])) s3.heap.objs.size (cellsFrom (s3.heap.objs.size + 1) scope.names (cloFrom X.env.cells scope.names [])) fp
  show codeAny _ _
    (.compStart (.DictComp kx vx [⟨tg, iter, ifs, 0⟩] scope pos) 0 (.ref it) (.ref D) (compEnvC scope (cellsFrom (s3.heap.objs.size + 1) scope.names (cloFrom X.env.cells scope.names [])) s3.heap.objs.size X.env))
    (compPost (model X.prog X.w) X.A X.xe use Qf (.ref D) s3.heap.objs.size)
    { s3 with heap := pushCells (s3.heap.push { cls := .type "dict", data := .dict #[] }) scope.names }
  have hole : ∀ b ∈ fp, (upd H2 D (.dT [])) b = none := fun b hb => (f3 b hb).1.1
  generalize hce : compEnvC scope (cellsFrom (s3.heap.objs.size + 1) scope.names (cloFrom X.env.cells scope.names [])) s3.heap.objs.size X.env = ce at I4 pg pt pk pe ⊢
  have loc : ce.locals = s3.heap.objs.size := by
    subst hce
    rfl
  generalize hH3 : upd H2 D (.dT []) = H3 at I3 I4 pg pt pk pe w0 hole f3
  generalize hs4 : ({ s3 with heap := pushCells (s3.heap.push { cls := .type "dict", data := .dict #[] }) scope.names } : Shared) = s4 at I4 ⊢
  have st4 : tn 0 s4.heap := T.keep _ _ _ st3 fun b _ o e => by
    rw [← hs4]
    exact pushCells_keeps _ _ _ _ (Heap.get?_push_of_some _ e)
  have still : ∀ {τ : L2.St} {G : Hp} {t : Shared}, Inv (X.blk s3 H3 scope ce fp) [] τ G t → (∀ b ∈ fp, G b = none) → ∀ b ∈ fp, FpOk (X.blk s3 H3 scope ce fp) [] G b := by
    intro τ G t I' hn b hb
    exact ⟨hn b hb, (I'.ok.exf b hb).1, I'.ok.exfs b hb, .inl hb, fun x c e => (I'.ok.exf b hb).2 x c e, fun p hp => nomatch (show p ∈ ([] : List (Addr × Obj)) from by simpa using hp)⟩
  have loop : codeAny (model X.prog X.w) X.A (.compLoop (.DictComp kx vx [⟨tg, iter, ifs, 0⟩] scope pos) 0 (.ref it) (.ref D) ce)
      (compPost (model X.prog X.w) X.A X.xe use Qf (.ref D) s3.heap.objs.size) s4 := by
    refine compLoop_anyD (fun n t => ∃ i G, Inv (X.blk s3 H3 scope ce fp) [] (wipe σ (own.map (·.2))) G t ∧ tn i t.heap ∧ (∀ b ∈ fp, G b = none) ∧ W i n G) ?_ m0 ⟨0, H3, I4, st4, hole, w0⟩
    rintro n s5 ⟨i, H5, I5, st5, n5, w5⟩
    cases turn i n H5 w5 with
    | inl over =>
      obtain ⟨stop, qq⟩ := over
      refine thnF (T.done (X.blk s3 H3 scope ce fp) rfl rfl rfl calm i [] s5 _ H5 (fun _ _ => False) I5 (still I5 n5) st5 stop) fun r s6 ⟨hr, I6⟩ => ?_
      subst hr
      have I7 : Inv X pins σ H5 s6 := I3.call' (ch := fp) I6.os I6.base I6.hok I6.bare fun b hb => by
        obtain ⟨⟨_, y1, y2, y3, y4, y5⟩, y6⟩ := f3 b hb
        exact ⟨y3, y1, y4, y5⟩
      have nC : H5 s3.heap.objs.size = none := by
        rw [← loc]
        exact I6.free
      obtain ⟨m, hn, _⟩ := I6.loc
      have hn : s6.heap.Ns ce.locals m := hn
      rw [loc] at hn
      exact done D s3.heap.objs.size s6 m H5 I7 qq hn (I3.fpOk (Nat.le_refl _) nC)
    | inr more =>
      obtain ⟨go, Nx, hNx, step⟩ := more
      refine thnF (T.item (X.blk s3 H3 scope ce fp) rfl rfl rfl calm i [] s5 _ H5 (fun _ _ => False) I5 (still I5 n5) st5 go) fun r s6 ⟨u, hr, h6⟩ => ?_
      subst hr
      refine thnF h6 fun _ s7 ⟨x, H7, I7, r7, y7, st7, n7⟩ => ?_
      refine thnF (pg.run _ s7 _ H7 x u _ (I7.pinned (still I7 n7) (T.obj _ _ st7)) r7 (step x H7 y7)) fun _ s8 ⟨σ8, H8, I8, hw8, q8⟩ => ?_
      refine thnF (pt.run _ s8 σ8 H8 _ I8 q8) fun b s9 ⟨H9, I9, q9⟩ => ?_
      have fin : ∀ {t : Shared} {G : Hp}, Inv (X.blk s3 H3 scope ce fp) ([] ++ pinsAt fp s7.heap) σ8 G t → Nx G →
          ∃ m, m < n ∧ ∃ i G, Inv (X.blk s3 H3 scope ce fp) [] (wipe σ (own.map (·.2))) G t ∧ tn i t.heap ∧ (∀ b ∈ fp, G b = none) ∧ W i m G := by
        intro t G I' nx
        obtain ⟨m', hm, w'⟩ := hNx G nx
        have pin : ∀ b ∈ fp, ∀ o, s7.heap.get? b = some o → t.heap.get? b = some o ∧ G b = none := by
          intro b hb o e
          have z := I'.pin (b, o) (List.mem_append_right _ (List.mem_append_right _ (mem_pinsAt hb e)))
          exact ⟨z.1, z.2.1⟩
        have len : (wipe σ (own.map (·.2))).length = σ8.length := by
          rw [← hw8, wipe_length]
        refine ⟨m', hm, i + 1, G, (I'.unpinned (pins := [])).weak len (fun j v e => ?_), ?_, fun b hb => ?_, w'⟩
        · rw [← hw8] at e
          exact (wipe_some e).1
        · exact T.keep _ _ _ st7 fun b hb o e => (pin b hb o e).1
        · obtain ⟨o, e, _⟩ := T.obj _ _ st7 b hb
          exact (pin b hb o e).2
      cases b with
      | false =>
        rw [if_neg Bool.false_ne_true] at q9
        rw [if_neg Bool.false_ne_true]
        exact fin I9 q9
      | true =>
        rw [if_pos rfl] at q9
        rw [if_pos rfl]
        refine thnF (pk.run _ s9 σ8 H9 _ I9 q9) fun z s10 ⟨yk, H10, I10, r10, q10⟩ => ?_
        refine thnF (pe.run _ s10 σ8 H10 _ I10 q10) fun z2 s11 ⟨yv, H11, I11, r11, kvs, ks, a, ek, ha, hD11, hz11, nx⟩ => ?_
        subst ek
        cases (show z = Value.ref a from r10)
        exact storeT (X := X.blk s3 H3 scope ce fp) hu I11 hD11 ha hz11 r11 fun s12 I12 => fin I12 nx
  exact codeAny_compStart_dict loop (T.self X.A 0 _ _ _ st4 loop)
theorem pe_dcT {kx vx tg iter : Expr} {ifs : List Expr} {scope : Scope} {own : List (Str × Nat)} {pos : Pos} {wi : TI} {g : TG} {tt : TT} {tk tv : TE}
    (calm : X.calm = true) (nd : X.N.Nodup) (hu : X.A.units < cLine) (hi : PI X tg iter wi) (ok : BlkOk X.N X.env.scope scope own)
    (hg : ∀ s H C cl fp, PG (X.blk s H scope (compEnvC scope cl C X.env) fp) tg g)
    (ht : ∀ s H C cl fp, PTs (X.blk s H scope (compEnvC scope cl C X.env) fp) ifs tt)
    (hk : ∀ s H C cl fp, PE (X.blk s H scope (compEnvC scope cl C X.env) fp) kx tk)
    (hv : ∀ s H C cl fp, PE (X.blk s H scope (compEnvC scope cl C X.env) fp) vx tv)
    (hs : ∀ x, foldedSetIterable iter X.env x = pure x := by intro _; rfl) :
    PE X (.DictComp kx vx [⟨tg, iter, ifs, 0⟩] scope pos) (tDcT wi g tt tk tv (own.map (·.2))) := by
  constructor
  intro pins s σ H Q I h
  rw [arm_eval_DictComp]
  refine dcT_core calm nd hu I hi ok hg ht hk hv hs h fun D C s' m H' I' q hn f => ⟨m, hn, fun h'' sb => ?_⟩
  obtain ⟨f0, f1, f2, f3, f4, f5⟩ := f
  refine ⟨.ref D, H', ?_, rfl, q⟩
  exact I'.turned (t' := s'.toks) (fun b o hb e => (sb.2 b hb).trans e) f0 f1 f3 f4 f5
end
end K24

namespace K24
open PySem PySem.Spec PyProof.Rows L2
section
variable {X : Cx}
/-- y = {k: v for ..} with keys that are tuples -/
theorem ps_setDcT {i : Nat} {y : Str} {py : Pos} {kx vx tg iter : Expr} {ifs : List Expr} {scope : Scope} {own : List (Str × Nat)} {pos spos : Pos} {wi : TI} {g : TG} {tt : TT} {tk tv : TE}
    (calm : X.calm = true) (nd : X.N.Nodup) (hu : X.A.units < cLine) (hy : X.N[i]? = some y) (hyl : X.env.scope.names.lookup y = some .local)
    (hsw : swapsWith (.DictComp kx vx [⟨tg, iter, ifs, 0⟩] scope pos) (some (.Name y py)) spos.line X.env = pure true)
    (hi : PI X tg iter wi) (ok : BlkOk X.N X.env.scope scope own)
    (hg : ∀ s H C cl fp, PG (X.blk s H scope (compEnvC scope cl C X.env) fp) tg g)
    (ht : ∀ s H C cl fp, PTs (X.blk s H scope (compEnvC scope cl C X.env) fp) ifs tt)
    (hk : ∀ s H C cl fp, PE (X.blk s H scope (compEnvC scope cl C X.env) fp) kx tk)
    (hv : ∀ s H C cl fp, PE (X.blk s H scope (compEnvC scope cl C X.env) fp) vx tv)
    (hs : ∀ x, foldedSetIterable iter X.env x = pure x := by intro _; rfl) :
    PS X (.Assign [.Name y py] (.DictComp kx vx [⟨tg, iter, ifs, 0⟩] scope pos) spos) (tAsg (tDcT wi g tt tk tv (own.map (·.2))) (gName i)) := by
  constructor
  intro pins s σ H D I h
  rw [exec_Assign_Name_used _ _ _ _ hsw]
  refine wpAny_bind (wpAny_standAt (wpAny_bind ?_))
  show wpAny _ X.A (do let _ ← comprehension (.DictComp kx vx [⟨tg, iter, ifs, 0⟩] scope pos) scope X.env (firstIterPos [⟨tg, iter, ifs, 0⟩] pos) newDict false (eval iter X.env) (some (assign (.Name y py) X.env))) _ _ s
  have h : tDcT wi g tt tk tv (own.map (·.2)) σ H (fun x H1 => gName i x σ H1 D.nx) := h
  refine wpAny_bind (thn (dcT_core (Qf := fun _ t => SP X pins D .next t) calm nd hu I hi ok hg ht hk hv hs h fun L C t m G I' q hn f => ?_) fun _ t hq => wpAny_pure (wpAny_pure hq))
  show wpAny _ _ (assign (.Name y py) X.env (.ref L)) _ _ _
  refine wpAny_assign_Name (store_ok2 (v := V.ref L) I' nd hy (.inl hyl) rfl (fun s2 I2 ⟨a, sb, ha⟩ => ?_) (.inr hyl))
  obtain ⟨f0, f1, f2, f3, f4, f5⟩ := f
  have nCa : C ≠ a := by
    cases ha with
    | inl z =>
      rw [z]
      exact f1
    | inr z => exact fun e => f4 y a z e.symm
  exact ⟨m, hn.sameBut sb nCa, fun h3 sb3 => ⟨_, G, I2.turned (t' := s2.toks) (fun b o hb e => (sb3.2 b hb).trans e) f0 f1 f3 f4 f5, q⟩⟩
theorem swD {kx vx : Expr} {gs : List Comprehension} {scope : Scope} {pos py : Pos} {y : Str} {l : Nat} {env : Env} (hk : env.scope.kind = .function) (hy : env.scope.names.lookup y = some .local)
    (hl : (py.line == pos.line) = true) (ha : (scope.names.any fun (n, k) => n == y && (k == .local || k == .cell)) = false) :
    swapsWith (.DictComp kx vx gs scope pos) (some (.Name y py)) l env = pure true := by
  have h1 : env.kindOf y = some .local := hy
  have h2 : env.blockKind = .function := by
    unfold Env.blockKind
    rw [hk]
    rfl
  unfold swapsWith
  simp only [h1, h2, ha, Expr.pos, hl]
  rfl
/-! ### the signs of a text -/
def signs (x : Str) : List V := x.cps.toList.map fun c => V.str ⟨#[c]⟩
theorem signs_vals {x : Str} {acc : Array Value} (h : ItemsOf (SignAt x) acc x.cps.size) : Vals (signs x) acc.toList := by
  obtain ⟨hs, hit⟩ := h
  have key : ∀ (cs : List Nat) (us : List Value), us.length = cs.length → (∀ (j : Nat) (v : Value), us[j]? = some v → ∃ c u, cs[j]? = some c ∧ v = Value.str ⟨#[c]⟩ u) → Vals (cs.map fun c => V.str ⟨#[c]⟩) us := by
    intro cs
    induction cs with
    | nil =>
      intro us hl _
      cases us with
      | nil => exact .nil
      | cons u us => simp at hl
    | cons c cs ih =>
      intro us hl hv
      cases us with
      | nil => simp at hl
      | cons u us =>
        obtain ⟨c', t, e1, e2⟩ := hv 0 u rfl
        have e3 : c = c' := Option.some.inj e1
        subst e3
        exact .cons ⟨t, e2⟩ (ih us (by simpa using hl) fun j v e => hv (j + 1) v e)
  refine key x.cps.toList acc.toList ?_ fun j v e => ?_
  · simpa using hs
  · obtain ⟨c, u, e1, e2⟩ := hit j v (by simpa using e)
    exact ⟨c, u, by simpa using e1, e2⟩
theorem call_list_text (calm : X.calm = true) : CallR X (.type "list") (fun xs H Q => ∃ x : Str, xs = [.str x] ∧ x.length ≤ sizeLine ∧ ∀ l, H l = none → Q (.ref l) (upd H l (.lst (signs x)))) := by
  intro pins s σ H xs us Q I r h
  obtain ⟨x, rfl, hl, q⟩ := h
  obtain ⟨u, rfl, rx⟩ := vals1 r
  obtain ⟨t, rfl⟩ := rx
  refine call_list_str (I.ok.hd calm) x t (fun h' tk acc c kp e it => ?_) hl
  have sv := signs_vals it
  have sl : (signs x).length ≤ sizeLine := by
    unfold signs
    rw [List.length_map, Array.length_toList]
    exact hl
  exact ⟨.ref s.heap.objs.size, _, I.laid (t' := tk) kp (Nat.le_refl _) (show ObjOk X.prog X.w _ h' _ (.lst (signs x)) from ⟨sl, acc.toList, c, sv, by simpa using e⟩), rfl, q _ (I.hok.fresh (Nat.le_refl _))⟩
def tStarS (te : TE) (t : TA) : TA := fun σ H Q => te σ H fun v H1 => ∃ x : Str, v = .str x ∧ x.length ≤ sizeLine ∧ t σ H1 fun ys H2 => Q (signs x ++ ys) H2
theorem pa_starS {e : Expr} {es : List Expr} {te : TE} {t : TA} {p : Pos} (calm : X.calm = true) (he : PE X e te) (hr : PA X es t) (hs : starEach (.Starred e p :: es) X.env = (true, eval e X.env) :: starEach es X.env := by rfl) :
    PA X (.Starred e p :: es) (tStarS te t) := by
  constructor
  intro pos pins s σ H Q I h
  refine PySem.W.items_star (thn (he.run pins s σ H _ I h) fun v s1 ⟨y, H1, I1, ry, x, ey, hl, q⟩ => ?_) hs
  subst ey
  obtain ⟨tk, rfl⟩ := ry
  unfold PySem.W.StarOf notIterableAtAll
  refine wpAny_bind (wpAny_specialOf (T := "str") (v := .str x tk) rfl PySem.F.slot_str_iter.lookup (wpAny_pure ⟨rfl, ?_⟩))
  refine wpAny_collect_str (I1.ok.hd calm) x tk (fun s2 acc kp g1 g2 g3 it => ?_) hl
  have I2 : Inv X pins σ H1 s2 := by
    have z := I1.kept (t' := s2.toks) kp
    obtain ⟨hp, g, d, tks, os⟩ := s2
    dsimp only at g1 g2 g3 z
    subst g1 g2 g3
    exact z
  exact thn (hr.run pos pins s2 σ H1 _ I2 q) fun ws s3 ⟨vs, H3, I3, r3, q3⟩ => ⟨signs x ++ vs, H3, I3, (signs_vals it).append r3, q3⟩
/-! ### l.remove(x) over data -/
def rRemD (K : PySem.W.Frag) : V → List V → Hp → VK → Prop := fun x xs H Q => ∃ (l : Addr) (ys : List V) (ds : List PyData) (y : V) (d : PyData) (j : Nat), x = .ref l ∧ xs = [y] ∧ H l = some (.lst ys) ∧ DpAll K H ys ds ∧ Dp K H y d ∧
  PyData.plainAll ds = true ∧ d.plain = true ∧ min (PyData.depthAll ds) d.depth ≤ 60 ∧ PySem.SeqAt.dataPlace ds d = some j ∧ Q .non (upd H l (.lst (ys.eraseIdx j)))
theorem mt_removeD (hu : X.A.units + 65 < cLine) : MtR X "list.remove" (rRemD X.K) := by
  intro pins s σ H x xs v us Q I rx rxs h
  obtain ⟨l, ys, ds, y, d, j, rfl, rfl, hH, ha, hy, p1, p2, hd, hj, q⟩ := h
  cases rx
  obtain ⟨u, rfl, ru⟩ := vals1 rxs
  obtain ⟨z, its, n, r, hl, e⟩ := I.lstM hH
  obtain ⟨as, ra⟩ := Dp.readsAll I ds ys its ha r
  obtain ⟨bs, rb⟩ := Dp.reads I d y u hy ru
  refine PySem.SeqAt.remove_list_data (vs := its.toArray) ⟨_, e, rfl, n, rfl⟩ (by simpa using ra) rb p1 p2 (by omega) hj (by simp; omega) ?_
  have er : (ys.eraseIdx j).length ≤ sizeLine := Nat.le_trans (List.length_eraseIdx_le ys j) z
  refine ⟨.non, _, I.lset (its' := its.eraseIdx j) (t' := s.toks) hH e ?_ (r.eraseIdx j) er, rfl, q⟩
  exact List.eraseIdxIfInBounds_toArray _ _
end
end K24

namespace K24
open PySem PySem.Spec PyProof.Rows L2
theorem is_keep {P : Program} {w : World} {h h' : Heap} {ks : List L2.Key} {a : Addr} (x : (tupleKind (mixKind P w)).is h ks a) (k : ∀ o, h.get? a = some o → h'.get? a = some o) : (tupleKind (mixKind P w)).is h' ks a := by
  obtain ⟨o, its, n, h1, r⟩ := x
  exact ⟨o, its, n, k _ h1, r⟩
/-- the pairs (key's tuple, value) that an update walks -/
structure PairsAt (P : Program) (w : World) (h : Heap) (S I : Addr) (items : Array Value) (i : Nat) (rest : List (List L2.Key × Addr × Value)) : Prop where
  at_ : ∀ (j : Nat) q, rest[j]? = some q → ∃ b : Addr, items[i + j]? = some (.ref b) ∧ b ≠ S ∧ b ≠ I ∧ IsTup h b #[.ref q.2.1, q.2.2] ∧ q.2.1 ≠ S ∧ q.2.1 ≠ I ∧ (tupleKind (mixKind P w)).is h q.1 q.2.1
theorem PairsAt.keep {P : Program} {w : World} {h h' : Heap} {S I : Addr} {items : Array Value} {i : Nat} {rest} (x : PairsAt P w h S I items i rest) (k : ∀ b o, b ≠ S → b ≠ I → h.get? b = some o → h'.get? b = some o) : PairsAt P w h' S I items i rest := by
  constructor
  intro j q e
  obtain ⟨b, e1, n1, n2, tp, n3, n4, ke⟩ := x.at_ j q e
  exact ⟨b, e1, n1, n2, let ⟨o, z, r⟩ := tp; ⟨o, k b o n1 n2 z, r⟩, n3, n4, is_keep ke fun o z => k _ o n3 n4 z⟩
def accH : List (List L2.Key × Addr × Value) → List (List L2.Key × Addr × Value) → List (List L2.Key × Addr × Value)
  | acc, [] => acc
  | acc, q :: rest => accH (storedH acc q.1 q.2.1 q.2.2) rest
section
variable {prog : Program} {w : World} {A : Around} {E : Value → Shared → Prop}
/-- the walk over the pairs, keys that are tuples -/
theorem walkT {R : Result → Shared → Prop} {S I l : Addr} {items : Array Value} {res : Value} (hh : A.handled = none) (hu : A.in1.units < cLine) (hlI : l ≠ I) (hSI : S ≠ I) (hSl : S ≠ l) :
    ∀ (rest : List (List L2.Key × Addr × Value)) (i : Nat) (acc : List (List L2.Key × Addr × Value)) (ix : Int) (t : Tok) (s : Shared),
      items.size = i + rest.length → acc.length + rest.length ≤ sizeLine → PairsAt prog w s.heap S I items i rest →
      (∀ q ∈ acc, q.2.1 ≠ S ∧ q.2.1 ≠ I) →
      s.heap.IsListIter I l i → s.heap.IsList l items → s.heap.DictOfH (tupleKind (mixKind prog w)) S acc →
      (∀ h' tk, h'.DictOfH (tupleKind (mixKind prog w)) S (accH acc rest) → (∀ b o, b ≠ S → b ≠ I → s.heap.get? b = some o → h'.get? b = some o) →
        R (.ok (.ret res)) { s with heap := h', toks := tk }) →
      codeAny (model prog w) A (.builtin "dict.update.loop" ⟨[.ref S, .ref I, .int ix t, res], []⟩) R s
  | [], i, acc, ix, t, s, hsz, hln, hp, hacc, hit, hl, hm, hR => by
    refine codeAny_builtin ud_entry ?_
    rw [Around.under_plainId ud_plain _]
    show wpAny _ A.in1 (pyNext (.ref I) >>= _) _ _ s
    have hend : items[i]? = none := Array.getElem?_eq_none (by simpa using Nat.le_of_eq hsz)
    refine wpAny_bind (wpAny_pyNext_list_end (A := A.in1) hh hit hl hend fun h' he => ?_)
    show wpAny _ A.in1 (Builtin.Dict.addKeywords S [] >>= _) _ _ _
    refine wpAny_bind (wpAny_pure (wpAny_pure ?_))
    refine hR h' s.toks (hm.at' (fun o e => he S o hSI e) fun y hy => ?_) fun b o _ hb e => he b o hb e
    obtain ⟨_, _, _, _, _, _, _, his, _⟩ := id hm
    exact is_keep (his y hy) fun o e => he _ o (hacc y hy).2 e
  | q :: rest, i, acc, ix, t, s, hsz, hln, hp, hacc, hit, hl, hm, hR => by
    obtain ⟨b, hb, hbS, hbI, htup, kS, kI, hk⟩ := hp.at_ 0 q rfl
    rw [List.length_cons] at hsz hln
    refine codeAny_builtin ud_entry ?_
    rw [Around.under_plainId ud_plain _]
    show wpAny _ A.in1 (pyNext (.ref I) >>= _) _ _ s
    refine wpAny_bind (wpAny_pyNext_list_item (x := .ref b) hit hl (by simpa using hb) fun h1 hit1 hs1 => ?_)
    have x1 := hs1.extBut
    have ht1 : IsTup h1 b #[.ref q.2.1, q.2.2] := htup.extBut x1 hbI
    have hl1 : h1.IsList l items := hl.extBut x1 hlI
    have hk1 : (tupleKind (mixKind prog w)).is h1 q.1 q.2.1 := is_keep hk fun o e => x1 _ o kI e
    have hm1 : h1.DictOfH (tupleKind (mixKind prog w)) S acc := by
      obtain ⟨_, _, _, _, _, _, _, his, _⟩ := id hm
      exact hm.at' (fun o e => x1 S o hSI e) fun y hy => is_keep (his y hy) fun o e => x1 _ o (hacc y hy).2 e
    obtain ⟨o, ho, hc, n, hd⟩ := id ht1
    show wpAny _ A.in1 (holding [Value.ref b] _ >>= _) _ _ _
    refine wpAny_bind (wpAny_holding ?_)
    refine wpAny_bind (wpAny_tryCatch ?_)
    unfold Builtin.Dict.pairItems
    refine wpAny_bind (wpAny_typeOf (T := "tuple") ⟨o, ho, hc⟩ ?_)
    rw [if_pos (by first | decide | rfl | simp)]
    refine wpAny_bind (wpAny_seqItems ho hd (wpAny_pure ?_))
    show wpAny _ A.in1 (holding [.ref q.2.1, q.2.2] (dictSet S (.ref q.2.1) q.2.2)) _ _ _
    refine wpAny_holding (wpAny_dictSet_heap (knd := tupleKind (mixKind prog w)) (k := q.1) hu hk1 hm1 (fun h2 hm2 hs2 => ?_) (by omega))
    have x2 := hs2.extBut
    have both : ∀ c oc, c ≠ S → c ≠ I → s.heap.get? c = some oc → h2.get? c = some oc := fun c oc n1 n2 e => x2 c oc n1 (x1 c oc n2 e)
    refine wpAny_pure ⟨plainId_quiet ud_plain _, walkT (items := items) hh hu hlI hSI hSl rest (i + 1) (storedH acc q.1 q.2.1 q.2.2) (ix + 1) 0 _ (by omega) ?_ ?_ ?_ ?_ ?_ hm2 fun h' tk hd' k => ?_⟩
    · have z := storedH_length acc q.1 q.2.1 q.2.2
      omega
    · refine PairsAt.keep (h := s.heap) ⟨fun j q' e => ?_⟩ both
      obtain ⟨b', y1, y2⟩ := hp.at_ (j + 1) q' (by simpa using e)
      rw [show i + (j + 1) = i + 1 + j by omega] at y1
      exact ⟨b', y1, y2⟩
    · intro y hy
      unfold storedH at hy
      split at hy
      · obtain ⟨y0, m0, e0⟩ := List.mem_map.mp hy
        have z := hacc y0 m0
        have e1 : y.2.1 = y0.2.1 := by
          rw [← e0]
          unfold putAt
          split <;> rfl
        rw [e1]
        exact z
      · rcases List.mem_append.mp hy with m | m
        · exact hacc y m
        · have e1 := List.mem_singleton.mp m
          rw [e1]
          exact ⟨kS, kI⟩
    · exact hit1.at fun o' e => x2 I o' (Ne.symm hSI) e
    · exact hl1.extBut x2 (Ne.symm hSl)
    · exact hR h' tk hd' fun c oc h3 h4 e => k c oc h3 h4 (both c oc h3 h4 e)
end
section
variable {X : Cx}
/-- pairs (key, value) of a list, read: each a tuple of a tracked key's tuple and a value -/
def KeyPair (K : PySem.W.Frag) (H : Hp) (p : Addr) (kv : List L2.Key × V) : Prop := ∃ a, SqT K H p [.ref a, kv.2] ∧ H a = some (.tup (kv.1.map kV))
def mergeT (kvs more : List (List L2.Key × V)) : List (List L2.Key × V) := more.foldl (fun acc kv => putK acc kv.1 kv.2) kvs
theorem length_mergeT : ∀ (more kvs : List (List L2.Key × V)), (mergeT kvs more).length ≤ kvs.length + more.length
  | [], kvs => Nat.le_refl _
  | p :: r, kvs => by
    have h1 := length_mergeT r (putK kvs p.1 p.2)
    have h2 := length_putK kvs p.1 p.2
    show (mergeT (putK kvs p.1 p.2) r).length ≤ kvs.length + (r.length + 1)
    omega
theorem accH_merge {H : Hp} : ∀ {more : List (List L2.Key × V)} {xs : List (List L2.Key × Addr × Value)} {kvs : List (List L2.Key × V)} {acc : List (List L2.Key × Addr × Value)}, KT H more xs → KT H kvs acc → KT H (mergeT kvs more) (accH acc xs)
  | _, _, _, _, .nil, q => q
  | _, _, _, _, .cons (a := p) (b := x) h t, q => by
    obtain ⟨h1, h2, h3⟩ := h
    obtain ⟨x1, x2, x3⟩ := x
    dsimp only at h1 h2 h3
    subst h1
    show KT H (mergeT (putK _ p.1 p.2) _) (accH (storedH _ p.1 x2 x3) _)
    exact accH_merge (kvs := putK _ p.1 p.2) t (q.put p.1 h2 h3)
theorem keyPairs_read {pins : List (Addr × Obj)} {σ : L2.St} {H : Hp} {s : Shared} (I : Inv X pins σ H s) : ∀ {ps : List Addr} {kvs : List (List L2.Key × V)}, Paired (KeyPair X.K H) ps kvs →
    ∃ xs : List (List L2.Key × Addr × Value), KT H kvs xs ∧ xs.length = ps.length ∧ ∀ (j : Nat) q, xs[j]? = some q → ∃ b : Addr, ps[j]? = some b ∧ IsTup s.heap b #[.ref q.2.1, q.2.2] ∧ H q.2.1 = some (.tup (q.1.map kV))
  | _, _, .nil => ⟨[], .nil, rfl, fun j q e => by simp at e⟩
  | _, _, .cons (a := p) (b := kv) h t => by
    obtain ⟨xs, r, hl, hp⟩ := keyPairs_read I t
    obtain ⟨a, hs, ha⟩ := h
    obtain ⟨its, rv, ht, _⟩ := I.tuple hs
    obtain ⟨u, y, ei, ru, ry⟩ := vals2 rv
    subst ei
    cases (show u = Value.ref a from ru)
    refine ⟨(kv.1, a, y) :: xs, .cons ⟨rfl, ha, ry⟩ r, by rw [List.length_cons, List.length_cons, hl], fun j q e => ?_⟩
    cases j with
    | zero =>
      have e' : (kv.1, a, y) = q := Option.some.inj e
      subst e'
      exact ⟨p, rfl, ht, ha⟩
    | succ j =>
      obtain ⟨b, e1, e2, e3⟩ := hp j q (by simpa using e)
      exact ⟨b, by simpa using e1, e2, e3⟩
/-- dict(l), l a list of pairs whose keys are tuples -/
theorem call_dictT (calm : X.calm = true) (hu : X.A.units + 65 < cLine) : CallR X (.type "dict") (fun xs H Q => ∃ (a : Addr) (ps : List Addr) (kvs : List (List L2.Key × V)), xs = [.ref a] ∧ SqL X.K H a (ps.map V.ref) ∧ Paired (KeyPair X.K H) ps kvs ∧
    ∀ p, H p = none → Q (.ref p) (upd H p (.dT (mergeT [] kvs)))) := by
  intro pins s σ H xs us Q I r q
  obtain ⟨a, ps, kvs, rfl, hq, hp, q⟩ := q
  obtain ⟨u, rfl, rx⟩ := vals1 r
  cases rx
  obtain ⟨its, rv, pl, hz⟩ := I.list hq
  have ei := refs_at rv
  subst ei
  rw [List.length_map] at hz
  obtain ⟨prs, rel, hl, hpr⟩ := keyPairs_read I hp
  obtain ⟨ol, n, hlo, hc, hd, hdat⟩ := pl
  have hh := I.ok.hd calm
  have hSm : (s.heap.objs.size == sysModules) = false := beq_eq_false_iff_ne.mpr (Nat.ne_of_gt I.big)
  have fin : ∀ h' tk, h'.DictOfH (tupleKind (mixKind X.prog X.w)) s.heap.objs.size (accH [] prs) → (∀ b o, s.heap.get? b = some o → h'.get? b = some o) →
      EP X pins σ Q (.ref s.heap.objs.size) { s with heap := h', toks := tk } := by
    intro h' tk hd' kp
    have lm : (mergeT [] kvs).length ≤ sizeLine := by
      have z := length_mergeT kvs []
      have z2 := Paired.length rel
      rw [List.length_nil] at z
      omega
    obtain ⟨o, es, ep, g1, g2, g3, g4, _, g5⟩ := hd'
    have nS : H s.heap.objs.size = none := I.hok.fresh (Nat.le_refl _)
    have relT : KT (upd H s.heap.objs.size (.dT (mergeT [] kvs))) (mergeT [] kvs) (accH [] prs) := (accH_merge rel .nil).keeps fun b ys e => by
      rw [upd_ne (ne_of_none e nS)]
      exact e
    exact ⟨.ref s.heap.objs.size, _, I.laid (t' := tk) kp (Nat.le_refl _) (show ObjOk X.prog X.w _ h' _ (.dT (mergeT [] kvs)) from ⟨lm, hSm, _, relT, o, es, ep, g1, g2, g3, g4, g5⟩), rfl, q _ nS⟩
  refine callType_codes (Q₁ := fun obj s₁ => obj = .ref s.heap.objs.size ∧ s₁ = { s with heap := s.heap.push { cls := .type "dict", data := .dict #[] } })
    PySem.F.kt_called_dict (PySem.F.kt_typeCall_dict_1 _) PySem.F.entry_dict_init (kt_code_dict_new _ ⟨rfl, rfl⟩) ?_
  rintro obj s₁ ⟨rfl, rfl⟩
  have hnew : (s.heap.push { cls := .type "dict", data := .dict #[] }).DictOfH (tupleKind (mixKind X.prog X.w)) s.heap.objs.size [] := Heap.DictOfH.new s.heap
  have k0 : ∀ b o, s.heap.get? b = some o → (s.heap.push { cls := .type "dict", data := .dict #[] }).get? b = some o := fun b o e => Heap.get?_push_of_some _ e
  have hT : ({ s with heap := s.heap.push { cls := .type "dict", data := .dict #[] } } : Shared).TypeIs (.ref s.heap.objs.size) "dict" := Heap.DictOfH.typeIs hnew
  refine ⟨hT, PySem.F.args_dict_init_2 _ _, ?_⟩
  unfold Builtin.«dict.__init__»
  refine wpAny_bind ?_
  unfold Builtin.Dict.selfAndRest
  refine wpAny_bind (wpAny_notOrdered_dict hT ?_)
  show wpAny _ _ (pure (s.heap.objs.size, [Value.ref a])) _ _ _
  refine wpAny_pure ?_
  show wpAny _ _ (Builtin.Dict.updateFrom "dict.__init__" s.heap.objs.size (.ref a) [] .none) _ _ _
  unfold Builtin.Dict.updateFrom
  refine wpAny_bind (wpAny_typeOf (T := "list") ⟨ol, k0 _ _ hlo, hc⟩ ?_)
  rw [if_pos (by first | decide | rfl | simp)]
  refine wpAny_bind (miss_list (k0 _ _ hlo) hc hdat hd hh fun h1 tk1 hk1 => ?_)
  rw [if_pos (show (none : Option Value).isNone = true from rfl)]
  refine wpAny_bind (wpAny_rule ?_)
  have hl1 : h1.IsList a (ps.map Value.ref).toArray := ⟨ol, hk1 _ _ (k0 _ _ hlo), hc, n, hdat⟩
  have hS1 : s.heap.objs.size < h1.objs.size := by
    have e : (s.heap.push { cls := .type "dict", data := .dict #[] }).get? s.heap.objs.size = some { cls := .type "dict", data := .dict #[] } := Heap.get?_push_size _ rfl
    exact Heap.lt_size (hk1 _ _ e)
  refine wpAny_bind (wpAny_pyIter_list hl1 ?_)
  have k2 : ∀ b o, h1.get? b = some o → (h1.push { cls := .type "list_iterator", data := .fields #[.ref a, .int 0 0] }).get? b = some o := fun b o e => Heap.get?_push_of_some _ e
  have k3 : ∀ b o, s.heap.get? b = some o → (h1.push { cls := .type "list_iterator", data := .fields #[.ref a, .int 0 0] }).get? b = some o := fun b o e => k2 _ _ (hk1 _ _ (k0 _ _ e))
  have hlt : a < s.heap.objs.size := Heap.lt_size hlo
  have hdict : (h1.push { cls := .type "list_iterator", data := .fields #[.ref a, .int 0 0] }).DictOfH (tupleKind (mixKind X.prog X.w)) s.heap.objs.size [] := hnew.at' (fun o e => k2 _ _ (hk1 _ _ e)) fun y hy => nomatch hy
  have pairs : PairsAt X.prog X.w (h1.push { cls := .type "list_iterator", data := .fields #[.ref a, .int 0 0] }) s.heap.objs.size h1.objs.size (ps.map Value.ref).toArray 0 prs := by
    constructor
    intro j q' e
    obtain ⟨b, e1, e2, e3⟩ := hpr j q' e
    have hb : b < s.heap.objs.size := e2.lt
    have kk := key_of I.hok e3
    have hk : q'.2.1 < s.heap.objs.size := by
      obtain ⟨o, its, n, g1, _⟩ := id kk
      exact Heap.lt_size g1
    exact ⟨b, by rw [Nat.zero_add]; simp [e1], Nat.ne_of_lt hb, Nat.ne_of_lt (Nat.lt_trans hb hS1), e2.keeps k3, Nat.ne_of_lt hk, Nat.ne_of_lt (Nat.lt_trans hk hS1), is_keep kk fun o z => k3 _ _ z⟩
  have key := walkT (prog := X.prog) (w := X.w) (A := X.A.in1) (R := wants (fun r s₂ => r = .none ∧ EP X pins σ Q (.ref s.heap.objs.size) s₂) X.xe) (S := s.heap.objs.size) (I := h1.objs.size) (l := a) (items := (ps.map Value.ref).toArray) (res := Value.none) hh (by show X.A.units + 1 + 1 < cLine; omega)
    (Nat.ne_of_lt (Nat.lt_trans hlt hS1)) (Nat.ne_of_lt hS1) (Nat.ne_of_gt hlt) prs 0 [] 0 0
    { s with heap := h1.push { cls := .type "list_iterator", data := .fields #[.ref a, .int 0 0] }, toks := tk1 } (by simp [hl]) (by rw [List.length_nil, Nat.zero_add, hl]; exact hz) pairs
    (fun q' m => nomatch m) ⟨_, Heap.get?_push_size _ rfl, rfl, rfl⟩ (hl1.at fun o e => k2 _ _ e) hdict
    (fun h' tk hd' k => ⟨rfl, fin h' tk hd' fun b o e => k b o (Nat.ne_of_lt (Heap.lt_size e)) (Nat.ne_of_lt (Nat.lt_trans (Heap.lt_size e) hS1)) (k3 _ _ e)⟩)
  first
    | exact wpAny_pure ⟨plainId_quiet ud_plain _, key⟩
    | exact wpAny_bind (wpAny_pure (wpAny_pure ⟨plainId_quiet ud_plain _, key⟩))
end
end K24

namespace PySem
namespace LowX
open PySem.W PySem.Calls PyProof.Rows PySem.HandSPX
/-! ### the text of __init__ -/
def iA (p1 p2 : Pos) : Arguments := { posonlyargs := [], args := [{ arg := "self", annotation := none, pos := p1 }, { arg := "limit", annotation := none, pos := p2 }], vararg := none, kwonlyargs := [], kw_defaults := [], kwarg := none, defaults := [] }
def iB (q1 q2 q3 q4 : Pos) : List Stmt := [.Assign [.Attribute (.Name "self" q1) "limit" q2] (.Name "limit" q3) q4]
def iS : Scope := { kind := .function, names := [(PySem.Str.ofString "self", .local), (PySem.Str.ofString "limit", .local)], isGenerator := false, isCoroutine := false, more := [] }
/-- what the written part says of Low, at C, and of its __init__, at fI -/
structure LowTxt (K : Frag) (mg : Str → Option Value) (C fI : Addr) : Prop where
  gC : mg "TooMany" = some (.ref C)
  cls : ∃ nm q N bs bm sn sub ab col dd k0 k1 k2 k3 k5, K.lookup C = some (excClassObj nm q C N bs bm true sn sub ab col dd k0 k1 k2 k3 k5 "ValueError.__new__") ∧ refsVE bm = true
  sa : findIn K (.ref C) "__setattr__" = some (some (.builtin "object.__setattr__"))
  ga : findIn K (.ref C) "__getattribute__" = some (some (.builtin "BaseException.__getattribute__"))
  gg : findIn K (.ref C) "__getattr__" = some none
  noN : findIn K (.ref C) "limit" = some none
  iC : findIn K (.ref C) "__init__" = some (some (.ref fI))
  tC : typeIn K (.ref fI) = some (.type "function")
  kC : keepIn K (.ref C) = true
  exC : subIn K (.ref C) (.type "BaseException") = some true
  tyC : typeIn K (.ref C) = some (.type "type")
  hdC : hasDictIn K C = true
  te : exmOne K (.ref C) (.ref C) = some true
  fn : ∃ (oc : Value) (od : Option Addr) (doc pm : Value) (an : Option Addr) (cdv ct : Value) (osl : Array (Option Value)) (p1 p2 q1 q2 q3 q4 : Pos),
    K.lookup fI = some ⟨oc, od, .func (fnOf "__init__" "TooMany.__init__" (iA p1 p2) (iB q1 q2 q3 q4) iS .none .none doc pm an cdv ct), osl⟩ ∧ codeIn K cdv "TooMany.__init__" = true
theorem one_size (v : Value) : [v].length ≤ sizeLine := by
  rw [sizeLine_eq]
  exact (by decide : 1 ≤ 16777216)
theorem kept_but {K : Frag} {h h' : Heap} {x : Addr} (X : K.In h) (hx : K.lookup x = none) (k : ∀ b o, b ≠ x → h.get? b = some o → h'.get? b = some o) : K.In h' := fun a o e =>
  k a o (fun z => by rw [z, hx] at e; cases e) (X a o e)
theorem ldC {M : Model} {s : Shared} {name : Str} {scope : Scope} {L a : Addr} {cd : Value} {m : Str → Option Value} {x : Str} {pos : Pos} {v : Value} {Q : Value → Shared → Prop} {A : Around} {E : Value → Shared → Prop} (hn : s.heap.Ns L m) (hv : m x = some v) (h : Q v s)
    (hk : scope.kind = .function := by rfl) (hl : (envOfC name scope L a cd).kindOf x = some .local := by rfl) (hd : (x == ("__debug__" : Str)) = false := by decide) :
    wpAny M A (eval (.Name x pos) (envOfC name scope L a cd)) Q E s := wpAny_Name (wpAny_loadName_local hk hl hn hv h) hd
/-- what __init__ leaves of a fresh exception at x -/
structure InitEnd (h h' : Heap) (x C dx t1 : Addr) (v : Value) : Prop where
  keep : ∀ b o, b ≠ x → h.get? b = some o → h'.get? b = some o
  obj : h'.get? x = some { cls := .ref C, dict := some dx, data := .fields #[.ref t1, .none, .none, .none, .bool false, .none] }
  dbig : h.objs.size ≤ dx
  dne : dx ≠ x
  ns : h'.Ns1 dx (fun y => if y = "limit" then some v else none)
/-- a made Low -/
structure OwnMade (h h' : Heap) (e C d : Addr) (v : Value) : Prop where
  keep : ∀ b o, h.get? b = some o → h'.get? b = some o
  new : h.objs.size ≤ e
  obj : ∃ oe vs, h'.get? e = some oe ∧ oe.cls = .ref C ∧ oe.dict = some d ∧ oe.data = .fields vs ∧ vs[1]? = some .none
  dbig : h.objs.size ≤ d
  dne : d ≠ e
  ns : h'.Ns1 d (fun y => if y = "limit" then some v else none)
section
variable {prog : Program} {w : World} {A : Around} {E : Value → Shared → Prop} {R : Result → Shared → Prop} {s : Shared} {K : Frag} {mg : Str → Option Value} {C fI : Addr}
theorem low_init (T : LowTxt K mg C fI) {x t0 : Addr} {v : Value} (X : K.In s.heap) (hlim : s.heap.NoLimit) (hx : s.heap.get? x = some (excO C t0)) (hnx : K.lookup x = none) (hroom : A.depth < recursionLimit)
    (hq : ∀ h' tk dx, InitEnd s.heap h' x C dx t0 v → R (.ok (.ret .none)) { s with heap := h', toks := tk }) :
    codeAny (model prog w) A (.call (.ref fI) ⟨[.ref x, v], []⟩) R s := by
  obtain ⟨oc, od, doc, pm, an, cdv, ct, osl, p1, p2, q1, q2, q3, q4, ho, hcd⟩ := T.fn
  obtain ⟨nm, q, N, bs, bm, sn, sub, ab, col, dd, k0, k1, k2, k3, k5, hC, hbm⟩ := T.cls
  have hcl : clsIn K C = some { name := nm, bases := bs, mro := .ref C :: bm, ns := N, qualname := q, hasDict := true, slotNames := sn, subclasses := sub, abstract := ab, collection := col, hasDel := false } := by unfold clsIn; rw [hC] <;> rfl
  refine Att.call_fn (binds := [("self", .ref x), ("limit", v)]) X hlim ho hcd hroom (BindsTo.of_eq (by first | rfl | with_unfolding_all rfl)) (by first | rfl | decide | with_unfolding_all rfl) (fun s₁ IC => ?_) rfl rfl rfl
  obtain ⟨h₁, tk₁, rfl⟩ := IC.toInCall.same
  have k : ∀ b o, s.heap.get? b = some o → h₁.get? b = some o := IC.toInCall.keep
  have hn := IC.toInCall.ns
  have hxL : s.heap.objs.size ≠ x := Nat.ne_of_gt (Heap.lt_size hx)
  have X₁ : K.In h₁ := X.keeps k
  have hx₁ := k _ _ hx
  -- self.by = by
  show wpAny _ _ (execs _ _) _ _ _
  refine wpAny_execs_cons (plainObj_wpAny_Assign_Attribute ?_)
  refine ldC (v := v) hn (by first | rfl | with_unfolding_all rfl | kernel_rfl) (ldC (v := .ref x) hn (by first | rfl | with_unfolding_all rfl | kernel_rfl) ?_)
  refine set_plain X₁ (ox := excO C t0) (od := none) ⟨hx₁, rfl, rfl, trivial⟩ T.sa ?_
  refine exc_osa X₁ hx₁ hcl (show refsVE (.ref C :: bm) = true from hbm) rfl T.noN (fun h₃ tk₃ dx k₃ dn dne hx₃ hn₃ => ?_)
  show wpAny _ _ (execs _ _) _ _ _
  have z : s.heap.objs.size < h₁.objs.size := hn.lt
  exact wpAny_execs_nil (hq h₃ tk₃ dx ⟨fun b o hb e => k₃ b o hb (k b o e), hx₃, Nat.le_of_lt (Nat.lt_of_lt_of_le z dn), dne, hn₃⟩)
theorem low_made (T : LowTxt K mg C fI) {v : Value} (X : K.In s.heap) (hlim : s.heap.NoLimit) (hroom : A.depth + 1 < recursionLimit)
    (hq : ∀ h' tk e d, OwnMade s.heap h' e C d v → R (.ok (.ret (.ref e))) { s with heap := h', toks := tk }) :
    codeAny (model prog w) A (.call (.ref C) ⟨[v], []⟩) R s := by
  obtain ⟨nm, q, N, bs, bm, sn, sub, ab, col, dd, k0, k1, k2, k3, k5, hC, hbm⟩ := T.cls
  obtain ⟨hp, g, dr, tk, os⟩ := s
  have k : ∀ b o, hp.get? b = some o → ((hp.push (kdv_tup [v])).push (excO C hp.objs.size)).get? b = some o := fun b o e => Heap.get?_push_of_some _ (Heap.get?_push_of_some _ e)
  have hget : ((hp.push (kdv_tup [v])).push (excO C hp.objs.size)).get? (hp.objs.size + 1) = some (excO C hp.objs.size) := by heap_get
  have hnx : K.lookup (hp.objs.size + 1) = none := by
    cases e : K.lookup (hp.objs.size + 1) with
    | none => rfl
    | some o =>
      have z : hp.get? (hp.objs.size + 1) = some o := X _ _ e
      exact absurd (Nat.lt_of_succ_lt (Heap.lt_size z)) (Nat.lt_irrefl _)
  refine call_own F.excBase_ValueError (fun X => refsVE_contains X bm hbm) (X _ _ hC) (looks_findIn X T.iC) (fun self => bind_fn X self T.tC) (one_size v) ?_
  refine low_init (s := ⟨(hp.push (kdv_tup [v])).push (excO C hp.objs.size), g, dr, tk, os⟩) T (X.keeps k) (hlim.keeps k) hget hnx ?_ fun h' tk' dx ⟨k', hx, dn, dne, hns⟩ => ?_
  · show A.depth + 1 < recursionLimit
    exact hroom
  · have old : ∀ b o, hp.get? b = some o → h'.get? b = some o := fun b o e => k' b o (Nat.ne_of_lt (Nat.lt_succ_of_lt (Heap.lt_size e))) (k b o e)
    have z : hp.objs.size + 1 + 1 ≤ dx := by
      first
        | (simpa only [Heap.size_push] using dn)
        | exact dn
        | (have q := dn; rw [Heap.size_push, Heap.size_push] at q; exact q)
    exact ⟨rfl, hq h' tk' (hp.objs.size + 1) dx ⟨old, Nat.le_succ _, ⟨_, _, hx, rfl, rfl, rfl, rfl⟩, Nat.le_trans (Nat.le_trans (Nat.le_succ _) (Nat.le_succ _)) z, dne, hns⟩⟩
end
end LowX
end PySem
namespace L2
open PySem PySem.Spec PyProof.Rows
theorem relO_low {v : V} {v' : Value} (r : RelV v v') (f : Str) : RelO (List.lookup f [(("limit" : Str), v)]) (if f = "limit" then some v' else none) := by
  by_cases hw : f = "limit"
  · subst hw
    rw [if_pos rfl]
    have q : List.lookup ("limit" : Str) [(("limit" : Str), v)] = some v := by simp [List.lookup]
    rw [q]
    exact r
  · rw [if_neg hw]
    have qw : (f == ("limit" : Str)) = false := by simpa using hw
    have q2 : List.lookup f [(("limit" : Str), v)] = none := by simp [List.lookup, qw]
    rw [q2]
    trivial
section
variable {X : Cx} {C fI : Addr}
/-- Low(e) -/
def tMkLow (C : Addr) (ta : TA) : St → Hp → XK → Prop := fun σ H Q => ta σ H fun vs H1 => ∃ v, vs = [v] ∧ ∀ d, H1 d = none → Q (.ref C) (some d) (upd H1 d (.xd [(("limit" : Str), v)]))
theorem pmk_low {a : Expr} {ta : TA} {p pos : Pos} {k : Nat} (T : PySem.LowX.LowTxt X.K X.mg C fI) (hr : Room k X.A) (ha : PA X [a] ta) (hg : Gl X "TooMany" := by rfl)
    (he : starEach (a :: []) X.env = (false, eval a X.env) :: starEach [] X.env := by rfl) (hpl : (backTo pos (starEach [] X.env)).any (·.1) = false := by rfl) :
    PMk X (.Call (.Name "TooMany" p) [a] [] pos) (tMkLow C ta) := by
  intro pins s σ H Q I h
  refine wpAny_Call_Name_kw (ld_glob I hg T.gC ?_)
  refine PySem.W.callWith_K (h₀ := X.base) I.ok.mod.kin T.kC (thn (ha.run pos pins s σ H _ I h) fun us s1 hh => ?_) he hpl
  obtain ⟨vs, H1, I1, r1, v, ev, q1⟩ := hh
  subst ev
  refine ⟨I1.kIn, ?_⟩
  cases r1 with
  | cons rv rn =>
    rename_i v' us'
    cases rn
    show wpAny _ _ (call (.ref C) [v']) _ _ _
    have hlim := I1.nolimit
    obtain ⟨hp, g, dr, tk, os⟩ := s1
    refine wpAny_call (PySem.LowX.low_made T I1.kIn hlim (by have := hr.dp; omega) fun h' tk' e d M => ?_)
    show MkP X pins σ Q (.ref e) ⟨h', g, dr, tk', os⟩
    obtain ⟨oe, fv, hoe, hc, hd, hdat, h1⟩ := M.obj
    have hns := M.ns
    obtain ⟨G', g1, g2⟩ := restrict h' fun b => decide (b ≠ e)
    have gk : ∀ b, b ≠ e → G'.get? b = h'.get? b := fun b hb => g1 b (decide_eq_true hb)
    have ge : G'.get? e = none := g2 e (by simp)
    have old : ∀ b o, hp.get? b = some o → G'.get? b = some o := fun b o q => (gk b (Nat.ne_of_lt (Nat.lt_of_lt_of_le (Heap.lt_size q) M.new))).trans (M.keep b o q)
    have ob : ObjOk X.prog X.w (upd H1 d (.xd [(("limit" : Str), v)])) G' d (.xd [(("limit" : Str), v)]) :=
      ⟨_, hns.at (fun o q => (gk d M.dne).trans q), fun f => relO_low rv f⟩
    have J : Inv X pins σ (upd H1 d (.xd [(("limit" : Str), v)])) ⟨G', g, dr, tk', os⟩ := I1.laid (t' := tk') old M.dbig ob
    refine ⟨e, oe, fv, ⟨G', g, dr, tk', os⟩, _, .ref C, some d, rfl, J, fun b o q => ?_, ge, hoe, ⟨hc, hd⟩, hdat, h1, ?_, rfl, I1.bare, raises_own T.exC T.tyC, q1 d (I1.hok.fresh M.dbig)⟩
    · by_cases hb : b = e
      · have q' : G'.get? b = some o := q
        rw [hb, ge] at q'; cases q'
      · exact (gk b hb).symm.trans q
    · rw [upd_ne (Ne.symm M.dne)]
      exact I1.hok.fresh M.new
/-- raise Low(e) -/
def tRaiseLow (C : Addr) (W : WX) (ta : TA) : TS := fun _ σ H => tMkLow C ta σ H fun cls d H' => W cls d σ H'
theorem ps_raiseLow {a : Expr} {ta : TA} {W : WX} {p pos pos2 : Pos} {k : Nat} (hc : X.calm = true) (T : PySem.LowX.LowTxt X.K X.mg C fI) (hr : Room k X.A) (tk : Takes X W) (ha : PA X [a] ta) (hg : Gl X "TooMany" := by rfl)
    (he : starEach (a :: []) X.env = (false, eval a X.env) :: starEach [] X.env := by rfl) (hpl : (backTo pos (starEach [] X.env)).any (·.1) = false := by rfl) :
    PS X (.Raise (some (.Call (.Name "TooMany" p) [a] [] pos)) none pos2) (tRaiseLow C W ta) := ps_raise hc tk (pmk_low T hr ha hg he hpl)
/-- low.by, low the exception that the suite holds (at a; its class cls, its dict d) -/
def tByLow (C : Addr) (a : Addr) (cls : Value) (d : Option Addr) (te : TE) : TE := fun σ H Q => te σ H fun x H1 => x = .ref a ∧ cls = .ref C ∧ ∃ (dd : Addr) (v : V), d = some dd ∧ H1 dd = some (.xd [(("limit" : Str), v)]) ∧ Q v H1
theorem pe_byLow {a : Addr} {oe : Obj} {cls : Value} {d : Option Addr} {pn : List (Addr × Obj)} {e : Expr} {te : TE} {pos : Pos} (T : PySem.LowX.LowTxt X.K X.mg C fI) (hz : Zc cls d oe) (hf : ∃ vs, oe.data = .fields vs) (he : PE (X.suite a ((a, oe) :: pn)) e te)
    (hb : attributeBase e "limit" X.env (eval e X.env) = eval e X.env := by rfl) :
    PE (X.suite a ((a, oe) :: pn)) (.Attribute e "limit" pos) (tByLow C a cls d te) := by
  refine ⟨fun pins s σ H Q I h => ?_⟩
  refine attr_of hb (thn (he.run pins s σ H _ I h) fun u s1 hh => ?_)
  obtain ⟨x, H1, I1, rx, ex, ec, dd, v, ed, ea, q⟩ := hh
  subst ex
  obtain rfl : u = Value.ref a := rx
  subst ec
  subst ed
  obtain ⟨ha, _⟩ := I1.pin (a, oe) (List.mem_append_left _ List.mem_cons_self)
  obtain ⟨vs, hd⟩ := hf
  have hx : ObjOk X.prog X.w H1 s1.heap dd (.xd [(("limit" : Str), v)]) := I1.hok dd _ ea
  obtain ⟨mA, hns, hr⟩ := hx
  obtain ⟨od, ho, hl⟩ := lookIn_ns hns
  have l : List.lookup ("limit" : Str) [(("limit" : Str), v)] = some v := by simp [List.lookup]
  obtain ⟨u, hu, ru⟩ := RelO.some_of (v := v) (o := mA "limit") (by rw [← l]; exact hr "limit")
  have J : PySem.W.InstAt s1.heap a oe C (some od) := ⟨ha, hz.1, by unfold PySem.W.notCls; rw [hd] <;> rfl, by rw [hz.2]; exact ho⟩
  exact HandSPX.exc_get I1.kIn J T.ga T.gg T.exC (PySem.W.findObj_own T.hdC T.noN rfl (by rw [hl, hu])) (handed_of ru) ⟨v, H1, I1.tok _, ru, q⟩
end
end L2

namespace L2
open PySem PySem.Spec PyProof.Rows
/-- an if whose test is known -/
theorem if_true_of {c : Bool} {A B : Prop} (hc : c = true) (h : A) : if c = true then A else B := by
  rw [if_pos hc]
  exact h
theorem if_false_of {c : Bool} {A B : Prop} (hc : c = false) (h : B) : if c = true then A else B := by
  rw [hc, if_neg Bool.false_ne_true]
  exact h
end L2

namespace K24
open PySem PySem.Spec PyProof.Rows L2
/-! ### the text -/
def topS (i : Nat) : Stmt := PySem.Challenge.pw_settlepages_k24_whole_cuts_between_lette.main.body.getD i (.Pass ⟨0, 0, 0, 0⟩)
abbrev sIsInt : Stmt := topS 7
abbrev sWithin : Stmt := topS 8
abbrev sAsc : Stmt := topS 9
abbrev sToldOf : Stmt := topS 13
abbrev sJoined : Stmt := topS 14
abbrev sPInit : Stmt := inClass (topS 15) 0
abbrev sOutcome : Stmt := inClass (topS 15) 1
abbrev sWorked : Stmt := inClass (topS 15) 2
abbrev sLeft : Stmt := inClass (topS 15) 3
abbrev sSides : Stmt := inClass (topS 15) 4
abbrev sStand : Stmt := topS 16
abbrev sMeet : Stmt := topS 17
abbrev sIsLetterOf : Stmt := topS 23
abbrev sAreLetters : Stmt := topS 24
abbrev sIsPut : Stmt := topS 25
abbrev sIsDeed : Stmt := topS 26
abbrev sIsSide : Stmt := topS 27
abbrev sIsRow : Stmt := topS 28
abbrev sIsPairs : Stmt := topS 29
abbrev sNeed : Stmt := topS 30
abbrev sTooLong : Stmt := topS 31
abbrev sNeedShort : Stmt := topS 32
abbrev sWithout : Stmt := topS 34
abbrev sBInit : Stmt := inClass (topS 35) 0
abbrev sBBehind : Stmt := inClass (topS 35) 1
abbrev sBEnds : Stmt := inClass (topS 35) 2
abbrev sNeedLetter : Stmt := topS 37
abbrev sCInit : Stmt := inClass (topS 38) 0
abbrev sEnding : Stmt := inClass (topS 38) 1
abbrev sParting : Stmt := inClass (topS 38) 2
abbrev sSought : Stmt := inClass (topS 38) 3
abbrev sUncut : Stmt := inClass (topS 38) 4
abbrev sCutPairs : Stmt := topS 39
abbrev sUncutWords : Stmt := topS 40
abbrev sCup : Stmt := topS 42
abbrev sRoll : Stmt := topS 43
abbrev sSome : Stmt := topS 44
abbrev sBox : Stmt := topS 45
abbrev sTold : Stmt := topS 46
abbrev sCame : Stmt := topS 47
abbrev sCome : Stmt := topS 48
abbrev sLeads : Stmt := topS 49
abbrev sBehindL : Stmt := topS 50
abbrev sLag : Stmt := topS 51
abbrev sEnds : Stmt := topS 52
abbrev sNext : Stmt := topS 53
abbrev sParted : Stmt := topS 54
abbrev sCanCut : Stmt := topS 55
abbrev sWhole : Stmt := topS 56
abbrev sIsUncut : Stmt := topS 57
abbrev sWord : Stmt := topS 58
abbrev sDeed : Stmt := topS 59
abbrev sPairs : Stmt := topS 60
abbrev sEndless : Stmt := topS 61
abbrev sIsLong : Stmt := topS 62
abbrev sIsShort : Stmt := topS 63
abbrev sShort : Stmt := topS 64
abbrev sRight : Stmt := topS 65
abbrev sLaw : Stmt := topS 66
/-- what the top has written, but for the defs -/
structure Txt (K : PySem.W.Frag) (mg : Str → Option Value) : Prop where
  isi : mg "isinstance" = none
  int : mg "int" = none
  bool : mg "bool" = none
  str : mg "str" = none
  tuple : mg "tuple" = none
  len : mg "len" = none
  all : mg "all" = none
  range : mg "range" = none
  dict : mg "dict" = none
  list : mg "list" = none
  abs : mg "abs" = none
  alpha : ∃ t, mg "ALL_LETTERS" = some (.str "abcdefghijklmnopqrstuvwxyz" t)
  mostL : ∃ t, mg "MOST_LETTERS" = some (.int 8 t)
  mostR : ∃ t, mg "MOST_ROWS" = some (.int 24 t)
  kern : ∃ t, mg "GREATEST_KERN" = some (.int 99 t)
  longS : ∃ t, mg "LONGEST_SHAPE" = some (.int 1000 t)
  longT : ∃ t, mg "LONGEST_TOLD" = some (.int 40 t)
/-! ### heaps: what is kept -/
section
variable {K : PySem.W.Frag} {H H' H'' : Hp} {a b p : Addr} {xs ys : List V}
/-- tuples stay -/
def TK (K : PySem.W.Frag) (H H' : Hp) : Prop := ∀ a xs, SqT K H a xs → SqT K H' a xs
theorem TK.refl (H : Hp) : TK K H H := fun _ _ h => h
theorem TK.trans (h : TK K H H') (h' : TK K H' H'') : TK K H H'' := fun a xs q => h' a xs (h a xs q)
theorem TK.same (h : Same H H') : TK K H H' := by
  intro a xs q
  rcases q with (q | ⟨o, q⟩) | q
  · exact .inl (.inl (h _ _ q))
  · exact .inl (.inr ⟨o, h _ _ q⟩)
  · exact .inr q
/-- what may be written over: no tuple, nothing frozen -/
def Wr (o : HO) : Prop := match o with
  | .lst _ => True
  | .dK _ => True
  | .dT _ => True
  | .ins _ _ _ => True
  | _ => False
theorem TK.upd {o u : HO} (h : H p = some o) (w : Wr o) : TK K H (upd H p u) := by
  intro a xs q
  have key : ∀ v, H a = some v → (∀ ys, v ≠ .lst ys) → (∀ ys, v ≠ .dK ys) → (∀ ys, v ≠ .dT ys) → (∀ x y z, v ≠ .ins x y z) → L2.upd H p u a = some v := by
    intro v e h1 h2 h3 h4
    have n : a ≠ p := by
      intro z
      subst z
      rw [h] at e
      have e := Option.some.inj e
      subst e
      cases o <;> first | exact w | exact (h1 _ rfl) | exact (h2 _ rfl) | exact (h3 _ rfl) | exact (h4 _ _ _ rfl)
    rw [upd_ne n]
    exact e
  rcases q with (q | ⟨o', q⟩) | q
  · exact .inl (.inl (key _ q (fun _ z => nomatch z) (fun _ z => nomatch z) (fun _ z => nomatch z) (fun _ _ _ z => nomatch z)))
  · exact .inl (.inr ⟨o', key _ q (fun _ z => nomatch z) (fun _ z => nomatch z) (fun _ z => nomatch z) (fun _ _ _ z => nomatch z)⟩)
  · exact .inr q
theorem same_upd {o : HO} (h : H p = none) : Same H (upd H p o) := fun b x e => by
  rw [upd_ne (ne_of_none e h)]
  exact e
theorem TK.new {o : HO} (h : H p = none) : TK K H (L2.upd H p o) := TK.same (same_upd h)
/-- all stands but for what is at the places of L -/
def Sb (L : List Addr) (H H' : Hp) : Prop := ∀ b o, H b = some o → b ∉ L → H' b = some o
theorem Sb.of {L : List Addr} (h : Same H H') : Sb L H H' := fun b o e _ => h b o e
theorem Sb.refl {L : List Addr} (H : Hp) : Sb L H H := fun _ _ h _ => h
theorem Sb.trans {L : List Addr} (h : Sb L H H') (h' : Sb L H' H'') : Sb L H H'' := fun b o e n => h' b o (h b o e n) n
theorem Sb.upd {L : List Addr} {u : HO} (hp : p ∈ L) : Sb L H (L2.upd H p u) := fun b o e n => by
  have nb : b ≠ p := fun z => n (by rw [z]; exact hp)
  rw [upd_ne nb]
  exact e
theorem Sb.free {L : List Addr} (h : Sb L H H') (n : p ∉ L) (e : H' p = none) : H p = none := by
  cases q : H p with
  | none => rfl
  | some o =>
    rw [h p o q n] at e
    cases e
theorem Sb.free1 {c : Addr} {o : HO} (h : Sb [c] H H') (e : H' c = some o) (f : H' p = none) : H p = none := by
  refine h.free (fun m => ?_) f
  have z := List.mem_singleton.mp m
  subst z
  rw [f] at e
  cases e
theorem Sb.tk {L : List Addr} (h : Sb L H H') (hL : ∀ c ∈ L, ∃ o, H c = some o ∧ Wr o) : TK K H H' := by
  intro a xs q
  have out : ∀ v, H a = some v → ¬ Wr v → a ∉ L := fun v e w m => by
    obtain ⟨o, e1, w1⟩ := hL a m
    rw [e] at e1
    cases e1
    exact w w1
  rcases q with (q | ⟨o, q⟩) | q
  · exact .inl (.inl (h _ _ q (out _ q id)))
  · exact .inl (.inr ⟨o, h _ _ q (out _ q id)⟩)
  · exact .inr q
/-! ### data that stands in tuples -/
abbrev S0 : Str := ""
def sg (c : Nat) : Str := ⟨#[c]⟩
/-- a side of plain signs -/
def Sm (x : Str) : Prop := x = S0 ∨ ∃ c, c ≤ 122 ∧ x = sg c
theorem Sm.ok {x : Str} (h : Sm x) : PyData.strOk x = true := by
  rcases h with h | ⟨c, hc, h⟩
  · rw [h]
    decide +kernel
  · rw [h]
    simp [PyData.strOk, sg]
    omega
/-- a thing that is told -/
def Th (K : PySem.W.Frag) (H : Hp) (v : V) : Thing Str → Prop
  | .sign x => Sm x ∧ ∃ a, v = .ref a ∧ SqT K H a [.str "sign", .str x]
  | .kern n => ∃ a, v = .ref a ∧ SqT K H a [.str "kern", .int n]
theorem Th.mono {v : V} {t : Thing Str} (k : TK K H H') (h : Th K H v t) : Th K H' v t := by
  cases t with
  | sign x =>
    obtain ⟨hx, a, e, h⟩ := h
    exact ⟨hx, a, e, k _ _ h⟩
  | kern n =>
    obtain ⟨a, e, h⟩ := h
    exact ⟨a, e, k _ _ h⟩
def ThL (K : PySem.W.Frag) (H : Hp) : List V → List (Thing Str) → Prop := Paired (Th K H)
theorem ThL.mono {vs : List V} {ts : List (Thing Str)} (k : TK K H H') (h : ThL K H vs ts) : ThL K H' vs ts := Paired.mapP h fun _ _ z => z.mono k
theorem Paired.app {α β : Type} {R : α → β → Prop} : ∀ {a c : List α} {b d : List β}, Paired R a b → Paired R c d → Paired R (a ++ c) (b ++ d)
  | _, _, _, _, .nil, q => q
  | _, _, _, _, .cons h t, q => .cons h (Paired.app t q)
theorem Paired.at1 {α β : Type} {R : α → β → Prop} : ∀ {a : List α} {b : List β} {i : Nat} {x : α}, Paired R a b → a[i]? = some x → ∃ y, b[i]? = some y ∧ R x y
  | _, _, _, _, .nil, e => by simp at e
  | _, _, 0, _, .cons h _, e => by
    have e := Option.some.inj e
    subst e
    exact ⟨_, rfl, h⟩
  | _, _, i + 1, _, .cons _ t, e => Paired.at1 (i := i) t (by simpa using e)
theorem ThL.app {vs ws : List V} {ts us : List (Thing Str)} (h : ThL K H vs ts) (h' : ThL K H ws us) : ThL K H (vs ++ ws) (ts ++ us) := Paired.app h h'
theorem ThL.len {vs : List V} {ts : List (Thing Str)} (h : ThL K H vs ts) : vs.length = ts.length := Paired.length h
/-- a tuple of things -/
def Ths (K : PySem.W.Frag) (H : Hp) (v : V) (ts : List (Thing Str)) : Prop := ∃ a vs, v = .ref a ∧ SqT K H a vs ∧ ThL K H vs ts
theorem Ths.mono {v : V} {ts : List (Thing Str)} (k : TK K H H') (h : Ths K H v ts) : Ths K H' v ts := by
  obtain ⟨a, vs, e, h1, h2⟩ := h
  exact ⟨a, vs, e, k _ _ h1, h2.mono k⟩
/-- a deed -/
def b2 (b : Bool) : Int := if b = true then 1 else 0
def DeedAt (K : PySem.W.Frag) (H : Hp) (a : Addr) : Deed Str → Prop
  | .kern n => SqT K H a [.str "kern", .int n]
  | .put x l r on => SqT K H a [.str "put", .str x, .int (b2 l), .int (b2 r), .int (on : Nat)]
theorem DeedAt.mono {d : Deed Str} (k : TK K H H') (h : DeedAt K H a d) : DeedAt K H' a d := by
  cases d with
  | kern n => exact k _ _ h
  | put x l r on => exact k _ _ h
abbrev Rule := Str × Str × Deed Str
def RuleAt (K : PySem.W.Frag) (H : Hp) (v : V) (q : Rule) : Prop := ∃ a d, v = .ref a ∧ SqT K H a [.str q.1, .str q.2.1, .ref d] ∧ DeedAt K H d q.2.2
theorem RuleAt.mono {v : V} {q : Rule} (k : TK K H H') (h : RuleAt K H v q) : RuleAt K H' v q := by
  obtain ⟨a, d, e, h1, h2⟩ := h
  exact ⟨a, d, e, k _ _ h1, h2.mono k⟩
def RulesAt (K : PySem.W.Frag) (H : Hp) (b : Addr) (qs : List Rule) : Prop := ∃ rs, SqT K H b rs ∧ Paired (RuleAt K H) rs qs
theorem RulesAt.mono {qs : List Rule} (k : TK K H H') (h : RulesAt K H b qs) : RulesAt K H' b qs := by
  obtain ⟨rs, h1, h2⟩ := h
  exact ⟨rs, k _ _ h1, Paired.mapP h2 fun _ _ z => z.mono k⟩
def ProgAt (K : PySem.W.Frag) (H : Hp) (v : V) (L : Str) (qs : List Rule) : Prop := ∃ a b, v = .ref a ∧ SqT K H a [.str L, .ref b] ∧ RulesAt K H b qs
theorem ProgAt.mono {v : V} {L : Str} {qs : List Rule} (k : TK K H H') (h : ProgAt K H v L qs) : ProgAt K H' v L qs := by
  obtain ⟨a, b, e, h1, h2⟩ := h
  exact ⟨a, b, e, k _ _ h1, h2.mono k⟩
/-! ### programs as they are let -/
def IsLet (L x : Str) : Prop := ∃ c ∈ L.cps.toList, x = sg c
def IsSide (L x : Str) : Prop := x = S0 ∨ IsLet L x
structure LetOk (L : Str) : Prop where
  few : L.cps.toList.length ≤ 8
  some : 1 ≤ L.cps.toList.length
  low : ∀ c ∈ L.cps.toList, 97 ≤ c ∧ c ≤ 122
  asc : L.cps.toList.Pairwise (· < ·)
theorem IsSide.sm {L x : Str} (ok : LetOk L) (h : IsSide L x) : Sm x := by
  rcases h with h | ⟨c, hc, h⟩
  · exact .inl h
  · exact .inr ⟨c, (ok.low c hc).2, h⟩
def DeedOk (L a b : Str) : Deed Str → Prop
  | .kern n => -99 ≤ n ∧ n ≤ 99
  | .put x l r on => IsLet L x ∧ (a = S0 → l = true) ∧ (b = S0 → r = true) ∧ (on : Int) ≤ b2 l + b2 r
structure RuleOk (L : Str) (q : Rule) : Prop where
  l : IsSide L q.1
  r : IsSide L q.2.1
  ne : ¬ (q.1 = S0 ∧ q.2.1 = S0)
  d : DeedOk L q.1 q.2.1 q.2.2
structure ProgOk (L : Str) (qs : List Rule) : Prop where
  lets : LetOk L
  rules : ∀ q ∈ qs, RuleOk L q
  nd : (qs.map fun q => (q.1, q.2.1)).Nodup
  few : qs.length ≤ 24
def fOf (qs : List Rule) (a b : Str) : Option (Deed Str) := (qs.find? fun q => decide (q.1 = a ∧ q.2.1 = b)).map fun q => q.2.2
end
/-! ### short words for readings -/
section
variable {K : PySem.W.Frag} {H : Hp}
theorem tyT {a : Addr} {xs : List V} (h : SqT K H a xs) : TyX K H (.ref a) (.type "tuple") := by
  rcases h with (h | ⟨o, h⟩) | ⟨o, its, n, h, hc, _⟩
  · exact .base (.tup h)
  · exact .fTuple h
  · exact .kTuple h hc
end
theorem hu65 {A : Around} {k : Nat} (hr : Room k A) : A.units + 65 < cLine := by
  have := hr.un
  omega
theorem hu1 {A : Around} {k : Nat} (hr : Room k A) : A.units < cLine := by
  have := hr.un
  omega
theorem hu64 {A : Around} {k : Nat} (hr : Room k A) : A.units + 64 < cLine := by
  have := hr.un
  omega
theorem shS : SeqAt.shaped (.str "") = true := by decide +kernel
theorem shX {x : Str} (h : Sm x) : SeqAt.shaped (.str x) = true := by
  have := h.ok
  simp [SeqAt.shaped, PyData.canLay0, PyData.depth, this]
theorem sz {n : Nat} (h : n ≤ 100000) : n ≤ sizeLine := by
  rw [sizeLine_eq]
  omega
theorem szl {n : Nat} (h : n ≤ 100000) : n < sizeLine := by
  rw [sizeLine_eq]
  omega
end K24

namespace K24
open PySem PySem.Spec PyProof.Rows L2
def spIsInt : Sp := fun vs H Q _ => ∃ n : Int, vs = [.int n] ∧ Q (.bl true) H
def spWithin : Sp := fun vs H Q _ => ∃ n lo hi : Int, vs = [.int n, .int lo, .int hi] ∧ Q (.bl (decide (lo ≤ n ∧ n ≤ hi))) H
def spAsc : Sp := fun vs H Q _ => ∃ x : Str, vs = [.str x] ∧ x.cps.toList.Pairwise (· < ·) ∧ x.cps.toList.length ≤ 8 ∧ ∀ H', Same H H' → Q (.bl true) H'
section
variable {P : Program} {w : World} {K : PySem.W.Frag} {mg : Str → Option Value} {base : Heap}
theorem scIsInt : FnScope ["value"] ["value"] (defScope sIsInt) := ⟨rfl, rfl, rfl, by decide +kernel, rfl, by decide +kernel, by decide +kernel⟩
theorem ok_isInt {f : Addr} {fd : FuncData} (F : Fun K "is_integer" "is_integer" sIsInt f fd) (T : Txt K mg) : FnOk P w K mg base CX0 1 f fd ["value"] spIsInt := by
  refine F.ok scIsInt (fun vs H Q E h => ?_) (fun cdv A outer s H vs Q E hr h => ?_)
  · obtain ⟨n, rfl, _⟩ := h
    rfl
  · obtain ⟨n, rfl, q⟩ := h
    refine ⟨_, pss_one (ps_ret (pe_and (pe_callB call_isi (by rfl) T.isi (by decide +kernel) (pa_cons (pv 0) (pa_cons (pe_bltn (v := .ty "int") (by rfl) T.int (by decide +kernel) rfl) pa_nil)))
      (pe_one (pe_not (pe_callB call_isi (by rfl) T.isi (by decide +kernel) (pa_cons (pv 0) (pa_cons (pe_bltn (v := .ty "bool") (by rfl) T.bool (by decide +kernel) rfl) pa_nil))))))), ?_⟩
    refine ⟨_, rfl, .int n, .ty "int", .type "int", .type "int", true, rfl, .ty _, .base (.int n), kit_ty (by decide +kernel), true, rfl, iteT ?_⟩
    exact ⟨_, rfl, .int n, .ty "bool", .type "int", .type "bool", false, rfl, .ty _, .base (.int n), kit_ty (by decide +kernel), false, rfl, q⟩
theorem scWithin : FnScope ["value", "low", "high"] ["value", "low", "high"] (defScope sWithin) := ⟨rfl, rfl, rfl, by decide +kernel, rfl, by decide +kernel, by decide +kernel⟩
theorem ok_within {f g : Addr} {fd gd : FuncData} (F : Fun K "is_integer_within" "is_integer_within" sWithin f fd) (T : Txt K mg) (G : FnOk P w K mg base CX0 1 g gd ["value"] spIsInt) (kG : PySem.W.keepIn K (.ref g) = true) (mG : mg "is_integer" = some (.ref g)) (bG : Binds K gd ["value"] []) :
    FnOk P w K mg base CX0 2 f fd ["value", "low", "high"] spWithin := by
  refine F.ok scWithin (fun vs H Q E h => ?_) (fun cdv A outer s H vs Q E hr h => ?_)
  · obtain ⟨n, lo, hi, rfl, _⟩ := h
    rfl
  · obtain ⟨n, lo, hi, rfl, q⟩ := h
    refine ⟨_, pss_one (ps_ret (pe_and (pe_call G hr rfl mG kG bG .nil pass0 (pa_cons (pv 0) pa_nil)) (pe_one (pe_chain op_le op_le (pv 1) (pv 0) (pv 2))))), ?_⟩
    refine ⟨_, rfl, n, rfl, true, rfl, iteT ?_⟩
    refine ⟨_, rfl, _, rfl, lo, n, rfl, rfl, _, rfl, ?_⟩
    by_cases c : lo ≤ n
    · rw [decide_eq_true c]
      refine iteT ⟨_, rfl, n, hi, rfl, rfl, ?_⟩
      have e : decide (lo ≤ n ∧ n ≤ hi) = decide (n ≤ hi) := by simp [c]
      rw [e] at q
      exact q
    · rw [decide_eq_false c]
      refine iteF ?_
      have e : decide (lo ≤ n ∧ n ≤ hi) = false := by simp [c]
      rw [e] at q
      exact q
theorem scAsc : FnScope ["row", "at"] ["row"] (defScope sAsc) := ⟨rfl, rfl, rfl, by decide +kernel, rfl, by decide +kernel, by decide +kernel⟩
theorem sg_lt {c d : Nat} (h : c < d) : decide ((⟨#[c]⟩ : Str).cps.toList < (⟨#[d]⟩ : Str).cps.toList) = true := by
  refine decide_eq_true ?_
  show [c] < [d]
  exact List.Lex.rel h
theorem ok_asc {f : Addr} {fd : FuncData} (F : Fun K "are_ascending" "are_ascending" sAsc f fd) (T : Txt K mg) : FnOk P w K mg base CX0 1 f fd ["row"] spAsc := by
  refine F.ok scAsc (fun vs H Q E h => ?_) (fun cdv A outer s H vs Q E hr h => ?_)
  · obtain ⟨x, rfl, _⟩ := h
    rfl
  · obtain ⟨x, rfl, hasc, hlen, q⟩ := h
    refine ⟨_, pss_one (ps_ret (pe_callB (cr_all rfl) (by rfl) T.all (by decide +kernel) (pa_cons
      (pe_lc (own := [("at", 1)]) (g := gName 1) (tt := tYes) rfl scAsc.nd
        (pi_range1 rfl T.range (pa_cons (pe_op op_sub (pe_callB call_len_str (by rfl) T.len PySem.boot_len (pa_cons (pv 0) pa_nil)) pe_int) pa_nil))
        (blkOk_by (own := [("at", 1)]) (N := ["row", "at"]) (sc := defScope sAsc) (by decide +kernel))
        (fun _ _ _ _ _ => pg_name (i := 1) scAsc.nd rfl (Or.inl rfl)) (fun _ _ _ _ _ => pts_nil)
        (fun _ _ _ _ _ => pe_cmpR op_lt_str (pe_item_str (pv 0) (pv 1) (fun _ _ => rfl)) (pe_item_str (pv 0) (pe_op op_add (pv 1) pe_int) (fun _ _ => rfl)) (nomark _))) pa_nil))), ?_⟩
    have hz : x.length = x.cps.toList.length := by
      show x.cps.size = _
      simp
    refine ⟨_, rfl, x, rfl, sz (by omega), _, _, rfl, rfl, _, rfl, by omega, by omega, fun D hD => ?_⟩
    refine lc_range (lo := 0) (n := ((x.length : Int) - 1).toNat) (fun i H' => Same H H' ∧ H' D = some (.lst ((List.replicate i true).map V.bl))) ⟨same_upd hD, upd_same⟩ ?_ ?_
    · rintro i H1 hi ⟨s1, e1⟩
      have h1 : i < x.cps.toList.length := by omega
      have h2 : i + 1 < x.cps.toList.length := by omega
      have g1 : x.cps[i]? = some x.cps.toList[i] := by
        rw [← Array.getElem?_toList, List.getElem?_eq_getElem h1]
      have g2 : x.cps[i + 1]? = some x.cps.toList[i + 1] := by
        rw [← Array.getElem?_toList, List.getElem?_eq_getElem h2]
      have lt : x.cps.toList[i] < x.cps.toList[i + 1] := List.pairwise_iff_getElem.mp hasc i (i + 1) h1 h2 (by omega)
      have c2 : ((0 : Int) + (i : Nat) + 1).toNat = i + 1 := by omega
      have c1 : ((0 : Int) + (i : Nat)).toNat = i := by omega
      refine ⟨rfl, ⟨_, rfl, _, rfl, x, _, x.cps.toList[i], rfl, rfl, by omega, by omega, by omega, by rw [c1]; exact g1, _, rfl, _, rfl, _, _, rfl, rfl, x, _, x.cps.toList[i + 1], rfl, rfl, by omega, by omega, by omega, by rw [c2]; exact g2, _, _, rfl, rfl, ?_⟩⟩
      refine ⟨_, e1, by simp; exact szl (by omega), fun b o e => ?_, ?_⟩
      · have nb : b ≠ D := ne_of_none e hD
        rw [upd_ne nb]
        exact s1 b o e
      · rw [upd_same, sg_lt lt, List.replicate_succ']
        simp
    · rintro H1 ⟨s1, e1⟩
      refine ⟨D, _, rfl, SqL.of e1, ?_⟩
      have e : (List.replicate ((x.length : Int) - 1).toNat true).all id = true := by simp
      rw [e]
      exact q H1 s1
end
end K24

namespace K24
open PySem PySem.Spec PyProof.Rows L2
def spLetterOf : Sp := fun vs H Q _ => ∃ x L : Str, vs = [.str x, .str L] ∧ IsLet L x ∧ L.cps.toList.length ≤ 8 ∧ Q (.bl true) H
def spAreLetters : Sp := fun vs H Q _ => ∃ L : Str, vs = [.str L] ∧ LetOk L ∧ ∀ H', Same H H' → Q (.bl true) H'
def spIsSide : Sp := fun vs H Q _ => ∃ x L : Str, vs = [.str x, .str L] ∧ IsSide L x ∧ L.cps.toList.length ≤ 8 ∧ Q (.bl true) H
theorem strLen (x : Str) : x.length = x.cps.toList.length := by
  show x.cps.size = _
  simp
theorem IsLet.len {L x : Str} (h : IsLet L x) : x.length = 1 := by
  obtain ⟨c, _, rfl⟩ := h
  rfl
theorem IsLet.ne {L x : Str} (h : IsLet L x) : ¬ x = S0 := by
  intro e
  have h1 := h.len
  rw [e] at h1
  exact absurd h1 (by decide)
section
variable {P : Program} {w : World} {K : PySem.W.Frag} {mg : Str → Option Value} {base : Heap}
theorem scLetterOf : FnScope ["value", "letters"] ["value", "letters"] (defScope sIsLetterOf) := ⟨rfl, rfl, rfl, by decide +kernel, rfl, by decide +kernel, by decide +kernel⟩
theorem ok_letterOf {f : Addr} {fd : FuncData} (F : Fun K "is_letter_of" "is_letter_of" sIsLetterOf f fd) (T : Txt K mg) : FnOk P w K mg base CX0 1 f fd ["value", "letters"] spLetterOf := by
  refine F.ok scLetterOf (fun vs H Q E h => ?_) (fun cdv A outer s H vs Q E hr h => ?_)
  · obtain ⟨x, L, rfl, _⟩ := h
    rfl
  · obtain ⟨x, L, rfl, hx, hL, q⟩ := h
    refine ⟨_, pss_one (ps_ret (pe_and (pe_callB call_isi (by rfl) T.isi (by decide +kernel) (pa_cons (pv 0) (pa_cons (pe_bltn (v := .ty "str") (by rfl) T.str (by decide +kernel) rfl) pa_nil)))
      (pe_and (pe_cmpR op_eq (pe_callB call_len_str (by rfl) T.len PySem.boot_len (pa_cons (pv 0) pa_nil)) pe_int (nomark _)) (pe_one (pe_cmpR op_in_sign (pv 0) (pv 1) rfl))))), ?_⟩
    obtain ⟨c, hc, rfl⟩ := hx
    refine ⟨_, rfl, _, _, .type "str", .type "str", true, rfl, .ty _, .base (.str _), kit_ty (by decide +kernel), true, rfl, iteT ?_⟩
    refine ⟨_, rfl, sg c, rfl, sz (by show 1 ≤ 100000; decide), rfl, _, rfl, iteT ?_⟩
    refine ⟨_, rfl, _, rfl, c, L, rfl, rfl, ?_⟩
    rw [decide_eq_true hc]
    exact q
theorem scAreLetters : FnScope ["value", "letter"] ["value"] (defScope sAreLetters) := ⟨rfl, rfl, rfl, by decide +kernel, rfl, by decide +kernel, by decide +kernel⟩
theorem alphaMem {c : Nat} (h : 97 ≤ c ∧ c ≤ 122) : c ∈ ("abcdefghijklmnopqrstuvwxyz" : Str).cps.toList := by
  have e : ("abcdefghijklmnopqrstuvwxyz" : Str).cps.toList = List.range' 97 26 := by decide +kernel
  rw [e, List.mem_range'_1]
  omega
theorem ok_areLetters {f g : Addr} {fd gd : FuncData} (F : Fun K "are_letters" "are_letters" sAreLetters f fd) (T : Txt K mg) (G : FnOk P w K mg base CX0 1 g gd ["row"] spAsc) (kG : PySem.W.keepIn K (.ref g) = true) (mG : mg "are_ascending" = some (.ref g)) (bG : Binds K gd ["row"] []) :
    FnOk P w K mg base CX0 2 f fd ["value"] spAreLetters := by
  refine F.ok scAreLetters (fun vs H Q E h => ?_) (fun cdv A outer s H vs Q E hr h => ?_)
  · obtain ⟨x, rfl, _⟩ := h
    rfl
  · obtain ⟨L, rfl, ok, q⟩ := h
    obtain ⟨t1, mA⟩ := T.alpha
    obtain ⟨t2, mM⟩ := T.mostL
    refine ⟨_, pss_cons (ps_if (PW.pt (pw_or (pt_not (pt_val (pe_callB call_isi (by rfl) T.isi (by decide +kernel) (pa_cons (pv 0) (pa_cons (pe_bltn (v := .ty "str") (by rfl) T.str (by decide +kernel) rfl) pa_nil)))))
        (pw_or1 (pt_not (pt_chain op_le op_le pe_int (pe_callB call_len_str (by rfl) T.len PySem.boot_len (pa_cons (pv 0) pa_nil)) (pe_glob (v := .int 8) rfl mM ⟨_, rfl⟩)))))) (pss_one (ps_ret pe_bl)) pss_nil)
      (pss_one (ps_ret (pe_and (pe_callB (cr_all rfl) (by rfl) T.all (by decide +kernel) (pa_cons
        (pe_lc (own := [("letter", 1)]) (g := gName 1) (tt := tYes) rfl scAreLetters.nd (pi_str (pv 0))
          (blkOk_by (own := [("letter", 1)]) (N := ["value", "letter"]) (sc := defScope sAreLetters) (by decide +kernel))
          (fun _ _ _ _ _ => pg_name (i := 1) scAreLetters.nd rfl (Or.inl rfl)) (fun _ _ _ _ _ => pts_nil)
          (fun _ _ _ _ _ => pe_cmpR op_in_sign (pv 1) (pe_glob (v := .str "abcdefghijklmnopqrstuvwxyz") rfl mA ⟨_, rfl⟩) rfl)) pa_nil))
        (pe_one (pe_call G hr rfl mG kG bG .nil pass0 (pa_cons (pv 0) pa_nil)))))), ?_⟩
    have hz := strLen L
    have few := ok.few
    have some1 := ok.some
    refine ⟨_, rfl, _, _, .type "str", .type "str", true, rfl, .ty _, .base (.str _), kit_ty (by decide +kernel), true, rfl, iteF ?_⟩
    refine ⟨_, rfl, L, rfl, sz (by omega), 1, (L.length : Int), rfl, rfl, _, rfl, ?_⟩
    rw [decide_eq_true (show (1 : Int) ≤ (L.length : Int) by omega)]
    refine iteT ⟨_, 8, rfl, rfl, _, rfl, ?_⟩
    rw [decide_eq_true (show (L.length : Int) ≤ 8 by omega)]
    refine iteF ?_
    refine ⟨_, rfl, L, rfl, fun D hD => ?_⟩
    refine ⟨fun i m H' => m = L.cps.size - i ∧ i ≤ L.cps.size ∧ Same H H' ∧ H' D = some (.lst ((List.replicate i true).map V.bl)), ⟨_, rfl, Nat.zero_le _, same_upd hD, upd_same⟩, ?_⟩
    rintro i m H1 ⟨rfl, hi, s1, e1⟩
    by_cases lt : i < L.cps.size
    · refine .inr ⟨lt, fun H' => Same H H' ∧ H' D = some (.lst ((List.replicate (i + 1) true).map V.bl)), fun H' nx => ⟨L.cps.size - (i + 1), by omega, rfl, lt, nx⟩, fun x H2 y => ?_⟩
      obtain ⟨rfl, c, hc, rfl⟩ := y
      refine ⟨rfl, _, rfl, c, _, rfl, rfl, _, e1, by simp; exact szl (by have := strLen L; have e : L.length = L.cps.size := rfl; omega), fun b o e => ?_, ?_⟩
      · have nb : b ≠ D := ne_of_none e hD
        rw [upd_ne nb]
        exact s1 b o e
      · have mc : c ∈ L.cps.toList := by
          rw [← Array.getElem?_toList] at hc
          exact List.mem_of_getElem? hc
        rw [upd_same, decide_eq_true (alphaMem (ok.low c mc)), List.replicate_succ']
        simp
    · have e : i = L.cps.size := by omega
      subst e
      refine .inl ⟨Nat.le_refl _, D, _, rfl, SqL.of e1, true, by simp, iteT ?_⟩
      exact ⟨_, rfl, L, rfl, ok.asc, few, fun H' s2 => q H' (s1.trans s2)⟩
theorem scIsSide : FnScope ["value", "letters"] ["value", "letters"] (defScope sIsSide) := ⟨rfl, rfl, rfl, by decide +kernel, rfl, by decide +kernel, by decide +kernel⟩
theorem ok_isSide {f g : Addr} {fd gd : FuncData} (F : Fun K "is_side" "is_side" sIsSide f fd) (T : Txt K mg) (G : FnOk P w K mg base CX0 1 g gd ["value", "letters"] spLetterOf) (kG : PySem.W.keepIn K (.ref g) = true) (mG : mg "is_letter_of" = some (.ref g)) (bG : Binds K gd ["value", "letters"] []) :
    FnOk P w K mg base CX0 2 f fd ["value", "letters"] spIsSide := by
  refine F.ok scIsSide (fun vs H Q E h => ?_) (fun cdv A outer s H vs Q E hr h => ?_)
  · obtain ⟨x, L, rfl, _⟩ := h
    rfl
  · obtain ⟨x, L, rfl, hx, hL, q⟩ := h
    refine ⟨_, pss_one (ps_ret (pe_and (pe_callB call_isi (by rfl) T.isi (by decide +kernel) (pa_cons (pv 0) (pa_cons (pe_bltn (v := .ty "str") (by rfl) T.str (by decide +kernel) rfl) pa_nil)))
      (pe_one (pe_or (pe_cmpR op_eq (pv 0) pe_str (nomark _)) (pe_one (pe_call G hr rfl mG kG bG .nil pass0 (pa_cons (pv 0) (pa_cons (pv 1) pa_nil)))))))), ?_⟩
    refine ⟨_, rfl, _, _, .type "str", .type "str", true, rfl, .ty _, .base (.str _), kit_ty (by decide +kernel), true, rfl, iteT ?_⟩
    refine ⟨_, rfl, rfl, _, rfl, ?_⟩
    by_cases c : x = S0
    · subst c
      exact iteT q
    · have hl : IsLet L x := hx.resolve_left c
      have e : decide (V.str x = V.str "") = false := decide_eq_false fun z => c (V.str.inj z)
      rw [e]
      exact iteF ⟨_, rfl, _, rfl, x, L, rfl, hl, hL, q⟩
end
end K24

namespace K24
open PySem PySem.Spec PyProof.Rows L2
def spIsPut (K : PySem.W.Frag) : Sp := fun vs H Q _ => ∃ (a : Addr) (L x y z : Str) (l r : Bool) (on : Nat), vs = [.ref a, .str L, .str x, .str y] ∧ SqT K H a [.str "put", .str z, .int (b2 l), .int (b2 r), .int (on : Nat)] ∧
  DeedOk L x y (.put z l r on) ∧ L.cps.toList.length ≤ 8 ∧ Q (.bl true) H
def spIsDeed (K : PySem.W.Frag) : Sp := fun vs H Q _ => ∃ (a : Addr) (L x y : Str) (d : Deed Str), vs = [.ref a, .str L, .str x, .str y] ∧ DeedAt K H a d ∧ DeedOk L x y d ∧ L.cps.toList.length ≤ 8 ∧ Q (.bl true) H
def spIsRow (K : PySem.W.Frag) : Sp := fun vs H Q _ => ∃ (v : V) (L : Str) (q : Rule), vs = [v, .str L] ∧ RuleAt K H v q ∧ RuleOk L q ∧ L.cps.toList.length ≤ 8 ∧ Q (.bl true) H
theorem b2_lo (b : Bool) : (0 : Int) ≤ b2 b ∧ b2 b ≤ 1 := by cases b <;> decide
theorem IsSide.len {L x : Str} (h : IsSide L x) : x.length ≤ 1 := by
  rcases h with h | h
  · rw [h]
    decide
  · rw [h.len]
    exact Nat.le_refl 1
theorem empty_of {x : Str} (h : x.length = 0) : x = S0 := by
  have h1 := strLen x
  rw [h] at h1
  obtain ⟨c⟩ := x
  have e : c = #[] := by
    have : c.size = 0 := h
    exact Array.eq_empty_of_size_eq_zero this
  rw [e]
  decide +kernel
section
variable {P : Program} {w : World} {K : PySem.W.Frag} {mg : Str → Option Value} {base : Heap}
theorem scIsPut : FnScope ["deed", "letters", "left", "right", "_", "letter", "keeps_left", "keeps_right", "on"] ["deed", "letters", "left", "right"] (defScope sIsPut) := ⟨rfl, rfl, rfl, by decide +kernel, rfl, by decide +kernel, by decide +kernel⟩
theorem ok_isPut {f g g2 : Addr} {fd gd gd2 : FuncData} (F : Fun K "is_put" "is_put" sIsPut f fd) (T : Txt K mg)
    (G : FnOk P w K mg base CX0 1 g gd ["value", "letters"] spLetterOf) (kG : PySem.W.keepIn K (.ref g) = true) (mG : mg "is_letter_of" = some (.ref g)) (bG : Binds K gd ["value", "letters"] [])
    (W : FnOk P w K mg base CX0 2 g2 gd2 ["value", "low", "high"] spWithin) (kW : PySem.W.keepIn K (.ref g2) = true) (mW : mg "is_integer_within" = some (.ref g2)) (bW : Binds K gd2 ["value", "low", "high"] []) :
    FnOk P w K mg base CX0 3 f fd ["deed", "letters", "left", "right"] (spIsPut K) := by
  refine F.ok scIsPut (fun vs H Q E h => ?_) (fun cdv A outer s H vs Q E hr h => ?_)
  · obtain ⟨_, _, _, _, _, _, _, _, rfl, _⟩ := h
    rfl
  · obtain ⟨a, L, x, y, z, l, r, on, rfl, hS, ⟨hz, hl, hr2, hon⟩, hL, q⟩ := h
    have hr1 : Room 1 _ := hr.mono (by decide)
    have nd := scIsPut.nd
    refine ⟨_, pss_cons (ps_if (pt_cmpR op_ne (pe_callB call_len_seq (by rfl) T.len PySem.boot_len (pa_cons (pv 0) pa_nil)) pe_int (nomark _)) (pss_one (ps_ret pe_bl)) pss_nil)
      (pss_cons (ps_asg (pv 0) (pg_tup (by rfl) (pgs_cons (pg_name (i := 4) nd rfl (.inl rfl)) (pgs_cons (pg_name (i := 5) nd rfl (.inl rfl)) (pgs_cons (pg_name (i := 6) nd rfl (.inl rfl)) (pgs_cons (pg_name (i := 7) nd rfl (.inl rfl)) (pgs_cons (pg_name (i := 8) nd rfl (.inl rfl)) pgs_nil)))))))
      (pss_cons (ps_if (pt_not (pt_val (pe_call G hr1 rfl mG kG bG .nil pass0 (pa_cons (pv 5) (pa_cons (pv 1) pa_nil))))) (pss_one (ps_ret pe_bl)) pss_nil)
      (pss_cons (ps_if (PW.pt (pw_or (pt_not (pt_val (pe_call W hr rfl mW kW bW .nil pass0 (pa_cons (pv 6) (pa_cons pe_int (pa_cons pe_int pa_nil))))))
          (pw_or1 (pt_not (pt_val (pe_call W hr rfl mW kW bW .nil pass0 (pa_cons (pv 7) (pa_cons pe_int (pa_cons pe_int pa_nil))))))))) (pss_one (ps_ret pe_bl)) pss_nil)
      (pss_cons (ps_if (PW.pt (pw_or (PW.pt (pw_and (pt_cmpR op_eq (pv 2) pe_str (nomark _)) (pw_and1 (pt_cmpR op_eq (pv 6) pe_int (nomark _)))))
          (pw_or1 (PW.pt (pw_and (pt_cmpR op_eq (pv 3) pe_str (nomark _)) (pw_and1 (pt_cmpR op_eq (pv 7) pe_int (nomark _)))))))) (pss_one (ps_ret pe_bl)) pss_nil)
      (pss_one (ps_ret (pe_call W hr rfl mW kW bW .nil pass0 (pa_cons (pv 8) (pa_cons pe_int (pa_cons (pe_op op_add (pv 6) (pv 7)) pa_nil)))))))))), ?_⟩
    obtain ⟨l1, l2⟩ := b2_lo l
    obtain ⟨r1, r2⟩ := b2_lo r
    refine ⟨_, rfl, a, _, rfl, .inr hS, rfl, _, rfl, iteF ?_⟩
    refine ⟨_, rfl, a, _, rfl, hS, rfl, _, _, rfl, _, _, rfl, _, _, rfl, _, _, rfl, _, _, rfl, rfl, ?_⟩
    refine ⟨_, rfl, _, rfl, z, L, rfl, hz, hL, true, rfl, iteF ?_⟩
    refine ⟨_, rfl, b2 l, 0, 1, rfl, _, rfl, ?_⟩
    rw [decide_eq_true (show (0 : Int) ≤ b2 l ∧ b2 l ≤ 1 from ⟨l1, l2⟩)]
    refine iteF ⟨_, rfl, b2 r, 0, 1, rfl, _, rfl, ?_⟩
    rw [decide_eq_true (show (0 : Int) ≤ b2 r ∧ b2 r ≤ 1 from ⟨r1, r2⟩)]
    refine iteF ?_
    refine ⟨_, rfl, rfl, _, rfl, ?_⟩
    by_cases cx : x = S0
    · have lt := hl cx
      subst lt
      rw [decide_eq_true (show V.str x = V.str "" by rw [cx])]
      refine iteT ⟨_, rfl, rfl, _, rfl, iteF ?_⟩
      refine ⟨_, rfl, rfl, _, rfl, ?_⟩
      by_cases cy : y = S0
      · have rt := hr2 cy
        subst rt
        rw [decide_eq_true (show V.str y = V.str "" by rw [cy])]
        refine iteT ⟨_, rfl, rfl, _, rfl, iteF ?_⟩
        refine ⟨_, rfl, _, rfl, _, rfl, _, _, rfl, rfl, _, 0, _, rfl, ?_⟩
        rw [decide_eq_true (show (0 : Int) ≤ (on : Int) ∧ (on : Int) ≤ b2 true + b2 true from ⟨by omega, hon⟩)]
        exact q
      · rw [decide_eq_false (show ¬ V.str y = V.str "" from fun z => cy (V.str.inj z))]
        refine iteF (iteF ?_)
        refine ⟨_, rfl, _, rfl, _, rfl, _, _, rfl, rfl, _, 0, _, rfl, ?_⟩
        rw [decide_eq_true (show (0 : Int) ≤ (on : Int) ∧ (on : Int) ≤ b2 true + b2 r from ⟨by omega, hon⟩)]
        exact q
    · rw [decide_eq_false (show ¬ V.str x = V.str "" from fun z => cx (V.str.inj z))]
      refine iteF (iteF ?_)
      refine ⟨_, rfl, rfl, _, rfl, ?_⟩
      by_cases cy : y = S0
      · have rt := hr2 cy
        subst rt
        rw [decide_eq_true (show V.str y = V.str "" by rw [cy])]
        refine iteT ⟨_, rfl, rfl, _, rfl, iteF ?_⟩
        refine ⟨_, rfl, _, rfl, _, rfl, _, _, rfl, rfl, _, 0, _, rfl, ?_⟩
        rw [decide_eq_true (show (0 : Int) ≤ (on : Int) ∧ (on : Int) ≤ b2 l + b2 true from ⟨by omega, hon⟩)]
        exact q
      · rw [decide_eq_false (show ¬ V.str y = V.str "" from fun z => cy (V.str.inj z))]
        refine iteF (iteF ?_)
        refine ⟨_, rfl, _, rfl, _, rfl, _, _, rfl, rfl, _, 0, _, rfl, ?_⟩
        rw [decide_eq_true (show (0 : Int) ≤ (on : Int) ∧ (on : Int) ≤ b2 l + b2 r from ⟨by omega, hon⟩)]
        exact q
theorem scIsDeed : FnScope ["value", "letters", "left", "right"] ["value", "letters", "left", "right"] (defScope sIsDeed) := ⟨rfl, rfl, rfl, by decide +kernel, rfl, by decide +kernel, by decide +kernel⟩
theorem ok_isDeed {f g g2 : Addr} {fd gd gd2 : FuncData} (F : Fun K "is_deed_between" "is_deed_between" sIsDeed f fd) (T : Txt K mg)
    (G : FnOk P w K mg base CX0 3 g gd ["deed", "letters", "left", "right"] (spIsPut K)) (kG : PySem.W.keepIn K (.ref g) = true) (mG : mg "is_put" = some (.ref g)) (bG : Binds K gd ["deed", "letters", "left", "right"] [])
    (W : FnOk P w K mg base CX0 2 g2 gd2 ["value", "low", "high"] spWithin) (kW : PySem.W.keepIn K (.ref g2) = true) (mW : mg "is_integer_within" = some (.ref g2)) (bW : Binds K gd2 ["value", "low", "high"] []) :
    FnOk P w K mg base CX0 4 f fd ["value", "letters", "left", "right"] (spIsDeed K) := by
  refine F.ok scIsDeed (fun vs H Q E h => ?_) (fun cdv A outer s H vs Q E hr h => ?_)
  · obtain ⟨_, _, _, _, _, rfl, _⟩ := h
    rfl
  · obtain ⟨a, L, x, y, d, rfl, hS, hd, hL, q⟩ := h
    have hr2 : Room 2 _ := hr.mono (by decide)
    obtain ⟨tk, mK⟩ := T.kern
    refine ⟨_, pss_cons (ps_if (PW.pt (pw_or (pt_not (pt_val (pe_callB call_isi (by rfl) T.isi (by decide +kernel) (pa_cons (pv 0) (pa_cons (pe_bltn (v := .ty "tuple") (by rfl) T.tuple (by decide +kernel) rfl) pa_nil)))))
        (pw_or (pt_cmpR op_lt (pe_callB call_len_seq (by rfl) T.len PySem.boot_len (pa_cons (pv 0) pa_nil)) pe_int (nomark _))
        (pw_or1 (pt_not (pt_val (pe_callB call_isi (by rfl) T.isi (by decide +kernel) (pa_cons (pe_ix ix_tup (pv 0) pe_int (fun _ _ => rfl)) (pa_cons (pe_bltn (v := .ty "str") (by rfl) T.str (by decide +kernel) rfl) pa_nil)))))))))
        (pss_one (ps_ret pe_bl)) pss_nil)
      (pss_cons (ps_if (pt_cmpR op_eq (pe_ix ix_tup (pv 0) pe_int (fun _ _ => rfl)) pe_str (nomark _))
        (pss_one (ps_ret (pe_and (pe_cmpR op_eq (pe_callB call_len_seq (by rfl) T.len PySem.boot_len (pa_cons (pv 0) pa_nil)) pe_int (nomark _))
          (pe_one (pe_call W hr2 rfl mW kW bW .nil pass0 (pa_cons (pe_ix ix_tup (pv 0) pe_int (fun _ _ => rfl)) (pa_cons (pe_un un_neg (pe_glob (v := .int 99) rfl mK ⟨_, rfl⟩)) (pa_cons (pe_glob (v := .int 99) rfl mK ⟨_, rfl⟩) pa_nil)))))))) pss_nil)
      (pss_one (ps_ret (pe_and (pe_cmpR op_eq (pe_ix ix_tup (pv 0) pe_int (fun _ _ => rfl)) pe_str (nomark _))
        (pe_one (pe_call G hr rfl mG kG bG .nil pass0 (pa_cons (pv 0) (pa_cons (pv 1) (pa_cons (pv 2) (pa_cons (pv 3) pa_nil)))))))))), ?_⟩
    cases d with
    | kern n =>
      have hS : SqT K H a [.str "kern", .int n] := hS
      obtain ⟨n1, n2⟩ := hd
      refine ⟨_, rfl, _, _, .type "tuple", .type "tuple", true, rfl, .ty _, tyT hS, kit_ty (by decide +kernel), true, rfl, iteF ?_⟩
      refine ⟨_, rfl, a, _, rfl, .inr hS, _, _, rfl, rfl, _, rfl, iteF ?_⟩
      refine ⟨_, rfl, a, _, 0, .str "kern", rfl, rfl, hS, rfl, _, _, .type "str", .type "str", true, rfl, .ty _, .base (.str _), kit_ty (by decide +kernel), true, rfl, iteF ?_⟩
      refine ⟨_, rfl, a, _, 0, .str "kern", rfl, rfl, hS, rfl, rfl, _, rfl, ?_⟩
      rw [decide_eq_true (show V.str "kern" = V.str "kern" from rfl)]
      refine iteT ⟨_, rfl, a, _, rfl, .inr hS, rfl, _, rfl, iteT ?_⟩
      refine ⟨_, rfl, a, _, 1, .int n, rfl, rfl, hS, rfl, 99, rfl, n, -99, 99, rfl, ?_⟩
      rw [decide_eq_true (show (-99 : Int) ≤ n ∧ n ≤ 99 from ⟨n1, n2⟩)]
      exact q
    | put z l r on =>
      have hS : SqT K H a [.str "put", .str z, .int (b2 l), .int (b2 r), .int (on : Nat)] := hS
      refine ⟨_, rfl, _, _, .type "tuple", .type "tuple", true, rfl, .ty _, tyT hS, kit_ty (by decide +kernel), true, rfl, iteF ?_⟩
      refine ⟨_, rfl, a, _, rfl, .inr hS, _, _, rfl, rfl, _, rfl, iteF ?_⟩
      refine ⟨_, rfl, a, _, 0, .str "put", rfl, rfl, hS, rfl, _, _, .type "str", .type "str", true, rfl, .ty _, .base (.str _), kit_ty (by decide +kernel), true, rfl, iteF ?_⟩
      refine ⟨_, rfl, a, _, 0, .str "put", rfl, rfl, hS, rfl, rfl, _, rfl, ?_⟩
      rw [decide_eq_false (show ¬ V.str "put" = V.str "kern" by decide +kernel)]
      refine iteF ⟨_, rfl, a, _, 0, .str "put", rfl, rfl, hS, rfl, rfl, true, rfl, iteT ?_⟩
      exact ⟨_, rfl, _, rfl, _, rfl, _, rfl, a, L, x, y, z, l, r, on, rfl, hS, hd, hL, q⟩
theorem scIsRow : FnScope ["value", "letters", "left", "right", "deed"] ["value", "letters"] (defScope sIsRow) := ⟨rfl, rfl, rfl, by decide +kernel, rfl, by decide +kernel, by decide +kernel⟩
theorem str_add_ne {x y : Str} (h : ¬ (x = S0 ∧ y = S0)) : ¬ V.str (x ++ y) = V.str "" := by
  intro e
  have e := V.str.inj e
  have l : (x ++ y).length = x.length + y.length := by
    show (x.cps ++ y.cps).size = _
    rw [Array.size_append]
    rfl
  rw [e] at l
  have l0 : (("" : Str)).length = 0 := by decide +kernel
  rw [l0] at l
  exact h ⟨empty_of (by omega), empty_of (by omega)⟩
theorem ok_isRow {f g g2 : Addr} {fd gd gd2 : FuncData} (F : Fun K "is_program_row" "is_program_row" sIsRow f fd) (T : Txt K mg)
    (G : FnOk P w K mg base CX0 4 g gd ["value", "letters", "left", "right"] (spIsDeed K)) (kG : PySem.W.keepIn K (.ref g) = true) (mG : mg "is_deed_between" = some (.ref g)) (bG : Binds K gd ["value", "letters", "left", "right"] [])
    (W : FnOk P w K mg base CX0 2 g2 gd2 ["value", "letters"] spIsSide) (kW : PySem.W.keepIn K (.ref g2) = true) (mW : mg "is_side" = some (.ref g2)) (bW : Binds K gd2 ["value", "letters"] []) :
    FnOk P w K mg base CX0 5 f fd ["value", "letters"] (spIsRow K) := by
  refine F.ok scIsRow (fun vs H Q E h => ?_) (fun cdv A outer s H vs Q E hr h => ?_)
  · obtain ⟨_, _, _, rfl, _⟩ := h
    rfl
  · obtain ⟨v, L, ⟨x, y, d⟩, rfl, ⟨a, b, rfl, hS, hD⟩, ok, hL, q⟩ := h
    have hr2 : Room 2 _ := hr.mono (by decide)
    have nd := scIsRow.nd
    have okl : IsSide L x := ok.l
    have okr : IsSide L y := ok.r
    have hS : SqT K H a [.str x, .str y, .ref b] := hS
    refine ⟨_, pss_cons (ps_if (PW.pt (pw_or (pt_not (pt_val (pe_callB call_isi (by rfl) T.isi (by decide +kernel) (pa_cons (pv 0) (pa_cons (pe_bltn (v := .ty "tuple") (by rfl) T.tuple (by decide +kernel) rfl) pa_nil)))))
        (pw_or1 (pt_cmpR op_ne (pe_callB call_len_seq (by rfl) T.len PySem.boot_len (pa_cons (pv 0) pa_nil)) pe_int (nomark _)))))
        (pss_one (ps_ret pe_bl)) pss_nil)
      (pss_cons (ps_asg (pv 0) (pg_tup (by rfl) (pgs_cons (pg_name (i := 2) nd rfl (.inl rfl)) (pgs_cons (pg_name (i := 3) nd rfl (.inl rfl)) (pgs_cons (pg_name (i := 4) nd rfl (.inl rfl)) pgs_nil)))))
      (pss_cons (ps_if (PW.pt (pw_or (pt_not (pt_val (pe_call W hr2 rfl mW kW bW .nil pass0 (pa_cons (pv 2) (pa_cons (pv 1) pa_nil)))))
        (pw_or (pt_not (pt_val (pe_call W hr2 rfl mW kW bW .nil pass0 (pa_cons (pv 3) (pa_cons (pv 1) pa_nil)))))
        (pw_or1 (pt_cmpR op_eq (pe_op op_add_str (pv 2) (pv 3)) pe_str (nomark _)))))) (pss_one (ps_ret pe_bl)) pss_nil)
      (pss_one (ps_ret (pe_call G hr rfl mG kG bG .nil pass0 (pa_cons (pv 4) (pa_cons (pv 1) (pa_cons (pv 2) (pa_cons (pv 3) pa_nil))))))))), ?_⟩
    refine ⟨_, rfl, _, _, .type "tuple", .type "tuple", true, rfl, .ty _, tyT hS, kit_ty (by decide +kernel), true, rfl, iteF ?_⟩
    refine ⟨_, rfl, a, _, rfl, .inr hS, rfl, _, rfl, iteF ?_⟩
    refine ⟨_, rfl, a, _, rfl, hS, rfl, _, _, rfl, _, _, rfl, _, _, rfl, rfl, ?_⟩
    refine ⟨_, rfl, _, rfl, x, L, rfl, okl, hL, true, rfl, iteF ?_⟩
    refine ⟨_, rfl, _, rfl, y, L, rfl, okr, hL, true, rfl, iteF ?_⟩
    have l1 := okl.len
    have l2 := okr.len
    refine ⟨_, rfl, _, rfl, x, y, rfl, rfl, sz (by omega), rfl, _, rfl, ?_⟩
    rw [decide_eq_false (str_add_ne ok.ne)]
    refine iteF ⟨_, rfl, _, rfl, _, rfl, _, rfl, b, L, x, y, d, rfl, hD, ok.d, hL, q⟩
end
end K24

namespace K24
open PySem PySem.Spec PyProof.Rows L2
/-! ### dicts keyed by pairs of sides -/
def kp (a b : Str) : List L2.Key := [.inr a, .inr b]
theorem kp_inj {a b c d : Str} (h : kp a b = kp c d) : a = c ∧ b = d := by
  unfold kp at h
  injection h with h1 h2
  injection h2 with h2 _
  injection h1 with h1
  injection h2 with h2
  exact ⟨h1, h2⟩
/-- the pairs of a dict stand for the rules, in their order -/
def KvAt (g : V → Rule → Prop) : List (List L2.Key × V) → List Rule → Prop := Paired fun kv q => kv.1 = kp q.1 q.2.1 ∧ g kv.2 q
theorem KvAt.gone {g : V → Rule → Prop} : ∀ {kvs : List (List L2.Key × V)} {qs : List Rule}, KvAt g kvs qs → ∀ {a b : Str}, (a, b) ∉ qs.map (fun q => (q.1, q.2.1)) → valV kvs (kp a b) = none
  | _, _, .nil, a, b, _ => rfl
  | _, _, .cons (a := kv) (b := q) h t, a, b, n => by
    have ne : ¬ kv.1 = kp a b := fun e => by
      rw [h.1] at e
      obtain ⟨e1, e2⟩ := kp_inj e
      exact n (by simp [e1, e2])
    rw [valV_neg ne]
    exact KvAt.gone t fun m => n (by simp only [List.map_cons, List.mem_cons]; exact .inr m)
theorem KvAt.look {g : V → Rule → Prop} : ∀ {kvs : List (List L2.Key × V)} {qs : List Rule}, KvAt g kvs qs → ∀ (a b : Str),
    (fOf qs a b = none ∧ valV kvs (kp a b) = none) ∨ ∃ q v, q ∈ qs ∧ q.1 = a ∧ q.2.1 = b ∧ fOf qs a b = some q.2.2 ∧ valV kvs (kp a b) = some v ∧ g v q
  | _, _, .nil, a, b => .inl ⟨rfl, rfl⟩
  | _, _, .cons (a := kv) (b := q) (l₂ := qs) h t, a, b => by
    by_cases c : q.1 = a ∧ q.2.1 = b
    · refine .inr ⟨q, kv.2, List.mem_cons_self, c.1, c.2, ?_, ?_, h.2⟩
      · unfold fOf
        rw [List.find?_cons, decide_eq_true c]
        rfl
      · exact valV_pos (by rw [h.1, c.1, c.2])
    · have ne : ¬ kv.1 = kp a b := fun e => by
        rw [h.1] at e
        exact c (kp_inj e)
      have e1 : fOf (q :: qs) a b = fOf qs a b := by
        unfold fOf
        rw [List.find?_cons, decide_eq_false c]
      rw [e1, valV_neg ne]
      rcases KvAt.look t a b with z | ⟨q', v, m, z⟩
      · exact .inl z
      · exact .inr ⟨q', v, List.mem_cons_of_mem _ m, z⟩
theorem KvAt.len {g : V → Rule → Prop} {kvs : List (List L2.Key × V)} {qs : List Rule} (h : KvAt g kvs qs) : kvs.length = qs.length := Paired.length h
theorem KvAt.snoc {g : V → Rule → Prop} {kvs : List (List L2.Key × V)} {qs : List Rule} {q : Rule} {v : V} (h : KvAt g kvs qs) (hv : g v q) (n : (q.1, q.2.1) ∉ qs.map (fun q => (q.1, q.2.1))) :
    KvAt g (putK kvs (kp q.1 q.2.1) v) (qs ++ [q]) := by
  rw [putK_new v (h.gone n)]
  exact Paired.app h (.cons ⟨rfl, hv⟩ .nil)
theorem nd_take {qs : List Rule} (nd : (qs.map fun q => (q.1, q.2.1)).Nodup) {i : Nat} {q : Rule} (h : qs[i]? = some q) : (q.1, q.2.1) ∉ (qs.take i).map (fun q => (q.1, q.2.1)) := by
  intro m
  rw [List.map_take] at m
  obtain ⟨j, hj⟩ := List.mem_iff_getElem?.mp m
  have hl : j < i := by
    have h1 := (List.getElem?_eq_some_iff.mp hj).1
    rw [List.length_take] at h1
    omega
  rw [List.getElem?_take_of_lt hl] at hj
  have h2 : (qs.map fun q => (q.1, q.2.1))[i]? = some (q.1, q.2.1) := by
    rw [List.getElem?_map, h]
    rfl
  have := nd_ix nd hj h2
  omega
theorem take_snoc {α : Type} {l : List α} {i : Nat} {x : α} (h : l[i]? = some x) : l.take (i + 1) = l.take i ++ [x] := by
  rw [List.take_add_one, h]
  rfl
section
variable {K : PySem.W.Frag} {a D : Addr} {xs : List V} {g : TG} {tt : TT} {tk tv : TE} {vs : List Nat} {σ : L2.St} {H1 : Hp} {Qd : Hp → Prop}
/-- a dict comprehension over a tuple that stays -/
theorem dcT_tup (Pv : Nat → Hp → Prop) (h0 : Pv 0 (upd H1 D (.dT []))) (hl : ∀ i H, i ≤ xs.length → Pv i H → SqT K H a xs)
    (hs : ∀ i x H, xs[i]? = some x → Pv i H → g x (wipe σ vs) H fun σ2 H2 => wipe σ2 vs = wipe σ vs ∧ tt σ2 H2 fun b H3 =>
      if b = true then tk σ2 H3 fun y H4 => tv σ2 H4 fun z H5 => ∃ kvs ks p, y = V.ref p ∧ H5 p = some (.tup (ks.map kV)) ∧ H5 D = some (.dT kvs) ∧ kvs.length < sizeLine ∧ Pv (i + 1) (upd H5 D (.dT (putK kvs ks z))) else Pv (i + 1) H3)
    (hd : ∀ H, Pv xs.length H → Qd H) :
    ∃ W : Nat → Nat → Hp → Prop, (∃ m, W 0 m (upd H1 D (.dT []))) ∧ ∀ i m H, W i m H →
      ((Itt K a).stop i H ∧ Qd H) ∨ ((Itt K a).go i H ∧ ∃ Nx : Hp → Prop, (∀ H', Nx H' → ∃ m', m' < m ∧ W (i + 1) m' H') ∧
        ∀ x H', (Itt K a).yld i H x H' → g x (wipe σ vs) H' fun σ2 H2 => wipe σ2 vs = wipe σ vs ∧ tt σ2 H2 fun b H3 =>
          if b = true then tk σ2 H3 fun y H4 => tv σ2 H4 fun z H5 => ∃ kvs ks p, y = V.ref p ∧ H5 p = some (.tup (ks.map kV)) ∧ H5 D = some (.dT kvs) ∧ kvs.length < sizeLine ∧ Nx (upd H5 D (.dT (putK kvs ks z))) else Nx H3) := by
  refine ⟨fun i m H => m = xs.length - i ∧ i ≤ xs.length ∧ Pv i H, ⟨_, rfl, Nat.zero_le _, h0⟩, ?_⟩
  rintro i m H ⟨rfl, hi, p⟩
  have q := hl i H hi p
  by_cases lt : i < xs.length
  · refine .inr ⟨⟨xs, xs[i], q, List.getElem?_eq_getElem lt⟩, Pv (i + 1), fun H' p' => ⟨xs.length - (i + 1), by omega, rfl, lt, p'⟩, fun x H' y => ?_⟩
    obtain ⟨rfl, y⟩ := y
    exact hs i x _ (y xs q) p
  · have e : i = xs.length := by omega
    subst e
    exact .inl ⟨⟨xs, q, Nat.le_refl _⟩, hd H p⟩
end
def spIsPairs (K : PySem.W.Frag) : Sp := fun vs H Q _ => ∃ (v : V) (L : Str) (qs : List Rule), vs = [v] ∧ ProgAt K H v L qs ∧ ProgOk L qs ∧ ∀ H', Same H H' → Q (.bl true) H'
def spNeed (K : PySem.W.Frag) : Sp := fun vs H Q _ => ∃ (v : V) (L : Str) (qs : List Rule), vs = [v] ∧ ProgAt K H v L qs ∧ ProgOk L qs ∧ ∀ H', Same H H' → Q .non H'
section
variable {P : Program} {w : World} {K : PySem.W.Frag} {mg : Str → Option Value} {base : Heap}
theorem scIsPairs : FnScope ["value", "letters", "rows", "unlike", "row"] ["value"] (defScope sIsPairs) := ⟨rfl, rfl, rfl, by decide +kernel, rfl, by decide +kernel, by decide +kernel⟩
theorem cut2 (x y z : V) : cutV [x, y, z] none (some 2) = [x, y] := rfl
theorem ok_isPairs {f g g2 : Addr} {fd gd gd2 : FuncData} (F : Fun K "is_pairs" "is_pairs" sIsPairs f fd) (T : Txt K mg)
    (G : FnOk P w K mg base CX0 5 g gd ["value", "letters"] (spIsRow K)) (kG : PySem.W.keepIn K (.ref g) = true) (mG : mg "is_program_row" = some (.ref g)) (bG : Binds K gd ["value", "letters"] [])
    (W : FnOk P w K mg base CX0 2 g2 gd2 ["value"] spAreLetters) (kW : PySem.W.keepIn K (.ref g2) = true) (mW : mg "are_letters" = some (.ref g2)) (bW : Binds K gd2 ["value"] []) :
    FnOk P w K mg base CX0 6 f fd ["value"] (spIsPairs K) := by
  refine F.ok scIsPairs (fun vs H Q E h => ?_) (fun cdv A outer s H vs Q E hr h => ?_)
  · obtain ⟨_, _, _, rfl, _⟩ := h
    rfl
  · obtain ⟨v, L, qs, rfl, ⟨a, b, rfl, hA, rs, hB, hR⟩, ok, q⟩ := h
    have hr2 : Room 2 _ := hr.mono (by decide)
    have nd := scIsPairs.nd
    obtain ⟨tm, mM⟩ := T.mostR
    refine ⟨_, pss_cons (ps_if (PW.pt (pw_or (pt_not (pt_val (pe_callB call_isi (by rfl) T.isi (by decide +kernel) (pa_cons (pv 0) (pa_cons (pe_bltn (v := .ty "tuple") (by rfl) T.tuple (by decide +kernel) rfl) pa_nil)))))
        (pw_or1 (pt_cmpR op_ne (pe_callB call_len_seq (by rfl) T.len PySem.boot_len (pa_cons (pv 0) pa_nil)) pe_int (nomark _)))))
        (pss_one (ps_ret pe_bl)) pss_nil)
      (pss_cons (ps_asg (pv 0) (pg_tup (by rfl) (pgs_cons (pg_name (i := 1) nd rfl (.inr rfl)) (pgs_cons (pg_name (i := 2) nd rfl (.inl rfl)) pgs_nil))))
      (pss_cons (ps_if (PW.pt (pw_or (pt_not (pt_val (pe_call W hr2 rfl mW kW bW .nil pass0 (pa_cons (pv 1) pa_nil))))
        (pw_or (pt_not (pt_val (pe_callB call_isi (by rfl) T.isi (by decide +kernel) (pa_cons (pv 2) (pa_cons (pe_bltn (v := .ty "tuple") (by rfl) T.tuple (by decide +kernel) rfl) pa_nil)))))
        (pw_or1 (pt_cmpR op_gt (pe_callB call_len_seq (by rfl) T.len PySem.boot_len (pa_cons (pv 2) pa_nil)) (pe_glob (v := .int 24) rfl mM ⟨_, rfl⟩) (nomark _)))))) (pss_one (ps_ret pe_bl)) pss_nil)
      (pss_cons (ps_if (pt_not (pt_val (pe_callB (cr_all rfl) (by rfl) T.all (by decide +kernel) (pa_cons
        (pe_lc (own := [("row", 4)]) (g := gName 4) (tt := tYes) rfl nd (pi_tup (pv 2))
          (blkOk_by (own := [("row", 4)]) (N := ["value", "letters", "rows", "unlike", "row"]) (sc := defScope sIsPairs) (by decide +kernel))
          (fun _ _ _ _ _ => pg_name (i := 4) nd rfl (Or.inl rfl)) (fun _ _ _ _ _ => pts_nil)
          (fun _ _ _ _ _ => pe_call G hr rfl mG kG bG .nil pass0 (pa_cons (pv 4) (pa_cons (pv 1) pa_nil)))) pa_nil)))) (pss_one (ps_ret pe_bl)) pss_nil)
      (pss_cons (ps_setDcT (i := 3) (own := [("row", 4)]) (g := gName 4) (tt := tYes) rfl nd (hu1 hr) rfl rfl (swD rfl rfl rfl (by decide +kernel)) (pi_tup (pv 2))
          (blkOk_by (own := [("row", 4)]) (N := ["value", "letters", "rows", "unlike", "row"]) (sc := defScope sIsPairs) (by decide +kernel))
          (fun _ _ _ _ _ => pg_name (i := 4) nd rfl (Or.inl rfl)) (fun _ _ _ _ _ => pts_nil)
          (fun _ _ _ _ _ => pe_slice (show SlR _ (rSlT K) from sl_tup) (pv 4) po_none (po_some pe_int)) (fun _ _ _ _ _ => pe_bl))
      (pss_one (ps_ret (pe_cmpR op_eq (pe_callB call_len_dT (by rfl) T.len PySem.boot_len (pa_cons (pv 3) pa_nil)) (pe_callB call_len_seq (by rfl) T.len PySem.boot_len (pa_cons (pv 2) pa_nil)) (nomark _)))))))), ?_⟩
    have rl : rs.length = qs.length := Paired.length hR
    have few := ok.few
    have lfew := ok.lets.few
    refine ⟨_, rfl, _, _, .type "tuple", .type "tuple", true, rfl, .ty _, tyT hA, kit_ty (by decide +kernel), true, rfl, iteF ?_⟩
    refine ⟨_, rfl, a, _, rfl, .inr hA, rfl, _, rfl, iteF ?_⟩
    refine ⟨_, rfl, a, _, rfl, hA, rfl, _, _, rfl, _, _, rfl, rfl, ?_⟩
    refine ⟨_, rfl, L, rfl, ok.lets, fun H1 s1 => ⟨true, rfl, iteF ?_⟩⟩
    have hB1 : SqT K H1 b rs := TK.same s1 _ _ hB
    refine ⟨_, rfl, _, _, .type "tuple", .type "tuple", true, rfl, .ty _, tyT hB1, kit_ty (by decide +kernel), true, rfl, iteF ?_⟩
    refine ⟨_, rfl, b, _, rfl, .inr hB1, _, _, rfl, rfl, _, rfl, ?_⟩
    rw [decide_eq_false (show ¬ ((rs.length : Nat) : Int) > 24 by omega)]
    refine iteF ?_
    -- all rows are rows
    refine ⟨_, rfl, b, rfl, ⟨_, hB1⟩, fun D hD => ?_⟩
    refine lc_tup (K := K) (a := b) (xs := rs) (fun i H' => Same H1 H' ∧ H' D = some (.lst ((List.replicate i true).map V.bl))) ⟨same_upd hD, upd_same⟩ (fun i H' _ p => TK.same p.1 _ _ hB1) ?_ ?_
    · rintro i x H2 hi ⟨s2, e2⟩
      obtain ⟨qr, hq, hra⟩ := Paired.at1 hR hi
      have s12 : Same H H2 := s1.trans s2
      refine ⟨rfl, _, rfl, _, rfl, x, L, qr, rfl, hra.mono (TK.same s12), ok.rules qr (List.mem_of_getElem? hq), lfew, _, e2, ?_, fun b' o e => ?_, ?_⟩
      · have h1 := (List.getElem?_eq_some_iff.mp hi).1
        simp
        exact szl (by omega)
      · have nb : b' ≠ D := ne_of_none e hD
        rw [upd_ne nb]
        exact s2 b' o e
      · rw [upd_same, List.replicate_succ']
        simp
    · rintro H2 ⟨s2, e2⟩
      refine ⟨D, _, rfl, SqL.of e2, true, by simp, iteF ?_⟩
      have s12 : Same H H2 := s1.trans s2
      have hB2 : SqT K H2 b rs := TK.same s12 _ _ hB
      -- the unlike ones
      refine ⟨_, rfl, b, rfl, ⟨_, hB2⟩, fun U hU => ?_⟩
      refine dcT_tup (K := K) (a := b) (xs := rs) (fun i H' => Same H2 H' ∧ ∃ kvs, H' U = some (.dT kvs) ∧ KvAt (fun _ _ => True) kvs (qs.take i)) ⟨same_upd hU, _, upd_same, .nil⟩ (fun i H' _ p => TK.same p.1 _ _ hB2) ?_ ?_
      · rintro i x H3 hi ⟨s3, kvs, e3, kv⟩
        obtain ⟨⟨x1, x2, x3⟩, hq, c, d, rfl, hc, hd⟩ := Paired.at1 hR hi
        have hc3 : SqT K H3 c [.str x1, .str x2, .ref d] := TK.same (s12.trans s3) _ _ hc
        have hl := kv.len
        rw [List.length_take] at hl
        refine ⟨rfl, _, rfl, 2, rfl, c, _, rfl, hc3, by show ¬ (HT.sIx 3 0 none = 0 ∧ HT.sIx 3 3 (some 2) = 3); decide, fun p hp => ?_⟩
        have np : U ≠ p := ne_of_none e3 hp
        refine ⟨kvs, kp x1 x2, p, rfl, upd_same, by rw [upd_ne np]; exact e3, szl (by omega), fun b' o e => ?_, _, upd_same, ?_⟩
        · have nb : b' ≠ U := ne_of_none e hU
          rw [upd_ne nb]
          exact same_upd hp _ _ (s3 _ _ e)
        · rw [take_snoc hq]
          exact kv.snoc True.intro (nd_take ok.nd hq)
      · rintro H3 ⟨s3, kvs, e3, kv⟩
        have hB3 : SqT K H3 b rs := TK.same s3 _ _ hB2
        refine ⟨_, rfl, U, kvs, rfl, e3, _, rfl, b, rs, rfl, .inr hB3, rfl, ?_⟩
        have hl := kv.len
        rw [rl, List.take_of_length_le (Nat.le_refl _)] at hl
        rw [decide_eq_true (show V.int ((kvs.length : Nat) : Int) = V.int ((rs.length : Nat) : Int) by rw [hl, rl])]
        exact q H3 (s12.trans s3)
theorem scNeed : FnScope ["value"] ["value"] (defScope sNeed) := ⟨rfl, rfl, rfl, by decide +kernel, rfl, by decide +kernel, by decide +kernel⟩
theorem ok_need {f g : Addr} {fd gd : FuncData} (F : Fun K "need_pairs" "need_pairs" sNeed f fd)
    (G : FnOk P w K mg base CX0 6 g gd ["value"] (spIsPairs K)) (kG : PySem.W.keepIn K (.ref g) = true) (mG : mg "is_pairs" = some (.ref g)) (bG : Binds K gd ["value"] []) :
    FnOk P w K mg base CX0 7 f fd ["value"] (spNeed K) := by
  refine F.ok scNeed (fun vs H Q E h => ?_) (fun cdv A outer s H vs Q E hr h => ?_)
  · obtain ⟨_, _, _, rfl, _⟩ := h
    rfl
  · obtain ⟨v, L, qs, rfl, hP, ok, q⟩ := h
    refine ⟨_, pss_one (ps_if (pt_not (pt_val (pe_call G hr rfl mG kG bG .nil pass0 (pa_cons (pv 0) pa_nil)))) (pss_one ps_never) pss_nil), ?_⟩
    exact ⟨_, rfl, v, L, qs, rfl, hP, ok, fun H1 s1 => ⟨true, rfl, iteF (q H1 s1)⟩⟩
end
end K24

namespace K24
open PySem PySem.Spec PyProof.Rows L2
/-- what stands at the hand and is left behind: a side, or a kern -/
def ItemAt (K : PySem.W.Frag) (H : Hp) (v : V) (ts : List (Thing Str)) : Prop :=
  (∃ x, v = .str x ∧ Sm x ∧ ts = tell S0 x) ∨ ∃ d n, v = .ref d ∧ SqT K H d [.str "kern", .int n] ∧ ts = [.kern n]
theorem ItemAt.mono {K : PySem.W.Frag} {H H' : Hp} {v : V} {ts : List (Thing Str)} (k : TK K H H') (h : ItemAt K H v ts) : ItemAt K H' v ts := by
  rcases h with h | ⟨d, n, e, hs, et⟩
  · exact .inl h
  · exact .inr ⟨d, n, e, k _ _ hs, et⟩
theorem shKern (n : Int) : SeqAt.shaped (.tuple [.str "kern", .int n]) = true := by
  have : PyData.strOk ("kern" : Str) = true := by decide +kernel
  simp [SeqAt.shaped, PyData.canLay0, PyData.canLayAll0, PyData.depth, PyData.depthAll, this]
def spToldOf (K : PySem.W.Frag) : Sp := fun vs H Q _ => ∃ (v : V) (ts : List (Thing Str)), vs = [v] ∧ ItemAt K H v ts ∧ ∀ H' v', Same H H' → Ths K H' v' ts → Q v' H'
/-- what a pair comes to, as the program keeps it -/
def OutAt (K : PySem.W.Frag) (H : Hp) (v : V) (r : List (Thing Str) × Str) : Prop := ∃ a t, v = .ref a ∧ SqT K H a [.int (r.1.length : Nat), t, .str r.2] ∧ (r.1.length ≤ 1000 → Ths K H t r.1) ∧ (1000 < r.1.length → t = .non)
theorem OutAt.mono {K : PySem.W.Frag} {H H' : Hp} {v : V} {r : List (Thing Str) × Str} (k : TK K H H') (h : OutAt K H v r) : OutAt K H' v r := by
  obtain ⟨a, t, e, hs, h1, h2⟩ := h
  exact ⟨a, t, e, k _ _ hs, fun l => (h1 l).mono k, h2⟩
def spJoined (K : PySem.W.Frag) : Sp := fun vs H Q _ => ∃ (v1 v2 : V) (r1 r2 : List (Thing Str) × Str), vs = [v1, v2] ∧ OutAt K H v1 r1 ∧ OutAt K H v2 r2 ∧
  ∀ H' v', Same H H' → OutAt K H' v' (r1.1 ++ r2.1, r2.2) → Q v' H'
def spLeft (K : PySem.W.Frag) : Sp := fun vs H Q _ => ∃ (p a : Addr) (xs : List V) (tss : List (List (Thing Str))) (st : Str), vs = [.ref p, .ref a, .str st] ∧ SqL K H a xs ∧ Paired (ItemAt K H) xs tss ∧ xs.length ≤ 10 ∧ tss.flatten.length ≤ 1000 ∧
  ∀ H' v', Same H H' → OutAt K H' v' (tss.flatten, st) → Q v' H'
section
variable {P : Program} {w : World} {K : PySem.W.Frag} {mg : Str → Option Value} {base : Heap}
theorem scToldOf : FnScope ["item"] ["item"] (defScope sToldOf) := ⟨rfl, rfl, rfl, by decide +kernel, rfl, by decide +kernel, by decide +kernel⟩
theorem ok_toldOf {f : Addr} {fd : FuncData} (F : Fun K "told_of" "told_of" sToldOf f fd) (T : Txt K mg) : FnOk P w K mg base CX0 1 f fd ["item"] (spToldOf K) := by
  refine F.ok scToldOf (fun vs H Q E h => ?_) (fun cdv A outer s H vs Q E hr h => ?_)
  · obtain ⟨_, _, rfl, _⟩ := h
    rfl
  · obtain ⟨v, ts, rfl, hI, q⟩ := h
    refine ⟨_, pss_cons (ps_if (pt_cmpR (op_eqD (hu64 hr)) (pv 0) pe_str (nomark _)) (pss_one (ps_ret (pe_tup pa_nil))) pss_nil)
      (pss_cons (ps_if (pt_val (pe_callB call_isi (by rfl) T.isi (by decide +kernel) (pa_cons (pv 0) (pa_cons (pe_bltn (v := .ty "str") (by rfl) T.str (by decide +kernel) rfl) pa_nil))))
        (pss_one (ps_ret (pe_tup (pa_cons (pe_tup (pa_cons pe_str (pa_cons (pv 0) pa_nil))) pa_nil)))) pss_nil)
      (pss_one (ps_ret (pe_tup (pa_cons (pv 0) pa_nil))))), ?_⟩
    rcases hI with ⟨x, rfl, sm, rfl⟩ | ⟨d, n, rfl, hs, rfl⟩
    · refine ⟨_, rfl, .str x, .str "", .str _, .str _, shX sm, shS, _, rfl, ?_⟩
      by_cases c : x = S0
      · have e : PyData.eqv (.str x) (.str "") = true := by
          rw [c]
          decide +kernel
        rw [e]
        refine iteT ⟨sz (by show 0 ≤ 100000; decide), fun t ht => ?_⟩
        refine q _ _ (same_upd ht) ⟨t, [], rfl, SqT.of upd_same, ?_⟩
        have z : tell S0 x = [] := if_pos c
        rw [z]
        exact .nil
      · have e : PyData.eqv (.str x) (.str "") = false := by
          simp only [PyData.eqv]
          exact beq_eq_false_iff_ne.mpr c
        rw [e]
        refine iteF ⟨_, rfl, _, _, .type "str", .type "str", true, rfl, .ty _, .base (.str _), kit_ty (by decide +kernel), true, rfl, iteT ?_⟩
        refine ⟨_, rfl, sz (by show 2 ≤ 100000; decide), fun p hp => ⟨sz (by show 1 ≤ 100000; decide), fun t ht => ?_⟩⟩
        have s1 : Same H (upd H p (.tup [.str "sign", .str x])) := same_upd hp
        have np : p ≠ t := fun e => by
          rw [← e, upd_same] at ht
          cases ht
        refine q _ _ (s1.trans (same_upd ht)) ⟨t, [.ref p], rfl, SqT.of upd_same, ?_⟩
        have z : tell S0 x = [.sign x] := if_neg c
        rw [z]
        exact .cons ⟨sm, p, rfl, SqT.of (by rw [upd_ne np]; exact upd_same)⟩ .nil
    · refine ⟨_, rfl, .tuple [.str "kern", .int n], .str "", .tup hs (.cons (.str _) (.cons (.int _) .nil)), .str _, shKern n, shS, _, rfl, ?_⟩
      have e : PyData.eqv (.tuple [.str "kern", .int n]) (.str "") = false := by simp [PyData.eqv]
      rw [e]
      refine iteF ⟨_, rfl, _, _, .type "tuple", .type "str", false, rfl, .ty _, tyT hs, kit_ty (by decide +kernel), false, rfl, iteF ?_⟩
      refine ⟨_, rfl, sz (by show 1 ≤ 100000; decide), fun t ht => ?_⟩
      exact q _ _ (same_upd ht) ⟨t, [.ref d], rfl, SqT.of upd_same, .cons ⟨d, rfl, TK.new ht _ _ hs⟩ .nil⟩
theorem scJoined : FnScope ["one", "other", "count", "told"] ["one", "other"] (defScope sJoined) := ⟨rfl, rfl, rfl, by decide +kernel, rfl, by decide +kernel, by decide +kernel⟩
theorem ok_joined {f : Addr} {fd : FuncData} (F : Fun K "joined" "joined" sJoined f fd) (T : Txt K mg) : FnOk P w K mg base CX0 1 f fd ["one", "other"] (spJoined K) := by
  refine F.ok scJoined (fun vs H Q E h => ?_) (fun cdv A outer s H vs Q E hr h => ?_)
  · obtain ⟨_, _, _, _, rfl, _⟩ := h
    rfl
  · obtain ⟨v1, v2, r1, r2, rfl, ⟨a, t1, rfl, hs1, hA1, hB1⟩, ⟨b, t2, rfl, hs2, hA2, hB2⟩, q⟩ := h
    obtain ⟨tl, mL⟩ := T.longS
    have nd := scJoined.nd
    refine ⟨_, pss_cons (ps_set (i := 2) nd rfl (.inl rfl) (pe_op op_add (pe_ix ix_tup (pv 0) pe_int (fun _ _ => rfl)) (pe_ix ix_tup (pv 1) pe_int (fun _ _ => rfl))))
      (pss_cons (ps_set (i := 3) nd rfl (.inl rfl) (pe_ifExp (pt_cmpR op_le (pv 2) (pe_glob (v := .int 1000) rfl mL ⟨_, rfl⟩) (nomark _)) (pe_op op_catA (pe_ix ix_tup (pv 0) pe_int (fun _ _ => rfl)) (pe_ix ix_tup (pv 1) pe_int (fun _ _ => rfl))) pe_non))
      (pss_one (ps_ret (pe_tup (pa_cons (pv 2) (pa_cons (pv 3) (pa_cons (pe_ix ix_tup (pv 1) pe_int (fun _ _ => rfl)) pa_nil))))))), ?_⟩
    refine ⟨_, rfl, a, _, 0, .int (r1.1.length : Nat), rfl, rfl, hs1, rfl, _, rfl, b, _, 0, .int (r2.1.length : Nat), rfl, rfl, hs2, rfl, _, _, rfl, rfl, ?_⟩
    refine ⟨_, rfl, _, 1000, rfl, rfl, _, rfl, ?_⟩
    have len : (((r1.1 ++ r2.1).length : Nat) : Int) = (r1.1.length : Int) + (r2.1.length : Int) := by
      rw [List.length_append]
      omega
    by_cases c : r1.1.length + r2.1.length ≤ 1000
    · rw [decide_eq_true (show ((r1.1.length : Nat) : Int) + ((r2.1.length : Nat) : Int) ≤ 1000 by omega)]
      obtain ⟨c1, us1, rfl, hu1, tl1⟩ := hA1 (by omega)
      obtain ⟨c2, us2, rfl, hu2, tl2⟩ := hA2 (by omega)
      have l1 := tl1.len
      have l2 := tl2.len
      have fin : ∀ (H1 : Hp) (d : Addr), Same H H1 → SqT K H1 d (us1 ++ us2) → ∀ t, H1 t = none → Q (.ref t) (upd H1 t (.tup [.int (((r1.1.length : Nat) : Int) + ((r2.1.length : Nat) : Int)), .ref d, .str r2.2])) := by
        intro H1 d s1 hd t ht
        refine q _ _ (s1.trans (same_upd ht)) ⟨t, .ref d, rfl, ?_, fun _ => ⟨d, us1 ++ us2, rfl, TK.new ht _ _ hd, ?_⟩, fun z => ?_⟩
        · dsimp only
          rw [len]
          exact SqT.of upd_same
        · exact ThL.app (tl1.mono (TK.same (s1.trans (same_upd ht)))) (tl2.mono (TK.same (s1.trans (same_upd ht))))
        · dsimp only at z
          rw [List.length_append] at z
          omega
      refine iteT ⟨_, rfl, a, _, 1, .ref c1, rfl, rfl, hs1, rfl, _, rfl, b, _, 1, .ref c2, rfl, rfl, hs2, rfl, c1, c2, us1, us2, rfl, rfl, hu1, hu2, sz (by omega), fun e => ?_, fun _ e => ?_, fun _ _ p hp => ?_⟩
      · subst e
        refine ⟨_, rfl, _, rfl, _, rfl, b, _, 2, .str r2.2, rfl, rfl, hs2, rfl, sz (by show 3 ≤ 100000; decide), fun t ht => ?_⟩
        exact fin H c2 (Same.refl H) hu2 t ht
      · subst e
        refine ⟨_, rfl, _, rfl, _, rfl, b, _, 2, .str r2.2, rfl, rfl, hs2, rfl, sz (by show 3 ≤ 100000; decide), fun t ht => ?_⟩
        exact fin H c1 (Same.refl H) (by rw [List.append_nil]; exact hu1) t ht
      · refine ⟨_, rfl, _, rfl, _, rfl, b, _, 2, .str r2.2, rfl, rfl, TK.new hp _ _ hs2, rfl, sz (by show 3 ≤ 100000; decide), fun t ht => ?_⟩
        exact fin _ p (same_upd hp) (SqT.of upd_same) t ht
    · rw [decide_eq_false (show ¬ ((r1.1.length : Nat) : Int) + ((r2.1.length : Nat) : Int) ≤ 1000 by omega)]
      refine iteF ⟨_, rfl, _, rfl, _, rfl, b, _, 2, .str r2.2, rfl, rfl, hs2, rfl, sz (by show 3 ≤ 100000; decide), fun t ht => ?_⟩
      refine q _ _ (same_upd ht) ⟨t, .non, rfl, ?_, fun z => ?_, fun _ => rfl⟩
      · dsimp only
        rw [len]
        exact SqT.of upd_same
      · dsimp only at z
        rw [List.length_append] at z
        omega
theorem scLeft : FnScope ["self", "items", "standing", "told", "item", "thing"] ["self", "items", "standing"] (defScope sLeft) := ⟨rfl, rfl, rfl, by decide +kernel, rfl, by decide +kernel, by decide +kernel⟩
theorem flat_snoc {α : Type} {l : List (List α)} {i : Nat} {x : List α} (h : l[i]? = some x) : (l.take (i + 1)).flatten = (l.take i).flatten ++ x := by
  rw [take_snoc h, List.flatten_append]
  simp
theorem flat_le {α : Type} : ∀ (l : List (List α)) (i : Nat), (l.take i).flatten.length ≤ l.flatten.length
  | [], i => by simp
  | x :: r, 0 => by simp
  | x :: r, i + 1 => by
    have := flat_le r i
    simp only [List.take_succ_cons, List.flatten_cons, List.length_append]
    omega
theorem ok_left {f g : Addr} {fd gd : FuncData} (F : Fun K "left_behind" "PairWork.left_behind" sLeft f fd) (T : Txt K mg)
    (G : FnOk P w K mg base CX0 1 g gd ["item"] (spToldOf K)) (kG : PySem.W.keepIn K (.ref g) = true) (mG : mg "told_of" = some (.ref g)) (bG : Binds K gd ["item"] []) :
    FnOk P w K mg base CX0 2 f fd ["self", "items", "standing"] (spLeft K) := by
  refine F.ok scLeft (fun vs H Q E h => ?_) (fun cdv A outer s H vs Q E hr h => ?_)
  · obtain ⟨_, _, _, _, _, rfl, _⟩ := h
    rfl
  · obtain ⟨p, a, xs, tss, st, rfl, hL, hI, hx10, hfl, q⟩ := h
    have nd := scLeft.nd
    refine ⟨_, pss_cons (ps_set (i := 3) nd rfl (.inl rfl) (pe_callTy call_tuple_of (by rfl) T.tuple (by decide +kernel) (pa_cons
        (pe_lc2 (own := [("item", 4), ("thing", 5)]) (vs1 := [5]) (wi1 := iTup K (tCall (spToldOf K) [] E0 (tCons (tVar 4) tNil))) (g := gName 4) (g1 := gName 5) (tt := tYes) (tt1 := tYes) rfl nd (pi_list (pv 1))
          (blkOk_by (own := [("item", 4), ("thing", 5)]) (N := ["self", "items", "standing", "told", "item", "thing"]) (sc := defScope sLeft) (by decide +kernel)) (by decide)
          (fun _ _ _ _ _ => pg_name (i := 4) nd rfl (Or.inl rfl)) (fun _ _ _ _ _ => pts_nil)
          (fun _ _ _ _ _ => pi_tup (by exact pe_call G hr rfl mG kG bG .nil pass0 (pa_cons (pv 4) pa_nil)))
          (fun _ _ _ _ _ => pg_name (i := 5) nd rfl (Or.inl rfl)) (fun _ _ _ _ _ => pts_nil)
          (fun _ _ _ _ _ => pv 5)) pa_nil)))
      (pss_one (ps_ret (pe_tup (pa_cons (pe_callB call_len_seq (by rfl) T.len PySem.boot_len (pa_cons (pv 3) pa_nil)) (pa_cons (pv 3) (pa_cons (pv 2) pa_nil)))))), ?_⟩
    have ll : xs.length = tss.length := Paired.length hI
    refine ⟨_, rfl, a, rfl, ⟨_, hL⟩, fun D hD => ?_⟩
    refine ⟨fun i m H' => m = xs.length - i ∧ i ≤ xs.length ∧ Same H H' ∧ ∃ acc, H' D = some (.lst acc) ∧ ThL K H' acc (tss.take i).flatten, ⟨_, rfl, Nat.zero_le _, same_upd hD, [], upd_same, .nil⟩, ?_⟩
    rintro i m H1 ⟨rfl, hi, s1, acc, e1, t1⟩
    have hL1 : SqL K H1 a xs := s1.seq hL
    by_cases lt : i < xs.length
    · refine .inr ⟨⟨xs, xs[i], hL1, List.getElem?_eq_getElem lt⟩, fun H' => Same H H' ∧ ∃ acc, H' D = some (.lst acc) ∧ ThL K H' acc (tss.take (i + 1)).flatten, fun H' nx => ⟨xs.length - (i + 1), by omega, rfl, lt, nx⟩, fun x H2 y => ?_⟩
      obtain ⟨rfl, y⟩ := y
      have hx := y xs hL1
      obtain ⟨ts, hts, hit⟩ := Paired.at1 hI hx
      refine ⟨rfl, _, rfl, x, ts, rfl, hit.mono (TK.same s1), fun H3 v' s3 hv => ?_⟩
      obtain ⟨b, us, rfl, hb, tb⟩ := hv
      have e3 := s3 _ _ e1
      have ub := tb.len
      have fl := flat_le tss (i + 1)
      rw [flat_snoc hts, List.length_append] at fl
      have al := t1.len
      refine ⟨b, rfl, ⟨us, hb⟩, ?_⟩
      refine ⟨fun j k H' => k = us.length - j ∧ j ≤ us.length ∧ Same H H' ∧ SqT K H' b us ∧ H' D = some (.lst (acc ++ us.take j)) ∧ ThL K H' acc (tss.take i).flatten ∧ ThL K H' us ts,
        ⟨_, rfl, Nat.zero_le _, s1.trans s3, hb, by rw [List.take_zero, List.append_nil]; exact e3, t1.mono (TK.same s3), tb⟩, ?_⟩
      rintro j k H4 ⟨rfl, hj, s4, hb4, e4, ta4, tb4⟩
      by_cases lj : j < us.length
      · refine .inr ⟨⟨us, us[j], hb4, List.getElem?_eq_getElem lj⟩, fun H' => Same H H' ∧ SqT K H' b us ∧ H' D = some (.lst (acc ++ us.take (j + 1))) ∧ ThL K H' acc (tss.take i).flatten ∧ ThL K H' us ts, fun H' nx => ⟨us.length - (j + 1), by omega, rfl, lj, nx⟩, fun z H5 yz => ?_⟩
        obtain ⟨rfl, yz⟩ := yz
        have hz := yz us hb4
        have tk : TK K H5 (upd H5 D (.lst ((acc ++ us.take j) ++ [z]))) := TK.upd e4 True.intro
        refine ⟨rfl, z, rfl, _, e4, ?_, fun b' o e => ?_, tk _ _ hb4, ?_, ta4.mono tk, tb4.mono tk⟩
        · rw [List.length_append, List.length_take]
          exact szl (by omega)
        · have nb : b' ≠ D := ne_of_none e hD
          rw [upd_ne nb]
          exact s4 _ _ e
        · rw [upd_same, take_snoc hz, List.append_assoc]
      · have ej : j = us.length := by omega
        subst ej
        refine .inl ⟨⟨us, hb4, Nat.le_refl _⟩, s4, _, e4, ?_⟩
        rw [List.take_length, flat_snoc hts]
        exact ta4.app tb4
    · have ei : i = xs.length := by omega
      subst ei
      refine .inl ⟨⟨xs, hL1, Nat.le_refl _⟩, D, acc, rfl, .inl ⟨SqL.of e1, fun t ht => ?_⟩⟩
      rw [ll, List.take_length] at t1
      have al := t1.len
      have st1 := same_upd (o := .tup acc) ht
      refine ⟨_, rfl, t, acc, rfl, .inr (SqT.of upd_same), _, rfl, _, rfl, sz (by show 3 ≤ 100000; decide), fun u hu => ?_⟩
      have nt : t ≠ u := fun e => by
        rw [← e, upd_same] at hu
        cases hu
      have sf := (s1.trans st1).trans (same_upd (o := .tup [.int (acc.length : Nat), .ref t, .str st]) hu)
      refine q _ _ sf ⟨u, .ref t, rfl, ?_, fun _ => ⟨t, acc, rfl, SqT.of (by rw [upd_ne nt]; exact upd_same), ?_⟩, fun z => ?_⟩
      · dsimp only
        rw [← al]
        exact SqT.of upd_same
      · exact t1.mono (TK.same (st1.trans (same_upd hu)))
      · dsimp only at z
        omega
end
end K24

namespace K24
open PySem PySem.Spec PyProof.Rows L2
/-! ### few keys -/
theorem nd_sub {α : Type} [DecidableEq α] : ∀ {l m : List α}, l.Nodup → (∀ x ∈ l, x ∈ m) → l.length ≤ m.length
  | [], m, _, _ => Nat.zero_le _
  | a :: l, m, nd, h => by
    obtain ⟨h1, h2⟩ := List.nodup_cons.mp nd
    have ha := h a List.mem_cons_self
    have ih := nd_sub (l := l) (m := m.erase a) h2 fun x hx => by
      have ne : x ≠ a := fun e => h1 (e ▸ hx)
      exact (List.mem_erase_of_ne ne).mpr (h x (List.mem_cons_of_mem _ hx))
    have le := List.length_erase_of_mem ha
    have pos : 0 < m.length := List.length_pos_of_mem ha
    rw [List.length_cons]
    omega
def Dom (L : Str) (kvs : List (List L2.Key × V)) : Prop := (kvs.map (·.1)).Nodup ∧ ∀ k ∈ kvs.map (·.1), ∃ a b, IsSide L a ∧ IsSide L b ∧ k = kp a b
def sidesOf (L : Str) : List Str := S0 :: L.cps.toList.map sg
theorem side_mem {L a : Str} (h : IsSide L a) : a ∈ sidesOf L := by
  rcases h with h | ⟨c, hc, h⟩
  · rw [h]
    exact List.mem_cons_self
  · rw [h]
    exact List.mem_cons_of_mem _ (List.mem_map.mpr ⟨c, hc, rfl⟩)
theorem Dom.len {L : Str} {kvs : List (List L2.Key × V)} (ok : LetOk L) (h : Dom L kvs) : kvs.length ≤ 81 := by
  have l1 : (sidesOf L).length ≤ 9 := by
    unfold sidesOf
    rw [List.length_cons, List.length_map]
    have := ok.few
    omega
  have sub := nd_sub (m := (sidesOf L).flatMap fun a => (sidesOf L).map fun b => kp a b) h.1 fun k hk => by
    obtain ⟨a, b, ha, hb, e⟩ := h.2 k hk
    rw [e]
    exact List.mem_flatMap.mpr ⟨a, side_mem ha, List.mem_map.mpr ⟨b, side_mem hb, rfl⟩⟩
  rw [List.length_map] at sub
  have e : ((sidesOf L).flatMap fun a => (sidesOf L).map fun b => kp a b).length = (sidesOf L).length * (sidesOf L).length := by
    have key : ∀ (l m : List Str), (l.flatMap fun a => m.map fun b => kp a b).length = l.length * m.length := by
      intro l m
      induction l with
      | nil => simp
      | cons a l ih =>
        rw [List.flatMap_cons, List.length_append, ih, List.length_map, List.length_cons, Nat.succ_mul]
        omega
    exact key _ _
  rw [e] at sub
  have : (sidesOf L).length * (sidesOf L).length ≤ 9 * 9 := Nat.mul_le_mul l1 l1
  omega
theorem Dom.nil {L : Str} : Dom L [] := ⟨List.nodup_nil, fun k hk => nomatch hk⟩
theorem map_fst_put {kvs : List (List L2.Key × V)} {k : List L2.Key} {v : V} : (kvs.map fun kv => if kv.1 = k then (kv.1, v) else kv).map (·.1) = kvs.map (·.1) := by
  rw [List.map_map]
  refine List.map_congr_left fun kv _ => ?_
  show (if kv.1 = k then (kv.1, v) else kv).1 = kv.1
  split <;> rfl
theorem Dom.put {L : Str} {kvs : List (List L2.Key × V)} {a b : Str} (v : V) (h : Dom L kvs) (ha : IsSide L a) (hb : IsSide L b) : Dom L (putK kvs (kp a b) v) := by
  cases e : valV kvs (kp a b) with
  | none =>
    refine ⟨nd_putK v h.1 e, ?_⟩
    rw [putK_new v e]
    intro k hk
    rw [List.map_append] at hk
    rcases List.mem_append.mp hk with m | m
    · exact h.2 k m
    · exact ⟨a, b, ha, hb, List.mem_singleton.mp m⟩
  | some u =>
    have z : putK kvs (kp a b) v = kvs.map fun kv => if kv.1 = kp a b then (kv.1, v) else kv := by
      unfold putK
      rw [valV_any, e]
      exact if_pos rfl
    rw [z]
    unfold Dom
    rw [map_fst_put]
    exact h
/-! ### what remains to be begun -/
def remS (qs : List Rule) (S : List (Str × Str)) : Nat := (qs.filter fun q => decide ((q.1, q.2.1) ∉ S)).length
theorem filter_lt {α : Type} {p q : α → Bool} : ∀ {l : List α}, (∀ x, q x = true → p x = true) → (∃ x ∈ l, p x = true ∧ q x = false) → (l.filter q).length < (l.filter p).length
  | [], _, h => by
    obtain ⟨x, hx, _⟩ := h
    cases hx
  | a :: l, imp, h => by
    have le : (l.filter q).length ≤ (l.filter p).length := by
      clear h
      induction l with
      | nil => exact Nat.le_refl _
      | cons b l ih =>
        rw [List.filter_cons, List.filter_cons]
        cases hq : q b with
        | true =>
          rw [imp b hq]
          simpa using ih
        | false =>
          cases hp : p b with
          | true => simp; omega
          | false => simpa using ih
    rw [List.filter_cons, List.filter_cons]
    obtain ⟨x, hx, h1, h2⟩ := h
    rcases List.mem_cons.mp hx with e | m
    · subst e
      rw [h1, h2]
      simp
      omega
    · have ih := filter_lt (l := l) imp ⟨x, m, h1, h2⟩
      cases hq : q a with
      | true =>
        rw [imp a hq]
        simpa using ih
      | false =>
        cases hp : p a with
        | true => simp; omega
        | false => simpa using ih
theorem rem_lt {qs : List Rule} {S : List (Str × Str)} {q : Rule} (hq : q ∈ qs) (n : (q.1, q.2.1) ∉ S) : remS qs ((q.1, q.2.1) :: S) < remS qs S := by
  refine filter_lt (fun x hx => ?_) ⟨q, hq, decide_eq_true n, decide_eq_false fun z => z List.mem_cons_self⟩
  have := of_decide_eq_true hx
  exact decide_eq_true fun m => this (List.mem_cons_of_mem _ m)
theorem rem_le {qs : List Rule} {S : List (Str × Str)} : remS qs S ≤ qs.length := List.length_filter_le _ _
/-! ### standings stay sides -/
section
variable {L : Str} {qs : List Rule}
theorem f_rule {a b : Str} {d : Deed Str} (h : fOf qs a b = some d) : ∃ q ∈ qs, q.1 = a ∧ q.2.1 = b ∧ q.2.2 = d := by
  unfold fOf at h
  obtain ⟨q, hq, e⟩ := Option.map_eq_some_iff.mp h
  have m := List.mem_of_find?_eq_some hq
  have c0 : decide (q.1 = a ∧ q.2.1 = b) = true := List.find?_some (p := fun q : Rule => decide (q.1 = a ∧ q.2.1 = b)) hq
  have c := of_decide_eq_true c0
  exact ⟨q, m, c.1, c.2, e⟩
theorem row_side (ok : ProgOk L qs) {a b x : Str} {l r : Bool} {on : Nat} (ha : IsSide L a) (hb : IsSide L b) (h : fOf qs a b = some (.put x l r on)) : ∀ y ∈ rowOf a b x l r, IsSide L y := by
  obtain ⟨q, hq, e1, e2, e3⟩ := f_rule h
  have d := (ok.rules q hq).d
  rw [e3] at d
  have hx : IsSide L x := .inr d.1
  intro y hy
  unfold rowOf at hy
  rcases List.mem_append.mp hy with m | m
  · rcases List.mem_append.mp m with m | m
    · split at m
      · rw [List.mem_singleton.mp m]; exact ha
      · cases m
    · rw [List.mem_singleton.mp m]; exact hx
  · split at m
    · rw [List.mem_singleton.mp m]; exact hb
    · cases m
theorem row_len {a b x : Str} {l r : Bool} : ((rowOf a b x l r).length : Int) = b2 l + b2 r + 1 := by
  cases l <;> cases r <;> rfl
theorem row_on (ok : ProgOk L qs) {a b x : Str} {l r : Bool} {on : Nat} (h : fOf qs a b = some (.put x l r on)) : on < (rowOf a b x l r).length := by
  obtain ⟨q, hq, e1, e2, e3⟩ := f_rule h
  have d := (ok.rules q hq).d
  rw [e3] at d
  have l1 := row_len (a := a) (b := b) (x := x) (l := l) (r := r)
  have := d.2.2.2
  omega
theorem row_ne (ok : ProgOk L qs) (a b x : Str) (l r : Bool) (on : Nat) (h : fOf qs a b = some (.put x l r on)) : (rowOf a b x l r).drop on ≠ [] := by
  have := row_on ok h
  intro e
  have l := congrArg List.length e
  rw [List.length_drop] at l
  simp at l
  omega
theorem evs_side {n : Nat} (ih : ∀ a b r, IsSide L a → IsSide L b → ev S0 (fOf qs) n a b = some r → IsSide L r.2) : ∀ (xs : List Str) (a : Str) (r), IsSide L a → (∀ x ∈ xs, IsSide L x) → evs (ev S0 (fOf qs) n) a xs = some r → IsSide L r.2
  | [], a, r, ha, _, q => by
    have z : r = ([], a) := (Option.some.inj q).symm
    subst z
    exact ha
  | x :: xs, a, r, ha, hx, q => by
    rw [evs_cons] at q
    cases e1 : ev S0 (fOf qs) n a x with
    | none => rw [e1] at q; cases q
    | some r1 =>
      rw [e1] at q
      dsimp only at q
      cases e2 : evs (ev S0 (fOf qs) n) r1.2 xs with
      | none => rw [e2] at q; cases q
      | some r2 =>
        rw [e2] at q
        have z : r = (r1.1 ++ r2.1, r2.2) := (Option.some.inj q).symm
        subst z
        exact evs_side ih xs r1.2 r2 (ih a x r1 ha (hx x List.mem_cons_self) e1) (fun y hy => hx y (List.mem_cons_of_mem _ hy)) e2
theorem ev_side (ok : ProgOk L qs) : ∀ (n : Nat) (a b : Str) (r), IsSide L a → IsSide L b → ev S0 (fOf qs) n a b = some r → IsSide L r.2
  | 0, _, _, _, _, _, q => by cases q
  | n + 1, a, b, r, ha, hb, q => by
    have q : came S0 (ev S0 (fOf qs) n) a b (fOf qs a b) = some r := q
    cases hf : fOf qs a b with
    | none =>
      rw [hf] at q
      have z : r = (tell S0 a, b) := (Option.some.inj q).symm
      subst z
      exact hb
    | some d =>
      rw [hf] at q
      cases d with
      | kern c =>
        have z : r = (tell S0 a ++ [.kern c], b) := (Option.some.inj q).symm
        subst z
        exact hb
      | put x l r' on =>
        unfold came at q
        dsimp only at q
        cases e1 : (rowOf a b x l r').drop on with
        | nil => rw [e1] at q; cases q
        | cons y ys =>
          rw [e1] at q
          dsimp only at q
          have hs := row_side ok ha hb hf
          have sub : ∀ z ∈ y :: ys, IsSide L z := fun z hz => hs z (List.mem_of_mem_drop (by rw [e1]; exact hz))
          cases e2 : evs (ev S0 (fOf qs) n) y ys with
          | none => rw [e2] at q; cases q
          | some r2 =>
            rw [e2] at q
            have z : r = (tells S0 ((rowOf a b x l r').take on) ++ r2.1, r2.2) := (Option.some.inj q).symm
            subst z
            exact evs_side (fun a b r => ev_side ok n a b r) ys y r2 (sub y List.mem_cons_self) (fun z hz => sub z (List.mem_cons_of_mem _ hz)) e2
theorem Goes.side (ok : ProgOk L qs) {a b : Str} {r} (ha : IsSide L a) (hb : IsSide L b) (h : Goes S0 (fOf qs) a b r) : IsSide L r.2 := by
  obtain ⟨n, h⟩ := h
  exact ev_side ok n a b r ha hb h
theorem GoesAll.side (ok : ProgOk L qs) {a : Str} {xs : List Str} {r} (ha : IsSide L a) (hx : ∀ x ∈ xs, IsSide L x) (h : GoesAll S0 (fOf qs) a xs r) : IsSide L r.2 := by
  obtain ⟨n, h⟩ := h
  exact evs_side (fun a b r => ev_side ok n a b r) xs a r ha hx h
end
end K24

namespace K24
open PySem PySem.Spec PyProof.Rows L2
/-! ### a work of pairs -/
def flds (L : Str) (dd dn ds : Addr) : List (Str × V) := putF "started" (.ref ds) (putF "done" (.ref dn) (putF "deeds" (.ref dd) (putF "letters" (.str L) [])))
section
variable (L : Str) (dd dn ds : Addr)
theorem fl_started : (flds L dd dn ds).lookup ("started" : Str) = some (.ref ds) := by
  unfold flds
  rw [lookup_putF, if_pos rfl]
theorem fl_done : (flds L dd dn ds).lookup ("done" : Str) = some (.ref dn) := by
  unfold flds
  rw [lookup_putF, if_neg (by decide +kernel), lookup_putF, if_pos rfl]
theorem fl_deeds : (flds L dd dn ds).lookup ("deeds" : Str) = some (.ref dd) := by
  unfold flds
  rw [lookup_putF, if_neg (by decide +kernel), lookup_putF, if_neg (by decide +kernel), lookup_putF, if_pos rfl]
theorem fl_no {m : Str} (h1 : ¬ m = "started") (h2 : ¬ m = "done") (h3 : ¬ m = "deeds") (h4 : ¬ m = "letters") : (flds L dd dn ds).lookup m = none := by
  unfold flds
  rw [lookup_putF, if_neg h1, lookup_putF, if_neg h2, lookup_putF, if_neg h3, lookup_putF, if_neg h4]
  rfl
end
def Truth (K : PySem.W.Frag) (H : Hp) (qs : List Rule) (a b : Str) (v : V) : Prop := (v = .non ∧ Never S0 (fOf qs) a b) ∨ ∃ r, OutAt K H v r ∧ Goes S0 (fOf qs) a b r
theorem Truth.mono {K : PySem.W.Frag} {H H' : Hp} {qs : List Rule} {a b : Str} {v : V} (k : TK K H H') (h : Truth K H qs a b v) : Truth K H' qs a b v := by
  rcases h with h | ⟨r, h1, h2⟩
  · exact .inl h
  · exact .inr ⟨r, h1.mono k, h2⟩
structure WorkAt (K : PySem.W.Frag) (C : Addr) (H : Hp) (p dd dn ds : Addr) (L : Str) (qs : List Rule) (S : List (Str × Str)) : Prop where
  ob : ∃ dx, H p = some (.ins C dx (flds L dd dn ds))
  deeds : ∃ kvs, H dd = some (.dT kvs) ∧ KvAt (fun v q => ∃ d, v = .ref d ∧ DeedAt K H d q.2.2) kvs qs
  n1 : dd ≠ dn
  n2 : dd ≠ ds
  n3 : dn ≠ ds
  tb : ∃ done started, H dn = some (.dT done) ∧ H ds = some (.dT started) ∧ Dom L done ∧ Dom L started ∧ (∀ a b v, valV done (kp a b) = some v → Truth K H qs a b v) ∧
    ∀ a b, (valV started (kp a b)).isSome = true ↔ ((valV done (kp a b)).isSome = true ∨ (a, b) ∈ S)
/-- what the promises say of a heap behind: all stands but the two tables, which are those of a work -/
theorem WorkAt.tk {K : PySem.W.Frag} {C : Addr} {H H' : Hp} {p dd dn ds : Addr} {L : Str} {qs : List Rule} {S : List (Str × Str)} (w : WorkAt K C H p dd dn ds L qs S) (h : Sb [dn, ds] H H') : TK K H H' := by
  obtain ⟨done, started, h1, h2, _⟩ := w.tb
  refine h.tk fun c hc => ?_
  rcases List.mem_cons.mp hc with e | m
  · subst e
    exact ⟨_, h1, True.intro⟩
  · have e := List.mem_singleton.mp m
    subst e
    exact ⟨_, h2, True.intro⟩
/-- new things beside a work -/
theorem WorkAt.same {K : PySem.W.Frag} {C : Addr} {H H' : Hp} {p dd dn ds : Addr} {L : Str} {qs : List Rule} {S : List (Str × Str)} (w : WorkAt K C H p dd dn ds L qs S) (h : Same H H') : WorkAt K C H' p dd dn ds L qs S := by
  obtain ⟨⟨dx, ob⟩, ⟨kvs, hd, kv⟩, n1, n2, n3, done, started, h1, h2, d1, d2, tr, st⟩ := w
  have k : TK K H H' := TK.same h
  refine ⟨⟨dx, h _ _ ob⟩, ⟨kvs, h _ _ hd, Paired.mapP kv fun _ _ z => ⟨z.1, ?_⟩⟩, n1, n2, n3, done, started, h _ _ h1, h _ _ h2, d1, d2, fun a b v e => (tr a b v e).mono k, st⟩
  obtain ⟨_, d, e, hd⟩ := z
  exact ⟨d, e, hd.mono k⟩
def spPInit (K : PySem.W.Frag) (C : Addr) : Sp := fun vs H Q _ => ∃ (p dx : Addr) (v : V) (L : Str) (qs : List Rule), vs = [.ref p, v] ∧ H p = some (.ins C dx []) ∧ ProgAt K H v L qs ∧ ProgOk L qs ∧
  ∀ H' dd dn ds, (∀ b o, H b = some o → b ≠ p → H' b = some o) → H dn = none → H ds = none → WorkAt K C H' p dd dn ds L qs [] → Q .non H'
def spOutcome (K : PySem.W.Frag) (C : Addr) (n : Nat) : Sp := fun vs H Q _ => ∃ (p dd dn ds : Addr) (L : Str) (qs : List Rule) (S : List (Str × Str)) (a b : Str), vs = [.ref p, .str a, .str b] ∧ WorkAt K C H p dd dn ds L qs S ∧ ProgOk L qs ∧
  IsSide L a ∧ IsSide L b ∧ Needs S0 (fOf qs) S a b ∧ remS qs S < n ∧
  ∀ H' v, Sb [dn, ds] H H' → WorkAt K C H' p dd dn ds L qs S → Truth K H' qs a b v → Q v H'
def spWorked (K : PySem.W.Frag) (C : Addr) (n : Nat) : Sp := fun vs H Q _ => ∃ (p dd dn ds : Addr) (L : Str) (qs : List Rule) (S : List (Str × Str)) (a b : Str), vs = [.ref p, .str a, .str b] ∧ WorkAt K C H p dd dn ds L qs ((a, b) :: S) ∧ ProgOk L qs ∧
  IsSide L a ∧ IsSide L b ∧ Needs S0 (fOf qs) S a b ∧ (a, b) ∉ S ∧ remS qs S < n + 1 ∧
  ∀ H' v, Sb [dn, ds] H H' → WorkAt K C H' p dd dn ds L qs ((a, b) :: S) → Truth K H' qs a b v → Q v H'
/-- what the walk asks of the class -/
structure ClsT (K : PySem.W.Frag) (C : Addr) : Prop where
  cl : Cls K C
  fL : NoAttr K C "letters"
  fD : NoAttr K C "deeds"
  fN : NoAttr K C "done"
  fS : NoAttr K C "started"
section
variable {P : Program} {w : World} {K : PySem.W.Frag} {mg : Str → Option Value} {base : Heap}
theorem scPInit : FnScope ["self", "pairs", "left", "right", "deed"] ["self", "pairs"] (defScope sPInit) := ⟨rfl, rfl, rfl, by decide +kernel, rfl, by decide +kernel, by decide +kernel⟩
theorem ok_pinit {f C : Addr} {fd : FuncData} (F : Fun K "__init__" "PairWork.__init__" sPInit f fd) (TC : ClsT K C) : FnOk P w K mg base CX0 1 f fd ["self", "pairs"] (spPInit K C) := by
  refine F.ok scPInit (fun vs H Q E h => ?_) (fun cdv A outer s H vs Q E hr h => ?_)
  · obtain ⟨_, _, _, _, _, rfl, _⟩ := h
    rfl
  · obtain ⟨p, dx, v, L, qs, rfl, hp, ⟨a, b, rfl, hA, rs, hB, hR⟩, ok, q⟩ := h
    have nd := scPInit.nd
    refine ⟨_, pss_cons (ps_fld (pv 0) (pe_ix ix_tup (pv 1) pe_int (fun _ _ => rfl)) rfl)
      (pss_cons (ps_fld (pv 0) (pe_dcT (own := [("left", 2), ("right", 3), ("deed", 4)]) (g := gTup K 3 (gCons (gName 2) (gCons (gName 3) (gCons (gName 4) gNil)))) (tt := tYes) rfl nd (hu1 hr)
          (pi_tup (pe_ix ix_tup (pv 1) pe_int (fun _ _ => rfl)))
          (blkOk_by (own := [("left", 2), ("right", 3), ("deed", 4)]) (N := ["self", "pairs", "left", "right", "deed"]) (sc := defScope sPInit) (by decide +kernel))
          (fun _ _ _ _ _ => pg_tup (by rfl) (pgs_cons (pg_name (i := 2) nd rfl (.inl rfl)) (pgs_cons (pg_name (i := 3) nd rfl (.inl rfl)) (pgs_cons (pg_name (i := 4) nd rfl (.inl rfl)) pgs_nil))))
          (fun _ _ _ _ _ => pts_nil) (fun _ _ _ _ _ => pe_tup (pa_cons (pv 2) (pa_cons (pv 3) pa_nil))) (fun _ _ _ _ _ => pv 4)) rfl)
      (pss_cons (ps_fld (pv 0) pe_dnewT rfl) (pss_one (ps_fld (pv 0) pe_dnewT rfl)))), ?_⟩
    -- self.letters = pairs[0]
    refine ⟨_, rfl, a, _, 0, .str L, rfl, rfl, hA, rfl, _, rfl, p, C, dx, [], rfl, hp, TC.cl, TC.fL, (by show 0 < 1000; decide), ?_⟩
    have k1 : TK K H (upd H p (.ins C dx (putF "letters" (.str L) []))) := TK.upd hp True.intro
    -- self.deeds = {..}
    refine ⟨_, rfl, a, _, 1, .ref b, rfl, rfl, k1 _ _ hA, rfl, b, rfl, ⟨rs, k1 _ _ hB⟩, fun D hD => ?_⟩
    have nDp : D ≠ p := fun e => by
      rw [e, upd_same] at hD
      cases hD
    have hD0 : H D = none := by
      rw [upd_ne nDp] at hD
      exact hD
    refine dcT_tup (K := K) (a := b) (xs := rs) (fun i H' => (∀ b o, H b = some o → b ≠ p → H' b = some o) ∧ H' p = some (.ins C dx (putF "letters" (.str L) [])) ∧ TK K H H' ∧ ∃ kvs, H' D = some (.dT kvs) ∧ KvAt (fun v q => ∃ d, v = .ref d ∧ DeedAt K H d q.2.2) kvs (qs.take i)) ?_ (fun i H' _ x => x.2.2.1 _ _ hB) ?_ ?_
    · refine ⟨fun b' o e n => ?_, ?_, k1.trans (TK.new hD), [], upd_same, .nil⟩
      · rw [upd_ne (ne_of_none e hD0), upd_ne n]
        exact e
      · rw [upd_ne nDp.symm]
        exact upd_same
    · rintro i x H2 hi ⟨s2, e2, k2, kvs, hD2, kv⟩
      obtain ⟨⟨x1, x2, x3⟩, hq, c, d, rfl, hc, hd⟩ := Paired.at1 hR hi
      have hc : SqT K H c [.str x1, .str x2, .ref d] := hc
      have hl := kv.len
      rw [List.length_take] at hl
      have few := ok.few
      refine ⟨c, _, rfl, k2 _ _ hc, rfl, _, _, rfl, _, _, rfl, _, _, rfl, rfl, rfl, ?_⟩
      refine ⟨_, rfl, _, rfl, sz (by show 2 ≤ 100000; decide), fun t ht => ?_⟩
      have nDt : D ≠ t := ne_of_none hD2 ht
      have npt : p ≠ t := ne_of_none e2 ht
      have e3 : (upd H2 t (.tup [.str x1, .str x2])) D = some (.dT kvs) := by
        rw [upd_ne nDt]
        exact hD2
      refine ⟨_, rfl, kvs, kp x1 x2, t, rfl, upd_same, e3, szl (by omega), fun b' o e n => ?_, ?_, (k2.trans (TK.new ht)).trans (TK.upd e3 True.intro), _, upd_same, ?_⟩
      · rw [upd_ne (ne_of_none e hD0)]
        exact same_upd ht _ _ (s2 _ _ e n)
      · rw [upd_ne nDp.symm, upd_ne npt]
        exact e2
      · rw [take_snoc hq]
        exact kv.snoc ⟨d, rfl, hd⟩ (nd_take ok.nd hq)
    · rintro H2 ⟨s2, e2, k2, kvs, hD2, kv⟩
      have rl : rs.length = qs.length := Paired.length hR
      rw [rl, List.take_of_length_le (Nat.le_refl _)] at kv
      refine ⟨_, rfl, p, C, dx, _, rfl, e2, TC.cl, TC.fD, (by show 1 < 1000; decide), fun N hN => ?_⟩
      have nNp : N ≠ p := fun e => by
        rw [e, upd_same] at hN
        cases hN
      have hN2 : H2 N = none := by
        rw [upd_ne nNp] at hN
        exact hN
      refine ⟨_, rfl, p, C, dx, putF "deeds" (.ref D) (putF "letters" (.str L) []), rfl, by rw [upd_ne nNp.symm]; exact upd_same, TC.cl, TC.fN, (by show 2 < 1000; decide), fun S hS => ?_⟩
      have nSp : S ≠ p := fun e => by
        rw [e, upd_same] at hS
        cases hS
      have nSN : S ≠ N := fun e => by
        rw [upd_ne nSp, e, upd_same] at hS
        cases hS
      have hS2 : H2 S = none := by
        rw [upd_ne nSp, upd_ne nSN, upd_ne nSp] at hS
        exact hS
      refine ⟨_, rfl, p, C, dx, putF "done" (.ref N) (putF "deeds" (.ref D) (putF "letters" (.str L) [])), rfl, by rw [upd_ne nSp.symm]; exact upd_same, TC.cl, TC.fS, (by show 3 < 1000; decide), ?_⟩
      have nDN : D ≠ N := ne_of_none hD2 hN2
      have nDS : D ≠ S := ne_of_none hD2 hS2
      have free : ∀ z, H2 z = none → z ≠ p → H z = none := fun z e n => by
        cases ez : H z with
        | none => rfl
        | some o =>
          rw [s2 _ _ ez n] at e
          cases e
      have tkf : TK K H2 (upd (upd (upd (upd (upd H2 p (.ins C dx (putF "deeds" (.ref D) (putF "letters" (.str L) [])))) N (.dT [])) p (.ins C dx (putF "done" (.ref N) (putF "deeds" (.ref D) (putF "letters" (.str L) []))))) S (.dT [])) p (.ins C dx (flds L D N S))) := by
        refine (((TK.upd e2 True.intro).trans (TK.new hN)).trans (TK.upd (p := p) (o := .ins C dx (putF "deeds" (.ref D) (putF "letters" (.str L) []))) ?_ True.intro)).trans ((TK.new hS).trans (TK.upd (p := p) (o := .ins C dx (putF "done" (.ref N) (putF "deeds" (.ref D) (putF "letters" (.str L) [])))) ?_ True.intro))
        · rw [upd_ne nNp.symm]
          exact upd_same
        · rw [upd_ne nSp.symm]
          exact upd_same
      refine q _ D N S (fun b' o e n => ?_) (free N hN2 nNp) (free S hS2 nSp) ⟨⟨dx, upd_same⟩, ⟨kvs, ?_, Paired.mapP kv fun _ _ z => ⟨z.1, ?_⟩⟩, nDN, nDS, nSN.symm, [], [], ?_, ?_, Dom.nil, Dom.nil, fun a b v e => ?_, fun a b => ?_⟩
      · have e2' := s2 _ _ e n
        rw [upd_ne n, upd_ne (ne_of_none e2' hS2), upd_ne n, upd_ne (ne_of_none e2' hN2), upd_ne n]
        exact e2'
      · rw [upd_ne nDp, upd_ne nDS, upd_ne nDp, upd_ne nDN, upd_ne nDp]
        exact hD2
      · obtain ⟨_, d, e, hd⟩ := z
        exact ⟨d, e, hd.mono (k2.trans tkf)⟩
      · rw [upd_ne nNp, upd_ne nSN.symm, upd_ne nNp]
        exact upd_same
      · rw [upd_ne nSp]
        exact upd_same
      · cases e
      · simp [valV]
end
end K24

namespace K24
open PySem PySem.Spec PyProof.Rows L2
section
variable {K : PySem.W.Frag} {C : Addr} {H H' : Hp} {p dd dn ds : Addr} {L : Str} {qs : List Rule} {S : List (Str × Str)}
theorem out_get {v : V} {r : List (Thing Str) × Str} (h : OutAt K H v r) : ∃ a t, v = .ref a ∧ SqT K H a [.int (r.1.length : Nat), t, .str r.2] := by
  obtain ⟨a, t, e, hs, _⟩ := h
  exact ⟨a, t, e, hs⟩
theorem needs_mono {a b : Str} (h : Needs S0 (fOf qs) S a b) : Needs S0 (fOf qs) S a b := h
end
theorem cutL_take (xs : List V) (n : Nat) : cutV xs none (some (n : Int)) = xs.take n := by
  unfold cutV
  rw [HT.sIx_none, HT.sIx_nat, List.drop_zero, Nat.sub_zero]
  rcases Nat.le_total n xs.length with h | h
  · rw [Nat.min_eq_left h]
  · rw [Nat.min_eq_right h, List.take_length, List.take_of_length_le h]
theorem cutL_drop (xs : List V) (n : Nat) : cutV xs (some (n : Int)) none = xs.drop n := by
  unfold cutV
  rw [HT.sIx_none, HT.sIx_nat]
  rcases Nat.le_total n xs.length with h | h
  · rw [Nat.min_eq_left h]
    exact List.take_of_length_le (by rw [List.length_drop]; omega)
  · rw [Nat.min_eq_right h, Nat.sub_self, List.take_zero, List.drop_eq_nil_of_le h]
theorem strs_items {K : PySem.W.Frag} {H : Hp} : ∀ {row : List Str}, (∀ x ∈ row, Sm x) → Paired (ItemAt K H) (row.map V.str) (row.map fun x => tell S0 x)
  | [], _ => .nil
  | x :: r, h => .cons (.inl ⟨x, rfl, h x List.mem_cons_self, rfl⟩) (strs_items fun y hy => h y (List.mem_cons_of_mem _ hy))
theorem tells_flat (row : List Str) : (row.map fun x => tell S0 x).flatten = tells S0 row := by
  unfold tells
  rw [List.flatMap_def]
theorem tell_len (x : Str) : (tell S0 x).length ≤ 1 := by
  unfold tell
  split <;> simp
theorem tells_len (row : List Str) : (tells S0 row).length ≤ row.length := by
  induction row with
  | nil => simp [tells]
  | cons x r ih =>
    have h := tell_len x
    have e : tells S0 (x :: r) = tell S0 x ++ tells S0 r := by simp [tells]
    rw [e, List.length_append, List.length_cons]
    omega
theorem b2_truth (l : Bool) : (b2 l != 0) = l := by cases l <;> rfl
/-- the row of a put as it is made: the left one if it is kept, the letter, the right one if it is kept -/
def tKept (K : PySem.W.Frag) (i j : Nat) : TE := tIf (fun σ H Q => tVar i σ H fun x H' => ∃ k, TruV K x H' k ∧ Q k H') (tLst (tCons (tVar j) tNil)) (tLst tNil)
theorem kept_read {K : PySem.W.Frag} {i j : Nat} {σ : L2.St} {H : Hp} {l : Bool} {a : Str} {Qc : VK} (h1 : σ[i]? = some (some (V.int (b2 l)))) (h2 : σ[j]? = some (some (V.str a)))
    (go : ∀ H3 q, Same H H3 → H q = none → H3 q = some (.lst ((if l = true then [a] else []).map V.str)) → Qc (.ref q) H3) : tKept K i j σ H Qc := by
  refine ⟨_, h1, l, (b2_truth l).symm, ?_⟩
  cases l with
  | true =>
    refine iteT ⟨_, h2, sz (by show 1 ≤ 100000; decide), fun q hq => ?_⟩
    exact go _ q (same_upd hq) hq upd_same
  | false =>
    refine iteF ⟨sz (by show 0 ≤ 100000; decide), fun q hq => ?_⟩
    exact go _ q (same_upd hq) hq upd_same
theorem row_read {K : PySem.W.Frag} {i j k m n : Nat} {σ : L2.St} {H : Hp} {l r : Bool} {a b x : Str} {Qc : VK} (h1 : σ[i]? = some (some (V.int (b2 l)))) (h2 : σ[j]? = some (some (V.str a)))
    (h3 : σ[k]? = some (some (V.str x))) (h4 : σ[m]? = some (some (V.int (b2 r)))) (h5 : σ[n]? = some (some (V.str b)))
    (go : ∀ H3 q, Same H H3 → H3 q = some (.lst ((rowOf a b x l r).map V.str)) → Qc (.ref q) H3) :
    tOp rCat (tOp rCat (tKept K i j) (tLst (tCons (tVar k) tNil))) (tKept K m n) σ H Qc := by
  refine kept_read h1 h2 fun H1 q1 s1 n1 e1 => ?_
  refine ⟨_, h3, sz (by show 1 ≤ 100000; decide), fun q2 n2 => ?_⟩
  have s2 := same_upd (o := .lst [V.str x]) n2
  refine ⟨q1, q2, _, _, rfl, rfl, s2 _ _ e1, upd_same, ?_, fun q3 n3 => ?_⟩
  · cases l <;> exact sz (by simp)
  · have s3 := same_upd (o := .lst ((if l = true then [a] else []).map V.str ++ [V.str x])) n3
    refine kept_read h4 h5 fun H4 q4 s4 n4 e4 => ?_
    refine ⟨q3, q4, _, _, rfl, rfl, s4 _ _ upd_same, e4, ?_, fun q5 n5 => ?_⟩
    · cases l <;> cases r <;> exact sz (by simp)
    · refine go _ q5 (((s1.trans s2).trans s3).trans (s4.trans (same_upd n5))) ?_
      rw [upd_same]
      unfold rowOf
      cases l <;> cases r <;> rfl
section
variable {P : Program} {w : World} {K : PySem.W.Frag} {mg : Str → Option Value} {base : Heap}
theorem scWorked : FnScope ["self", "left", "right", "deed", "_", "letter", "keeps_left", "keeps_right", "on", "items", "work", "item", "behind"] ["self", "left", "right"] (defScope sWorked) := ⟨rfl, rfl, rfl, by decide +kernel, rfl, by decide +kernel, by decide +kernel⟩
theorem ok_worked {n : Nat} {f C g j o : Addr} {fd gd jd od : FuncData} (F : Fun K "worked" "PairWork.worked" sWorked f fd) (TC : ClsT K C)
    (G : FnOk P w K mg base CX0 2 g gd ["self", "items", "standing"] (spLeft K)) (mG : Meth K C "left_behind" g) (bG : Binds K gd ["self", "items", "standing"] [])
    (J : FnOk P w K mg base CX0 1 j jd ["one", "other"] (spJoined K)) (kJ : PySem.W.keepIn K (.ref j) = true) (mJ : mg "joined" = some (.ref j)) (bJ : Binds K jd ["one", "other"] [])
    (O : FnOk P w K mg base CX0 (3 * n + 1) o od ["self", "left", "right"] (spOutcome K C n)) (mO : Meth K C "outcome" o) (bO : Binds K od ["self", "left", "right"] []) :
    FnOk P w K mg base CX0 (3 * n + 3) f fd ["self", "left", "right"] (spWorked K C n) := by
  refine F.ok scWorked (fun vs H Q E h => ?_) (fun cdv A outer s H vs Q E hr h => ?_)
  · obtain ⟨_, _, _, _, _, _, _, _, _, rfl, _⟩ := h
    rfl
  · obtain ⟨p, dd, dn, ds, L, qs, S, a, b, rfl, W, ok, ha, hb, nee, nin, hrem, q⟩ := h
    have nd := scWorked.nd
    have hr2 : Room 2 _ := hr.mono (by omega)
    have hr1 : Room 1 _ := hr.mono (by omega)
    have hrO : Room (3 * n + 1) _ := hr.mono (by omega)
    have hu := hu_of hr
    refine ⟨_, pss_cons (ps_if (pt_cmp (pc_dnotin hu (pe_tup (pa_cons (pv 1) (pa_cons (pv 2) pa_nil))) (pe_fld (pv 0) rfl)))
        (pss_one (ps_ret (pe_meth (pv 0) TC.cl mG G hr2 bG .nil pass0 (pa_cons (pe_lst (pa_cons (pv 1) pa_nil)) (pa_cons (pv 2) pa_nil))))) pss_nil)
      (pss_cons (ps_set (i := 3) nd rfl (.inl rfl) (pe_dget hu (pe_fld (pv 0) rfl) (pe_tup (pa_cons (pv 1) (pa_cons (pv 2) pa_nil))) (fun _ _ => rfl)))
      (pss_cons (ps_if (pt_cmpR op_eq (pe_ix ix_tup (pv 3) pe_int (fun _ _ => rfl)) pe_str (nomark _))
        (pss_one (ps_ret (pe_meth (pv 0) TC.cl mG G hr2 bG .nil pass0 (pa_cons (pe_lst (pa_cons (pv 1) (pa_cons (pv 3) pa_nil))) (pa_cons (pv 2) pa_nil))))) pss_nil)
      (pss_cons (ps_asg (pv 3) (pg_tup (by rfl) (pgs_cons (pg_name (i := 4) nd rfl (.inl rfl)) (pgs_cons (pg_name (i := 5) nd rfl (.inl rfl)) (pgs_cons (pg_name (i := 6) nd rfl (.inl rfl)) (pgs_cons (pg_name (i := 7) nd rfl (.inl rfl)) (pgs_cons (pg_name (i := 8) nd rfl (.inl rfl)) pgs_nil)))))))
      (pss_cons (ps_set (i := 9) nd rfl (.inl rfl) (pe_op op_cat (pe_op op_cat
          (pe_ifExp (pt_truth (pv 6) (by intro _; rfl)) (pe_lst (pa_cons (pv 1) pa_nil)) (pe_lst pa_nil)) (pe_lst (pa_cons (pv 5) pa_nil)))
          (pe_ifExp (pt_truth (pv 7) (by intro _; rfl)) (pe_lst (pa_cons (pv 2) pa_nil)) (pe_lst pa_nil))))
      (pss_cons (ps_set (i := 10) nd rfl (.inl rfl) (pe_meth (pv 0) TC.cl mG G hr2 bG .nil pass0 (pa_cons (pe_slice sl_list (pv 9) po_none (po_some (pv 8))) (pa_cons (pe_ix ix_list (pv 9) (pv 8) (fun _ _ => rfl)) pa_nil))))
      (pss_cons (ps_for PassesOwn.never rfl (pi_list (pe_slice sl_list (pv 9) (po_some (pe_op op_add (pv 8) pe_int)) po_none)) (pg_name (i := 11) nd rfl (.inl rfl))
        (pss_cons (ps_set (i := 12) nd rfl (.inl rfl) (pe_meth (pv 0) TC.cl mO O hrO bO .nil pass0 (pa_cons (pe_ix ix_tup (pv 10) pe_int (fun _ _ => rfl)) (pa_cons (pv 11) pa_nil))))
        (pss_cons (ps_if (pt_cmpR op_isN (pv 12) pe_non (nomark _)) (pss_one (ps_ret pe_non)) pss_nil)
        (pss_one (ps_set (i := 10) nd rfl (.inl rfl) (pe_call J hr1 rfl mJ kJ bJ .nil pass0 (pa_cons (pv 10) (pa_cons (pv 12) pa_nil))))))))
      (pss_one (ps_ret (pv 10))))))))), ?_⟩
    obtain ⟨⟨dx, ob⟩, ⟨kvs, hdd, kv⟩, n1, n2, n3, done, started, hdn, hds, dm1, dm2, tr, st⟩ := id W
    have sma := ha.sm ok.lets
    have smb := hb.sm ok.lets
    have noM : ∀ {m : Str}, ¬ m = "started" → ¬ m = "done" → ¬ m = "deeds" → ¬ m = "letters" → (flds L dd dn ds).lookup m = none := fun h1 h2 h3 h4 => fl_no L dd dn ds h1 h2 h3 h4
    -- (left, right) not in self.deeds
    refine ⟨_, rfl, _, rfl, sz (by show 2 ≤ 100000; decide), fun t ht => ?_⟩
    have s1 : Same H (upd H t (.tup [.str a, .str b])) := same_upd ht
    refine ⟨_, rfl, p, C, dx, _, _, rfl, s1 _ _ ob, TC.cl, TC.fD, fl_deeds L dd dn ds, dd, _, rfl, DGet.t (k := kp a b) (s1 _ _ hdd) upd_same, _, rfl, ?_⟩
    rcases kv.look a b with ⟨ef, ev⟩ | ⟨q0, v0, mq, e1, e2, ef, ev, d, rfl, hd⟩
    · -- no row: left_behind([left], right)
      rw [ev]
      refine iteT ⟨_, rfl, p, dx, _, rfl, s1 _ _ ob, noM (by decide +kernel) (by decide +kernel) (by decide +kernel) (by decide +kernel), _, rfl, sz (by show 1 ≤ 100000; decide), fun l hl => ?_⟩
      have s2 := s1.trans (same_upd (o := .lst [V.str a]) hl)
      have tl := tell_len a
      refine ⟨_, rfl, p, l, [.str a], [tell S0 a], b, rfl, SqL.of upd_same, .cons (.inl ⟨a, rfl, sma, rfl⟩) .nil, (by show 1 ≤ 10; decide), by simp; omega, fun H3 v s3 ho => ?_⟩
      have sf := s2.trans s3
      have e0 : ([tell S0 a] : List (List (Thing Str))).flatten = tell S0 a := by simp
      rw [e0] at ho
      exact q H3 v (Sb.of sf) (W.same sf) (.inr ⟨_, ho, Goes.plain S0 (fOf qs) ef⟩)
    · -- deed = self.deeds[left, right]
      rw [ev]
      refine iteF ⟨_, rfl, p, C, dx, _, _, rfl, s1 _ _ ob, TC.cl, TC.fD, fl_deeds L dd dn ds, _, rfl, _, rfl, sz (by show 2 ≤ 100000; decide), fun t2 ht2 => ?_⟩
      have s2 := s1.trans (same_upd (o := .tup [.str a, .str b]) ht2)
      refine ⟨dd, .ref d, rfl, by rw [← ev]; exact DGet.t (k := kp a b) (s2 _ _ hdd) upd_same, ?_⟩
      have hd2 := hd.mono (TK.same (K := K) s2)
      have dok := (ok.rules q0 mq).d
      have okr := ok.rules q0 mq
      cases eq : q0.2.2 with
      | kern c =>
        rw [eq] at hd2 ef
        have hS : SqT K _ d [.str "kern", .int c] := hd2
        refine ⟨_, rfl, d, _, 0, .str "kern", rfl, rfl, hS, rfl, rfl, _, rfl, ?_⟩
        rw [decide_eq_true (show V.str "kern" = V.str "kern" from rfl)]
        refine iteT ⟨_, rfl, p, dx, _, rfl, s2 _ _ ob, noM (by decide +kernel) (by decide +kernel) (by decide +kernel) (by decide +kernel), _, rfl, _, rfl, sz (by show 2 ≤ 100000; decide), fun l hl => ?_⟩
        have s3 := s2.trans (same_upd (o := .lst [V.str a, V.ref d]) hl)
        have tl := tell_len a
        refine ⟨_, rfl, p, l, [.str a, .ref d], [tell S0 a, [.kern c]], b, rfl, SqL.of upd_same, .cons (.inl ⟨a, rfl, sma, rfl⟩) (.cons (.inr ⟨d, c, rfl, TK.new hl _ _ hS, rfl⟩) .nil), (by show 2 ≤ 10; decide), by simp; omega, fun H3 v s4 ho => ?_⟩
        have sf := s3.trans s4
        have e0 : ([tell S0 a, [.kern c]] : List (List (Thing Str))).flatten = tell S0 a ++ [.kern c] := by simp
        rw [e0] at ho
        exact q H3 v (Sb.of sf) (W.same sf) (.inr ⟨_, ho, Goes.kern S0 (fOf qs) ef⟩)
      | put x l r on =>
        rw [eq] at hd2 ef
        have hS : SqT K _ d [.str "put", .str x, .int (b2 l), .int (b2 r), .int (on : Nat)] := hd2
        have sides := row_side ok ha hb ef
        have hon := row_on ok ef
        have rl := row_len (a := a) (b := b) (x := x) (l := l) (r := r)
        have bl := b2_lo l
        have br := b2_lo r
        refine ⟨_, rfl, d, _, 0, .str "put", rfl, rfl, hS, rfl, rfl, _, rfl, ?_⟩
        rw [decide_eq_false (show ¬ V.str "put" = V.str "kern" by decide +kernel)]
        refine iteF ⟨_, rfl, d, _, rfl, hS, rfl, _, _, rfl, _, _, rfl, _, _, rfl, _, _, rfl, _, _, rfl, rfl, ?_⟩
        -- items = ..
        refine row_read (K := K) (i := 6) (j := 1) (k := 5) (m := 7) (n := 2) (l := l) (r := r) (a := a) (b := b) (x := x) rfl rfl rfl rfl rfl fun H3 it s3 e3 => ?_
        have sH3 := s2.trans s3
        have el : ((rowOf a b x l r).map V.str).length = (rowOf a b x l r).length := List.length_map _
        -- work = self.left_behind(items[:on], items[on])
        refine ⟨_, rfl, p, dx, _, rfl, sH3 _ _ ob, noM (by decide +kernel) (by decide +kernel) (by decide +kernel) (by decide +kernel), ?_⟩
        refine ⟨_, rfl, _, rfl, (on : Nat), rfl, it, _, rfl, SqL.of e3, fun c1 hc1 => ?_⟩
        rw [cutL_take]
        have s4 := sH3.trans (same_upd (o := .lst (((rowOf a b x l r).map V.str).take on)) hc1)
        have e4 := (same_upd (o := .lst (((rowOf a b x l r).map V.str).take on)) hc1) _ _ e3
        obtain ⟨y, ys, edrop⟩ : ∃ y ys, (rowOf a b x l r).drop on = y :: ys := by
          cases e : (rowOf a b x l r).drop on with
          | nil => exact absurd e (row_ne ok a b x l r on ef)
          | cons y ys => exact ⟨y, ys, rfl⟩
        have gy : (rowOf a b x l r)[on]? = some y := by
          have := List.getElem?_drop (xs := rowOf a b x l r) (i := on) (j := 0)
          rw [edrop] at this
          simpa using this.symm
        have gyv : ((rowOf a b x l r).map V.str)[on]? = some (.str y) := by
          rw [List.getElem?_map, gy]
          rfl
        have sub : ∀ z ∈ y :: ys, IsSide L z := fun z hz => sides z (List.mem_of_mem_drop (by rw [edrop]; exact hz))
        have tsl := tells_len ((rowOf a b x l r).take on)
        have tll : ((rowOf a b x l r).take on).length ≤ 3 := by
          rw [List.length_take]
          omega
        refine ⟨_, rfl, _, rfl, it, _, (on : Nat), .str y, rfl, rfl, SqL.of e4, atI_nat gyv, ?_⟩
        refine ⟨p, c1, (((rowOf a b x l r).take on).map V.str), ((rowOf a b x l r).take on).map fun x => tell S0 x, y, rfl, SqL.of ?_, ?_, ?_, ?_, fun H5 wv s5 ho => ?_⟩
        · rw [upd_same, List.map_take]
        · exact strs_items fun z hz => (sides z (List.mem_of_mem_take hz)).sm ok.lets
        · rw [List.length_map]
          omega
        · rw [tells_flat]
          omega
        rw [tells_flat] at ho
        have s5' := s4.trans s5
        have e5 := s5 _ _ e4
        -- for item in items[on + 1:]
        refine ⟨_, rfl, _, rfl, _, _, rfl, rfl, ((on : Int) + 1), rfl, it, _, rfl, SqL.of e5, fun c2 hc2 => ?_⟩
        have ecut : cutV ((rowOf a b x l r).map V.str) (some ((on : Int) + 1)) none = ys.map V.str := by
          have : ((on : Int) + 1) = ((on + 1 : Nat) : Int) := by omega
          rw [this, cutL_drop, ← List.map_drop]
          have : (rowOf a b x l r).drop (on + 1) = ys := by
            rw [← List.drop_drop, edrop]
            rfl
          rw [this]
        rw [ecut]
        have s6 := s5'.trans (same_upd (o := .lst (ys.map V.str)) hc2)
        have W6 := W.same s6
        have ho6 := ho.mono (TK.same (K := K) (same_upd (o := .lst (ys.map V.str)) hc2))
        have e6 : (upd H5 c2 (.lst (ys.map V.str))) c2 = some (.lst (ys.map V.str)) := upd_same
        have base1 : ∀ (i : Nat), i ≤ ys.length → ∀ x ∈ ys.take i, IsSide L x := fun i _ x hx => sub x (List.mem_cons_of_mem _ (List.mem_of_mem_take hx))
        have nc2 : H c2 = none := s5'.free hc2
        refine ⟨c2, rfl, ⟨_, SqL.of e6⟩, for_list (K := K) (a := c2) (xs := ys.map V.str)
          (fun i σ H' => ∃ (wv : V) (x11 x12 : Option V) (t : List (Thing Str) × Str), σ = [some (.ref p), some (.str a), some (.str b), some (.ref d), some (.str "put"), some (.str x), some (.int (b2 l)), some (.int (b2 r)), some (.int (on : Nat)), some (.ref it), some wv, x11, x12] ∧
            Sb [dn, ds] H H' ∧ WorkAt K C H' p dd dn ds L qs ((a, b) :: S) ∧ H' c2 = some (.lst (ys.map V.str)) ∧ GoesAll S0 (fOf qs) y (ys.take i) t ∧ OutAt K H' wv (tells S0 ((rowOf a b x l r).take on) ++ t.1, t.2))
          ⟨wv, none, none, ([], y), rfl, Sb.of s6, W6, e6, GoesAll.nil S0 (fOf qs) y, by rw [List.append_nil]; exact ho6⟩ (fun i σ H' _ ⟨_, _, _, _, _, _, _, z, _⟩ => SqL.of z) ?_ ?_⟩
        · rintro i z0 σ H7 hi ⟨wv, x11, x12, t, rfl, sb7, W7, e7, ga, ho7⟩
          have hil := (List.getElem?_eq_some_iff.mp hi).1
          rw [List.length_map] at hil
          obtain ⟨z, hz, rfl⟩ : ∃ z, ys[i]? = some z ∧ z0 = V.str z := by
            rw [List.getElem?_map] at hi
            obtain ⟨z, h1, h2⟩ := Option.map_eq_some_iff.mp hi
            exact ⟨z, h1, h2.symm⟩
          have eys : ys = ys.take i ++ z :: ys.drop (i + 1) := by
            have h1 := List.getElem?_eq_some_iff.mp hz
            obtain ⟨h1, h2⟩ := h1
            conv => lhs; rw [← List.take_append_drop i ys]
            rw [List.drop_eq_getElem_cons h1, h2]
          obtain ⟨dx7, ob7⟩ := W7.ob
          have hzs : IsSide L z := sub z (List.mem_cons_of_mem _ (List.mem_of_getElem? hz))
          have hts : IsSide L t.2 := GoesAll.side ok (sub y List.mem_cons_self) (base1 i (Nat.le_of_lt hil)) ga
          obtain ⟨aw, tw, rfl, hsw⟩ := out_get ho7
          have need := Needs.down S0 (fOf qs) (S := S) nee ef (by rw [edrop, ← eys]) ga
          have rem1 : remS qs ((a, b) :: S) < n := by
            obtain ⟨q1, hq1, ea, eb, _⟩ := f_rule ef
            have := rem_lt (S := S) hq1 (by rw [ea, eb]; exact nin)
            rw [ea, eb] at this
            omega
          -- behind = self.outcome(work[2], item)
          refine ⟨_, rfl, p, dx7, _, rfl, ob7, noM (by decide +kernel) (by decide +kernel) (by decide +kernel) (by decide +kernel), _, rfl, aw, _, 2, .str t.2, rfl, rfl, hsw, rfl, _, rfl, ?_⟩
          refine ⟨p, dd, dn, ds, L, qs, (a, b) :: S, t.2, z, rfl, W7, ok, hts, hzs, need, rem1, fun H8 v8 sb8 W8 tr8 => ?_⟩
          have tk8 : TK K H7 H8 := W7.tk sb8
          have c2n : c2 ∉ [dn, ds] := by
            intro m
            rcases List.mem_cons.mp m with e | m
            · rw [e, hdn] at nc2
              cases nc2
            · rw [List.mem_singleton.mp m, hds] at nc2
              cases nc2
          have e8 : H8 c2 = some (.lst (ys.map V.str)) := sb8 _ _ e7 c2n
          -- if behind is None: return None
          refine ⟨_, rfl, rfl, _, rfl, ?_⟩
          rcases tr8 with ⟨rfl, nev⟩ | ⟨r8, ho8, go8⟩
          · refine iteT ?_
            refine q H8 .non (sb7.trans sb8) W8 (.inl ⟨rfl, Never.put S0 (fOf qs) ef edrop ?_⟩)
            rw [eys]
            exact NeverAll.of S0 (fOf qs) ga nev
          · have nn : ¬ v8 = .non := fun e => by
              obtain ⟨_, _, e2, _⟩ := out_get ho8
              rw [e] at e2
              cases e2
            rw [decide_eq_false nn]
            refine iteF ⟨_, rfl, _, rfl, _, _, _, _, rfl, ho7.mono tk8, ho8, fun H9 v9 s9 ho9 => ?_⟩
            refine ⟨v9, _, _, (t.1 ++ r8.1, r8.2), rfl, (sb7.trans sb8).trans (Sb.of s9), W8.same s9, s9 _ _ e8, ?_, ?_⟩
            · rw [take_snoc hz]
              exact GoesAll.snoc S0 (fOf qs) ga go8
            · rw [List.append_assoc] at ho9
              exact ho9
        · rintro σ H7 ⟨wv, x11, x12, t, rfl, sb7, W7, e7, ga, ho7⟩
          rw [List.length_map, List.take_length] at ga
          exact ⟨_, rfl, q H7 wv sb7 W7 (.inr ⟨_, ho7, Goes.put S0 (fOf qs) ef edrop ga⟩)⟩
end
end K24

namespace K24
open PySem PySem.Spec PyProof.Rows L2
theorem isSome_put {kvs : List (List L2.Key × V)} {k j : List L2.Key} {v : V} : (valV (putK kvs k v) j).isSome = true ↔ (j = k ∨ (valV kvs j).isSome = true) := by
  rw [valV_put]
  by_cases c : j = k
  · rw [if_pos c]
    simp [c]
  · rw [if_neg c]
    simp [c]
section
variable {P : Program} {w : World} {K : PySem.W.Frag} {mg : Str → Option Value} {base : Heap}
theorem scOutcome : FnScope ["self", "left", "right", "pair", "found"] ["self", "left", "right"] (defScope sOutcome) := ⟨rfl, rfl, rfl, by decide +kernel, rfl, by decide +kernel, by decide +kernel⟩
theorem ok_outcome {n : Nat} {f C g : Addr} {fd gd : FuncData} (F : Fun K "outcome" "PairWork.outcome" sOutcome f fd) (TC : ClsT K C)
    (G : FnOk P w K mg base CX0 (3 * n + 3) g gd ["self", "left", "right"] (spWorked K C n)) (mG : Meth K C "worked" g) (bG : Binds K gd ["self", "left", "right"] []) :
    FnOk P w K mg base CX0 (3 * (n + 1) + 1) f fd ["self", "left", "right"] (spOutcome K C (n + 1)) := by
  refine F.ok scOutcome (fun vs H Q E h => ?_) (fun cdv A outer s H vs Q E hr h => ?_)
  · obtain ⟨_, _, _, _, _, _, _, _, _, rfl, _⟩ := h
    rfl
  · obtain ⟨p, dd, dn, ds, L, qs, S, a, b, rfl, W, ok, ha, hb, nee, hrem, q⟩ := h
    have nd := scOutcome.nd
    have hu := hu_of hr
    refine ⟨_, pss_cons (ps_set (i := 3) nd rfl (.inl rfl) (pe_tup (pa_cons (pv 1) (pa_cons (pv 2) pa_nil))))
      (pss_cons (ps_if (pt_cmp (pc_din hu (pv 3) (pe_fld (pv 0) rfl))) (pss_one (ps_ret (pe_dget hu (pe_fld (pv 0) rfl) (pv 3) (fun _ _ => rfl)))) pss_nil)
      (pss_cons (ps_if (pt_cmp (pc_din hu (pv 3) (pe_fld (pv 0) rfl))) (pss_one (ps_ret pe_non)) pss_nil)
      (pss_cons (ps_dput hu (pe_fld (pv 0) rfl) (pv 3) pe_bl rfl)
      (pss_cons (ps_set (i := 4) nd rfl (.inl rfl) (pe_meth (pv 0) TC.cl mG G hr bG .nil pass0 (pa_cons (pv 1) (pa_cons (pv 2) pa_nil))))
      (pss_cons (ps_dput hu (pe_fld (pv 0) rfl) (pv 3) (pv 4) rfl)
      (pss_one (ps_ret (pv 4)))))))), ?_⟩
    obtain ⟨⟨dx, ob⟩, ⟨kvs, hdd, kv⟩, n1, n2, n3, done, started, hdn, hds, dm1, dm2, tr, st⟩ := id W
    have noM : ∀ {m : Str}, ¬ m = "started" → ¬ m = "done" → ¬ m = "deeds" → ¬ m = "letters" → (flds L dd dn ds).lookup m = none := fun h1 h2 h3 h4 => fl_no L dd dn ds h1 h2 h3 h4
    have ld := dm1.len ok.lets
    have ls := dm2.len ok.lets
    -- pair = (left, right)
    refine ⟨_, rfl, _, rfl, sz (by show 2 ≤ 100000; decide), fun t ht => ?_⟩
    have s1 : Same H (upd H t (.tup [.str a, .str b])) := same_upd ht
    have k1 : TK K H (upd H t (.tup [.str a, .str b])) := TK.same s1
    have W1 := W.same s1
    -- if pair in self.done
    refine ⟨_, rfl, _, rfl, p, C, dx, _, _, rfl, s1 _ _ ob, TC.cl, TC.fN, fl_done L dd dn ds, dn, _, rfl, DGet.t (k := kp a b) (s1 _ _ hdn) upd_same, _, rfl, ?_⟩
    cases ed : valV done (kp a b) with
    | some v =>
      refine iteT ⟨_, rfl, p, C, dx, _, _, rfl, s1 _ _ ob, TC.cl, TC.fN, fl_done L dd dn ds, _, rfl, dn, v, rfl, by rw [← ed]; exact DGet.t (k := kp a b) (s1 _ _ hdn) upd_same, ?_⟩
      exact q _ v (Sb.of s1) W1 ((tr a b v ed).mono k1)
    | none =>
      refine iteF ⟨_, rfl, _, rfl, p, C, dx, _, _, rfl, s1 _ _ ob, TC.cl, TC.fS, fl_started L dd dn ds, ds, _, rfl, DGet.t (k := kp a b) (s1 _ _ hds) upd_same, _, rfl, ?_⟩
      cases es : valV started (kp a b) with
      | some v =>
        have hm : (a, b) ∈ S := by
          have := (st a b).mp (by rw [es]; rfl)
          rw [ed] at this
          exact this.resolve_left (by simp)
        exact iteT (q _ .non (Sb.of s1) W1 (.inl ⟨rfl, Needs.ring S0 (fOf qs) nee hm⟩))
      | none =>
        have nm : (a, b) ∉ S := fun m => by
          have := (st a b).mpr (.inr m)
          rw [es] at this
          cases this
        -- self.started[pair] = True
        refine iteF ⟨_, rfl, p, C, dx, _, _, rfl, s1 _ _ ob, TC.cl, TC.fS, fl_started L dd dn ds, _, rfl, ds, _, rfl, DPut.t (k := kp a b) (s1 _ _ hds) upd_same (szl (by omega)), ?_⟩
        have nt : t ≠ ds := (ne_of_none hds ht).symm
        have k2 : TK K (upd H t (.tup [.str a, .str b])) (upd (upd H t (.tup [.str a, .str b])) ds (.dT (putK started (kp a b) (.bl true)))) := TK.upd (s1 _ _ hds) True.intro
        have sb2 : Sb [dn, ds] H (upd (upd H t (.tup [.str a, .str b])) ds (.dT (putK started (kp a b) (.bl true)))) := (Sb.of s1).trans (Sb.upd (by simp))
        have nps : p ≠ ds := ne_of ob hds (fun z => nomatch z)
        have W2 : WorkAt K C (upd (upd H t (.tup [.str a, .str b])) ds (.dT (putK started (kp a b) (.bl true)))) p dd dn ds L qs ((a, b) :: S) := by
          refine ⟨⟨dx, ?_⟩, ⟨kvs, ?_, Paired.mapP kv fun _ _ z => ⟨z.1, ?_⟩⟩, n1, n2, n3, done, putK started (kp a b) (.bl true), ?_, upd_same, dm1, dm2.put _ ha hb, fun x y v e => ((tr x y v e).mono k1).mono k2, fun x y => ?_⟩
          · rw [upd_ne nps]
            exact s1 _ _ ob
          · rw [upd_ne n2]
            exact s1 _ _ hdd
          · obtain ⟨_, d, e, hd⟩ := z
            exact ⟨d, e, (hd.mono k1).mono k2⟩
          · rw [upd_ne n3]
            exact s1 _ _ hdn
          · rw [isSome_put, st x y]
            constructor
            · rintro (e | e | e)
              · obtain ⟨e1, e2⟩ := kp_inj e
                exact .inr (by rw [e1, e2]; exact List.mem_cons_self)
              · exact .inl e
              · exact .inr (List.mem_cons_of_mem _ e)
            · rintro (e | e)
              · exact .inr (.inl e)
              · rcases List.mem_cons.mp e with e | e
                · injection e with e1 e2
                  exact .inl (by rw [e1, e2])
                · exact .inr (.inr e)
        have et : (upd (upd H t (.tup [.str a, .str b])) ds (.dT (putK started (kp a b) (.bl true)))) t = some (.tup ((kp a b).map kV)) := by
          rw [upd_ne nt]
          exact upd_same
        -- found = self.worked(left, right)
        refine ⟨_, rfl, p, dx, _, rfl, by rw [upd_ne nps]; exact s1 _ _ ob, noM (by decide +kernel) (by decide +kernel) (by decide +kernel) (by decide +kernel), _, rfl, _, rfl, ?_⟩
        refine ⟨p, dd, dn, ds, L, qs, S, a, b, rfl, W2, ok, ha, hb, nee, nm, by omega, fun H3 v sb3 W3 tr3 => ?_⟩
        obtain ⟨⟨dx3, ob3⟩, ⟨kvs3, hdd3, kv3⟩, _, _, _, done3, started3, hdn3, hds3, dm13, dm23, tr3', st3⟩ := id W3
        have tn : t ∉ [dn, ds] := by
          intro m
          rcases List.mem_cons.mp m with e | m
          · rw [e, hdn] at ht
            cases ht
          · exact nt (List.mem_singleton.mp m)
        have et3 : H3 t = some (.tup ((kp a b).map kV)) := sb3 _ _ et tn
        have ld3 := dm13.len ok.lets
        -- self.done[pair] = found
        refine ⟨_, rfl, _, rfl, p, C, dx3, _, _, rfl, ob3, TC.cl, TC.fN, fl_done L dd dn ds, _, rfl, dn, _, rfl, DPut.t (k := kp a b) hdn3 et3 (szl (by omega)), ?_⟩
        have k4 : TK K H3 (upd H3 dn (.dT (putK done3 (kp a b) v))) := TK.upd hdn3 True.intro
        have npn : p ≠ dn := ne_of ob3 hdn3 (fun z => nomatch z)
        refine ⟨_, rfl, q _ v ((sb2.trans sb3).trans (Sb.upd (by simp))) ⟨⟨dx3, ?_⟩, ⟨kvs3, ?_, Paired.mapP kv3 fun _ _ z => ⟨z.1, ?_⟩⟩, n1, n2, n3, putK done3 (kp a b) v, started3, upd_same, ?_, dm13.put _ ha hb, dm23, fun x y u e => ?_, fun x y => ?_⟩ (tr3.mono k4)⟩
        · rw [upd_ne npn]
          exact ob3
        · rw [upd_ne n1]
          exact hdd3
        · obtain ⟨_, d, e, hd⟩ := z
          exact ⟨d, e, hd.mono k4⟩
        · rw [upd_ne n3.symm]
          exact hds3
        · rw [valV_put] at e
          by_cases c : kp x y = kp a b
          · rw [if_pos c] at e
            obtain ⟨e1, e2⟩ := kp_inj c
            have e := Option.some.inj e
            subst e e1 e2
            exact tr3.mono k4
          · rw [if_neg c] at e
            exact (tr3' x y u e).mono k4
        · rw [isSome_put, st3 x y]
          constructor
          · rintro (e | e)
            · exact .inl (.inr e)
            · rcases List.mem_cons.mp e with e | e
              · injection e with e1 e2
                exact .inl (.inl (by rw [e1, e2]))
              · exact .inr e
          · rintro ((e | e) | e)
            · obtain ⟨e1, e2⟩ := kp_inj e
              exact .inr (by rw [e1, e2]; exact List.mem_cons_self)
            · exact .inl e
            · exact .inr (List.mem_cons_of_mem _ e)
theorem outcome_zero {f C : Addr} {fd : FuncData} : FnOk P w K mg base CX0 (3 * 0 + 1) f fd ["self", "left", "right"] (spOutcome K C 0) := by
  have no : ∀ vs H Q E, ¬ spOutcome K C 0 vs H Q E := fun vs H Q E h => by
    obtain ⟨_, _, _, _, _, _, _, _, _, _, _, _, _, _, _, z, _⟩ := h
    exact Nat.not_lt_zero _ z
  exact ⟨fun vs H Q E h => absurd h (no vs H Q E), fun A outer s H args us vs Q E _ _ _ _ h => absurd h (no vs H Q E)⟩
theorem outcome_all {f C g j o : Addr} {fd gd jd od : FuncData} (TC : ClsT K C) (F : Fun K "worked" "PairWork.worked" sWorked f fd) (mF : Meth K C "worked" f) (bF : Binds K fd ["self", "left", "right"] [])
    (G : FnOk P w K mg base CX0 2 g gd ["self", "items", "standing"] (spLeft K)) (mG : Meth K C "left_behind" g) (bG : Binds K gd ["self", "items", "standing"] [])
    (J : FnOk P w K mg base CX0 1 j jd ["one", "other"] (spJoined K)) (kJ : PySem.W.keepIn K (.ref j) = true) (mJ : mg "joined" = some (.ref j)) (bJ : Binds K jd ["one", "other"] [])
    (O : Fun K "outcome" "PairWork.outcome" sOutcome o od) (mO : Meth K C "outcome" o) (bO : Binds K od ["self", "left", "right"] []) :
    ∀ n : Nat, FnOk P w K mg base CX0 (3 * n + 1) o od ["self", "left", "right"] (spOutcome K C n)
  | 0 => outcome_zero
  | n + 1 => ok_outcome O TC (ok_worked F TC G mG bG J kJ mJ bJ (outcome_all TC F mF bF G mG bG J kJ mJ bJ O mO bO n) mO bO) mF bF
end
end K24

namespace K24
open PySem PySem.Spec PyProof.Rows L2
def letsOf (x : Str) : List Str := x.cps.toList.map sg
theorem signs_lets (x : Str) : signs x ++ [V.str ""] = (letsOf x ++ [S0]).map V.str := by
  unfold signs letsOf
  rw [List.map_append, List.map_map]
  rfl
theorem lets_len (x : Str) : (letsOf x).length = x.length := by
  unfold letsOf
  rw [List.length_map]
  exact (strLen x).symm
/-- what a word comes to -/
def WordGoes (qs : List Rule) (x : Str) (t : List (Thing Str) × Str) : Prop := GoesAll S0 (fOf qs) S0 (letsOf x ++ [S0]) t
def WordNever (qs : List Rule) (x : Str) : Prop := NeverAll S0 (fOf qs) S0 (letsOf x ++ [S0])
def WordOk (L x : Str) : Prop := ∀ c ∈ x.cps.toList, c ∈ L.cps.toList
theorem lets_side {L x : Str} (h : WordOk L x) : ∀ y ∈ letsOf x ++ [S0], IsSide L y := by
  intro y hy
  rcases List.mem_append.mp hy with m | m
  · obtain ⟨c, hc, e⟩ := List.mem_map.mp m
    exact .inr ⟨c, h c hc, e.symm⟩
  · exact .inl (List.mem_singleton.mp m)
end K24

namespace K24
open PySem PySem.Spec PyProof.Rows L2
def CupAt (H : Hp) (c : Addr) : Prop := ∃ x y : Int, 0 ≤ x ∧ 0 ≤ y ∧ H c = some (.lst [.int x, .int y])
def spCup (K : PySem.W.Frag) : Sp := fun vs H Q _ => ∃ (a : Addr) (ns : List Int), vs = [.ref a] ∧ SqL K H a (ns.map V.int) ∧ ns.length ≤ 63 ∧ ∀ H' c, Same H H' → H c = none → CupAt H' c → Q (.ref c) H'
def spRoll : Sp := fun vs H Q _ => ∃ (c : Addr) (m : Int), vs = [.ref c, .int m] ∧ CupAt H c ∧ 0 < m ∧ m < 1000000 ∧ ∀ H' r, Sb [c] H H' → CupAt H' c → 0 ≤ r → r < m → Q (.int r) H'
def spSome (K : PySem.W.Frag) : Sp := fun vs H Q _ => ∃ (c l : Addr) (xs : List V), vs = [.ref c, .ref l] ∧ CupAt H c ∧ l ≠ c ∧ H l = some (.lst xs) ∧ 0 < xs.length ∧ xs.length < 1000000 ∧ ∀ H' v, Sb [c] H H' → CupAt H' c → v ∈ xs → Q v H'
def spTold (K : PySem.W.Frag) : Sp := fun vs H Q _ => ∃ x : Str, vs = [.str x] ∧ Sm x ∧ ∀ H' v, Same H H' → Ths K H' v (tell S0 x) → Q v H'
section
variable {P : Program} {w : World} {K : PySem.W.Frag} {mg : Str → Option Value} {base : Heap}
theorem scCup : FnScope ["_law_script", "_law_cell"] ["_law_script"] (defScope sCup) := ⟨rfl, rfl, rfl, by decide +kernel, rfl, by decide +kernel, by decide +kernel⟩
theorem ok_cup {f : Addr} {fd : FuncData} (F : Fun K "_law_cup" "_law_cup" sCup f fd) (T : Txt K mg) : FnOk P w K mg base CX0 1 f fd ["_law_script"] (spCup K) := by
  refine F.ok scCup (fun vs H Q E h => ?_) (fun cdv A outer s H vs Q E hr h => ?_)
  · obtain ⟨_, _, rfl, _⟩ := h
    rfl
  · obtain ⟨a, ns, rfl, hS, hl, q⟩ := h
    have nd := scCup.nd
    refine ⟨_, pss_cons (ps_set (i := 1) nd rfl (.inl rfl) (pe_callB call_abs (by rfl) T.abs (by decide +kernel) (pa_cons
        (pe_ix ix_list (pe_op op_cat (pe_callTy call_list_of (by rfl) T.list (by decide +kernel) (pa_cons (pv 0) pa_nil)) (pe_lst (pa_cons pe_int pa_nil))) pe_int (fun _ _ => rfl)) pa_nil)))
      (pss_one (ps_ret (pe_lst (pa_cons (pe_ifExp (pt_cmpR op_ge (pv 1) (pe_op op_pow pe_int pe_int) (nomark _)) (pe_op op_fdiv (pv 1) pe_int) pe_int)
        (pa_cons (pe_op op_add (pe_op op_mod (pe_callTy call_int1 (by rfl) T.int (by decide +kernel) (pa_cons (pe_op op_add (pe_op op_mul (pv 1) pe_int) pe_int) pa_nil)) pe_int) pe_int) pa_nil))))), ?_⟩
    have hlen : (ns.map V.int).length = ns.length := List.length_map _
    refine ⟨_, rfl, a, _, rfl, .inl hS, fun l hl1 => ?_⟩
    have s1 := same_upd (o := .lst (ns.map V.int)) hl1
    refine ⟨sz (by show 1 ≤ 100000; decide), fun l2 hl2 => ?_⟩
    have s2 := same_upd (o := .lst [V.int 0]) hl2
    refine ⟨l, l2, _, _, rfl, rfl, s2 _ _ upd_same, upd_same, by rw [hlen]; exact sz (by show ns.length + 1 ≤ 100000; omega), fun l3 hl3 => ?_⟩
    have s3 := same_upd (o := .lst (ns.map V.int ++ [V.int 0])) hl3
    obtain ⟨z, hz⟩ : ∃ z : Int, atI (ns.map V.int ++ [V.int 0]) 0 = some (.int z) := by
      cases ns with
      | nil => exact ⟨0, rfl⟩
      | cons n r => exact ⟨n, atI_nat (j := 0) rfl⟩
    have sf := (s1.trans s2).trans s3
    refine ⟨l3, _, 0, .int z, rfl, rfl, SqL.of upd_same, hz, z, rfl, ?_⟩
    generalize hc : (if z < 0 then -z else z) = cell
    have c0 : 0 ≤ cell := by
      rw [← hc]
      split <;> omega
    have fin : ∀ x : Int, 0 ≤ x → ∀ H' c, H' = upd (upd (upd (upd H l (.lst (ns.map V.int))) l2 (.lst [V.int 0])) l3 (.lst (ns.map V.int ++ [V.int 0]))) c (.lst [.int x, .int ((cell * 193 + 1201) % 2077504273 + 89)]) →
        (upd (upd (upd H l (.lst (ns.map V.int))) l2 (.lst [V.int 0])) l3 (.lst (ns.map V.int ++ [V.int 0]))) c = none → Q (.ref c) H' := by
      intro x hx H' c e hn
      subst e
      refine q _ c (sf.trans (same_upd hn)) (sf.free hn) ⟨x, _, hx, ?_, upd_same⟩
      have := Int.emod_nonneg (cell * 193 + 1201) (show (2077504273 : Int) ≠ 0 by decide)
      omega
    refine ⟨_, rfl, 10, 18, rfl, rfl, ⟨by decide, by decide, by decide⟩, _, _, rfl, rfl, _, rfl, ?_⟩
    refine ite2 (fun _ => ?_) (fun _ => ?_)
    · refine ⟨_, rfl, cell, 11, rfl, rfl, ⟨by decide, by decide⟩, ?_⟩
      refine ⟨_, rfl, cell, 193, rfl, rfl, .inr ⟨by decide, by decide⟩, _, _, rfl, rfl, .inl ⟨_, rfl, ?_⟩⟩
      refine ⟨_, _, rfl, rfl, (by show (0 : Int) < 2077504273; decide), _, _, rfl, rfl, sz (by show 2 ≤ 100000; decide), fun c hn => ?_⟩
      exact fin _ (Int.ediv_nonneg c0 (by decide)) _ c rfl hn
    · refine ⟨_, rfl, cell, 193, rfl, rfl, .inr ⟨by decide, by decide⟩, _, _, rfl, rfl, .inl ⟨_, rfl, ?_⟩⟩
      refine ⟨_, _, rfl, rfl, (by show (0 : Int) < 2077504273; decide), _, _, rfl, rfl, sz (by show 2 ≤ 100000; decide), fun c hn => ?_⟩
      exact fin 0 (Int.le_refl 0) _ c rfl hn
theorem scRoll : FnScope ["_law_cup_here", "_law_many", "_law_found", "_law_deep"] ["_law_cup_here", "_law_many"] (defScope sRoll) := ⟨rfl, rfl, rfl, by decide +kernel, rfl, by decide +kernel, by decide +kernel⟩
theorem ok_roll {f : Addr} {fd : FuncData} (F : Fun K "_law_roll" "_law_roll" sRoll f fd) (T : Txt K mg) : FnOk P w K mg base CX0 1 f fd ["_law_cup_here", "_law_many"] spRoll := by
  refine F.ok scRoll (fun vs H Q E h => ?_) (fun cdv A outer s H vs Q E hr h => ?_)
  · obtain ⟨_, _, rfl, _⟩ := h
    rfl
  · obtain ⟨c, m, rfl, ⟨x, y, hx, hy, hc⟩, m0, m1, q⟩ := h
    have nd := scRoll.nd
    refine ⟨_, pss_cons (ps_if (pt_cmpR op_gt (pe_ix ix_list (pv 0) pe_int (fun _ _ => rfl)) pe_int (nomark _))
        (pss_cons (ps_set (i := 2) nd rfl (.inl rfl) (pe_op op_modN (pe_callTy call_int1 (by rfl) T.int (by decide +kernel) (pa_cons (pe_ix ix_list (pv 0) pe_int (fun _ _ => rfl)) pa_nil)) (pv 1)))
        (pss_cons (ps_asg (pe_op op_fdivN (pe_ix ix_list (pv 0) pe_int (fun _ _ => rfl)) (pv 1)) (pg_sub (pv 0) pe_int set_list))
        (pss_one (ps_ret (pv 2))))) pss_nil)
      (pss_cons (ps_asg (pe_op op_mod (pe_callTy call_int1 (by rfl) T.int (by decide +kernel) (pa_cons (pe_op op_add (pe_op op_mul (pe_ix ix_list (pv 0) pe_int (fun _ _ => rfl)) pe_int) pe_int) pa_nil)) pe_int) (pg_sub (pv 0) pe_int set_list))
      (pss_cons (ps_set (i := 3) nd rfl (.inl rfl) (pe_op op_mod (pe_callTy call_int1 (by rfl) T.int (by decide +kernel) (pa_cons (pe_op op_mul (pe_ix ix_list (pv 0) pe_int (fun _ _ => rfl)) (pe_op op_add (pe_ix ix_list (pv 0) pe_int (fun _ _ => rfl)) pe_int)) pa_nil)) pe_int))
      (pss_one (ps_ret (pe_op op_modN (pe_callTy call_int1 (by rfl) T.int (by decide +kernel) (pa_cons (pe_op op_fdiv (pv 3) pe_int) pa_nil)) (pv 1)))))), ?_⟩
    refine ⟨_, rfl, c, _, 0, .int x, rfl, rfl, SqL.of hc, rfl, _, _, rfl, rfl, _, rfl, ?_⟩
    refine ite2 (fun h0 => ?_) (fun h0 => ?_)
    · refine ⟨_, rfl, c, _, 0, .int x, rfl, rfl, SqL.of hc, rfl, .inl ⟨_, rfl, ?_⟩⟩
      refine ⟨_, rfl, x, m, rfl, rfl, by omega, ?_⟩
      refine ⟨_, rfl, c, _, 0, .int x, rfl, rfl, SqL.of hc, rfl, _, rfl, x, m, rfl, rfl, ⟨by omega, by omega⟩, ?_⟩
      refine ⟨_, rfl, c, _, 0, 0, rfl, rfl, hc, rfl, ?_⟩
      have e1 : x.fdiv m = x / m := Int.fdiv_eq_ediv_of_nonneg x (by omega)
      have e2 : x.fmod m = x % m := Int.fmod_eq_emod_of_nonneg x (by omega)
      refine ⟨_, rfl, q _ _ (Sb.upd (by simp)) ⟨x / m, y, Int.ediv_nonneg hx (by omega), hy, ?_⟩ ?_ ?_⟩
      · rw [upd_same]
        show some (HO.lst [V.int (x.fdiv m), V.int y]) = _
        rw [e1]
      · rw [e2]
        exact Int.emod_nonneg _ (by omega)
      · rw [e2]
        exact Int.emod_lt_of_pos _ m0
    · refine ⟨_, rfl, c, _, 1, .int y, rfl, rfl, SqL.of hc, rfl, y, 30671, rfl, rfl, .inr ⟨by decide, by decide⟩, _, _, rfl, rfl, .inl ⟨_, rfl, ?_⟩⟩
      refine ⟨_, _, rfl, rfl, (by show (0 : Int) < 2147483549; decide), _, rfl, c, _, 1, 1, rfl, rfl, hc, rfl, ?_⟩
      obtain ⟨y2, hy2⟩ : ∃ y2, y2 = (y * 30671 + 7919) % 2147483549 := ⟨_, rfl⟩
      have y20 : 0 ≤ y2 := by
        rw [hy2]
        exact Int.emod_nonneg _ (by decide)
      have y21 : y2 < 2147483549 := by
        rw [hy2]
        exact Int.emod_lt_of_pos _ (by decide)
      have hc2 : (upd H c (.lst (([.int x, .int y] : List V).set 1 (.int ((y * 30671 + 7919) % 2147483549))))) c = some (.lst [.int x, .int y2]) := by
        rw [hy2]
        exact upd_same
      refine ⟨_, rfl, c, _, 1, .int y2, rfl, rfl, SqL.of hc2, rfl, _, rfl, c, _, 1, .int y2, rfl, rfl, SqL.of hc2, rfl, _, _, rfl, rfl, y2, y2 + 131, rfl, rfl, .inl ⟨by omega, by omega⟩, .inl ⟨_, rfl, ?_⟩⟩
      refine ⟨_, _, rfl, rfl, (by show (0 : Int) < 2147483587; decide), ?_⟩
      refine ⟨_, rfl, _, _, rfl, rfl, ⟨by decide, by decide⟩, .inl ⟨_, rfl, _, rfl, _, m, rfl, rfl, by omega, ?_⟩⟩
      refine q _ _ (Sb.upd (by simp)) ⟨x, y2, hx, y20, hc2⟩ ?_ ?_
      · rw [Int.fmod_eq_emod_of_nonneg _ (by omega)]
        exact Int.emod_nonneg _ (by omega)
      · rw [Int.fmod_eq_emod_of_nonneg _ (by omega)]
        exact Int.emod_lt_of_pos _ m0
theorem scSome : FnScope ["_law_cup_here", "_law_things"] ["_law_cup_here", "_law_things"] (defScope sSome) := ⟨rfl, rfl, rfl, by decide +kernel, rfl, by decide +kernel, by decide +kernel⟩
theorem ok_some {f g : Addr} {fd gd : FuncData} (F : Fun K "_law_some" "_law_some" sSome f fd) (T : Txt K mg) (G : FnOk P w K mg base CX0 1 g gd ["_law_cup_here", "_law_many"] spRoll) (kG : PySem.W.keepIn K (.ref g) = true) (mG : mg "_law_roll" = some (.ref g)) (bG : Binds K gd ["_law_cup_here", "_law_many"] []) :
    FnOk P w K mg base CX0 2 f fd ["_law_cup_here", "_law_things"] (spSome K) := by
  refine F.ok scSome (fun vs H Q E h => ?_) (fun cdv A outer s H vs Q E hr h => ?_)
  · obtain ⟨_, _, _, rfl, _⟩ := h
    rfl
  · obtain ⟨c, l, xs, rfl, hc, n, hl, x0, x1, q⟩ := h
    refine ⟨_, pss_one (ps_ret (pe_ix ix_list (pv 1) (pe_call G hr rfl mG kG bG .nil pass0 (pa_cons (pv 0) (pa_cons (pe_callB call_len_seq (by rfl) T.len PySem.boot_len (pa_cons (pv 1) pa_nil)) pa_nil))) (fun _ _ => rfl))), ?_⟩
    refine ⟨_, rfl, _, rfl, _, rfl, l, xs, rfl, .inl (SqL.of hl), c, (xs.length : Int), rfl, hc, by omega, by omega, fun H1 r sb hc1 r0 r1 => ?_⟩
    have hl1 : H1 l = some (.lst xs) := sb _ _ hl (by simpa using n)
    have lt : r.toNat < xs.length := by omega
    have at1 : atI xs r = some xs[r.toNat] := at_of (j := r.toNat) (by omega) (List.getElem?_eq_getElem lt)
    exact ⟨l, xs, r, _, rfl, rfl, SqL.of hl1, at1, q H1 _ sb hc1 (List.getElem_mem lt)⟩
theorem scTold : FnScope ["_law_thing"] ["_law_thing"] (defScope sTold) := ⟨rfl, rfl, rfl, by decide +kernel, rfl, by decide +kernel, by decide +kernel⟩
theorem ok_told {f : Addr} {fd : FuncData} (F : Fun K "_law_told" "_law_told" sTold f fd) : FnOk P w K mg base CX0 1 f fd ["_law_thing"] (spTold K) := by
  refine F.ok scTold (fun vs H Q E h => ?_) (fun cdv A outer s H vs Q E hr h => ?_)
  · obtain ⟨_, rfl, _⟩ := h
    rfl
  · obtain ⟨x, rfl, sm, q⟩ := h
    refine ⟨_, pss_one (ps_ret (pe_ifExp (pt_cmpR op_ne (pv 0) pe_str (nomark _)) (pe_tup (pa_cons (pe_tup (pa_cons pe_str (pa_cons (pv 0) pa_nil))) pa_nil)) (pe_tup pa_nil))), ?_⟩
    refine ⟨_, rfl, rfl, _, rfl, ?_⟩
    by_cases c : x = S0
    · rw [decide_eq_true (show V.str x = V.str "" by rw [c])]
      refine iteF ⟨sz (by show 0 ≤ 100000; decide), fun t ht => ?_⟩
      refine q _ _ (same_upd ht) ⟨t, [], rfl, SqT.of upd_same, ?_⟩
      have z : tell S0 x = [] := if_pos c
      rw [z]
      exact .nil
    · rw [decide_eq_false (show ¬ V.str x = V.str "" from fun z => c (V.str.inj z))]
      refine iteT ⟨_, rfl, sz (by show 2 ≤ 100000; decide), fun p hp => ⟨sz (by show 1 ≤ 100000; decide), fun t ht => ?_⟩⟩
      have s1 : Same H (upd H p (.tup [.str "sign", .str x])) := same_upd hp
      have np : p ≠ t := fun e => by
        rw [← e, upd_same] at ht
        cases ht
      refine q _ _ (s1.trans (same_upd ht)) ⟨t, [.ref p], rfl, SqT.of upd_same, ?_⟩
      have z : tell S0 x = [.sign x] := if_neg c
      rw [z]
      exact .cons ⟨sm, p, rfl, SqT.of (by rw [upd_ne np]; exact upd_same)⟩ .nil
end
end K24

namespace K24
open PySem PySem.Spec PyProof.Rows L2
section
variable {K : PySem.W.Frag} {H H' : Hp}
/-! ### the rules as a dict -/
def DeedsAt (K : PySem.W.Frag) (H : Hp) (r : Addr) (qs : List Rule) : Prop := ∃ kvs, H r = some (.dT kvs) ∧ KvAt (fun v q => ∃ d, v = .ref d ∧ DeedAt K H d q.2.2) kvs qs
theorem DeedsAt.mono {r : Addr} {qs : List Rule} (k : TK K H H') (hr : ∀ o, H r = some o → H' r = some o) (h : DeedsAt K H r qs) : DeedsAt K H' r qs := by
  obtain ⟨kvs, h1, h2⟩ := h
  refine ⟨kvs, hr _ h1, Paired.mapP h2 fun _ _ z => ⟨z.1, ?_⟩⟩
  obtain ⟨_, d, e, hd⟩ := z
  exact ⟨d, e, hd.mono k⟩
theorem DeedsAt.same {r : Addr} {qs : List Rule} (s : Same H H') (h : DeedsAt K H r qs) : DeedsAt K H' r qs := h.mono (TK.same s) fun _ e => s _ _ e
theorem mergeT_at {g : V → Rule → Prop} : ∀ {more acc : List (List L2.Key × V)} {q2 q1 : List Rule}, KvAt g acc q1 → KvAt g more q2 → ((q1 ++ q2).map fun q => (q.1, q.2.1)).Nodup → KvAt g (mergeT acc more) (q1 ++ q2)
  | _, _, _, q1, ha, .nil, _ => by
    rw [List.append_nil]
    exact ha
  | _, acc, _, q1, ha, .cons (a := kv) (b := q) (l₂ := q2) h t, nd => by
    have e : q1 ++ q :: q2 = (q1 ++ [q]) ++ q2 := by simp
    show KvAt g (mergeT (putK acc kv.1 kv.2) _) (q1 ++ q :: q2)
    rw [e]
    rw [e] at nd
    refine mergeT_at ?_ t nd
    rw [h.1]
    refine ha.snoc h.2 fun m => ?_
    rw [List.map_append, List.map_append] at nd
    have nd2 := (List.nodup_append.mp nd).1
    have := (List.nodup_append.mp nd2).2.2 _ m _ (List.mem_map.mpr ⟨q, List.mem_singleton.mpr rfl, rfl⟩)
    exact this rfl
/-- the list of pairs that dict() gets, as far as it is made -/
def RL (K : PySem.W.Frag) (H0 : Hp) (D : Addr) (qs : List Rule) (i : Nat) (H : Hp) : Prop := Same H0 H ∧ ∃ (ps : List Addr) (kvs : List (List L2.Key × V)), H D = some (.lst (ps.map V.ref)) ∧ Paired (KeyPair K H) ps kvs ∧
  KvAt (fun v q => ∃ d, v = .ref d ∧ DeedAt K H0 d q.2.2) kvs (qs.take i)
theorem KeyPair.keep {p : Addr} {kv : List L2.Key × V} (k : TK K H H') (kt : ∀ b xs, H b = some (.tup xs) → H' b = some (.tup xs)) (h : KeyPair K H p kv) : KeyPair K H' p kv := by
  obtain ⟨a, h1, h2⟩ := h
  exact ⟨a, k _ _ h1, kt _ _ h2⟩
theorem RL.turn {H0 H1 : Hp} {D t p c d : Addr} {qs : List Rule} {i : Nat} {x1 x2 : Str} {x3 : Deed Str} (hD : H0 D = none) (h : RL K H0 D qs i H) (hq : qs[i]? = some (x1, x2, x3)) (hd : DeedAt K H0 d x3)
    (ht : H t = none) (hp : (upd H t (.tup [.str x1, .str x2])) p = none) :
    ∃ acc, (upd (upd H t (.tup [.str x1, .str x2])) p (.tup [.ref t, .ref d])) D = some (.lst acc) ∧ acc.length = min i qs.length ∧
      RL K H0 D qs (i + 1) (upd (upd (upd H t (.tup [.str x1, .str x2])) p (.tup [.ref t, .ref d])) D (.lst (acc ++ [.ref p]))) := by
  obtain ⟨s, ps, kvs, hl, hk, kv⟩ := h
  have nDt : D ≠ t := ne_of_none hl ht
  have e1 : (upd H t (.tup [.str x1, .str x2])) D = some (.lst (ps.map V.ref)) := by
    rw [upd_ne nDt]
    exact hl
  have nDp : D ≠ p := ne_of_none e1 hp
  have ntp : t ≠ p := fun e => by
    rw [← e, upd_same] at hp
    cases hp
  have e2 : (upd (upd H t (.tup [.str x1, .str x2])) p (.tup [.ref t, .ref d])) D = some (.lst (ps.map V.ref)) := by
    rw [upd_ne nDp]
    exact e1
  have s2 : Same H (upd (upd H t (.tup [.str x1, .str x2])) p (.tup [.ref t, .ref d])) := (same_upd ht).trans (same_upd hp)
  have len : ps.length = min i qs.length := by
    have h1 := Paired.length hk
    have h2 := kv.len
    rw [List.length_take] at h2
    omega
  refine ⟨_, e2, by rw [List.length_map]; exact len, fun b o e => ?_, ps ++ [p], kvs ++ [(kp x1 x2, .ref d)], ?_, ?_, ?_⟩
  · have nb : b ≠ D := ne_of_none e hD
    rw [upd_ne nb]
    exact s2 _ _ (s _ _ e)
  · rw [upd_same, List.map_append]
    rfl
  · have k3 : TK K (upd (upd H t (.tup [.str x1, .str x2])) p (.tup [.ref t, .ref d])) (upd (upd (upd H t (.tup [.str x1, .str x2])) p (.tup [.ref t, .ref d])) D (.lst (ps.map V.ref ++ [.ref p]))) := TK.upd e2 True.intro
    have kt : ∀ b xs, H b = some (.tup xs) → (upd (upd (upd H t (.tup [.str x1, .str x2])) p (.tup [.ref t, .ref d])) D (.lst (ps.map V.ref ++ [.ref p]))) b = some (.tup xs) := fun b xs e => by
      have nb : b ≠ D := ne_of e hl (fun z => nomatch z)
      rw [upd_ne nb]
      exact s2 _ _ e
    refine Paired.app (Paired.mapP hk fun _ _ z => z.keep ((TK.same s2).trans k3) kt) (.cons ⟨t, ?_, ?_⟩ .nil)
    · exact k3 _ _ (SqT.of upd_same)
    · rw [upd_ne nDt.symm, upd_ne ntp]
      exact upd_same
  · rw [take_snoc hq]
    exact Paired.app kv (.cons ⟨rfl, d, rfl, hd⟩ .nil)
theorem cutR (x y z : V) : cutV [x, y, z] none (some 2) = [x, y] := rfl
/-- the dict that is made of it -/
theorem RL.done {H0 : Hp} {D r : Addr} {qs : List Rule} (nd : (qs.map fun q => (q.1, q.2.1)).Nodup) (h : RL K H0 D qs qs.length H) (hr : H r = none) {ps : List Addr} {kvs : List (List L2.Key × V)} (e : KvAt (fun v q => ∃ d, v = .ref d ∧ DeedAt K H0 d q.2.2) kvs qs) :
    Same H0 (upd H r (.dT (mergeT [] kvs))) ∧ DeedsAt K (upd H r (.dT (mergeT [] kvs))) r qs := by
  have s := h.1.trans (same_upd (o := .dT (mergeT [] kvs)) hr)
  refine ⟨s, mergeT [] kvs, upd_same, ?_⟩
  have := mergeT_at (q1 := []) .nil e nd
  exact Paired.mapP this fun _ _ z => ⟨z.1, by
    obtain ⟨_, d, e, hd⟩ := z
    exact ⟨d, e, hd.mono (TK.same s)⟩⟩
/-! ### tuples of things, joined -/
theorem catTh {v u : V} {ts us : List (Thing Str)} {R : VK} (h1 : Ths K H v ts) (h2 : Ths K H u us) (l : ts.length + us.length ≤ 100000) (go : ∀ H' r, Same H H' → Ths K H' r (ts ++ us) → R r H') : rCatA K v u H R := by
  obtain ⟨a, xs, rfl, ha, ta⟩ := h1
  obtain ⟨b, ys, rfl, hb, tb⟩ := h2
  have l1 := ta.len
  have l2 := tb.len
  refine ⟨a, b, xs, ys, rfl, rfl, ha, hb, sz (by omega), fun e => ?_, fun _ e => ?_, fun _ _ p hp => ?_⟩
  · subst e
    exact go H _ (Same.refl H) ⟨b, ys, rfl, hb, ta.app tb⟩
  · subst e
    exact go H _ (Same.refl H) ⟨a, xs, rfl, ha, by have := ta.app tb; rw [List.append_nil] at this; exact this⟩
  · exact go _ _ (same_upd hp) ⟨p, xs ++ ys, rfl, SqT.of upd_same, (ta.app tb).mono (TK.new hp)⟩
/-! ### a row that is made -/
theorem keptG {tt : TT} {te : TE} {σ : L2.St} {l : Bool} {a : Str} {Qc : VK} (h1 : ∀ H1 (R : Bool → Hp → Prop), Same H H1 → R l H1 → tt σ H1 R) (h2 : ∀ H1 (R : VK), Same H H1 → R (.str a) H1 → te σ H1 R)
    {H0 : Hp} (s0 : Same H H0) (go : ∀ H3 q, Same H0 H3 → H3 q = some (.lst ((if l = true then [a] else []).map V.str)) → Qc (.ref q) H3) : tIf tt (tLst (tCons te tNil)) (tLst tNil) σ H0 Qc := by
  refine h1 H0 _ s0 ?_
  cases l with
  | true =>
    refine iteT (h2 H0 _ s0 ⟨sz (by show 1 ≤ 100000; decide), fun q hq => ?_⟩)
    exact go _ q (same_upd hq) upd_same
  | false =>
    refine iteF ⟨sz (by show 0 ≤ 100000; decide), fun q hq => ?_⟩
    exact go _ q (same_upd hq) upd_same
theorem rowG {t1 t2 : TT} {e1 e2 e3 : TE} {σ : L2.St} {l r : Bool} {a b x : Str} {Qc : VK} (h1 : ∀ H1 (R : Bool → Hp → Prop), Same H H1 → R l H1 → t1 σ H1 R) (h2 : ∀ H1 (R : VK), Same H H1 → R (.str a) H1 → e1 σ H1 R)
    (h3 : ∀ H1 (R : VK), Same H H1 → R (.str x) H1 → e2 σ H1 R) (h4 : ∀ H1 (R : Bool → Hp → Prop), Same H H1 → R r H1 → t2 σ H1 R) (h5 : ∀ H1 (R : VK), Same H H1 → R (.str b) H1 → e3 σ H1 R)
    (go : ∀ H3 q, Same H H3 → H3 q = some (.lst ((rowOf a b x l r).map V.str)) → Qc (.ref q) H3) :
    tOp rCat (tOp rCat (tIf t1 (tLst (tCons e1 tNil)) (tLst tNil)) (tLst (tCons e2 tNil))) (tIf t2 (tLst (tCons e3 tNil)) (tLst tNil)) σ H Qc := by
  refine keptG h1 h2 (Same.refl H) fun H1 q1 s1 g1 => ?_
  refine h3 H1 _ s1 ⟨sz (by show 1 ≤ 100000; decide), fun q2 n2 => ?_⟩
  have s2 := same_upd (o := .lst [V.str x]) n2
  refine ⟨q1, q2, _, _, rfl, rfl, s2 _ _ g1, upd_same, ?_, fun q3 n3 => ?_⟩
  · cases l <;> exact sz (by simp)
  · have s3 := same_upd (o := .lst ((if l = true then [a] else []).map V.str ++ [V.str x])) n3
    refine keptG h4 h5 ((s1.trans s2).trans s3) fun H4 q4 s4 g4 => ?_
    refine ⟨q3, q4, _, _, rfl, rfl, s4 _ _ upd_same, g4, ?_, fun q5 n5 => ?_⟩
    · cases l <;> cases r <;> exact sz (by simp)
    · refine go _ q5 (((s1.trans s2).trans s3).trans (s4.trans (same_upd n5))) ?_
      rw [upd_same]
      unfold rowOf
      cases l <;> cases r <;> rfl
end
/-! ### the law's box -/
def BoxAt (H : Hp) (p r d o : Addr) : Prop := H p = some (.dK [(.inr "rules", .ref r), (.inr "done", .ref d), (.inr "open", .ref o)])
def spBox (K : PySem.W.Frag) : Sp := fun vs H Q _ => ∃ (v : V) (L : Str) (qs : List Rule), vs = [v] ∧ ProgAt K H v L qs ∧ ProgOk L qs ∧
  ∀ H' p r d o, Same H H' → H p = none → H d = none → H o = none → BoxAt H' p r d o → DeedsAt K H' r qs → H' d = some (.dT []) → H' o = some (.lst []) → r ≠ d → Q (.ref p) H'
section
variable {P : Program} {w : World} {K : PySem.W.Frag} {mg : Str → Option Value} {base : Heap}
theorem scBox : FnScope ["_law_pairs_here", "_law_row"] ["_law_pairs_here"] (defScope sBox) := ⟨rfl, rfl, rfl, by decide +kernel, rfl, by decide +kernel, by decide +kernel⟩
theorem nk1 : ¬ (Sum.inr ("rules" : Str) : L2.Key) = Sum.inr ("done" : Str) := by decide +kernel
theorem nk2 : ¬ (Sum.inr ("rules" : Str) : L2.Key) = Sum.inr ("open" : Str) := by decide +kernel
theorem nk3 : ¬ (Sum.inr ("done" : Str) : L2.Key) = Sum.inr ("open" : Str) := by decide +kernel
theorem merge3 (r d o : V) : mergeK [] [((.inr "rules" : L2.Key), r), (.inr "done", d), (.inr "open", o)] = [((.inr "rules" : L2.Key), r), (.inr "done", d), (.inr "open", o)] := by
  have n1 : valV [((.inr "rules" : L2.Key), r)] (.inr "done") = none := by
    rw [valV_neg nk1]
    rfl
  have n2 : valV [((.inr "rules" : L2.Key), r), (.inr "done", d)] (.inr "open") = none := by
    rw [valV_neg nk2, valV_neg nk3]
    rfl
  show putK (putK (putK ([] : List (L2.Key × V)) (.inr "rules") r) (.inr "done") d) (.inr "open") o = _
  rw [show putK ([] : List (L2.Key × V)) (.inr "rules") r = [(.inr "rules", r)] from rfl, putK_new d n1]
  show putK [((.inr "rules" : L2.Key), r), (.inr "done", d)] (.inr "open") o = _
  rw [putK_new o n2]
  rfl
theorem ok_box {f : Addr} {fd : FuncData} (F : Fun K "_law_box" "_law_box" sBox f fd) (T : Txt K mg) : FnOk P w K mg base CX0 1 f fd ["_law_pairs_here"] (spBox K) := by
  refine F.ok scBox (fun vs H Q E h => ?_) (fun cdv A outer s H vs Q E hr h => ?_)
  · obtain ⟨_, _, _, rfl, _⟩ := h
    rfl
  · obtain ⟨v, L, qs, rfl, ⟨a, b, rfl, hA, rs, hB, hR⟩, ok, q⟩ := h
    have nd := scBox.nd
    refine ⟨_, pss_one (ps_ret (pe_disp (pps_cons pe_str (pe_callTy (call_dictT rfl (hu65 hr)) (by rfl) T.dict (by decide +kernel) (pa_cons
        (pe_lc (own := [("_law_row", 1)]) (g := gName 1) (tt := tYes) rfl nd (pi_tup (pe_ix ix_tup (pv 0) pe_int (fun _ _ => rfl)))
          (blkOk_by (own := [("_law_row", 1)]) (N := ["_law_pairs_here", "_law_row"]) (sc := defScope sBox) (by decide +kernel))
          (fun _ _ _ _ _ => pg_name (i := 1) nd rfl (Or.inl rfl)) (fun _ _ _ _ _ => pts_nil)
          (fun _ _ _ _ _ => pe_tup (pa_cons (pe_slice (show SlR _ (rSlT K) from sl_tup) (pv 1) po_none (po_some pe_int)) (pa_cons (pe_ix (show IxR _ (rIxT K) from ix_tup) (pv 1) pe_int (fun _ _ => rfl)) pa_nil)))) pa_nil))
        (pps_cons pe_str pe_dnewT (pps_cons pe_str (pe_lst pa_nil) pps_nil))) (by rfl) (by rfl) (fun z => by cases z) (by decide))), ?_⟩
    intro p hp
    have s0 := same_upd (o := .dK []) hp
    have k0 : TK K H (upd H p (.dK [])) := TK.same s0
    refine ⟨_, rfl, a, _, 1, .ref b, rfl, rfl, k0 _ _ hA, rfl, b, rfl, ⟨rs, k0 _ _ hB⟩, fun D hD => ?_⟩
    have rl : rs.length = qs.length := Paired.length hR
    refine lc_tup (K := K) (a := b) (xs := rs) (RL K (upd H p (.dK [])) D qs) ⟨same_upd hD, [], [], upd_same, .nil, .nil⟩ (fun i H' _ x => TK.same x.1 _ _ (k0 _ _ hB)) ?_ ?_
    · rintro i x H2 hi rlh
      obtain ⟨⟨x1, x2, x3⟩, hq, c, d, rfl, hc, hd⟩ := Paired.at1 hR hi
      have hc2 : SqT K H2 c [.str x1, .str x2, .ref d] := TK.same rlh.1 _ _ (k0 _ _ hc)
      refine ⟨rfl, _, rfl, 2, rfl, c, _, rfl, hc2, by show ¬ (HT.sIx 3 0 none = 0 ∧ HT.sIx 3 3 (some 2) = 3); decide, fun t ht => ?_⟩
      refine ⟨_, rfl, c, _, 2, .ref d, rfl, rfl, TK.new ht _ _ hc2, rfl, sz (by show 2 ≤ 100000; decide), fun u hu => ?_⟩
      obtain ⟨acc, e, l, rl2⟩ := RL.turn (H1 := H2) (c := c) hD rlh hq (hd.mono k0) ht hu
      have few := ok.few
      exact ⟨acc, e, by rw [l]; exact szl (by show min i qs.length ≤ 100000; omega), rl2⟩
    · rintro H2 rlh
      rw [rl] at rlh
      obtain ⟨s2, ps, kvs, hl, hk, kv⟩ := id rlh
      rw [List.take_length] at kv
      refine ⟨D, ps, kvs, rfl, SqL.of hl, hk, fun r hr2 => ?_⟩
      obtain ⟨s3, hDe⟩ := RL.done (ps := ps) ok.nd rlh hr2 kv
      have sH3 := s0.trans s3
      intro d hd2
      have nrd : r ≠ d := fun e => by
        rw [← e, upd_same] at hd2
        cases hd2
      have s4 := same_upd (o := .dT []) hd2
      refine ⟨sz (by show 0 ≤ 100000; decide), fun o ho => ?_⟩
      have s5 := same_upd (o := .lst []) ho
      have sf := s3.trans (s4.trans s5)
      have ep : (upd (upd (upd H2 r (.dT (mergeT [] kvs))) d (.dT [])) o (.lst [])) p = some (.dK []) := sf _ _ upd_same
      refine ⟨ep, [(.inr "rules", .ref r), (.inr "done", .ref d), (.inr "open", .ref o)], rfl, by show 3 ≤ 15; decide, ?_⟩
      rw [merge3]
      have npd : d ≠ p := fun e => by
        have := s3 p _ upd_same
        rw [← e, hd2] at this
        cases this
      have npo : o ≠ p := fun e => by
        have := (s3.trans s4) p _ upd_same
        rw [← e, ho] at this
        cases this
      have npr : r ≠ p := fun e => by
        have := s2 p _ upd_same
        rw [← e, hr2] at this
        cases this
      have ndo : d ≠ o := fun e => by
        rw [← e, upd_same] at ho
        cases ho
      have keep : ∀ z o', (upd (upd (upd H2 r (.dT (mergeT [] kvs))) d (.dT [])) o (.lst [])) z = some o' → z ≠ p → (upd (upd (upd (upd H2 r (.dT (mergeT [] kvs))) d (.dT [])) o (.lst [])) p (.dK [(.inr "rules", .ref r), (.inr "done", .ref d), (.inr "open", .ref o)])) z = some o' := fun z o' e n => by
        rw [upd_ne n]
        exact e
      refine q _ p r d o (fun z o' e => keep z o' ((s0.trans sf) z o' e) (ne_of_none e hp)) hp (sH3.free hd2) ((sH3.trans s4).free ho) upd_same ?_ ?_ ?_ nrd
      · exact (hDe.same (s4.trans s5)).mono (TK.upd ep True.intro) fun o' e => keep _ _ e npr
      · exact keep _ _ (s5 _ _ upd_same) npd
      · exact keep _ _ upd_same npo
end
end K24

namespace K24
end K24

namespace K24
open PySem PySem.Spec PyProof.Rows L2
/-! ### pairs as data -/
def keyD (s : Str × Str) : PyData := .tuple [.str s.1, .str s.2]
theorem eqv_keyD (s t : Str × Str) : PyData.eqv (keyD s) (keyD t) = decide (s = t) := by
  obtain ⟨a, b⟩ := s
  obtain ⟨c, d⟩ := t
  have e : PyData.eqv (keyD (a, b)) (keyD (c, d)) = ((a == c) && ((b == d) && true)) := by simp only [keyD, PyData.eqv, PyData.eqvAll]
  rw [e]
  by_cases h : ((a, b) : Str × Str) = (c, d)
  · cases h
    simp
  · rw [decide_eq_false h]
    by_cases h1 : a = c
    · have h2 : ¬ b = d := fun z => h (by rw [h1, z])
      have q : (b == d) = false := beq_eq_false_iff_ne.mpr h2
      rw [q, Bool.false_and, Bool.and_false]
    · have q : (a == c) = false := beq_eq_false_iff_ne.mpr h1
      rw [q, Bool.false_and]
def SmP (s : Str × Str) : Prop := Sm s.1 ∧ Sm s.2
theorem sh_key {s : Str × Str} (h : SmP s) : SeqAt.shaped (keyD s) = true := by
  have h1 := h.1.ok
  have h2 := h.2.ok
  simp [keyD, SeqAt.shaped, PyData.canLay0, PyData.canLayAll0, PyData.depth, PyData.depthAll, h1, h2]
theorem lay_keys : ∀ {S : List (Str × Str)}, (∀ s ∈ S, SmP s) → PyData.canLayAll0 (S.map keyD) = true
  | [], _ => rfl
  | s :: S, h => by
    have ih := lay_keys (S := S) fun x hx => h x (List.mem_cons_of_mem _ hx)
    have h1 := (h s List.mem_cons_self).1.ok
    have h2 := (h s List.mem_cons_self).2.ok
    rw [List.map_cons]
    simp [PyData.canLayAll0, ih, keyD, PyData.canLay0, h1, h2]
theorem depth_keys : ∀ (S : List (Str × Str)), PyData.depthAll (S.map keyD) ≤ 2
  | [] => by simp [PyData.depthAll]
  | s :: S => by
    have ih := depth_keys S
    rw [List.map_cons]
    simp only [PyData.depthAll, keyD, PyData.depth]
    omega
theorem depth_key (s : Str × Str) : (keyD s).depth ≤ 2 := by
  simp [keyD, PyData.depth, PyData.depthAll]
theorem sh_keys {S : List (Str × Str)} (h : ∀ s ∈ S, SmP s) : SeqAt.shaped (.list (S.map keyD)) = true := by
  have h1 := lay_keys h
  have h2 := depth_keys S
  have h3 : PyData.depth (.list (S.map keyD)) ≤ 64 := by
    simp only [PyData.depth]
    omega
  show (PyData.canLay0 (.list (S.map keyD)) && decide (PyData.depth (.list (S.map keyD)) ≤ 64)) = true
  rw [decide_eq_true h3, Bool.and_true]
  simp only [PyData.canLay0]
  exact h1
theorem plain_key (s : Str × Str) : (keyD s).plain = true := by simp [keyD, PyData.plain, PyData.plainAll]
theorem plain_keys : ∀ (S : List (Str × Str)), PyData.plainAll (S.map keyD) = true
  | [] => by simp [PyData.plainAll]
  | s :: S => by
    rw [List.map_cons]
    simp [PyData.plainAll, plain_key s, plain_keys S]
theorem any_keys (S : List (Str × Str)) (s : Str × Str) : ((S.map keyD).any fun z => PyData.eqv z (keyD s)) = decide (s ∈ S) := by
  induction S with
  | nil => simp
  | cons t S ih =>
    rw [List.map_cons, List.any_cons, ih, eqv_keyD]
    by_cases h : t = s
    · rw [decide_eq_true h, decide_eq_true (show s ∈ t :: S by rw [h]; exact List.mem_cons_self)]
      rfl
    · rw [decide_eq_false h, Bool.false_or]
      by_cases m : s ∈ S
      · rw [decide_eq_true m, decide_eq_true (List.mem_cons_of_mem _ m)]
      · rw [decide_eq_false m, decide_eq_false fun z => (List.mem_cons.mp z).elim (fun e => h e.symm) m]
theorem place_keys : ∀ (S : List (Str × Str)) {s : Str × Str}, s ∉ S → PySem.SeqAt.dataPlace ((S ++ [s]).map keyD) (keyD s) = some S.length
  | [], s, _ => by
    show List.findIdx? _ [keyD s] = some 0
    rw [List.findIdx?_cons, eqv_keyD, decide_eq_true rfl]
    rfl
  | t :: S, s, n => by
    have n1 : ¬ t = s := fun e => n (by rw [e]; exact List.mem_cons_self)
    have ih := place_keys S (s := s) fun m => n (List.mem_cons_of_mem _ m)
    show List.findIdx? _ (keyD t :: (S ++ [s]).map keyD) = some (S.length + 1)
    rw [List.findIdx?_cons, eqv_keyD, decide_eq_false n1]
    have ih : List.findIdx? (fun y => PyData.eqv y (keyD s)) ((S ++ [s]).map keyD) = some S.length := ih
    rw [ih]
    rfl
/-! ### the box, as it works -/
section
variable {K : PySem.W.Frag} {H H' : Hp} {p r d o : Addr} {L : Str} {qs : List Rule} {S : List (Str × Str)}
def OpenAt (K : PySem.W.Frag) (H : Hp) (o : Addr) (S : List (Str × Str)) : Prop := ∃ ps : List Addr, H o = some (.lst (ps.map V.ref)) ∧ Paired (fun p s => SqT K H p [.str s.1, .str s.2]) ps S
/-- what comes of a pair, of what is told the first 41 things -/
def ComeAt (K : PySem.W.Frag) (H : Hp) (v : V) (t : List (Thing Str) × Str) : Prop := ∃ a b xs, v = .ref a ∧ SqT K H a [.ref b, .str t.2] ∧ SqT K H b xs ∧ ThL K H xs (t.1.take 41)
theorem ComeAt.mono {v : V} {t : List (Thing Str) × Str} (k : TK K H H') (h : ComeAt K H v t) : ComeAt K H' v t := by
  obtain ⟨a, b, xs, e, h1, h2, h3⟩ := h
  exact ⟨a, b, xs, e, k _ _ h1, k _ _ h2, h3.mono k⟩
def CTruth (K : PySem.W.Frag) (H : Hp) (qs : List Rule) (a b : Str) (v : V) : Prop := (v = .non ∧ Never S0 (fOf qs) a b) ∨ ∃ t, Goes S0 (fOf qs) a b t ∧ ComeAt K H v t
theorem CTruth.mono {a b : Str} {v : V} (k : TK K H H') (h : CTruth K H qs a b v) : CTruth K H' qs a b v := by
  rcases h with h | ⟨t, h1, h2⟩
  · exact .inl h
  · exact .inr ⟨t, h1, h2.mono k⟩
structure BoxW (K : PySem.W.Frag) (H : Hp) (p r d o : Addr) (L : Str) (qs : List Rule) (S : List (Str × Str)) : Prop where
  box : BoxAt H p r d o
  deeds : DeedsAt K H r qs
  rd : r ≠ d
  dn : ∃ done, H d = some (.dT done) ∧ Dom L done ∧ ∀ a b v, valV done (kp a b) = some v → CTruth K H qs a b v
  op : OpenAt K H o S
  sm : ∀ s ∈ S, SmP s
  fewS : S.length ≤ 1000
theorem OpenAt.mono (k : TK K H H') (ho : ∀ u, H o = some u → H' o = some u) (h : OpenAt K H o S) : OpenAt K H' o S := by
  obtain ⟨ps, h1, h2⟩ := h
  exact ⟨ps, ho _ h1, Paired.mapP h2 fun _ _ z => k _ _ z⟩
theorem BoxW.same (w : BoxW K H p r d o L qs S) (s : Same H H') : BoxW K H' p r d o L qs S := by
  obtain ⟨h1, h2, h3, ⟨done, h4, h5, h6⟩, h7, h8, h9⟩ := w
  exact ⟨s _ _ h1, h2.same s, h3, ⟨done, s _ _ h4, h5, fun a b v e => (h6 a b v e).mono (TK.same s)⟩, h7.mono (TK.same s) fun u e => s _ _ e, h8, h9⟩
theorem BoxW.tk (w : BoxW K H p r d o L qs S) (h : Sb [d, o] H H') : TK K H H' := by
  obtain ⟨done, h1, _⟩ := w.dn
  obtain ⟨ps, h2, _⟩ := w.op
  refine h.tk fun c hc => ?_
  rcases List.mem_cons.mp hc with e | m
  · subst e
    exact ⟨_, h1, True.intro⟩
  · have e := List.mem_singleton.mp m
    subst e
    exact ⟨_, h2, True.intro⟩
theorem DpKeys : ∀ {ps : List Addr} {S : List (Str × Str)}, Paired (fun p s => SqT K H p [.str s.1, .str s.2]) ps S → DpAll K H (ps.map V.ref) (S.map keyD)
  | _, _, .nil => .nil
  | _, _, .cons h t => .cons (.tup h (.cons (.str _) (.cons (.str _) .nil))) (DpKeys t)
theorem box_rules {x y z : V} : valV [((.inr "rules" : L2.Key), x), (.inr "done", y), (.inr "open", z)] (.inr "rules") = some x := valV_pos rfl
theorem box_done {x y z : V} : valV [((.inr "rules" : L2.Key), x), (.inr "done", y), (.inr "open", z)] (.inr "done") = some y := by
  rw [valV_neg nk1]
  exact valV_pos rfl
theorem box_open {x y z : V} : valV [((.inr "rules" : L2.Key), x), (.inr "done", y), (.inr "open", z)] (.inr "open") = some z := by
  rw [valV_neg nk2, valV_neg nk3]
  exact valV_pos rfl
theorem get_rules (h : BoxAt H p r d o) : DGet H p (.str "rules") (some (.ref r)) := by
  rw [← box_rules (x := .ref r) (y := .ref d) (z := .ref o)]
  exact DGet.k (k := .inr "rules") h
theorem get_done (h : BoxAt H p r d o) : DGet H p (.str "done") (some (.ref d)) := by
  rw [← box_done (x := .ref r) (y := .ref d) (z := .ref o)]
  exact DGet.k (k := .inr "done") h
theorem get_open (h : BoxAt H p r d o) : DGet H p (.str "open") (some (.ref o)) := by
  rw [← box_open (x := .ref r) (y := .ref d) (z := .ref o)]
  exact DGet.k (k := .inr "open") h
end
def spCome (K : PySem.W.Frag) (n : Nat) : Sp := fun vs H Q _ => ∃ (p r d o : Addr) (L : Str) (qs : List Rule) (S : List (Str × Str)) (a b : Str), vs = [.ref p, .str a, .str b] ∧ BoxW K H p r d o L qs S ∧ ProgOk L qs ∧ IsSide L a ∧ IsSide L b ∧
  Needs S0 (fOf qs) S a b ∧ remS qs S < n ∧ S.length + n ≤ 30 ∧ ∀ H' v, Sb [d, o] H H' → BoxW K H' p r d o L qs S → CTruth K H' qs a b v → Q v H'
def spCame (K : PySem.W.Frag) (n : Nat) : Sp := fun vs H Q _ => ∃ (p r d o : Addr) (L : Str) (qs : List Rule) (S : List (Str × Str)) (a b : Str) (dv : V), vs = [.ref p, .str a, .str b, dv] ∧ BoxW K H p r d o L qs (S ++ [(a, b)]) ∧ ProgOk L qs ∧ IsSide L a ∧ IsSide L b ∧
  Needs S0 (fOf qs) S a b ∧ (a, b) ∉ S ∧ remS qs S < n + 1 ∧ S.length + n ≤ 29 ∧
  ((fOf qs a b = none ∧ dv = .non) ∨ ∃ ad dd, fOf qs a b = some dd ∧ dv = .ref ad ∧ DeedAt K H ad dd) ∧
  ∀ H' v, Sb [d, o] H H' → BoxW K H' p r d o L qs (S ++ [(a, b)]) → CTruth K H' qs a b v → Q v H'
section
variable {P : Program} {w : World} {K : PySem.W.Frag} {mg : Str → Option Value} {base : Heap}
theorem scCome : FnScope ["_law_box_here", "_law_left", "_law_right_here", "_law_key"] ["_law_box_here", "_law_left", "_law_right_here"] (defScope sCome) := ⟨rfl, rfl, rfl, by decide +kernel, rfl, by decide +kernel, by decide +kernel⟩
theorem erase_last {α : Type} (l : List α) (x : α) : (l ++ [x]).eraseIdx l.length = l := by
  rw [List.eraseIdx_append_of_length_le (Nat.le_refl _), Nat.sub_self]
  simp
theorem ok_come {n : Nat} {f g : Addr} {fd gd : FuncData} (F : Fun K "_law_come" "_law_come" sCome f fd)
    (G : FnOk P w K mg base CX0 (3 * n + 3) g gd ["_law_box_here", "_law_left", "_law_right_here", "_law_deed_here"] (spCame K n)) (kG : PySem.W.keepIn K (.ref g) = true) (mG : mg "_law_came" = some (.ref g)) (bG : Binds K gd ["_law_box_here", "_law_left", "_law_right_here", "_law_deed_here"] []) :
    FnOk P w K mg base CX0 (3 * (n + 1) + 1) f fd ["_law_box_here", "_law_left", "_law_right_here"] (spCome K (n + 1)) := by
  refine F.ok scCome (fun vs H Q E h => ?_) (fun cdv A outer s H vs Q E hr h => ?_)
  · obtain ⟨_, _, _, _, _, _, _, _, _, rfl, _⟩ := h
    rfl
  · obtain ⟨p, r, d, o, L, qs, S, a, b, rfl, W, ok, ha, hb, nee, hrem, hSn, q⟩ := h
    have nd := scCome.nd
    have hu := hu_of hr
    refine ⟨_, pss_cons (ps_set (i := 3) nd rfl (.inl rfl) (pe_tup (pa_cons (pv 1) (pa_cons (pv 2) pa_nil))))
      (pss_cons (ps_if (pt_cmp (pc_din hu (pv 3) (pe_dget hu (pv 0) pe_str (fun _ _ => rfl)))) (pss_one (ps_ret (pe_dget hu (pe_dget hu (pv 0) pe_str (fun _ _ => rfl)) (pv 3) (fun _ _ => rfl)))) pss_nil)
      (pss_cons (ps_if (pt_cmpR (op_inD (hu65 hr)) (pv 3) (pe_dget hu (pv 0) pe_str (fun _ _ => rfl)) (by rfl)) (pss_one (ps_ret pe_non)) pss_nil)
      (pss_cons (ps_expr (pe_bm PySem.F.plainAttrs_list PySem.F.slot_list_append PySem.F.type_list_append mt_append (pe_dget hu (pv 0) pe_str (fun _ _ => rfl)) (pa_cons (pv 3) pa_nil)))
      (pss_cons (ps_dput hu (pe_dget hu (pv 0) pe_str (fun _ _ => rfl)) (pv 3) (pe_call G hr rfl mG kG bG .nil pass0 (pa_cons (pv 0) (pa_cons (pv 1) (pa_cons (pv 2) (pa_cons (pe_dget1 hu (pe_dget hu (pv 0) pe_str (fun _ _ => rfl)) (pv 3) ⟨rfl, rfl, rfl, rfl⟩) pa_nil))))) rfl)
      (pss_cons (ps_expr (pe_bm PySem.F.plainAttrs_list PySem.F.slot_list_remove PySem.F.type_list_remove (mt_removeD (hu65 hr)) (pe_dget hu (pv 0) pe_str (fun _ _ => rfl)) (pa_cons (pv 3) pa_nil)))
      (pss_one (ps_ret (pe_dget hu (pe_dget hu (pv 0) pe_str (fun _ _ => rfl)) (pv 3) (fun _ _ => rfl))))))))), ?_⟩
    obtain ⟨hB, hD, rd, ⟨done, hdn, dm, tr⟩, ⟨ps, hop, hps⟩, smS, fS⟩ := id W
    have sma := ha.sm ok.lets
    have smb := hb.sm ok.lets
    have ld := dm.len ok.lets
    have lp : ps.length = S.length := Paired.length hps
    refine ⟨_, rfl, _, rfl, sz (by show 2 ≤ 100000; decide), fun t ht => ?_⟩
    have s1 : Same H (upd H t (.tup [.str a, .str b])) := same_upd ht
    have k1 : TK K H (upd H t (.tup [.str a, .str b])) := TK.same s1
    have W1 := W.same s1
    have B1 := s1 _ _ hB
    -- if key in box['done']
    refine ⟨_, rfl, _, rfl, p, .ref d, rfl, get_done B1, d, _, rfl, DGet.t (k := kp a b) (s1 _ _ hdn) upd_same, _, rfl, ?_⟩
    cases ed : valV done (kp a b) with
    | some v =>
      refine iteT ⟨_, rfl, p, .ref d, rfl, get_done B1, _, rfl, d, v, rfl, by rw [← ed]; exact DGet.t (k := kp a b) (s1 _ _ hdn) upd_same, ?_⟩
      exact q _ v (Sb.of s1) W1 ((tr a b v ed).mono k1)
    | none =>
      -- if key in box['open']
      have hps1 := Paired.mapP hps fun _ _ z => k1 _ _ z
      have hkey : SqT K (upd H t (.tup [.str a, .str b])) t [.str a, .str b] := SqT.of upd_same
      refine iteF ⟨_, rfl, _, rfl, p, .ref o, rfl, get_open B1, keyD (a, b), S.map keyD, .tup hkey (.cons (.str _) (.cons (.str _) .nil)), .lst (SqL.of (s1 _ _ hop)) (DpKeys hps1), sh_key ⟨sma, smb⟩, sh_keys smS, _, rfl, ?_⟩
      rw [any_keys]
      by_cases hm : (a, b) ∈ S
      · rw [decide_eq_true hm]
        exact iteT (q _ .non (Sb.of s1) W1 (.inl ⟨rfl, Needs.ring S0 (fOf qs) nee hm⟩))
      · rw [decide_eq_false hm]
        -- box['open'].append(key)
        refine iteF ⟨_, rfl, p, .ref o, rfl, get_open B1, .inl ⟨rfl, _, SqL.of (s1 _ _ hop)⟩, _, rfl, o, _, _, rfl, rfl, s1 _ _ hop, by rw [List.length_map]; exact szl (by omega), ?_⟩
        have k2 : TK K (upd H t (.tup [.str a, .str b])) (upd (upd H t (.tup [.str a, .str b])) o (.lst (ps.map V.ref ++ [.ref t]))) := TK.upd (s1 _ _ hop) True.intro
        have nto : t ≠ o := (ne_of_none hop ht).symm
        have npo : p ≠ o := ne_of hB hop (fun z => nomatch z)
        have ndo : d ≠ o := ne_of hdn hop (fun z => nomatch z)
        have nro : r ≠ o := by
          obtain ⟨kvs, h1, _⟩ := hD
          exact ne_of h1 hop (fun z => nomatch z)
        have et : (upd (upd H t (.tup [.str a, .str b])) o (.lst (ps.map V.ref ++ [.ref t]))) t = some (.tup ((kp a b).map kV)) := by
          rw [upd_ne nto]
          exact upd_same
        have sb2 : Sb [d, o] H (upd (upd H t (.tup [.str a, .str b])) o (.lst (ps.map V.ref ++ [.ref t]))) := (Sb.of s1).trans (Sb.upd (by simp))
        have W2 : BoxW K (upd (upd H t (.tup [.str a, .str b])) o (.lst (ps.map V.ref ++ [.ref t]))) p r d o L qs (S ++ [(a, b)]) := by
          refine ⟨?_, (hD.same s1).mono k2 fun u e => by rw [upd_ne nro]; exact e, rd, ⟨done, ?_, dm, fun x y v e => ((tr x y v e).mono k1).mono k2⟩, ⟨ps ++ [t], ?_, ?_⟩, ?_, ?_⟩
          · show (upd _ _ _) p = _
            rw [upd_ne npo]
            exact B1
          · rw [upd_ne ndo]
            exact s1 _ _ hdn
          · rw [upd_same, List.map_append]
            rfl
          · exact Paired.app (Paired.mapP hps1 fun _ _ z => k2 _ _ z) (.cons (k2 _ _ hkey) .nil)
          · intro s hs
            rcases List.mem_append.mp hs with m | m
            · exact smS s m
            · rw [List.mem_singleton.mp m]
              exact ⟨sma, smb⟩
          · rw [List.length_append]
            simp
            omega
        have B2 := W2.box
        obtain ⟨kvs, hr2, kv⟩ := W2.deeds
        -- came(box, left, right, box['rules'].get(key))
        refine ⟨_, rfl, _, rfl, _, rfl, _, rfl, p, .ref r, rfl, get_rules B2, r, rfl, .inr ⟨kvs, .inl hr2⟩, _, rfl, _, DGet.t (k := kp a b) hr2 et, ?_⟩
        refine ⟨p, r, d, o, L, qs, S, a, b, (valV kvs (kp a b)).getD .non, rfl, W2, ok, ha, hb, nee, hm, by omega, by omega, ?_, fun H3 v sb3 W3 tr3 => ?_⟩
        · rcases kv.look a b with ⟨ef, ev⟩ | ⟨q0, v0, mq, e1, e2, ef, ev, ad, e3, hd⟩
          · rw [ev]
            exact .inl ⟨ef, rfl⟩
          · rw [ev, e3]
            exact .inr ⟨ad, q0.2.2, ef, rfl, hd⟩
        obtain ⟨B3, D3, _, ⟨done3, hdn3, dm3, tr3'⟩, ⟨ps3, hop3, hps3⟩, sm3, fS3⟩ := id W3
        have tn : t ∉ [d, o] := by
          intro m
          rcases List.mem_cons.mp m with e | m
          · rw [e, hdn] at ht
            cases ht
          · exact nto (List.mem_singleton.mp m)
        have et3 : H3 t = some (.tup ((kp a b).map kV)) := sb3 _ _ et tn
        have ld3 := dm3.len ok.lets
        -- box['done'][key] = ..
        refine ⟨_, rfl, p, .ref d, rfl, get_done B3, _, rfl, d, _, rfl, DPut.t (k := kp a b) hdn3 et3 (szl (by omega)), ?_⟩
        have k4 : TK K H3 (upd H3 d (.dT (putK done3 (kp a b) v))) := TK.upd hdn3 True.intro
        have npd : p ≠ d := ne_of B3 hdn3 (fun z => nomatch z)
        have nod : o ≠ d := ne_of hop3 hdn3 (fun z => nomatch z)
        have B4 : BoxAt (upd H3 d (.dT (putK done3 (kp a b) v))) p r d o := by
          show (upd _ _ _) p = _
          rw [upd_ne npd]
          exact B3
        have hop4 : (upd H3 d (.dT (putK done3 (kp a b) v))) o = some (.lst (ps3.map V.ref)) := by
          rw [upd_ne nod]
          exact hop3
        have hps4 := Paired.mapP hps3 fun _ _ z => k4 _ _ z
        have htd : t ≠ d := fun e => tn (by rw [e]; simp)
        have et4 : (upd H3 d (.dT (putK done3 (kp a b) v))) t = some (.tup ((kp a b).map kV)) := by
          rw [upd_ne htd]
          exact et3
        -- box['open'].remove(key)
        refine ⟨_, rfl, p, .ref o, rfl, get_open B4, .inl ⟨rfl, _, SqL.of hop4⟩, _, rfl, ?_⟩
        refine ⟨o, _, (S ++ [(a, b)]).map keyD, _, keyD (a, b), S.length, rfl, rfl, hop4, DpKeys hps4, .tup (SqT.of et4) (.cons (.str _) (.cons (.str _) .nil)), plain_keys _, plain_key _, ?_, place_keys S hm, ?_⟩
        · have := depth_keys (S ++ [(a, b)])
          omega
        have l3 : ps3.length = S.length + 1 := by
          have := Paired.length hps3
          rw [List.length_append] at this
          simpa using this
        obtain ⟨ps5, t5, e5⟩ : ∃ ps5 t5, ps3 = ps5 ++ [t5] := by
          have ne : ps3 ≠ [] := fun e => by
            rw [e] at l3
            simp at l3
          exact ⟨ps3.dropLast, ps3.getLast ne, (List.dropLast_concat_getLast ne).symm⟩
        have l5 : ps5.length = S.length := by
          rw [e5, List.length_append] at l3
          simpa using l3
        have hps5 : Paired (fun p s => SqT K (upd H3 d (.dT (putK done3 (kp a b) v))) p [.str s.1, .str s.2]) ps5 S := by
          rw [e5] at hps4
          have key : ∀ {ps : List Addr} {S : List (Str × Str)} {t : Addr} {s : Str × Str}, ps.length = S.length → Paired (fun p s => SqT K (upd H3 d (.dT (putK done3 (kp a b) v))) p [.str s.1, .str s.2]) (ps ++ [t]) (S ++ [s]) → Paired (fun p s => SqT K (upd H3 d (.dT (putK done3 (kp a b) v))) p [.str s.1, .str s.2]) ps S := by
            intro ps
            induction ps with
            | nil =>
              intro S t s l _
              cases S with
              | nil => exact .nil
              | cons _ _ => simp at l
            | cons x ps ih =>
              intro S t s l h
              cases S with
              | nil => simp at l
              | cons y S =>
                cases h with
                | cons h1 h2 => exact .cons h1 (ih (by simpa using l) h2)
          exact key l5 hps4
        have eer : (ps3.map V.ref).eraseIdx S.length = ps5.map V.ref := by
          rw [e5, List.map_append, ← l5]
          have := erase_last (ps5.map V.ref) (V.ref t5)
          rw [List.length_map] at this
          exact this
        rw [eer]
        have k5 : TK K (upd H3 d (.dT (putK done3 (kp a b) v))) (upd (upd H3 d (.dT (putK done3 (kp a b) v))) o (.lst (ps5.map V.ref))) := TK.upd hop4 True.intro
        have hdn5 : (upd (upd H3 d (.dT (putK done3 (kp a b) v))) o (.lst (ps5.map V.ref))) d = some (.dT (putK done3 (kp a b) v)) := by
          rw [upd_ne nod.symm]
          exact upd_same
        have et5 : (upd (upd H3 d (.dT (putK done3 (kp a b) v))) o (.lst (ps5.map V.ref))) t = some (.tup ((kp a b).map kV)) := by
          rw [upd_ne nto]
          exact et4
        have np5 : p ≠ o := npo
        have nr5 : r ≠ o := nro
        have B5 : BoxAt (upd (upd H3 d (.dT (putK done3 (kp a b) v))) o (.lst (ps5.map V.ref))) p r d o := by
          show (upd _ _ _) p = _
          rw [upd_ne np5]
          exact B4
        have k45 := k4.trans k5
        have W5 : BoxW K (upd (upd H3 d (.dT (putK done3 (kp a b) v))) o (.lst (ps5.map V.ref))) p r d o L qs S := by
          refine ⟨B5, D3.mono k45 fun u e => by rw [upd_ne nr5, upd_ne rd]; exact e, rd, ⟨_, hdn5, dm3.put v ha hb, fun x y u e => ?_⟩, ⟨ps5, upd_same, Paired.mapP hps5 fun _ _ z => k5 _ _ z⟩, smS, fS⟩
          rw [valV_put] at e
          by_cases c : kp x y = kp a b
          · rw [if_pos c] at e
            obtain ⟨e1, e2⟩ := kp_inj c
            have e := Option.some.inj e
            subst e e1 e2
            exact tr3.mono k45
          · rw [if_neg c] at e
            exact (tr3' x y u e).mono k45
        -- return box['done'][key]
        refine ⟨_, rfl, p, .ref d, rfl, get_done B5, _, rfl, d, v, rfl, ?_, ?_⟩
        · have z : valV (putK done3 (kp a b) v) (kp a b) = some v := by rw [valV_put, if_pos rfl]
          rw [← z]
          exact DGet.t (k := kp a b) hdn5 et5
        · exact q _ v ((sb2.trans sb3).trans ((Sb.upd (by simp)).trans (Sb.upd (by simp)))) W5 (tr3.mono k45)
end
end K24

namespace K24
open PySem PySem.Spec PyProof.Rows L2
theorem needs_perm {qs : List Rule} {S S' : List (Str × Str)} {a b : Str} (h : Needs S0 (fOf qs) S a b) (m : ∀ s ∈ S', s ∈ S) : Needs S0 (fOf qs) S' a b := fun p hp => h p (m p hp)
theorem rem_perm {qs : List Rule} {S S' : List (Str × Str)} (m : ∀ s, s ∈ S ↔ s ∈ S') : remS qs S = remS qs S' := by
  unfold remS
  congr 1
  refine List.filter_congr fun q _ => ?_
  by_cases c : (q.1, q.2.1) ∈ S
  · have c' := (m _).mp c
    simp [c, c']
  · have c' : ¬ (q.1, q.2.1) ∈ S' := fun z => c ((m _).mpr z)
    simp [c, c']
/-- things, of which no more than 41 are kept -/
theorem take_app (m : Nat) (a b : List (Thing Str)) : (a.take m ++ b.take m).take m = (a ++ b).take m := by
  rw [List.take_append, List.take_append, List.take_take, Nat.min_self]
  congr 1
  rw [List.take_take]
  congr 1
  rw [List.length_take]
  by_cases h : a.length ≤ m
  · omega
  · omega
theorem take_small {m : Nat} {a : List (Thing Str)} (h : a.length ≤ m) : a.take m = a := List.take_of_length_le h
theorem catThs {K : PySem.W.Frag} {H : Hp} {v u : V} {as bs : List (Thing Str)} {R : VK} (h1 : Ths K H v as) (h2 : Ths K H u bs) (l : as.length + bs.length ≤ 100000) (go : ∀ H' r, Same H H' → Ths K H' r (as ++ bs) → R r H') : rCatA K v u H R := by
  obtain ⟨a, xs, rfl, ha, ra⟩ := h1
  obtain ⟨b, ys, rfl, hb, rb⟩ := h2
  have la := ra.len
  have lb := rb.len
  refine ⟨a, b, xs, ys, rfl, rfl, ha, hb, sz (by omega), fun e => ?_, fun _ e => ?_, fun _ _ p hp => ?_⟩
  · subst e
    cases as with
    | nil => exact go H _ (Same.refl H) ⟨b, ys, rfl, hb, rb⟩
    | cons x y => cases la
  · subst e
    cases bs with
    | nil => exact go H _ (Same.refl H) ⟨a, xs, rfl, ha, by rw [List.append_nil]; exact ra⟩
    | cons x y => cases lb
  · exact go _ _ (same_upd hp) ⟨p, xs ++ ys, rfl, SqT.of upd_same, ThL.mono (TK.new hp) (Paired.app ra rb)⟩
theorem take_ths {K : PySem.W.Frag} {H : Hp} : ∀ {xs : List V} {ts : List (Thing Str)} (n : Nat), ThL K H xs ts → ThL K H (xs.take n) (ts.take n)
  | _, _, 0, _ => by rw [List.take_zero, List.take_zero]; exact .nil
  | _, _, _ + 1, .nil => .nil
  | _, _, n + 1, .cons h t => .cons h (take_ths n t)
theorem cutThs {K : PySem.W.Frag} {H : Hp} {v : V} {as : List (Thing Str)} {k : Nat} {R : VK} (h1 : Ths K H v as) (go : ∀ H' r, Same H H' → Ths K H' r (as.take k) → R r H') : rSlA K v none (some (k : Int)) H R := by
  obtain ⟨a, xs, rfl, ha, ra⟩ := h1
  have la := ra.len
  refine ⟨a, xs, rfl, ha, fun e => ?_, fun _ p hp => ?_⟩
  · have := e.2
    rw [HT.sIx_nat] at this
    refine go H _ (Same.refl H) ⟨a, xs, rfl, ha, ?_⟩
    rw [List.take_of_length_le (by omega)]
    exact ra
  · refine go _ _ (same_upd hp) ⟨p, _, rfl, SqT.of upd_same, ?_⟩
    rw [cutL_take]
    exact ThL.mono (TK.new hp) (take_ths k ra)
section
variable {P : Program} {w : World} {K : PySem.W.Frag} {mg : Str → Option Value} {base : Heap}
theorem scCame : FnScope ["_law_box_here", "_law_left", "_law_right_here", "_law_deed_here", "_law_row", "_law_told_here", "_law_here", "_law_thing", "_law_there"] ["_law_box_here", "_law_left", "_law_right_here", "_law_deed_here"] (defScope sCame) := ⟨rfl, rfl, rfl, by decide +kernel, rfl, by decide +kernel, by decide +kernel⟩
theorem ok_came {n : Nat} {f g o' : Addr} {fd gd od : FuncData} (F : Fun K "_law_came" "_law_came" sCame f fd)
    (G : FnOk P w K mg base CX0 1 g gd ["_law_thing"] (spTold K)) (kG : PySem.W.keepIn K (.ref g) = true) (mG : mg "_law_told" = some (.ref g)) (bG : Binds K gd ["_law_thing"] [])
    (O : FnOk P w K mg base CX0 (3 * n + 1) o' od ["_law_box_here", "_law_left", "_law_right_here"] (spCome K n)) (kO : PySem.W.keepIn K (.ref o') = true) (mO : mg "_law_come" = some (.ref o')) (bO : Binds K od ["_law_box_here", "_law_left", "_law_right_here"] []) :
    FnOk P w K mg base CX0 (3 * n + 3) f fd ["_law_box_here", "_law_left", "_law_right_here", "_law_deed_here"] (spCame K n) := by
  refine F.ok scCame (fun vs H Q E h => ?_) (fun cdv A outer s H vs Q E hr h => ?_)
  · obtain ⟨_, _, _, _, _, _, _, _, _, _, rfl, _⟩ := h
    rfl
  · obtain ⟨p, r, d, o, L, qs, S, a, b, dv, rfl, W, ok, ha, hb, nee, nin, hrem, hSn, hdv, q⟩ := h
    have nd := scCame.nd
    have hr1 : Room 1 _ := hr.mono (by omega)
    have hrO : Room (3 * n + 1) _ := hr.mono (by omega)
    refine ⟨_, pss_cons (ps_if (PW.pt (pw_or (pt_cmpR op_isN (pv 3) pe_non (nomark _)) (pw_or1 (pt_cmpR op_eq (pe_ix ix_tup (pv 3) pe_int (fun _ _ => rfl)) pe_str (nomark _)))))
        (pss_one (ps_ret (pe_tup (pa_cons (pe_op op_catA (pe_call G hr1 rfl mG kG bG .nil pass0 (pa_cons (pv 1) pa_nil)) (pe_ifExp (pt_cmpR op_isN (pv 3) pe_non (nomark _)) (pe_tup pa_nil) (pe_tup (pa_cons (pv 3) pa_nil)))) (pa_cons (pv 2) pa_nil))))) pss_nil)
      (pss_cons (ps_set (i := 4) nd rfl (.inl rfl) (pe_op op_cat (pe_op op_cat
              (pe_ifExp (pt_cmpR op_eq (pe_ix ix_tup (pv 3) pe_int (fun _ _ => rfl)) pe_int (nomark _)) (pe_lst (pa_cons (pv 1) pa_nil)) (pe_lst pa_nil))
              (pe_lst (pa_cons (pe_ix ix_tup (pv 3) pe_int (fun _ _ => rfl)) pa_nil)))
              (pe_ifExp (pt_cmpR op_eq (pe_ix ix_tup (pv 3) pe_int (fun _ _ => rfl)) pe_int (nomark _)) (pe_lst (pa_cons (pv 2) pa_nil)) (pe_lst pa_nil))))
      (pss_cons (ps_par (i := 5) (j := 6) rfl nd rfl rfl (by decide) rfl rfl (pa_cons (pe_tup pa_nil) (pa_cons (pe_ix ix_list (pv 4) (pe_ix ix_tup (pv 3) pe_int (fun _ _ => rfl)) (fun _ _ => rfl)) pa_nil)) (by rfl))
      (pss_cons (ps_for PassesOwn.never rfl (pi_list (pe_slice sl_list (pv 4) po_none (po_some (pe_ix ix_tup (pv 3) pe_int (fun _ _ => rfl))))) (pg_name (i := 7) nd rfl (.inl rfl))
        (pss_one (ps_set (i := 5) nd rfl (.inl rfl) (pe_op op_catA (pv 5) (pe_call G hr1 rfl mG kG bG .nil pass0 (pa_cons (pv 7) pa_nil))))))
      (pss_cons (ps_for PassesOwn.never rfl (pi_list (pe_slice sl_list (pv 4) (po_some (pe_op op_add (pe_ix ix_tup (pv 3) pe_int (fun _ _ => rfl)) pe_int)) po_none)) (pg_name (i := 7) nd rfl (.inl rfl))
        (pss_cons (ps_set (i := 8) nd rfl (.inl rfl) (pe_call O hrO rfl mO kO bO .nil pass0 (pa_cons (pv 0) (pa_cons (pv 6) (pa_cons (pv 7) pa_nil)))))
        (pss_cons (ps_if (pt_cmpR op_isN (pv 8) pe_non (nomark _)) (pss_one (ps_ret pe_non)) pss_nil)
        (pss_one (ps_par (i := 5) (j := 6) rfl nd rfl rfl (by decide) rfl rfl (pa_cons (pe_slice sl_tupA (pe_op op_catA (pv 5) (pe_ix ix_tup (pv 8) pe_int (fun _ _ => rfl))) po_none (po_some pe_int)) (pa_cons (pe_ix ix_tup (pv 8) pe_int (fun _ _ => rfl)) pa_nil)) (by rfl))))))
      (pss_one (ps_ret (pe_tup (pa_cons (pv 5) (pa_cons (pv 6) pa_nil))))))))), ?_⟩
    have sma := ha.sm ok.lets
    have tla := tell_len a
    rcases hdv with ⟨ef, rfl⟩ | ⟨ad, dd, ef, rfl, hd⟩
    · refine ⟨_, rfl, rfl, _, rfl, iteT ?_⟩
      refine ⟨_, rfl, a, rfl, sma, fun H1 tv s1 ht => ?_⟩
      refine ⟨_, rfl, rfl, _, rfl, iteT ⟨sz (by show 0 ≤ 100000; decide), fun t4 ht4 => ?_⟩⟩
      have s2 := same_upd (o := .tup []) ht4
      refine catThs (bs := []) (ht.mono (TK.same s2)) ⟨t4, [], rfl, SqT.of upd_same, .nil⟩ (by simp; omega) fun H2 tv2 s3 ht2 => ?_
      rw [List.append_nil] at ht2
      obtain ⟨b2', xs2, rfl, hb2, lb2⟩ := ht2
      refine ⟨_, rfl, sz (by show 2 ≤ 100000; decide), fun t5 ht5 => ?_⟩
      have s4 := same_upd (o := .tup [V.ref b2', V.str b]) ht5
      have sf := s1.trans (s2.trans (s3.trans s4))
      exact q _ _ (Sb.of sf) (W.same sf) (.inr ⟨_, Goes.plain S0 (fOf qs) ef, t5, b2', xs2, rfl, SqT.of upd_same, TK.new ht5 _ _ hb2, by
        rw [take_small (show (tell S0 a).length ≤ 41 by omega)]
        exact lb2.mono (TK.new ht5)⟩)
    · refine ⟨_, rfl, rfl, _, rfl, iteF ?_⟩
      cases dd with
      | kern c =>
        have hS : SqT K H ad [.str "kern", .int c] := hd
        refine ⟨_, rfl, ad, _, 0, .str "kern", rfl, rfl, hS, rfl, rfl, _, rfl, ?_⟩
        rw [decide_eq_true (show V.str "kern" = V.str "kern" from rfl)]
        refine iteT ?_
        refine ⟨_, rfl, a, rfl, sma, fun H1 tv s1 ht => ?_⟩
        refine ⟨_, rfl, rfl, _, rfl, iteF ⟨_, rfl, sz (by show 1 ≤ 100000; decide), fun t4 ht4 => ?_⟩⟩
        have s2 := same_upd (o := .tup [V.ref ad]) ht4
        refine catThs (bs := [.kern c]) (ht.mono (TK.same s2)) ⟨t4, [.ref ad], rfl, SqT.of upd_same, .cons ⟨ad, rfl, TK.same (s1.trans s2) _ _ hS⟩ .nil⟩ (by simp; omega) fun H2 tv2 s3 ht2 => ?_
        obtain ⟨b2', xs2, rfl, hb2, lb2⟩ := ht2
        refine ⟨_, rfl, sz (by show 2 ≤ 100000; decide), fun t5 ht5 => ?_⟩
        have s4 := same_upd (o := .tup [V.ref b2', V.str b]) ht5
        have sf := s1.trans (s2.trans (s3.trans s4))
        exact q _ _ (Sb.of sf) (W.same sf) (.inr ⟨_, Goes.kern S0 (fOf qs) ef, t5, b2', xs2, rfl, SqT.of upd_same, TK.new ht5 _ _ hb2, by
          rw [take_small (show (tell S0 a ++ [Thing.kern c]).length ≤ 41 by rw [List.length_append]; simp; omega)]
          exact lb2.mono (TK.new ht5)⟩)
      | put xx l rr on =>
        have hS : SqT K H ad [.str "put", .str xx, .int (b2 l), .int (b2 rr), .int (on : Nat)] := hd
        have sides := row_side ok ha hb ef
        have hon := row_on ok ef
        have rlen := row_len (a := a) (b := b) (x := xx) (l := l) (r := rr)
        have bl := b2_lo l
        have br := b2_lo rr
        refine ⟨_, rfl, ad, _, 0, .str "put", rfl, rfl, hS, rfl, rfl, _, rfl, ?_⟩
        rw [decide_eq_false (show ¬ V.str "put" = V.str "kern" by decide +kernel)]
        refine iteF ?_
        have b1 : ∀ (k : Bool), decide (V.int (b2 k) = V.int 1) = k := by
          intro k
          cases k <;> decide
        dsimp only [tNext]
        refine rowG (l := l) (r := rr) (a := a) (b := b) (x := xx) (fun H1 R s hR2 => ?_) (fun H1 R s hR2 => ?_) (fun H1 R s hR2 => ?_) (fun H1 R s hR2 => ?_) (fun H1 R s hR2 => ?_) fun H3 rv s3 e3 => ?_
        · exact ⟨_, rfl, ad, _, 2, .int (b2 l), rfl, rfl, TK.same s _ _ hS, rfl, rfl, _, rfl, by rw [b1]; exact hR2⟩
        · exact ⟨_, rfl, hR2⟩
        · exact ⟨_, rfl, ad, _, 1, .str xx, rfl, rfl, TK.same s _ _ hS, rfl, hR2⟩
        · exact ⟨_, rfl, ad, _, 3, .int (b2 rr), rfl, rfl, TK.same s _ _ hS, rfl, rfl, _, rfl, by rw [b1]; exact hR2⟩
        · exact ⟨_, rfl, hR2⟩
        obtain ⟨y, ys, edrop⟩ : ∃ y ys, (rowOf a b xx l rr).drop on = y :: ys := by
          cases e : (rowOf a b xx l rr).drop on with
          | nil => exact absurd e (row_ne ok a b xx l rr on ef)
          | cons y ys => exact ⟨y, ys, rfl⟩
        have gy : (rowOf a b xx l rr)[on]? = some y := by
          have := List.getElem?_drop (xs := rowOf a b xx l rr) (i := on) (j := 0)
          rw [edrop] at this
          simpa using this.symm
        have gyv : ((rowOf a b xx l rr).map V.str)[on]? = some (.str y) := by
          rw [List.getElem?_map, gy]
          rfl
        have sub : ∀ z ∈ y :: ys, IsSide L z := fun z hz => sides z (List.mem_of_mem_drop (by rw [edrop]; exact hz))
        -- told, here = (), row[deed[4]]
        refine ⟨sz (by show 0 ≤ 100000; decide), fun t0 ht0 => ?_⟩
        have s4 := same_upd (o := .tup []) ht0
        have s34 := s3.trans s4
        refine ⟨_, rfl, _, rfl, ad, _, 4, .int (on : Nat), rfl, rfl, TK.same s34 _ _ hS, rfl, rv, _, (on : Nat), .str y, rfl, rfl, SqL.of (s4 _ _ e3), atI_nat gyv, _, _, rfl, ?_⟩
        -- for thing in row[:deed[4]]
        refine ⟨_, rfl, _, rfl, ad, _, 4, .int (on : Nat), rfl, rfl, TK.same s34 _ _ hS, rfl, (on : Nat), rfl, rv, _, rfl, SqL.of (s4 _ _ e3), fun c1 hc1 => ?_⟩
        rw [cutL_take]
        have s5 := same_upd (o := .lst (((rowOf a b xx l rr).map V.str).take on)) hc1
        have s35 := s34.trans s5
        have e5 : ∀ {H0 : Hp}, (upd H0 c1 (.lst (((rowOf a b xx l rr).map V.str).take on))) c1 = some (.lst (((rowOf a b xx l rr).take on).map V.str)) := by
          intro H0
          rw [upd_same, List.map_take]
        have tkl : ((rowOf a b xx l rr).take on).length ≤ 2 := by
          rw [List.length_take]
          omega
        refine ⟨c1, rfl, ⟨_, SqL.of e5⟩, for_list (K := K) (a := c1) (xs := ((rowOf a b xx l rr).take on).map V.str)
          (fun j σ H' => ∃ (tv' : V) (y7 : Option V), σ = [some (.ref p), some (.str a), some (.str b), some (.ref ad), some (.ref rv), some tv', some (.str y), y7, none] ∧ Same H H' ∧ H' c1 = some (.lst (((rowOf a b xx l rr).take on).map V.str)) ∧ H' rv = some (.lst ((rowOf a b xx l rr).map V.str)) ∧ Ths K H' tv' (tells S0 (((rowOf a b xx l rr).take on).take j)))
          ⟨.ref t0, none, rfl, s35, e5, s5 _ _ (s4 _ _ e3), t0, [], rfl, SqT.of (s5 _ _ upd_same), .nil⟩ (fun j σ H' _ ⟨_, _, _, _, z, _⟩ => SqL.of z) ?_ ?_⟩
        · rintro j u0 σ H5 hj ⟨tv', y7, rfl, s5', e5', er5, ht5⟩
          obtain ⟨u, hu, rfl⟩ : ∃ u, ((rowOf a b xx l rr).take on)[j]? = some u ∧ u0 = V.str u := by
            rw [List.getElem?_map] at hj
            obtain ⟨u, g1, g2⟩ := Option.map_eq_some_iff.mp hj
            exact ⟨u, g1, g2.symm⟩
          have hus : IsSide L u := sides u (List.mem_of_mem_take (List.mem_of_getElem? hu))
          have tl := tell_len u
          have hj2 := (List.getElem?_eq_some_iff.mp hu).1
          refine ⟨_, rfl, _, rfl, u, rfl, hus.sm ok.lets, fun H6 tv6 s6' ht6 => ?_⟩
          have tj := tells_len (((rowOf a b xx l rr).take on).take j)
          have tj2 : (((rowOf a b xx l rr).take on).take j).length ≤ 2 := by
            rw [List.length_take]
            omega
          refine catThs (ht5.mono (TK.same s6')) ht6 (by omega) fun H7 tv7 s7' ht7 => ?_
          refine ⟨tv7, _, rfl, s5'.trans (s6'.trans s7'), (s6'.trans s7') _ _ e5', (s6'.trans s7') _ _ er5, ?_⟩
          rw [take_snoc hu]
          have : tells S0 (((rowOf a b xx l rr).take on).take j ++ [u]) = tells S0 (((rowOf a b xx l rr).take on).take j) ++ tell S0 u := by
            unfold tells
            rw [List.flatMap_append, List.flatMap_cons, List.flatMap_nil, List.append_nil]
          rw [this]
          exact ht7
        · rintro σ H5 ⟨tv', y7, rfl, s5', e5', er5, ht5⟩
          rw [List.length_map, List.take_length] at ht5
          have tpl := tells_len ((rowOf a b xx l rr).take on)
          -- for thing in row[deed[4] + 1:]
          refine ⟨_, rfl, _, rfl, ad, _, 4, .int (on : Nat), rfl, rfl, TK.same s5' _ _ hS, rfl, _, _, rfl, rfl, ((on : Int) + 1), rfl, rv, _, rfl, SqL.of er5, fun c2 hc2 => ?_⟩
          have ecut : cutV ((rowOf a b xx l rr).map V.str) (some ((on : Int) + 1)) none = ys.map V.str := by
            have : ((on : Int) + 1) = ((on + 1 : Nat) : Int) := by omega
            rw [this, cutL_drop, ← List.map_drop]
            have : (rowOf a b xx l rr).drop (on + 1) = ys := by
              rw [← List.drop_drop, edrop]
              rfl
            rw [this]
          rw [ecut]
          have s6 := s5'.trans (same_upd (o := .lst (ys.map V.str)) hc2)
          have W6 := W.same s6
          have nc2 : H c2 = none := s5'.free hc2
          have e6 : (upd H5 c2 (.lst (ys.map V.str))) c2 = some (.lst (ys.map V.str)) := upd_same
          have c2n : c2 ∉ [d, o] := by
            obtain ⟨done, h1, _⟩ := W.dn
            obtain ⟨ps, h2, _⟩ := W.op
            intro m
            rcases List.mem_cons.mp m with e | m
            · rw [e, h1] at nc2
              cases nc2
            · rw [List.mem_singleton.mp m, h2] at nc2
              cases nc2
          refine ⟨c2, rfl, ⟨_, SqL.of e6⟩, for_list (K := K) (a := c2) (xs := ys.map V.str)
            (fun i σ H' => ∃ (tv' : V) (x7 x8 : Option V) (t : List (Thing Str) × Str), σ = [some (.ref p), some (.str a), some (.str b), some (.ref ad), some (.ref rv), some tv', some (.str t.2), x7, x8] ∧
              Sb [d, o] H H' ∧ BoxW K H' p r d o L qs (S ++ [(a, b)]) ∧ H' c2 = some (.lst (ys.map V.str)) ∧ GoesAll S0 (fOf qs) y (ys.take i) t ∧ Ths K H' tv' ((tells S0 ((rowOf a b xx l rr).take on) ++ t.1).take 41))
            ⟨tv', y7, none, ([], y), rfl, Sb.of s6, W6, e6, GoesAll.nil S0 (fOf qs) y, ?_⟩ (fun i σ H' _ ⟨_, _, _, _, _, _, _, z, _⟩ => SqL.of z) ?_ ?_⟩
          · rw [List.append_nil, take_small (show (tells S0 ((rowOf a b xx l rr).take on)).length ≤ 41 by omega)]
            exact ht5.mono (TK.new hc2)
          · rintro i z0 σ H7 hi ⟨tv7, x7, x8, t, rfl, sb7, W7, e7, ga, ht7⟩
            have hil := (List.getElem?_eq_some_iff.mp hi).1
            rw [List.length_map] at hil
            obtain ⟨z, hz, rfl⟩ : ∃ z, ys[i]? = some z ∧ z0 = V.str z := by
              rw [List.getElem?_map] at hi
              obtain ⟨z, h1, h2⟩ := Option.map_eq_some_iff.mp hi
              exact ⟨z, h1, h2.symm⟩
            have eys : ys = ys.take i ++ z :: ys.drop (i + 1) := by
              obtain ⟨h1, h2⟩ := List.getElem?_eq_some_iff.mp hz
              conv => lhs; rw [← List.take_append_drop i ys]
              rw [List.drop_eq_getElem_cons h1, h2]
            have hzs : IsSide L z := sub z (List.mem_cons_of_mem _ (List.mem_of_getElem? hz))
            have hts : IsSide L t.2 := GoesAll.side ok (sub y List.mem_cons_self) (fun x hx => sub x (List.mem_cons_of_mem _ (List.mem_of_mem_take hx))) ga
            have need := Needs.down S0 (fOf qs) (S := S) nee ef (by rw [edrop, ← eys]) ga
            have mem : ∀ s, s ∈ S ++ [(a, b)] ↔ s ∈ (a, b) :: S := by
              intro s
              simp [or_comm]
            have need2 := needs_perm need fun s hs => (mem s).mp hs
            have rem1 : remS qs (S ++ [(a, b)]) < n := by
              rw [rem_perm mem]
              obtain ⟨q1, hq1, ea, eb, _⟩ := f_rule ef
              have := rem_lt (S := S) hq1 (by rw [ea, eb]; exact nin)
              rw [ea, eb] at this
              omega
            refine ⟨_, rfl, _, rfl, _, rfl, p, r, d, o, L, qs, S ++ [(a, b)], t.2, z, rfl, W7, ok, hts, hzs, need2, rem1, by rw [List.length_append]; simp; omega, fun H8 v8 sb8 W8 tr8 => ?_⟩
            have tk8 : TK K H7 H8 := W7.tk sb8
            have e8 : H8 c2 = some (.lst (ys.map V.str)) := sb8 _ _ e7 c2n
            refine ⟨_, rfl, rfl, _, rfl, ?_⟩
            rcases tr8 with ⟨rfl, nev⟩ | ⟨r8, go8, a8, b8, xs8, rfl, hs8, ht8, lx8⟩
            · refine iteT ?_
              refine q H8 .non (sb7.trans sb8) W8 (.inl ⟨rfl, Never.put S0 (fOf qs) ef edrop ?_⟩)
              rw [eys]
              exact NeverAll.of S0 (fOf qs) ga nev
            · refine iteF ⟨_, rfl, _, rfl, a8, _, 0, .ref b8, rfl, rfl, hs8, rfl, ?_⟩
              refine catThs (ht7.mono tk8) ⟨b8, xs8, rfl, ht8, lx8⟩ (by rw [List.length_take, List.length_take]; omega) fun H9 v9 s9 ht9 => ?_
              refine ⟨41, rfl, cutThs (k := 41) ht9 fun H10 v10 s10 ht10 => ?_⟩
              have s910 := s9.trans s10
              refine ⟨_, rfl, a8, _, 1, .str r8.2, rfl, rfl, TK.same s910 _ _ hs8, rfl, _, _, rfl, ?_⟩
              refine ⟨v10, _, _, (t.1 ++ r8.1, r8.2), rfl, (sb7.trans sb8).trans (Sb.of s910), W8.same s910, s910 _ _ e8, ?_, ?_⟩
              · rw [take_snoc hz]
                exact GoesAll.snoc S0 (fOf qs) ga go8
              · rw [take_app, List.append_assoc] at ht10
                exact ht10
          · rintro σ H7 ⟨tv7, x7, x8, t, rfl, sb7, W7, e7, ga, b7, xs7, rfl, hb7, lb7⟩
            rw [List.length_map, List.take_length] at ga
            refine ⟨_, rfl, _, rfl, sz (by show 2 ≤ 100000; decide), fun t9 ht9 => ?_⟩
            have s9 := same_upd (o := .tup [V.ref b7, V.str t.2]) ht9
            exact q _ _ (sb7.trans (Sb.of s9)) (W7.same s9) (.inr ⟨_, Goes.put S0 (fOf qs) ef edrop ga, t9, b7, xs7, rfl, SqT.of upd_same, TK.new ht9 _ _ hb7, lb7.mono (TK.new ht9)⟩)
theorem come_zero {f : Addr} {fd : FuncData} : FnOk P w K mg base CX0 (3 * 0 + 1) f fd ["_law_box_here", "_law_left", "_law_right_here"] (spCome K 0) := by
  have no : ∀ vs H Q E, ¬ spCome K 0 vs H Q E := fun vs H Q E h => by
    obtain ⟨_, _, _, _, _, _, _, _, _, _, _, _, _, _, _, z, _⟩ := h
    exact Nat.not_lt_zero _ z
  exact ⟨fun vs H Q E h => absurd h (no vs H Q E), fun A outer s H args us vs Q E _ _ _ _ h => absurd h (no vs H Q E)⟩
theorem come_all {f g o' : Addr} {fd gd od : FuncData} (F : Fun K "_law_came" "_law_came" sCame f fd) (bF : Binds K fd ["_law_box_here", "_law_left", "_law_right_here", "_law_deed_here"] []) (mF : mg "_law_came" = some (.ref f))
    (G : FnOk P w K mg base CX0 1 g gd ["_law_thing"] (spTold K)) (kG : PySem.W.keepIn K (.ref g) = true) (mG : mg "_law_told" = some (.ref g)) (bG : Binds K gd ["_law_thing"] [])
    (O : Fun K "_law_come" "_law_come" sCome o' od) (mO : mg "_law_come" = some (.ref o')) (bO : Binds K od ["_law_box_here", "_law_left", "_law_right_here"] []) :
    ∀ n : Nat, FnOk P w K mg base CX0 (3 * n + 1) o' od ["_law_box_here", "_law_left", "_law_right_here"] (spCome K n)
  | 0 => come_zero
  | n + 1 => ok_come O (ok_came F G kG mG bG (come_all F bF mF G kG mG bG O mO bO n) O.kp mO bO) F.kp mF bF
end
end K24

namespace K24
open PySem PySem.Spec PyProof.Rows L2
theorem cup_lst {H : Hp} {c : Addr} (h : CupAt H c) : ∃ xs, H c = some (.lst xs) := by
  obtain ⟨x, y, _, _, e⟩ := h
  exact ⟨_, e⟩
theorem CupAt.same {H H' : Hp} {c : Addr} (h : CupAt H c) (s : Same H H') : CupAt H' c := by
  obtain ⟨x, y, hx, hy, e⟩ := h
  exact ⟨x, y, hx, hy, s _ _ e⟩
theorem cup_tk {K : PySem.W.Frag} {H H' : Hp} {c : Addr} (h : CupAt H c) (s : Sb [c] H H') : TK K H H' := by
  obtain ⟨xs, e⟩ := cup_lst h
  refine s.tk fun c' hc => ?_
  rw [List.mem_singleton.mp hc]
  exact ⟨_, e, True.intro⟩
theorem two_of {r : Int} (h0 : 0 ≤ r) (h1 : r < 2) : ∃ l : Bool, r = b2 l := by
  by_cases h : r = 0
  · exact ⟨false, h⟩
  · exact ⟨true, by show r = 1; omega⟩
theorem sign_let {L : Str} {v : V} (h : v ∈ signs L) : ∃ c, c ∈ L.cps.toList ∧ v = .str (sg c) := by
  unfold signs at h
  obtain ⟨c, hc, e⟩ := List.mem_map.mp h
  exact ⟨c, hc, e.symm⟩
theorem signs_len (L : Str) : (signs L).length = L.length := by
  unfold signs
  rw [List.length_map]
  exact (strLen L).symm
def spDeed (K : PySem.W.Frag) : Sp := fun vs H Q _ => ∃ (c : Addr) (L x y : Str), vs = [.ref c, .str L, .str x, .str y] ∧ CupAt H c ∧ LetOk L ∧ ∀ H' a d, Sb [c] H H' → CupAt H' c → DeedAt K H' a d → DeedOk L x y d → Q (.ref a) H'
def spPairs (K : PySem.W.Frag) : Sp := fun vs H Q _ => ∃ (c : Addr) (m R : Int), vs = [.ref c, .int m, .int R] ∧ CupAt H c ∧ 1 ≤ m ∧ m ≤ 8 ∧ 0 ≤ R ∧ R ≤ 24 ∧ ∀ H' v L qs, Sb [c] H H' → CupAt H' c → ProgAt K H' v L qs → ProgOk L qs → Q v H'
def spWord (K : PySem.W.Frag) : Sp := fun vs H Q _ => ∃ (c : Addr) (L : Str) (m : Int), vs = [.ref c, .str L, .int m] ∧ CupAt H c ∧ LetOk L ∧ 1 ≤ m ∧ m ≤ 12 ∧ ∀ H' x, Sb [c] H H' → CupAt H' c → WordOk L x → 1 ≤ x.length → x.length ≤ 12 → Q (.str x) H'
section
variable {P : Program} {w : World} {K : PySem.W.Frag} {mg : Str → Option Value} {base : Heap}
theorem scDeed : FnScope ["_law_cup_here", "_law_letters", "_law_left", "_law_right_here", "_law_keeps", "_law_holds", "_law_on"] ["_law_cup_here", "_law_letters", "_law_left", "_law_right_here"] (defScope sDeed) := ⟨rfl, rfl, rfl, by decide +kernel, rfl, by decide +kernel, by decide +kernel⟩
/-- 1 at an edge, else what is rolled -/
theorem edgeRoll {K : PySem.W.Frag} {k : Nat} {σ : L2.St} {H : Hp} {c : Addr} {x : Str} {te : TE} {Qc : VK} (h1 : σ[k]? = some (some (V.str x)))
    (he : ∀ H1, Same H H1 → (∀ H2 r, Sb [c] H1 H2 → CupAt H2 c → 0 ≤ r → r < 2 → Qc (.int r) H2) → te σ H1 Qc) (hc : CupAt H c)
    (go : ∀ H2 l, Sb [c] H H2 → CupAt H2 c → (x = S0 → l = true) → Qc (.int (b2 l)) H2) :
    tIf (tTest (tOp rEq (tVar k) (tC (.str "")))) (tC (.int 1)) te σ H Qc := by
  refine ⟨_, h1, rfl, _, rfl, ?_⟩
  by_cases cx : x = S0
  · rw [decide_eq_true (show V.str x = V.str "" by rw [cx])]
    exact iteT (go H true (Sb.refl H) hc fun _ => rfl)
  · rw [decide_eq_false (show ¬ V.str x = V.str "" from fun z => cx (V.str.inj z))]
    refine iteF (he H (Same.refl H) fun H2 r sb hc2 r0 r1 => ?_)
    obtain ⟨l, rfl⟩ := two_of r0 r1
    exact go H2 l sb hc2 fun z => absurd z cx
theorem ok_deed {f g s2 : Addr} {fd gd sd : FuncData} (F : Fun K "_law_deed" "_law_deed" sDeed f fd) (T : Txt K mg)
    (G : FnOk P w K mg base CX0 1 g gd ["_law_cup_here", "_law_many"] spRoll) (kG : PySem.W.keepIn K (.ref g) = true) (mG : mg "_law_roll" = some (.ref g)) (bG : Binds K gd ["_law_cup_here", "_law_many"] [])
    (S : FnOk P w K mg base CX0 2 s2 sd ["_law_cup_here", "_law_things"] (spSome K)) (kS : PySem.W.keepIn K (.ref s2) = true) (mS : mg "_law_some" = some (.ref s2)) (bS : Binds K sd ["_law_cup_here", "_law_things"] []) :
    FnOk P w K mg base CX0 3 f fd ["_law_cup_here", "_law_letters", "_law_left", "_law_right_here"] (spDeed K) := by
  refine F.ok scDeed (fun vs H Q E h => ?_) (fun cdv A outer s H vs Q E hr h => ?_)
  · obtain ⟨_, _, _, _, rfl, _⟩ := h
    rfl
  · obtain ⟨c, L, x, y, rfl, hc, ok, q⟩ := h
    have nd := scDeed.nd
    have hr1 : Room 1 _ := hr.mono (by decide)
    refine ⟨_, pss_cons (ps_if (pt_cmpR op_eq (pe_call G hr1 rfl mG kG bG .nil pass0 (pa_cons (pv 0) (pa_cons pe_int pa_nil))) pe_int (nomark _))
        (pss_one (ps_ret (pe_tup (pa_cons pe_str (pa_cons (pe_op op_sub (pe_call G hr1 rfl mG kG bG .nil pass0 (pa_cons (pv 0) (pa_cons pe_int pa_nil))) pe_int) pa_nil))))) pss_nil)
      (pss_cons (ps_par (i := 4) (j := 5) rfl nd rfl rfl (by decide) rfl rfl (pa_cons
          (pe_ifExp (pt_cmpR op_eq (pv 2) pe_str (nomark _)) pe_int (pe_call G hr1 rfl mG kG bG .nil pass0 (pa_cons (pv 0) (pa_cons pe_int pa_nil)))) (pa_cons
          (pe_ifExp (pt_cmpR op_eq (pv 3) pe_str (nomark _)) pe_int (pe_call G hr1 rfl mG kG bG .nil pass0 (pa_cons (pv 0) (pa_cons pe_int pa_nil)))) pa_nil)) (by rfl))
      (pss_cons (ps_set (i := 6) nd rfl (.inl rfl) (pe_ifExp (pt_cmpR op_eq (pe_call G hr1 rfl mG kG bG .nil pass0 (pa_cons (pv 0) (pa_cons pe_int pa_nil))) pe_int (nomark _))
          (pe_call G hr1 rfl mG kG bG .nil pass0 (pa_cons (pv 0) (pa_cons (pe_op op_add (pe_op op_add (pv 4) (pv 5)) pe_int) pa_nil))) (pe_op op_add (pv 4) (pv 5))))
      (pss_one (ps_ret (pe_tup (pa_cons pe_str (pa_cons (pe_call S hr rfl mS kS bS .nil pass0 (pa_cons (pv 0) (pa_cons (pe_callTy (call_list_text rfl) (by rfl) T.list (by decide +kernel) (pa_cons (pv 1) pa_nil)) pa_nil)))
          (pa_cons (pv 4) (pa_cons (pv 5) (pa_cons (pv 6) pa_nil)))))))))), ?_⟩
    have few := ok.few
    have one := ok.some
    have ll := strLen L
    refine ⟨_, rfl, c, 3, rfl, hc, by decide, by decide, fun H1 r1 sb1 hc1 r10 r11 => ⟨rfl, _, rfl, ?_⟩⟩
    refine ite2 (fun _ => ?_) (fun _ => ?_)
    · refine ⟨_, rfl, c, 5, rfl, hc1, by decide, by decide, fun H2 r2 sb2 hc2 r20 r21 => ⟨_, _, rfl, rfl, sz (by show 2 ≤ 100000; decide), fun t ht => ?_⟩⟩
      exact q _ t (.kern (r2 - 2)) ((sb1.trans sb2).trans (Sb.of (same_upd ht))) (hc2.same (same_upd ht)) (SqT.of upd_same) ⟨by omega, by omega⟩
    · -- keeps, holds
      refine edgeRoll (K := K) (c := c) (x := x) rfl (fun H2 s2' go => ⟨_, rfl, c, 2, rfl, hc1.same s2', by decide, by decide, go⟩) hc1 fun H2 l sb2 hc2 hl => ?_
      refine edgeRoll (K := K) (c := c) (x := y) rfl (fun H3 s3' go => ⟨_, rfl, c, 2, rfl, hc2.same s3', by decide, by decide, go⟩) hc2 fun H3 r sb3 hc3 hr3 => ?_
      refine ⟨_, _, rfl, ?_⟩
      have bl := b2_lo l
      have br := b2_lo r
      have sb13 := (sb1.trans sb2).trans sb3
      -- put together
      have last : ∀ (H5 : Hp) (on : Int), Sb [c] H H5 → CupAt H5 c → 0 ≤ on → on ≤ b2 l + b2 r → ∀ (H6 : Hp) (z : Nat), Sb [c] H5 H6 → CupAt H6 c → z ∈ L.cps.toList → ∀ t, H6 t = none →
          Q (.ref t) (upd H6 t (.tup [.str "put", .str (sg z), .int (b2 l), .int (b2 r), .int on])) := by
        intro H5 on sb5 hc5 o0 o1 H6 z sb6 hc6 hz t ht
        have e : on = ((on.toNat : Nat) : Int) := by omega
        refine q _ t (.put (sg z) l r on.toNat) ((sb5.trans sb6).trans (Sb.of (same_upd ht))) (hc6.same (same_upd ht)) ?_ ⟨⟨z, hz, rfl⟩, hl, hr3, by omega⟩
        show SqT K _ t [.str "put", .str (sg z), .int (b2 l), .int (b2 r), .int ((on.toNat : Nat) : Int)]
        rw [← e]
        exact SqT.of upd_same
      have tail : ∀ (H5 : Hp) (on : Int), Sb [c] H H5 → CupAt H5 c → 0 ≤ on → on ≤ b2 l + b2 r →
          (∀ l1, H5 l1 = none → ∃ (c' l' : Addr) (xs : List V), ([.ref c, .ref l1] : List V) = [.ref c', .ref l'] ∧ CupAt (upd H5 l1 (.lst (signs L))) c' ∧ l' ≠ c' ∧ (upd H5 l1 (.lst (signs L))) l' = some (.lst xs) ∧ 0 < xs.length ∧ xs.length < 1000000 ∧
            ∀ H' v, Sb [c'] (upd H5 l1 (.lst (signs L))) H' → CupAt H' c' → v ∈ xs → ∀ t, H' t = none → Q (.ref t) (upd H' t (.tup [.str "put", v, .int (b2 l), .int (b2 r), .int on]))) := by
        intro H5 on sb5 hc5 o0 o1 l1 hl1
        have s1 := same_upd (o := .lst (signs L)) hl1
        have nlc : l1 ≠ c := fun e => by
          obtain ⟨xs, h⟩ := cup_lst hc5
          rw [← e, hl1] at h
          cases h
        refine ⟨c, l1, signs L, rfl, hc5.same s1, nlc, upd_same, by rw [signs_len]; omega, by rw [signs_len]; omega, fun H' v sb' hc' hv t ht => ?_⟩
        obtain ⟨z, hz, rfl⟩ := sign_let hv
        exact last _ on (sb5.trans (Sb.of s1)) (hc5.same s1) o0 o1 H' z sb' hc' hz t ht
      refine ⟨_, rfl, c, 2, rfl, hc3, by decide, by decide, fun H4 r4 sb4 hc4 r40 r41 => ⟨rfl, _, rfl, ?_⟩⟩
      refine ite2 (fun _ => ?_) (fun _ => ?_)
      · refine ⟨_, rfl, _, rfl, _, rfl, _, _, rfl, rfl, _, _, rfl, rfl, c, _, rfl, hc4, by omega, by omega, fun H5 r5 sb5 hc5 r50 r51 => ?_⟩
        refine ⟨_, rfl, _, rfl, L, rfl, sz (by omega), fun l1 hl1 => ?_⟩
        obtain ⟨c', l', xs, e, h1, h2, h3, h4, h5, h6⟩ := tail H5 r5 ((sb13.trans sb4).trans sb5) hc5 r50 (by omega) l1 hl1
        exact ⟨c', l', xs, e, h1, h2, h3, h4, h5, fun H' v sb' hc' hv => ⟨_, rfl, _, rfl, _, rfl, sz (by show 5 ≤ 100000; decide), h6 H' v sb' hc' hv⟩⟩
      · refine ⟨_, rfl, _, rfl, _, _, rfl, rfl, ?_⟩
        refine ⟨_, rfl, _, rfl, L, rfl, sz (by omega), fun l1 hl1 => ?_⟩
        obtain ⟨c', l', xs, e, h1, h2, h3, h4, h5, h6⟩ := tail H4 (b2 l + b2 r) (sb13.trans sb4) hc4 (by omega) (Int.le_refl _) l1 hl1
        exact ⟨c', l', xs, e, h1, h2, h3, h4, h5, fun H' v sb' hc' hv => ⟨_, rfl, _, rfl, _, rfl, sz (by show 5 ≤ 100000; decide), h6 H' v sb' hc' hv⟩⟩
end
end K24

namespace K24
open PySem PySem.Spec PyProof.Rows L2
theorem Sb.updNew {L : List Addr} {H H1 : Hp} {p : Addr} {u : HO} (h : Sb L H H1) (n : H p = none) : Sb L H (L2.upd H1 p u) := fun b o e m => by
  rw [upd_ne (ne_of_none e n)]
  exact h b o e m
theorem let_ok {m : Int} (h1 : 1 ≤ m) (h2 : m ≤ 8) : LetOk (cutS "abcdefgh" none (some m)) := by
  have : m = 1 ∨ m = 2 ∨ m = 3 ∨ m = 4 ∨ m = 5 ∨ m = 6 ∨ m = 7 ∨ m = 8 := by omega
  rcases this with e | e | e | e | e | e | e | e <;> subst e <;> exact ⟨by decide +kernel, by decide +kernel, by decide +kernel, by decide +kernel⟩
theorem mem_sides {L : Str} {v : V} (h : v ∈ (List.replicate (2 : Int).toNat (signs L)).flatten ++ [V.str ""]) : ∃ x, IsSide L x ∧ v = .str x := by
  rcases List.mem_append.mp h with m | m
  · obtain ⟨l, hl, hv⟩ := List.mem_flatten.mp m
    rw [(List.mem_replicate.mp hl).2] at hv
    obtain ⟨c, hc, e⟩ := sign_let hv
    exact ⟨sg c, .inr ⟨c, hc, rfl⟩, e⟩
  · exact ⟨S0, .inl rfl, List.mem_singleton.mp m⟩
theorem rep_len (L : Str) : ((List.replicate (2 : Int).toNat (signs L)).flatten ++ [V.str ""]).length = 2 * L.length + 1 := by
  have : (2 : Int).toNat = 2 := rfl
  rw [this]
  simp [signs_len]
  omega
section
variable {P : Program} {w : World} {K : PySem.W.Frag} {mg : Str → Option Value} {base : Heap}
theorem scPairs : FnScope ["_law_cup_here", "_law_many", "_law_rows", "_law_letters", "_law_found", "_law_sides", "_law_turn", "_law_pair"] ["_law_cup_here", "_law_many", "_law_rows"] (defScope sPairs) := ⟨rfl, rfl, rfl, by decide +kernel, rfl, by decide +kernel, by decide +kernel⟩
/-- what is drawn of letters and the edge -/
theorem drawSide {c : Addr} {L : Str} {H : Hp} {R : VK} (hc : CupAt H c) (ok : LetOk L)
    (go : ∀ H' x, Sb [c] H H' → CupAt H' c → IsSide L x → R (.str x) H') :
    ∃ x : Str, [V.str L] = [V.str x] ∧ x.length ≤ sizeLine ∧ ∀ l, H l = none → ∃ l' k xs, V.ref l = .ref l' ∧ V.int 2 = .int k ∧ (upd H l (.lst (signs x))) l' = some (.lst xs) ∧ -(2 ^ 63) ≤ k ∧ k < 2 ^ 63 ∧ xs.length * k.toNat ≤ sizeLine ∧
      ∀ p, (upd H l (.lst (signs x))) p = none → ([V.str ""] : List V).length ≤ sizeLine ∧ ∀ l2, (upd (upd H l (.lst (signs x))) p (.lst (List.replicate k.toNat xs).flatten)) l2 = none →
        ∃ a b xs' zs, V.ref p = .ref a ∧ V.ref l2 = .ref b ∧ (upd (upd (upd H l (.lst (signs x))) p (.lst (List.replicate k.toNat xs).flatten)) l2 (.lst [V.str ""])) a = some (.lst xs') ∧
          (upd (upd (upd H l (.lst (signs x))) p (.lst (List.replicate k.toNat xs).flatten)) l2 (.lst [V.str ""])) b = some (.lst zs) ∧ xs'.length + zs.length ≤ sizeLine ∧
          ∀ q, (upd (upd (upd H l (.lst (signs x))) p (.lst (List.replicate k.toNat xs).flatten)) l2 (.lst [V.str ""])) q = none →
            spSome K ([.ref c, .ref q] ++ []) (upd (upd (upd (upd H l (.lst (signs x))) p (.lst (List.replicate k.toNat xs).flatten)) l2 (.lst [V.str ""])) q (.lst (xs' ++ zs))) R E0 := by
  have few := ok.few
  have one := ok.some
  have ll := strLen L
  refine ⟨L, rfl, sz (by omega), fun l hl => ⟨l, 2, signs L, rfl, rfl, upd_same, by decide, by decide, sz (by rw [signs_len]; show L.length * 2 ≤ 100000; omega), fun p hp => ⟨sz (by show 1 ≤ 100000; decide), fun l2 hl2 => ?_⟩⟩⟩
  have s1 := same_upd (o := .lst (signs L)) hl
  have s2 := same_upd (o := .lst (List.replicate (2 : Int).toNat (signs L)).flatten) hp
  have s3 := same_upd (o := .lst [V.str ""]) hl2
  have rl := rep_len L
  rw [List.length_append] at rl
  refine ⟨p, l2, _, _, rfl, rfl, s3 _ _ upd_same, upd_same, sz (by rw [rl]; omega), fun q hq => ?_⟩
  have s4 := same_upd (o := .lst ((List.replicate (2 : Int).toNat (signs L)).flatten ++ [V.str ""])) hq
  have sf := ((s1.trans s2).trans s3).trans s4
  have nqc : q ≠ c := fun e => by
    obtain ⟨xs, h⟩ := cup_lst (((hc.same s1).same s2).same s3)
    rw [← e, hq] at h
    cases h
  refine ⟨c, q, _, rfl, hc.same sf, nqc, upd_same, by rw [rep_len]; omega, by rw [rep_len]; omega, fun H' v sb hc' hv => ?_⟩
  obtain ⟨x, hx, rfl⟩ := mem_sides hv
  exact go H' x ((Sb.of sf).trans sb) hc' hx
theorem ok_pairs {f g s2 d : Addr} {fd gd sd dd : FuncData} (F : Fun K "_law_pairs" "_law_pairs" sPairs f fd) (T : Txt K mg)
    (G : FnOk P w K mg base CX0 1 g gd ["_law_cup_here", "_law_many"] spRoll) (kG : PySem.W.keepIn K (.ref g) = true) (mG : mg "_law_roll" = some (.ref g)) (bG : Binds K gd ["_law_cup_here", "_law_many"] [])
    (S : FnOk P w K mg base CX0 2 s2 sd ["_law_cup_here", "_law_things"] (spSome K)) (kS : PySem.W.keepIn K (.ref s2) = true) (mS : mg "_law_some" = some (.ref s2)) (bS : Binds K sd ["_law_cup_here", "_law_things"] [])
    (D : FnOk P w K mg base CX0 3 d dd ["_law_cup_here", "_law_letters", "_law_left", "_law_right_here"] (spDeed K)) (kD : PySem.W.keepIn K (.ref d) = true) (mD : mg "_law_deed" = some (.ref d)) (bD : Binds K dd ["_law_cup_here", "_law_letters", "_law_left", "_law_right_here"] []) :
    FnOk P w K mg base CX0 4 f fd ["_law_cup_here", "_law_many", "_law_rows"] (spPairs K) := by
  refine F.ok scPairs (fun vs H Q E h => ?_) (fun cdv A outer s H vs Q E hr h => ?_)
  · obtain ⟨_, _, _, rfl, _⟩ := h
    rfl
  · obtain ⟨c, m, R, rfl, hc, m1, m2, R0, R1, q⟩ := h
    have nd := scPairs.nd
    have hr1 : Room 1 _ := hr.mono (by decide)
    have hr2 : Room 2 _ := hr.mono (by decide)
    refine ⟨_, pss_cons (ps_par3 (i := 3) (j := 4) (l := 5) rfl nd rfl rfl rfl (by decide) (by decide) (by decide) rfl rfl rfl
        (pa_cons (pe_slice sl_str pe_str po_none (po_some (pv 1))) (pa_cons (pe_tup pa_nil) (pa_cons (pe_lst pa_nil) pa_nil))) (by rfl))
      (pss_cons (ps_for PassesOwn.never rfl (pi_range1 rfl T.range (pa_cons (pe_call G hr1 rfl mG kG bG .nil pass0 (pa_cons (pv 0) (pa_cons (pe_op op_add (pv 2) pe_int) pa_nil))) pa_nil)) (pg_name (i := 6) nd rfl (.inl rfl))
        (pss_cons (ps_set (i := 7) nd rfl (.inl rfl) (pe_tup (pa_cons
            (pe_call S hr2 rfl mS kS bS .nil pass0 (pa_cons (pv 0) (pa_cons (pe_op op_cat (pe_op op_rep (pe_callTy (call_list_text rfl) (by rfl) T.list (by decide +kernel) (pa_cons (pv 3) pa_nil)) pe_int) (pe_lst (pa_cons pe_str pa_nil))) pa_nil))) (pa_cons
            (pe_call S hr2 rfl mS kS bS .nil pass0 (pa_cons (pv 0) (pa_cons (pe_op op_cat (pe_op op_rep (pe_callTy (call_list_text rfl) (by rfl) T.list (by decide +kernel) (pa_cons (pv 3) pa_nil)) pe_int) (pe_lst (pa_cons pe_str pa_nil))) pa_nil))) pa_nil))))
        (pss_one (ps_if (PW.pt (pw_and (pt_cmpR (op_notInD (hu65 hr)) (pv 7) (pv 5) (by rfl)) (pw_and1 (pt_cmpR (op_neD (hu64 hr)) (pv 7) (pe_tup (pa_cons pe_str (pa_cons pe_str pa_nil))) (nomark _)))))
          (pss_cons (ps_expr (pe_bm PySem.F.plainAttrs_list PySem.F.slot_list_append PySem.F.type_list_append mt_append (pv 5) (pa_cons (pv 7) pa_nil)))
          (pss_one (ps_set (i := 4) nd rfl (.inl rfl) (pe_op op_catA (pv 4) (pe_tup (pa_cons (pe_op op_catA (pv 7) (pe_tup (pa_cons
            (pe_call D hr rfl mD kD bD .nil pass0 (pa_cons (pv 0) (pa_cons (pv 3) (pa_cons (pe_ix ix_tup (pv 7) pe_int (fun _ _ => rfl)) (pa_cons (pe_ix ix_tup (pv 7) pe_int (fun _ _ => rfl)) pa_nil))))) pa_nil))) pa_nil)))))) pss_nil))))
      (pss_one (ps_ret (pe_tup (pa_cons (pv 3) (pa_cons (pv 4) pa_nil)))))), ?_⟩
    have lok := let_ok m1 m2
    generalize hL : cutS "abcdefgh" none (some m) = L at lok
    refine ⟨_, rfl, m, rfl, "abcdefgh", rfl, sz (by decide +kernel), ?_⟩
    rw [hL]
    refine ⟨sz (by show 0 ≤ 100000; decide), fun t0 ht0 => ⟨sz (by show 0 ≤ 100000; decide), fun sd hsd => ⟨_, _, _, rfl, ?_⟩⟩⟩
    have s1 := same_upd (o := .tup []) ht0
    have s2' := same_upd (o := .lst []) hsd
    have hsd0 : H sd = none := s1.free hsd
    have nsc : sd ≠ c := fun e => by
      obtain ⟨xs, h⟩ := cup_lst hc
      rw [← e, hsd0] at h
      cases h
    have e0 : (upd (upd H t0 (.tup [])) sd (.lst [])) t0 = some (.tup []) := s2' _ _ upd_same
    have hcs := (hc.same s1).same s2'
    refine ⟨_, rfl, _, rfl, _, _, rfl, rfl, c, R + 1, rfl, hcs, by omega, by omega, fun H1 r1 sb1 hc1 r10 r11 => ⟨r1, rfl, by omega, by omega, ?_⟩⟩
    have sbA : Sb [c] H H1 := (Sb.of (s1.trans s2')).trans sb1
    have tk1 := cup_tk (K := K) hcs sb1
    refine for_range (lo := 0) (n := r1.toNat) (fun i σ H' => ∃ (fv : V) (x6 x7 : Option V) (qs : List Rule) (ps : List Addr), σ = [some (.ref c), some (.int m), some (.int R), some (.str L), some fv, some (.ref sd), x6, x7] ∧
        Sb [c] H H' ∧ CupAt H' c ∧ H' sd = some (.lst (ps.map V.ref)) ∧ Paired (fun (p : Addr) (s : Str × Str) => SqT K H' p [.str s.1, .str s.2]) ps (qs.map fun (q : Rule) => ((q.1, q.2.1) : Str × Str)) ∧ (∃ fa rs, fv = .ref fa ∧ SqT K H' fa rs ∧ Paired (RuleAt K H') rs qs) ∧
        (∀ q ∈ qs, RuleOk L q) ∧ (qs.map fun (q : Rule) => ((q.1, q.2.1) : Str × Str)).Nodup ∧ qs.length ≤ i)
      ⟨.ref t0, none, none, [], [], rfl, sbA, hc1, sb1 _ _ upd_same (by simpa using nsc), .nil, ⟨t0, [], rfl, tk1 _ _ (SqT.of e0), .nil⟩, fun q hq => (nomatch hq), List.nodup_nil, Nat.zero_le _⟩ ?_ ?_
    · rintro i σ H2 hi ⟨fv, x6, x7, qs, ps, rfl, sb2, hc2, hs2, hps, ⟨fa, rs, rfl, hfa, hrs⟩, rok, ndq, lq⟩
      refine ⟨_, rfl, _, rfl, ?_⟩
      refine drawSide (K := K) hc2 lok fun H3 x sb3 hc3 hx => ?_
      refine ⟨_, rfl, _, rfl, ?_⟩
      refine drawSide (K := K) hc3 lok fun H4 y sb4 hc4 hy => ?_
      have sb34 := sb3.trans sb4
      have tk34 := cup_tk (K := K) hc2 sb34
      refine ⟨sz (by show 2 ≤ 100000; decide), fun pp hpp => ?_⟩
      have s5 := same_upd (o := .tup [V.str x, V.str y]) hpp
      have tk5 := tk34.trans (TK.same s5)
      have hc5 := hc4.same s5
      have sb5 : Sb [c] H (upd H4 pp (.tup [V.str x, V.str y])) := (sb2.trans sb34).trans (Sb.of s5)
      have hs5 : (upd H4 pp (.tup [V.str x, V.str y])) sd = some (.lst (ps.map V.ref)) := s5 _ _ (sb34 _ _ hs2 (by simpa using nsc))
      have hps5 := Paired.mapP hps fun _ _ z => tk5 _ _ z
      have hpp5 : SqT K (upd H4 pp (.tup [V.str x, V.str y])) pp [.str x, .str y] := SqT.of upd_same
      have smx := hx.sm lok
      have smy := hy.sm lok
      have smQ : ∀ s ∈ qs.map (fun (q : Rule) => ((q.1, q.2.1) : Str × Str)), SmP s := fun s hs => by
        obtain ⟨q0, hq0, e⟩ := List.mem_map.mp hs
        rw [← e]
        exact ⟨(rok q0 hq0).l.sm lok, (rok q0 hq0).r.sm lok⟩
      have hrs5 := Paired.mapP hrs fun _ _ z => RuleAt.mono tk5 z
      have hfa5 := tk5 _ _ hfa
      refine ⟨_, rfl, _, rfl, keyD (x, y), (qs.map fun (q : Rule) => ((q.1, q.2.1) : Str × Str)).map keyD, .tup hpp5 (.cons (.str _) (.cons (.str _) .nil)), .lst (SqL.of hs5) (DpKeys hps5), sh_key ⟨smx, smy⟩, sh_keys smQ, _, rfl, ?_⟩
      rw [any_keys]
      by_cases hm : (x, y) ∈ qs.map fun (q : Rule) => ((q.1, q.2.1) : Str × Str)
      · rw [decide_eq_true hm]
        refine iteF (iteF ?_)
        exact ⟨_, _, _, qs, ps, rfl, sb5, hc5, hs5, hps5, ⟨fa, rs, rfl, hfa5, hrs5⟩, rok, ndq, by omega⟩
      · rw [decide_eq_false hm]
        refine iteT ⟨_, rfl, sz (by show 2 ≤ 100000; decide), fun ee hee => ?_⟩
        have s6 := same_upd (o := .tup [V.str "", V.str ""]) hee
        have tk6 := TK.same (K := K) s6
        refine ⟨keyD (x, y), keyD (S0, S0), .tup (tk6 _ _ hpp5) (.cons (.str _) (.cons (.str _) .nil)), .tup (SqT.of upd_same) (.cons (.str _) (.cons (.str _) .nil)), sh_key ⟨smx, smy⟩, sh_key ⟨.inl rfl, .inl rfl⟩, _, rfl, ?_⟩
        rw [eqv_keyD]
        have hc6 := hc5.same s6
        have sb6 := sb5.trans (Sb.of (L := [c]) s6)
        have hs6 := s6 _ _ hs5
        have hps6 := Paired.mapP hps5 fun _ _ z => tk6 _ _ z
        have hrs6 := Paired.mapP hrs5 fun _ _ z => RuleAt.mono tk6 z
        have hfa6 := tk6 _ _ hfa5
        have hpp6 := tk6 _ _ hpp5
        by_cases he : (x, y) = (S0, S0)
        · rw [decide_eq_true he]
          refine iteF ?_
          exact ⟨_, _, _, qs, ps, rfl, sb6, hc6, hs6, hps6, ⟨fa, rs, rfl, hfa6, hrs6⟩, rok, ndq, by omega⟩
        · rw [decide_eq_false he]
          -- sides.append(pair)
          have pl : ps.length = qs.length := by
            have := Paired.length hps
            rw [List.length_map] at this
            exact this
          refine iteT ⟨_, rfl, .inl ⟨rfl, _, SqL.of hs6⟩, _, rfl, sd, _, _, rfl, rfl, hs6, by rw [List.length_map]; exact szl (by omega), ?_⟩
          have tk7 : TK K (upd (upd H4 pp (.tup [V.str x, V.str y])) ee (.tup [V.str "", V.str ""])) (upd (upd (upd H4 pp (.tup [V.str x, V.str y])) ee (.tup [V.str "", V.str ""])) sd (.lst (ps.map V.ref ++ [V.ref pp]))) := TK.upd hs6 True.intro
          have hc7 : CupAt (upd (upd (upd H4 pp (.tup [V.str x, V.str y])) ee (.tup [V.str "", V.str ""])) sd (.lst (ps.map V.ref ++ [V.ref pp]))) c := by
            obtain ⟨x0, y0, h1, h2, h3⟩ := hc6
            exact ⟨x0, y0, h1, h2, by rw [upd_ne nsc.symm]; exact h3⟩
          have hpp7 := tk7 _ _ hpp6
          have sb7 := sb6.updNew (u := .lst (ps.map V.ref ++ [V.ref pp])) hsd0
          -- found = found + (pair + (deed(..),),)
          refine ⟨_, rfl, _, rfl, _, rfl, _, rfl, _, rfl, pp, _, 0, .str x, rfl, rfl, hpp7, rfl, _, rfl, pp, _, 1, .str y, rfl, rfl, hpp7, rfl, ?_⟩
          refine ⟨c, L, x, y, rfl, hc7, lok, fun H8 a8 d8 sb8 hc8 hd8 dok => ?_⟩
          have tk8 := cup_tk (K := K) hc7 sb8
          refine ⟨sz (by show 1 ≤ 100000; decide), fun u9 hu9 => ?_⟩
          have s9 := same_upd (o := .tup [V.ref a8]) hu9
          have tk9 := tk8.trans (TK.same s9)
          refine ⟨pp, u9, _, _, rfl, rfl, tk9 _ _ hpp7, SqT.of upd_same, sz (by show 3 ≤ 100000; decide), fun e => (nomatch e), fun _ e => (nomatch e), fun _ _ ru hru => ?_⟩
          have s10 := same_upd (o := .tup ([V.str x, V.str y] ++ [V.ref a8])) hru
          refine ⟨sz (by show 1 ≤ 100000; decide), fun u11 hu11 => ?_⟩
          have s11 := same_upd (o := .tup [V.ref ru]) hu11
          have s911 := (s9.trans s10).trans s11
          have tkA : TK K (upd (upd H4 pp (.tup [V.str x, V.str y])) ee (.tup [V.str "", V.str ""])) (upd (upd (upd H8 u9 (.tup [V.ref a8])) ru (.tup ([V.str x, V.str y] ++ [V.ref a8]))) u11 (.tup [V.ref ru])) := (tk7.trans tk8).trans (TK.same s911)
          have newRule : RuleAt K (upd (upd (upd H8 u9 (.tup [V.ref a8])) ru (.tup ([V.str x, V.str y] ++ [V.ref a8]))) u11 (.tup [V.ref ru])) (.ref ru) (x, y, d8) := ⟨ru, a8, rfl, SqT.of (s11 _ _ upd_same), hd8.mono (TK.same s911)⟩
          have rl : rs.length = qs.length := Paired.length hrs
          have finish : ∀ (H12 : Hp) (fa' : Addr) (rs' : List V), Same (upd (upd (upd H8 u9 (.tup [V.ref a8])) ru (.tup ([V.str x, V.str y] ++ [V.ref a8]))) u11 (.tup [V.ref ru])) H12 → SqT K H12 fa' (rs ++ [V.ref ru]) →
              ∃ (fv : V) (x6' x7' : Option V) (qs' : List Rule) (ps' : List Addr), [some (V.ref c), some (.int m), some (.int R), some (.str L), some (.ref fa'), some (.ref sd), some (.int (0 + (i : Nat))), some (.ref pp)] = [some (V.ref c), some (.int m), some (.int R), some (.str L), some fv, some (.ref sd), x6', x7'] ∧
                Sb [c] H H12 ∧ CupAt H12 c ∧ H12 sd = some (.lst (ps'.map V.ref)) ∧ Paired (fun (p : Addr) (s : Str × Str) => SqT K H12 p [.str s.1, .str s.2]) ps' (qs'.map fun (q : Rule) => ((q.1, q.2.1) : Str × Str)) ∧ (∃ fa rs, fv = .ref fa ∧ SqT K H12 fa rs ∧ Paired (RuleAt K H12) rs qs') ∧
                (∀ q ∈ qs', RuleOk L q) ∧ (qs'.map fun (q : Rule) => ((q.1, q.2.1) : Str × Str)).Nodup ∧ qs'.length ≤ i + 1 := by
            intro H12 fa' rs' s12 hfa'
            have tkB := tkA.trans (TK.same s12)
            have sbF : Sb [c] (upd (upd (upd H4 pp (.tup [V.str x, V.str y])) ee (.tup [V.str "", V.str ""])) sd (.lst (ps.map V.ref ++ [V.ref pp]))) H12 := sb8.trans (Sb.of (s911.trans s12))
            refine ⟨_, _, _, qs ++ [(x, y, d8)], ps ++ [pp], rfl, sb7.trans sbF, (hc8.same s911).same s12, ?_, ?_, ⟨fa', _, rfl, hfa', ?_⟩, fun q0 hq0 => ?_, ?_, by rw [List.length_append]; simp; omega⟩
            · rw [List.map_append]
              exact sbF _ _ upd_same (by simpa using nsc)
            · rw [List.map_append]
              exact Paired.app (Paired.mapP hps6 fun _ _ z => tkB _ _ z) (.cons (tkB _ _ hpp6) .nil)
            · exact Paired.app (Paired.mapP hrs6 fun _ _ z => RuleAt.mono tkB z) (.cons (newRule.mono (TK.same s12)) .nil)
            · rcases List.mem_append.mp hq0 with m | m
              · exact rok q0 m
              · rw [List.mem_singleton.mp m]
                exact ⟨hx, hy, fun z => he (Prod.ext z.1 z.2), dok⟩
            · rw [List.map_append]
              exact nd_snoc ndq hm
          refine ⟨fa, u11, rs, [V.ref ru], rfl, rfl, tkA _ _ hfa6, SqT.of upd_same, sz (by rw [rl]; show qs.length + 1 ≤ 100000; omega), fun e => ?_, fun _ e => (nomatch e), fun _ _ nf hnf => ?_⟩
          · subst e
            exact finish _ u11 [] (Same.refl _) (SqT.of upd_same)
          · exact finish _ nf [] (same_upd hnf) (SqT.of upd_same)
    · rintro σ H2 ⟨fv, x6, x7, qs, ps, rfl, sb2, hc2, hs2, hps, ⟨fa, rs, rfl, hfa, hrs⟩, rok, ndq, lq⟩
      refine ⟨_, rfl, _, rfl, sz (by show 2 ≤ 100000; decide), fun t ht => ?_⟩
      have s5 := same_upd (o := .tup [V.str L, V.ref fa]) ht
      refine q _ _ L qs (sb2.trans (Sb.of s5)) (hc2.same s5) ⟨t, fa, rfl, SqT.of upd_same, rs, TK.same s5 _ _ hfa, Paired.mapP hrs fun _ _ z => RuleAt.mono (TK.same s5) z⟩ ⟨lok, rok, ndq, by omega⟩
end
end K24

namespace K24
open PySem PySem.Spec PySem.SeqAt PyProof.Rows L2
/-! ### min of a list of data: which one it is -/
def bestAt (ds : List PyData) : Nat := argBest (fun i j => PySem.W.dataLt (ds.getD i .none) (ds.getD j .none)) (ds.length - 1)
def rMinD (K : PySem.W.Frag) : List V → Hp → VK → Prop := fun vs H Q => ∃ (a : Addr) (xs : List V) (ds : List PyData), vs = [V.ref a] ∧ SqL K H a xs ∧ DpAll K H xs ds ∧ PySem.W.AlikeAll ds ∧ 0 < ds.length ∧ PyData.depthAll ds ≤ 60 ∧
  ∀ y, xs[bestAt ds]? = some y → Q y H
theorem cr_minD {X : Cx} (hc : X.calm = true) (hu : X.A.units + 64 < cLine) : CallR X (.builtin "min") (rMinD X.K) := by
  intro pins s σ H vs us Q I r h
  obtain ⟨a, xs, ds, rfl, hs, hd, al, hne, dep, q⟩ := h
  obtain ⟨its, rv, hl, _⟩ := I.list hs
  obtain ⟨as, hr⟩ := Dp.readsAll I ds _ _ hd rv
  rw [Vals.ref1 r]
  have hl := hl.isList
  have hr' : ReadsAll s.heap its.toArray.toList ds as := by simpa using hr
  have hn : its.toArray.size = ds.length := PySem.W.readsAll_len hr'
  refine call_min_walkH (PySem.W.iter_listW (A := X.A.in1) (I.ok.hd hc) hl fun s₂ e W st hfp hw hk => ?_)
  refine ⟨_, _, _, _, _, _, _, s.heap, _, rfl, W, st, hfp, by omega, hw, hk, PySem.W.cmpIn_lt (A := X.A.in1) hr' al (by show X.A.units + 1 + _ < _; omega), fun v s' hP m => ?_⟩
  obtain ⟨h', tk, rfl, hk'⟩ := PySem.W.moved_old e rfl m
  have hP : its.toArray[argBest (fun i j => PySem.W.dataLt (ds.getD i .none) (ds.getD j .none)) (its.toArray.size - 1)]? = some v := hP
  rw [hn] at hP
  have hP' : its[bestAt ds]? = some v := by simpa [bestAt] using hP
  obtain ⟨y, hy, ry⟩ : ∃ y, xs[bestAt ds]? = some y ∧ RelV y v := by
    have ln := Vals.length rv
    have lt := (List.getElem?_eq_some_iff.mp hP').1
    have e1 : xs[bestAt ds]? = some (xs[bestAt ds]'(by omega)) := List.getElem?_eq_getElem (by omega)
    obtain ⟨u, hu, ru⟩ := Vals.get rv e1
    rw [hP'] at hu
    cases hu
    exact ⟨_, e1, ru⟩
  exact ⟨y, H, I.kept hk', ry, q y hy⟩
end K24

namespace K24
open PySem PySem.Spec PyProof.Rows L2
/-! ### all standings that words lead to, row by row -/
abbrev WD := List (Str × Str)
def stepB (T : Str → Str → Option Str) (s wd : Str) (ws : WD) (x : Str) : WD := match T s x with
  | none => ws
  | some t => if t ∈ ws.map (·.1) then ws else ws ++ [(t, wd ++ x)]
def turnB (T : Str → Str → Option Str) (ls : List Str) (ws : WD) (p : Str × Str) : WD := ls.foldl (stepB T p.1 p.2) ws
def rowsB (T : Str → Str → Option Str) (ls : List Str) : Nat → WD
  | 0 => [(S0, S0)]
  | i + 1 => match (rowsB T ls i)[i]? with
    | none => rowsB T ls i
    | some p => turnB T ls (rowsB T ls i) p
def sidesB (ls : List Str) (s : Str) : List Str := if s = S0 then ls else S0 :: ls
def endsB (T : Str → Str → Option Str) (ls : List Str) (ws : WD) : List Str := ws.flatMap fun p => ((sidesB ls p.1).filter fun r => (T p.1 r).isNone).map fun r => p.2 ++ r
/-- the standing behind a pair that ends -/
noncomputable def nx (qs : List Rule) (a b : Str) : Option Str := by
  classical
  exact if h : ∃ r, Goes S0 (fOf qs) a b r then some h.choose.2 else none
theorem nx_goes {qs : List Rule} {a b : Str} {r : List (Thing Str) × Str} (h : Goes S0 (fOf qs) a b r) : nx qs a b = some r.2 := by
  unfold nx
  have e : ∃ r, Goes S0 (fOf qs) a b r := ⟨r, h⟩
  rw [dif_pos e, Goes.one S0 (fOf qs) e.choose_spec h]
theorem nx_never {qs : List Rule} {a b : Str} (h : Never S0 (fOf qs) a b) : nx qs a b = none := by
  unfold nx
  rw [dif_neg]
  rintro ⟨r, n, e⟩
  rw [h n] at e
  cases e
theorem never_nx {qs : List Rule} {a b : Str} (h : nx qs a b = none) : Never S0 (fOf qs) a b := by
  intro n
  cases e : ev S0 (fOf qs) n a b with
  | none => rfl
  | some r =>
    rw [nx_goes (r := r) ⟨n, e⟩] at h
    cases h
theorem goes_nx {qs : List Rule} {a b t : Str} (h : nx qs a b = some t) : ∃ r, Goes S0 (fOf qs) a b r ∧ r.2 = t := by
  unfold nx at h
  split at h
  · rename_i e
    exact ⟨_, e.choose_spec, Option.some.inj h⟩
  · cases h
/-- what holds of the rows -/
structure GoodB (L : Str) (qs : List Rule) (ws : WD) : Prop where
  nd : (ws.map (·.1)).Nodup
  z : ws[0]? = some (S0, S0)
  each : ∀ k s wd, ws[k]? = some (s, wd) → IsSide L s ∧ WordOk L wd ∧ wd.length ≤ k ∧ (0 < k → 1 ≤ wd.length) ∧ ∃ th, GoesAll S0 (fOf qs) S0 (letsOf wd) (th, s)
theorem sg_len (c : Nat) : (sg c).length = 1 := rfl
theorem app_len (x y : Str) : (x ++ y).length = x.length + y.length := by
  show (x.cps ++ y.cps).size = x.cps.size + y.cps.size
  rw [Array.size_append]
theorem lets_app (x y : Str) : letsOf (x ++ y) = letsOf x ++ letsOf y := by
  unfold letsOf
  rw [show (x ++ y).cps.toList = x.cps.toList ++ y.cps.toList from by
    show (x.cps ++ y.cps).toList = _
    simp, List.map_append]
theorem lets_sg (c : Nat) : letsOf (sg c) = [sg c] := rfl
theorem good_zero {L : Str} {qs : List Rule} : GoodB L qs [(S0, S0)] := by
  refine ⟨by simp, rfl, fun k s wd h => ?_⟩
  cases k with
  | zero =>
    cases h
    exact ⟨.inl rfl, (fun c hc => by cases hc), Nat.zero_le _, (fun z => absurd z (by decide)), [], GoesAll.nil S0 (fOf qs) S0⟩
  | succ k => simp at h
theorem good_step {L : Str} {qs : List Rule} {ws : WD} {s wd x : Str} {i : Nat} (ok : ProgOk L qs) (g : GoodB L qs ws) (hi : ws[i]? = some (s, wd)) (hx : IsLet L x) : GoodB L qs (stepB (nx qs) s wd ws x) ∧ ∃ more, stepB (nx qs) s wd ws x = ws ++ more := by
  unfold stepB
  cases e : nx qs s x with
  | none => exact ⟨g, [], (List.append_nil _).symm⟩
  | some t =>
    show GoodB L qs (if t ∈ ws.map (·.1) then ws else ws ++ [(t, wd ++ x)]) ∧ ∃ more, (if t ∈ ws.map (·.1) then ws else ws ++ [(t, wd ++ x)]) = ws ++ more
    by_cases hm : t ∈ ws.map (·.1)
    · rw [if_pos hm]
      exact ⟨g, [], (List.append_nil _).symm⟩
    · rw [if_neg hm]
      refine ⟨⟨?_, ?_, fun k s' wd' h => ?_⟩, _, rfl⟩
      · rw [List.map_append]
        refine List.nodup_append.mpr ⟨g.nd, by simp, ?_⟩
        intro a ha b hb
        simp at hb
        subst hb
        intro e
        subst e
        exact hm ha
      · have h0 := (List.getElem?_eq_some_iff.mp g.z).1
        rw [List.getElem?_append_left h0]
        exact g.z
      · by_cases hk : k < ws.length
        · rw [List.getElem?_append_left hk] at h
          exact g.each k s' wd' h
        · have hl := (List.getElem?_eq_some_iff.mp h).1
          rw [List.length_append] at hl
          have hk2 : k = ws.length := by
            simp at hl
            omega
          subst hk2
          rw [List.getElem?_append_right (Nat.le_refl _)] at h
          simp at h
          obtain ⟨rfl, rfl⟩ := h
          have il := (List.getElem?_eq_some_iff.mp hi).1
          obtain ⟨g1, g2, g3, g4, th, g5⟩ := g.each i s wd hi
          obtain ⟨r, hr, rfl⟩ := goes_nx e
          obtain ⟨c, hc, rfl⟩ := hx
          have ga := GoesAll.snoc S0 (fOf qs) g5 hr
          refine ⟨?_, ?_, ?_, fun _ => ?_, th ++ r.1, ?_⟩
          · refine GoesAll.side ok (a := S0) (xs := letsOf wd ++ [sg c]) (r := (th ++ r.1, r.2)) (.inl rfl) (fun y hy => ?_) ga
            rcases List.mem_append.mp hy with m | m
            · exact lets_side g2 y (List.mem_append_left _ m)
            · rw [List.mem_singleton.mp m]
              exact .inr ⟨c, hc, rfl⟩
          · intro d hd
            have : d ∈ (wd.cps ++ (sg c).cps).toList := hd
            rw [Array.toList_append] at this
            rcases List.mem_append.mp this with m | m
            · exact g2 d m
            · have : d = c := by simpa [sg] using m
              rw [this]
              exact hc
          · rw [app_len, sg_len]
            omega
          · rw [app_len, sg_len]
            omega
          · rw [lets_app, lets_sg]
            exact ga
theorem good_fold {L : Str} {qs : List Rule} {s wd : Str} {i : Nat} (ok : ProgOk L qs) : ∀ (xs : List Str) {ws : WD}, GoodB L qs ws → ws[i]? = some (s, wd) → (∀ x ∈ xs, IsLet L x) → GoodB L qs (xs.foldl (stepB (nx qs) s wd) ws) ∧ ∃ more, xs.foldl (stepB (nx qs) s wd) ws = ws ++ more
  | [], ws, g, _, _ => ⟨g, [], (List.append_nil _).symm⟩
  | x :: xs, ws, g, hi, hx => by
    obtain ⟨g1, m, e⟩ := good_step ok g hi (hx x List.mem_cons_self)
    have hl := (List.getElem?_eq_some_iff.mp hi).1
    have hi' : (stepB (nx qs) s wd ws x)[i]? = some (s, wd) := by
      rw [e, List.getElem?_append_left hl]
      exact hi
    obtain ⟨g2, m2, e2⟩ := good_fold ok xs g1 hi' fun y hy => hx y (List.mem_cons_of_mem _ hy)
    refine ⟨g2, m ++ m2, ?_⟩
    rw [List.foldl_cons, e2, e, List.append_assoc]
theorem good_rows {L : Str} {qs : List Rule} {ls : List Str} (ok : ProgOk L qs) (hl : ∀ x ∈ ls, IsLet L x) : ∀ i, GoodB L qs (rowsB (nx qs) ls i)
  | 0 => good_zero
  | i + 1 => by
    have g := good_rows ok hl i
    show GoodB L qs (match (rowsB (nx qs) ls i)[i]? with | none => rowsB (nx qs) ls i | some p => turnB (nx qs) ls (rowsB (nx qs) ls i) p)
    cases e : (rowsB (nx qs) ls i)[i]? with
    | none => exact g
    | some p => exact (good_fold ok ls g e hl).1
theorem nodup_len {α : Type} [DecidableEq α] : ∀ (xs ys : List α), xs.Nodup → (∀ x ∈ xs, x ∈ ys) → xs.length ≤ ys.length
  | [], _, _, _ => Nat.zero_le _
  | x :: xs, ys, nd, h => by
    obtain ⟨h1, h2⟩ := List.nodup_cons.mp nd
    have hx := h x List.mem_cons_self
    have ih := nodup_len xs (ys.erase x) h2 fun y hy => (List.mem_erase_of_ne (fun e : y = x => h1 (by rw [← e]; exact hy))).mpr (h y (List.mem_cons_of_mem _ hy))
    have hl := List.length_erase_of_mem hx
    have hp := List.length_pos_of_mem hx
    rw [List.length_cons]
    omega
/-- few standings -/
theorem good_len {L : Str} {qs : List Rule} {ws : WD} (ok : ProgOk L qs) (g : GoodB L qs ws) : ws.length ≤ 9 := by
  have sub : ∀ x ∈ ws.map (·.1), x ∈ S0 :: L.cps.toList.map sg := by
    intro x hx
    obtain ⟨⟨s, wd⟩, hm, rfl⟩ := List.mem_map.mp hx
    obtain ⟨k, hk⟩ := List.getElem?_of_mem hm
    rcases (g.each k s wd hk).1 with e | ⟨c, hc, e⟩
    · rw [e]
      exact List.mem_cons_self
    · rw [e]
      exact List.mem_cons_of_mem _ (List.mem_map.mpr ⟨c, hc, rfl⟩)
  have h1 := nodup_len _ _ g.nd sub
  have h2 := ok.lets.few
  rw [List.length_map, List.length_cons, List.length_map] at h1
  omega
theorem ends_good {L : Str} {qs : List Rule} {ls : List Str} {ws : WD} (ok : ProgOk L qs) (hl : ∀ x ∈ ls, IsLet L x) (g : GoodB L qs ws) : ∀ e ∈ endsB (nx qs) ls ws, WordOk L e ∧ 1 ≤ e.length ∧ e.length ≤ 10 ∧ WordNever qs e := by
  intro e he
  obtain ⟨⟨s, wd⟩, hm, h2⟩ := List.mem_flatMap.mp he
  obtain ⟨r, hr, rfl⟩ := List.mem_map.mp h2
  obtain ⟨hr1, hr2⟩ := List.mem_filter.mp hr
  obtain ⟨k, hk⟩ := List.getElem?_of_mem hm
  obtain ⟨g1, g2, g3, g4, th, g5⟩ := g.each k s wd hk
  have kl := (List.getElem?_eq_some_iff.mp hk).1
  have wl := good_len ok g
  have nv : Never S0 (fOf qs) s r := never_nx (Option.isNone_iff_eq_none.mp hr2)
  have side : r = S0 ∧ s ≠ S0 ∨ IsLet L r := by
    unfold sidesB at hr1
    by_cases z : s = S0
    · rw [if_pos z] at hr1
      exact .inr (hl r hr1)
    · rw [if_neg z] at hr1
      rcases List.mem_cons.mp hr1 with e | m
      · exact .inl ⟨e, z⟩
      · exact .inr (hl r m)
  rcases side with ⟨rfl, sne⟩ | ⟨c, hc, rfl⟩
  · have k0 : 0 < k := by
      rcases Nat.eq_zero_or_pos k with z | z
      · subst z
        rw [g.z] at hk
        cases hk
        exact absurd rfl sne
      · exact z
    have e0 : wd ++ S0 = wd := by
      show (⟨wd.cps ++ #[]⟩ : Str) = wd
      simp
    rw [e0]
    refine ⟨g2, g4 k0, (by show wd.length ≤ 10; omega), ?_⟩
    have := NeverAll.of S0 (fOf qs) (ys := []) g5 nv
    exact this
  · refine ⟨?_, (by show 1 ≤ (wd ++ sg c).length; rw [app_len, sg_len]; omega), (by show (wd ++ sg c).length ≤ 10; rw [app_len, sg_len]; omega), ?_⟩
    · intro d hd
      have : d ∈ (wd.cps ++ (sg c).cps).toList := hd
      rw [Array.toList_append] at this
      rcases List.mem_append.mp this with m | m
      · exact g2 d m
      · have : d = c := by simpa [sg] using m
        rw [this]
        exact hc
    · unfold WordNever
      rw [lets_app, lets_sg, List.append_assoc]
      exact NeverAll.of S0 (fOf qs) g5 nv
end K24

namespace K24
open PySem PySem.Spec PySem.W PyProof.Rows L2
section
variable {X : Cx} {tg e : Expr} {td : TE}
/-- a dict that an expression tells, held still from here on (for a loop over what a call returns: nobody else has it) -/
def tHeldK (td : TE) : TE := fun σ H Q => td σ H fun x H1 => ∃ d kvs, x = .ref d ∧ H1 d = some (.dK kvs) ∧ ∀ od, Q x (L2.upd H1 d (.frz od (.dK kvs)))
theorem pe_heldK (he : PE X e td) : PE X e (tHeldK td) := by
  refine ⟨fun pins s σ H Q I h => ?_⟩
  refine thn (he.run pins s σ H _ I h) fun u s1 ⟨x, H1, I1, rx, d, kvs, ex, hd, q⟩ => ?_
  subst ex
  obtain ⟨od, I2⟩ := I1.lock hd True.intro
  exact ⟨.ref d, _, I2, rx, q od⟩
def tHeldT (td : TE) : TE := fun σ H Q => td σ H fun x H1 => ∃ d kvs, x = .ref d ∧ H1 d = some (.dT kvs) ∧ ∀ od, Q x (L2.upd H1 d (.frz od (.dT kvs)))
theorem pe_heldT (he : PE X e td) : PE X e (tHeldT td) := by
  refine ⟨fun pins s σ H Q I h => ?_⟩
  refine thn (he.run pins s σ H _ I h) fun u s1 ⟨x, H1, I1, rx, d, kvs, ex, hd, q⟩ => ?_
  subst ex
  obtain ⟨od, I2⟩ := I1.lock hd True.intro
  exact ⟨.ref d, _, I2, rx, q od⟩
theorem pi_keysK (he : PE X e td) : PI X tg e (iKeys (tHeldK td)) := pi_keys (pe_heldK he)
end
end K24

namespace K24
open PySem PySem.Spec PySem.W PyProof.Rows L2
/-! ### sorted(a list of data): the items, in the order of their data -/
def rSortD {β : Type} (K : PySem.W.Frag) (enc : β → PyData) : List V → Hp → VK → Prop := fun vs H Q => ∃ (a : Addr) (xs : List V) (bs : List β) (Pr : V → β → Prop), vs = [V.ref a] ∧ SqL K H a xs ∧ DpAll K H xs (bs.map enc) ∧ Paired Pr xs bs ∧
  AllAlike (bs.map enc) ∧ Sortable (bs.map enc) ∧ bs.length ≤ 100000 ∧ (∀ b ∈ bs, (enc b).depth ≤ 60) ∧ ∀ (ys : List V) (p : Addr), Paired Pr ys (bs.mergeSort (dataLe false enc)) → H p = none → Q (.ref p) (upd H p (.lst ys))
theorem each_of2 {β : Type} {Pr : V → β → Prop} : ∀ {xs : List V} {vs : List Value} {bs : List β}, Vals xs vs → Paired Pr xs bs → EachIs (fun v b => ∃ y, RelV y v ∧ Pr y b) vs bs
  | _, _, _, .nil, .nil => .nil
  | _, _, _, .cons r t, .cons p q => .cons ⟨_, r, p⟩ (each_of2 t q)
theorem each_back {β : Type} {Pr : V → β → Prop} : ∀ {vs : List Value} {bs : List β}, EachIs (fun v b => ∃ y, RelV y v ∧ Pr y b) vs bs → ∃ ys, Vals ys vs ∧ Paired Pr ys bs
  | _, _, .nil => ⟨[], .nil, .nil⟩
  | _, _, .cons ⟨y, r, p⟩ t => by
    obtain ⟨ys, h1, h2⟩ := each_back t
    exact ⟨y :: ys, .cons r h1, .cons p h2⟩
theorem cr_sortD {β : Type} {X : Cx} {enc : β → PyData} (hu : X.A.units + 64 < cLine) : CallR X (.builtin "sorted") (rSortD X.K enc) := by
  intro pins s σ H vs us Q I r h
  obtain ⟨a, xs, bs, Pr, rfl, hs, hd, hp, al, so, len, dep, q⟩ := h
  obtain ⟨its, rv, hl, _⟩ := I.list hs
  obtain ⟨as, hr⟩ := Dp.readsAll I _ _ _ hd rv
  rw [Vals.ref1 r]
  refine PySem.W.sorted_data (R := fun v b => ∃ y, RelV y v ∧ Pr y b) (enc := enc) hl.isList (each_of2 rv hp) (readsAll_each enc hr) al so (by rw [sizeLine_eq]; omega) (fun b hb => by have := dep b hb; omega) fun out ol he => ?_
  obtain ⟨ys, h1, h2⟩ := each_back he
  obtain ⟨ep, he'⟩ := PyProof.Rows.sortedAll_at s.heap its out.toArray
  have hlen : ys.length ≤ sizeLine := by
    rw [Vals.length h1, ol, sizeLine_eq]
    omega
  exact ⟨.ref _, upd H (s.heap.objs.size + 1) (.lst ys), I.laid (t' := s.toks) (fun _ _ => PyProof.Rows.sortedAll_old) (Nat.le_succ _) ⟨hlen, out, ep, h1, he'⟩, rfl, q ys _ h2 (I.hok.fresh (Nat.le_succ _))⟩
end K24

namespace K24
open PySem PySem.Spec PySem.W PyProof.Rows L2
/-! ### the values of a dict of tuple keys -/
def Itdt (d : Addr) (o : Obj) (kvs : List (List L2.Key × V)) : It :=
  ⟨fun i H => H d = some (.frz o (.dT kvs)) ∧ i < kvs.length, fun i H x H' => H' = H ∧ ∃ k, kvs[i]? = some (k, x), fun i H => H d = some (.frz o (.dT kvs)) ∧ kvs.length ≤ i⟩
theorem frzT_vals {X : Cx} {pins : List (Addr × Obj)} {σ : L2.St} {H : Hp} {s : Shared} {d : Addr} {o : Obj} {kvs : List (List L2.Key × V)} (I : Inv X pins σ H s) (h : H d = some (.frz o (.dT kvs))) :
    (d == sysModules) = false ∧ s.heap.get? d = some o ∧ o.ExactDict ∧ ∃ (es : Array DictEntry) (ep : Nat), o.data = .dict es ep ∧ es.size = kvs.length ∧
      ∀ (i : Nat) (k : List L2.Key) (v : V), kvs[i]? = some (k, v) → ∃ (en : DictEntry), es[i]? = some en ∧ RelV v en.val := by
  obtain ⟨hd, z, hs, xs, pr, o', es, ep, ho, hx, hdt, he, _⟩ := I.hok d _ h
  rw [hd] at ho
  cases ho
  refine ⟨hs, hd, hx, es, ep, hdt, ?_, fun i k v e => ?_⟩
  · have l1 : es.size = xs.length := size_of_entries he
    have l2 : kvs.length = xs.length := Paired.length pr
    omega
  · obtain ⟨b, hb, e1, e2, e3⟩ := paired_get pr e
    have q := entry_at he i
    rw [hb] at q
    exact ⟨_, q, e3⟩
theorem turn_valsT {P : Program} {w : World} {K : PySem.W.Frag} {tg : Expr} {d : Addr} {o : Obj} {es : Array DictEntry} {ep : Nat} {kvs : List (List L2.Key × V)} (it : Addr) (hod : o.data = .dict es ep) :
    Turn P w K tg (Itdt d o kvs) [it] it (fun i h => h.IsValIter it d i kvs.length ep) where
  mem := by simp
  obj := fun i h st b hb => by
    have e : b = it := by simpa using hb
    subst e
    obtain ⟨oi, e, c, dd⟩ := st
    exact ⟨oi, e, fun v z => by rw [dd] at z; cases z⟩
  keep := fun i h h' st k => st.at fun oi e => k it (by simp) oi e
  item := by
    intro X hP hw hK hc i pins s σ H E I hf st hg
    subst hP hw hK
    obtain ⟨hd, hi⟩ := hg
    obtain ⟨f0, f1, f2, f3, f4, f5⟩ := hf it (by simp)
    obtain ⟨hs, hgd, hx, es', ep', hdt, hsz, ent⟩ := frzT_vals I hd
    obtain ⟨rfl, rfl⟩ := dict_ep hod hdt
    obtain ⟨⟨k, v⟩, hkv⟩ : ∃ p, kvs[i]? = some p := ⟨kvs[i], List.getElem?_eq_getElem hi⟩
    obtain ⟨en, hen, ru⟩ := ent i k v hkv
    have hlt : i < es'.size := by omega
    have een : es'[i] = en := by
      rw [Array.getElem?_eq_getElem hlt] at hen
      exact Option.some.inj hen
    rw [← hsz] at st
    refine wpAny_pyNext_values_item_raw st ⟨o, hgd, hx, hdt⟩ hlt fun h' st' sb => ?_
    have I1 : Inv X pins σ H { s with heap := h' } := I.turned (t' := s.toks) (fun b ob hb e => (sb.2 b hb).trans e) f0 f1 f3 f4 f5
    obtain ⟨oi, e, c, dd⟩ := id st'
    rw [een]
    refine ⟨en.val, rfl, go_of (s := { s with heap := h' }) e c dd (by decide) ⟨v, H, I1, ru, ⟨rfl, k, hkv⟩, ?_, fun b hb => (hf b hb).1⟩⟩
    show h'.IsValIter it d (i + 1) kvs.length _
    rw [← hsz]
    exact st'
  done := by
    intro X hP hw hK hc i pins s σ H E I hf st hg
    subst hP hw hK
    obtain ⟨hd, hi⟩ := hg
    obtain ⟨f0, f1, f2, f3, f4, f5⟩ := hf it (by simp)
    obtain ⟨hs, hgd, hx, es', ep', hdt, hsz, ent⟩ := frzT_vals I hd
    obtain ⟨rfl, rfl⟩ := dict_ep hod hdt
    rw [← hsz] at st
    exact wpAny_pyNext_values_end_raw (I.ok.hd hc) st ⟨o, hgd, hx, hdt⟩ (by omega) fun h' eb => ⟨rfl, I.turned (t' := s.toks) (fun b ob hb e => eb b ob hb e) f0 f1 f3 f4 f5⟩
  self := fun A i s Q E st h => wpAny_pyIter_valiter st h
section
variable {X : Cx} {tg e : Expr} {td : TE} {apos cpos : Pos}
def iValsT (td : TE) : TI := fun σ H R => td σ H fun x H1 => ∃ d o kvs, x = .ref d ∧ H1 d = some (.frz o (.dT kvs)) ∧ R (Itdt d o kvs) H1
theorem pi_valuesT (he : PE X e td) (hbase : attributeBase e "values" X.env (eval e X.env) = eval e X.env := by rfl) (hline : (apos.endLine == cpos.line) = true := by rfl) : PI X tg (.Call (.Attribute e "values" apos) [] [] cpos) (iValsT td) := by
  refine ⟨fun pins s σ H R I h => ?_⟩
  refine wpAny_Call_method (T := "dict") (id := "dict.values") hbase rfl hline PySem.F.plainAttrs_dict PySem.F.slot_dict_values PySem.F.type_dict_values (thn (he.run pins s σ H _ I h) fun u s1 ⟨x, H1, I1, rx, d, o, kvs, ex, hd, q⟩ => ?_)
  subst ex
  obtain rfl : u = Value.ref d := rx
  obtain ⟨hs, hgd, hx, es, ep, hdt, hsz, ent⟩ := frzT_vals I1 hd
  have hm : s1.heap.DictRaw d es ep := ⟨o, hgd, hx, hdt⟩
  refine ⟨hm.typeIs, ?_, ?_⟩
  · intro b z
    cases z
    exact ⟨o, hgd, hx.2.1⟩
  have I2 : Inv X pins σ H1 { s1 with heap := s1.heap.push { cls := .type "dict_values", data := .fields #[.ref d] } } := I1.kept (t' := s1.toks) fun b ob q => Heap.get?_push_of_some _ q
  have fin : wpAny (model X.prog X.w) X.A (pyIter (.ref s1.heap.objs.size)) (PIE X pins σ tg R) X.xe { s1 with heap := s1.heap.push { cls := .type "dict_values", data := .fields #[.ref d] } } := by
    refine wpAny_pyIter_values_raw (d := d) (es := es) (ep := ep) ⟨_, Heap.get?_push_size _ rfl, rfl, rfl⟩ ⟨o, Heap.get?_push_of_some _ hgd, hx, hdt⟩ (pi_one (tk := s1.toks) I2 _ (turn_valsT _ hdt) ⟨_, Heap.get?_push_size _ rfl, rfl, ?_⟩ q)
    rw [hsz] <;> rfl
  show wpAny _ _ (callWith cpos (.builtin "dict.values") [.ref d] [] []) _ X.xe s1
  exact method_meetsIn PySem.F.slot_dict_values PySem.F.entry_dict_values rfl (PySem.evalArgs_none ⟨rfl, hm.typeIs, PySem.F.args_dict_values_1 _, _, meets_dict_values_raw d hs, ⟨es, ep, hm⟩, fin⟩)
end
end K24

namespace K24
open PySem PySem.Spec PySem.W PyProof.Rows L2
/-! ### sorted(a dict of tuple keys) -/
def rSortKT {β : Type} (enc : β → PyData) (K : PySem.W.Frag) : List V → Hp → VK → Prop := fun vs H Q => ∃ (a : Addr) (kvs : List (List L2.Key × V)) (bs : List β) (Pr : V → β → Prop), vs = [V.ref a] ∧ Rd H a (.dT kvs) ∧
  (∀ ks : List Addr, Paired (fun q (kv : List L2.Key × V) => H q = some (.tup (kv.1.map kV))) ks kvs → DpAll K H (ks.map V.ref) (bs.map enc) ∧ Paired Pr (ks.map V.ref) bs) ∧
  AllAlike (bs.map enc) ∧ Sortable (bs.map enc) ∧ bs.length ≤ 100000 ∧ (∀ b ∈ bs, (enc b).depth ≤ 60) ∧ ∀ (ys : List V) (p : Addr), Paired Pr ys (bs.mergeSort (dataLe false enc)) → H p = none → Q (.ref p) (L2.upd H p (.lst ys))
theorem vals_refs : ∀ {ks : List Addr}, Vals (ks.map V.ref) (ks.map Value.ref)
  | [] => .nil
  | _ :: _ => .cons rfl vals_refs
theorem keys_pk {H : Hp} : ∀ {kvs : List (List L2.Key × V)} {xs : List (List L2.Key × Addr × Value)}, Paired (fun (p : List L2.Key × V) (q : List L2.Key × Addr × Value) => p.1 = q.1 ∧ H q.2.1 = some (.tup (p.1.map kV)) ∧ RelV p.2 q.2.2) kvs xs →
    Paired (fun q (kv : List L2.Key × V) => H q = some (.tup (kv.1.map kV))) (xs.map (·.2.1)) kvs
  | _, _, .nil => .nil
  | _, _, .cons h t => .cons h.2.1 (keys_pk t)
theorem cr_sortKT {β : Type} {X : Cx} {enc : β → PyData} (hc : X.calm = true) (hu : X.A.units + 64 < cLine) : CallR X (.builtin "sorted") (rSortKT enc X.K) := by
  intro pins s σ H vs us Q I r h
  obtain ⟨a, kvs, bs, Pr, rfl, hd, hk, al, so, len, dep, q⟩ := h
  rw [Vals.ref1 r]
  obtain ⟨z, lo, xs, pr, o, es, ep, ho, hx, hdt, he, nd⟩ : ObjOk X.prog X.w H s.heap a (.dT kvs) := hd.ok I.hok
  have lx : kvs.length = xs.length := Paired.length pr
  have les : es.size = xs.length := size_of_entries he
  have pk := keys_pk pr
  obtain ⟨hdp, hpr⟩ := hk _ pk
  have hm : s.heap.DictRaw a es ep := ⟨o, ho, hx, hdt⟩
  refine Calls.call_function_entry PyProof.Rows.kind_sorted PyProof.Rows.plain_sorted PyProof.Rows.entry_sorted (PyProof.Rows.args_sorted1 _) ?_
  unfold Builtin.«sorted»
  refine wpAny_bind (m := checkCount "sorted" 1 1 _) (wpAny_pure ?_)
  refine wpAny_bind (PySem.W.kdu_collect (A := X.A.in1) (KdlSrc.rawDict (es := es) (ep := ep) lo) (I.ok.hd hc) hm (by omega) fun h' tk acc hkp hacc => ?_)
  have hal : acc.toList.length = xs.length := by rw [Array.length_toList, hacc.1, les]
  have eacc : acc.toList = (xs.map (·.2.1)).map Value.ref := by
    refine List.ext_getElem? fun j => ?_
    cases e : acc.toList[j]? with
    | none =>
      have := List.getElem?_eq_none_iff.mp e
      rw [hal] at this
      rw [List.getElem?_eq_none (by rw [List.length_map, List.length_map]; exact this)]
    | some v =>
      obtain ⟨hi, ev⟩ := hacc.2 j v (by rw [← Array.getElem?_toList]; exact e)
      have en := entry_at he j
      rw [Array.getElem?_eq_getElem hi] at en
      have hj : j < xs.length := by omega
      rw [List.getElem?_eq_getElem hj] at en
      have en := Option.some.inj en
      rw [List.getElem?_map, List.getElem?_map, List.getElem?_eq_getElem hj, ev, en]
      rfl
  have I1 : Inv X pins σ H { s with heap := h', toks := tk } := I.kept hkp
  refine wpAny_bind (wpAny_newList ?_ (by rw [hal]; omega))
  rw [eacc]
  have hoL : (h'.push (seqObj "list" ((xs.map (·.2.1)).map Value.ref).toArray 0)).get? h'.objs.size = some (seqObj "list" ((xs.map (·.2.1)).map Value.ref).toArray 0) := Heap.get?_push_size _ rfl
  show wpAny _ _ _ _ _ { s with heap := h'.push (seqObj "list" ((xs.map (·.2.1)).map Value.ref).toArray 0), toks := tk }
  have I2 : Inv X pins σ H { s with heap := h'.push (seqObj "list" ((xs.map (·.2.1)).map Value.ref).toArray 0), toks := tk } := I1.kept (t' := tk) fun b o' e => Heap.get?_push_of_some _ e
  have rvs : Vals ((xs.map (·.2.1)).map V.ref) ((xs.map (·.2.1)).map Value.ref) := vals_refs
  obtain ⟨as, hr⟩ := Dp.readsAll I1 _ _ _ hdp rvs
  generalize hvl : (xs.map (·.2.1)).map Value.ref = vl at hoL I2 rvs hr
  have er0 := readsAll_each enc hr
  have er' : EachIs (fun v b => ∃ as, Reads (sortingHeap (h'.push (seqObj "list" vl.toArray 0)) h'.objs.size vl) v (enc b) as) vl bs := er0.mono fun v b ⟨as, rd⟩ => ⟨as, PyProof.Rows.Reads.keeps (fun b o e => sortingHeap_old (Nat.ne_of_lt (Heap.lt_size e)) (Heap.get?_push_of_some _ e)) rd⟩
  have e2 := each_of2 rvs hpr
  have vln : vl.length = bs.length := e2.length
  refine wpAny_bind (wpAny_holding (wpAny_call_entry PyProof.Rows.slot_list_sort ⟨_, hoL, rfl⟩ PyProof.Rows.entry_list_sort
    (list_sort_vals (κ := dataKind (sortingHeap (h'.push (seqObj "list" vl.toArray 0)) h'.objs.size vl) (bs.map enc)) (s := { s with heap := h'.push (seqObj "list" vl.toArray 0), toks := tk }) hoL
      (SortsAt.data (s := { s with heap := sortingHeap (h'.push (seqObj "list" vl.toArray 0)) h'.objs.size vl, toks := tk }) (each_map (R := fun v d => ∃ as, Reads (sortingHeap (h'.push (seqObj "list" vl.toArray 0)) h'.objs.size vl) v d as) enc er') al so (bound_map fun b hb => by have := dep b hb; show X.A.units + 1 + 1 + _ < _; omega)) (by rw [vln, sizeLine_eq]; omega) ⟨.none, rfl, ?_⟩) (PyProof.Rows.args_list_sort _)))
  have hsv := sortVals_data false e2 er' al
  obtain ⟨ys, h1, h2⟩ := each_back hsv
  obtain ⟨e', he'⟩ := PyProof.Rows.sortedHeap_at (vs := vl) (out := (sortVals (dataKind (sortingHeap (h'.push (seqObj "list" vl.toArray 0)) h'.objs.size vl) (bs.map enc)) false vl vl).toArray) hoL
  have hlen : ys.length ≤ sizeLine := by
    have := Paired.length h2
    rw [List.length_mergeSort] at this
    rw [this, sizeLine_eq]
    omega
  refine wpAny_pure ⟨_, rfl, .ref h'.objs.size, L2.upd H h'.objs.size (.lst ys), I1.laid (t' := tk) (fun b u e => ?_) (Nat.le_refl _)
    (show ObjOk X.prog X.w _ _ _ (.lst ys) from ⟨hlen, _, e', h1, he'⟩), rfl, q ys _ h2 (I1.hok.fresh (Nat.le_refl _))⟩
  have hb : b < h'.objs.size := Heap.lt_size e
  rw [PyProof.Rows.sortedHeap_old (Nat.ne_of_lt hb) (by rw [size_push']; exact Nat.lt_succ_of_lt hb)]
  exact Heap.get?_push_of_some _ e
end K24

namespace K24
open PySem PySem.Spec PyProof.Rows L2
theorem fl_letters (L : Str) (dd dn ds : Addr) : (flds L dd dn ds).lookup ("letters" : Str) = some (.str L) := by
  unfold flds
  rw [lookup_putF, if_neg (by decide +kernel), lookup_putF, if_neg (by decide +kernel), lookup_putF, if_neg (by decide +kernel), lookup_putF, if_pos rfl]
theorem signs_map (x : Str) : signs x = (letsOf x).map V.str := by
  unfold signs letsOf
  rw [List.map_map]
  rfl
def kvB (ws : WD) : List (L2.Key × V) := ws.map fun p => (.inr p.1, .str p.2)
theorem kvB_none {ws : WD} {t : Str} (h : t ∉ ws.map (·.1)) : valV (kvB ws) (.inr t : L2.Key) = none := by
  induction ws with
  | nil => rfl
  | cons p r ih =>
    have h1 : ¬ t = p.1 := fun e => h (by rw [e]; exact List.mem_cons_self)
    show valV (((.inr p.1 : L2.Key), V.str p.2) :: kvB r) _ = none
    rw [valV_neg (fun e => h1 (Sum.inr.inj e).symm)]
    exact ih fun m => h (List.mem_cons_of_mem _ m)
theorem kvB_at {ws : WD} (nd : (ws.map (·.1)).Nodup) {k : Nat} {s wd : Str} (h : ws[k]? = some (s, wd)) : valV (kvB ws) (.inr s : L2.Key) = some (.str wd) := by
  induction ws generalizing k with
  | nil => simp at h
  | cons p r ih =>
    obtain ⟨n1, n2⟩ := List.nodup_cons.mp nd
    show valV (((.inr p.1 : L2.Key), V.str p.2) :: kvB r) _ = _
    cases k with
    | zero =>
      have e : p = (s, wd) := by simpa using h
      subst e
      exact valV_pos rfl
    | succ k =>
      have h' : r[k]? = some (s, wd) := by simpa using h
      have ne : ¬ p.1 = s := fun e => n1 (by show p.1 ∈ _; rw [e]; exact List.mem_map.mpr ⟨(s, wd), List.mem_of_getElem? h', rfl⟩)
      rw [valV_neg (fun e => ne (Sum.inr.inj e))]
      exact ih n2 h'
theorem kvB_some {ws : WD} (nd : (ws.map (·.1)).Nodup) {t : Str} (h : t ∈ ws.map (·.1)) : ∃ v, valV (kvB ws) (.inr t : L2.Key) = some v := by
  obtain ⟨⟨s, wd⟩, hm, rfl⟩ := List.mem_map.mp h
  obtain ⟨k, hk⟩ := List.getElem?_of_mem hm
  exact ⟨_, kvB_at nd hk⟩
theorem for_its {x : Str} {g : TG} {tb : TS} {D : Ends} {σ : L2.St} {H : Hp} (Pv : Nat → L2.St → Hp → Prop) (h0 : Pv 0 σ H)
    (hs : ∀ i c σ H, x.cps[i]? = some c → Pv i σ H → g (.str ⟨#[c]⟩) σ H fun σ2 H2 => tb { D with nx := Pv (i + 1), ct := Pv (i + 1), bk := D.nx } σ2 H2) (hd : ∀ σ H, Pv x.cps.size σ H → D.nx σ H) :
    ∃ W : Nat → Nat → L2.St → Hp → Prop, (∃ m, W 0 m σ H) ∧ ∀ i m σ H, W i m σ H →
      ((Its x).stop i H ∧ D.nx σ H) ∨ ((Its x).go i H ∧ ∃ N : L2.St → Hp → Prop, (∀ σ' H', N σ' H' → ∃ m', m' < m ∧ W (i + 1) m' σ' H') ∧ ∀ v H', (Its x).yld i H v H' → g v σ H' fun σ2 H2 => tb { D with nx := N, ct := N, bk := D.nx } σ2 H2) := by
  refine ⟨fun i m σ H => m = x.cps.size - i ∧ i ≤ x.cps.size ∧ Pv i σ H, ⟨x.cps.size, by simp, Nat.zero_le _, h0⟩, ?_⟩
  rintro i m σ H ⟨rfl, hi, p⟩
  by_cases lt : i < x.cps.size
  · refine .inr ⟨lt, Pv (i + 1), fun σ' H' p' => ⟨x.cps.size - (i + 1), by omega, rfl, lt, p'⟩, fun v H' y => ?_⟩
    obtain ⟨rfl, c, hc, rfl⟩ := y
    exact hs i c σ _ hc p
  · have e : i = x.cps.size := by omega
    subst e
    exact .inl ⟨Nat.le_refl _, hd σ H p⟩
theorem WorkAt.side {K : PySem.W.Frag} {C : Addr} {H : Hp} {p dd dn ds z : Addr} {L : Str} {qs : List Rule} {S : List (Str × Str)} {o u : HO} (w : WorkAt K C H p dd dn ds L qs S) (hz : H z = some o) (wo : Wr o)
    (z1 : z ≠ p) (z2 : z ≠ dd) (z3 : z ≠ dn) (z4 : z ≠ ds) : WorkAt K C (upd H z u) p dd dn ds L qs S := by
  have k : TK K H (upd H z u) := TK.upd hz wo
  obtain ⟨⟨dx, ob⟩, ⟨kvs, hdd, kv⟩, n1, n2, n3, done, started, hdn, hds, dm1, dm2, tr, st⟩ := w
  refine ⟨⟨dx, by rw [upd_ne z1.symm]; exact ob⟩, ⟨kvs, by rw [upd_ne z2.symm]; exact hdd, Paired.mapP kv fun _ _ y => ⟨y.1, ?_⟩⟩, n1, n2, n3, done, started, by rw [upd_ne z3.symm]; exact hdn, by rw [upd_ne z4.symm]; exact hds, dm1, dm2, fun a b v e => (tr a b v e).mono k, st⟩
  obtain ⟨d, e, h⟩ := y.2
  exact ⟨d, e, h.mono k⟩
def spSides (K : PySem.W.Frag) (C : Addr) : Sp := fun vs H Q _ => ∃ (p dd dn ds : Addr) (L : Str) (qs : List Rule) (S : List (Str × Str)) (s : Str), vs = [.ref p, .str s] ∧ WorkAt K C H p dd dn ds L qs S ∧ LetOk L ∧
  ∀ H' l, Same H H' → H l = none → H' l = some (.lst ((sidesB (letsOf L) s).map V.str)) → Q (.ref l) H'
def spStand (K : PySem.W.Frag) (C : Addr) : Sp := fun vs H Q _ => ∃ (p dd dn ds : Addr) (L : Str) (qs : List Rule), vs = [.ref p] ∧ WorkAt K C H p dd dn ds L qs [] ∧ ProgOk L qs ∧
  ∀ H' r i, Sb [dn, ds] H H' → WorkAt K C H' p dd dn ds L qs [] → H r = none → H' r = some (.dK (kvB (rowsB (nx qs) (letsOf L) i))) → (∀ j, j < i → j < (rowsB (nx qs) (letsOf L) j).length) → ¬ i < (rowsB (nx qs) (letsOf L) i).length → Q (.ref r) H'
section
variable {P : Program} {w : World} {K : PySem.W.Frag} {mg : Str → Option Value} {base : Heap}
theorem let_len {L : Str} (ok : LetOk L) : L.length ≤ 8 := by
  have := ok.few
  have e := strLen L
  omega
theorem scSides : FnScope ["self", "standing"] ["self", "standing"] (defScope sSides) := ⟨rfl, rfl, rfl, by decide +kernel, rfl, by decide +kernel, by decide +kernel⟩
theorem ok_sides {f C : Addr} {fd : FuncData} (F : Fun K "right_sides" "PairWork.right_sides" sSides f fd) (T : Txt K mg) (TC : ClsT K C) : FnOk P w K mg base CX0 1 f fd ["self", "standing"] (spSides K C) := by
  refine F.ok scSides (fun vs H Q E h => ?_) (fun cdv A outer s H vs Q E hr h => ?_)
  · obtain ⟨_, _, _, _, _, _, _, _, rfl, _⟩ := h
    rfl
  · obtain ⟨p, dd, dn, ds, L, qs, S, s0, rfl, W, ok, q⟩ := h
    refine ⟨_, pss_one (ps_ret (pe_ifExp (pt_cmpR op_eq (pv 1) pe_str (nomark _)) (pe_callTy (call_list_text rfl) (by rfl) T.list (by decide +kernel) (pa_cons (pe_fld (pv 0) rfl) pa_nil))
      (pe_lst (pa_cons pe_str (pa_starS rfl (pe_fld (pv 0) rfl) pa_nil))))), ?_⟩
    obtain ⟨dx, ob⟩ := W.ob
    have l8 := let_len ok
    refine ⟨_, rfl, rfl, _, rfl, ?_⟩
    by_cases z : s0 = S0
    · rw [decide_eq_true (show V.str s0 = V.str "" from by rw [z])]
      refine iteT ⟨_, rfl, p, C, dx, _, _, rfl, ob, TC.cl, TC.fL, fl_letters L dd dn ds, L, rfl, sz (by omega), fun l hl => ?_⟩
      refine q _ l (same_upd hl) hl ?_
      rw [upd_same, signs_map, sidesB, if_pos z]
    · rw [decide_eq_false (fun e => z (V.str.inj e))]
      refine iteF ⟨_, rfl, p, C, dx, _, _, rfl, ob, TC.cl, TC.fL, fl_letters L dd dn ds, L, rfl, sz (by omega), ?_⟩
      refine ⟨sz (by rw [List.append_nil]; show (signs L).length + 1 ≤ 100000; rw [signs_map, List.length_map, lets_len]; omega), fun l hl => ?_⟩
      refine q _ l (same_upd hl) hl ?_
      rw [upd_same, sidesB, if_neg z, List.append_nil, signs_map]
      rfl
theorem scStand : FnScope ["work", "words", "queue", "at", "standing", "letter", "found"] ["work"] (defScope sStand) := ⟨rfl, rfl, rfl, by decide +kernel, rfl, by decide +kernel, by decide +kernel⟩
theorem ok_stand {f C o : Addr} {fd od : FuncData} (F : Fun K "words_to_standings" "words_to_standings" sStand f fd) (T : Txt K mg) (TC : ClsT K C)
    (O : FnOk P w K mg base CX0 (3 * 25 + 1) o od ["self", "left", "right"] (spOutcome K C 25)) (mO : Meth K C "outcome" o) (bO : Binds K od ["self", "left", "right"] []) :
    FnOk P w K mg base CX0 77 f fd ["work"] (spStand K C) := by
  refine F.ok scStand (fun vs H Q E h => ?_) (fun cdv A outer s H vs Q E hr h => ?_)
  · obtain ⟨_, _, _, _, _, _, rfl, _⟩ := h
    rfl
  · obtain ⟨p, dd, dn, ds, L, qs, rfl, W, ok, q⟩ := h
    have nd := scStand.nd
    have hu := hu_of hr
    have hrO : Room (3 * 25 + 1) _ := hr.mono (by decide)
    refine ⟨_, pss_cons (ps_set (i := 1) nd rfl (.inl rfl) (pe_disp (pps_cons pe_str pe_str pps_nil) (by rfl) (by rfl) (fun z => by cases z) (by decide)))
      (pss_cons (ps_set (i := 2) nd rfl (.inl rfl) (pe_lst (pa_cons pe_str pa_nil)))
      (pss_cons (ps_set (i := 3) nd rfl (.inl rfl) pe_int)
      (pss_cons (ps_while PassesOwn.never (pt_cmpR op_lt (pv 3) (pe_callB call_len_seq (by rfl) T.len PySem.boot_len (pa_cons (pv 2) pa_nil)) (nomark _))
        (pss_cons (ps_set (i := 4) nd rfl (.inl rfl) (pe_ix ix_list (pv 2) (pv 3) (fun _ _ => rfl)))
        (pss_cons (ps_aug (i := 3) nd rfl (.inl rfl) pe_int ip_add)
        (pss_one (ps_for PassesOwn.never rfl (pi_str (pe_fld (pv 0) rfl)) (pg_name (i := 5) nd rfl (.inl rfl))
          (pss_cons (ps_set (i := 6) nd rfl (.inl rfl) (pe_meth (pv 0) TC.cl mO O hrO bO .nil pass0 (pa_cons (pv 4) (pa_cons (pv 5) pa_nil))))
          (pss_one (ps_if (PW.pt (pw_and (pt_cmpR op_notN (pv 6) pe_non (nomark _)) (pw_and1 (pt_cmp (pc_dnotin hu (pe_ix ix_tup (pv 6) pe_int (fun _ _ => rfl)) (pv 1))))))
            (pss_cons (ps_dput hu (pv 1) (pe_ix ix_tup (pv 6) pe_int (fun _ _ => rfl)) (pe_op op_add_str (pe_dget hu (pv 1) (pv 4) (fun _ _ => rfl)) (pv 5)) rfl)
            (pss_one (ps_expr (pe_bm PySem.F.plainAttrs_list PySem.F.slot_list_append PySem.F.type_list_append mt_append (pv 2) (pa_cons (pe_ix ix_tup (pv 6) pe_int (fun _ _ => rfl)) pa_nil))))) pss_nil))))))))
      (pss_one (ps_ret (pv 1)))))), ?_⟩
    have hls : ∀ x ∈ letsOf L, IsLet L x := fun x hx => by
      obtain ⟨c, hc, e⟩ := List.mem_map.mp hx
      exact ⟨c, hc, e.symm⟩
    have good := fun i => good_rows (qs := qs) (ls := letsOf L) ok hls i
    generalize hR : rowsB (nx qs) (letsOf L) = R at q good
    -- words = {'': ''}, queue = ['']
    refine fun r hr0 => ⟨upd_same, [(.inr "", .str "")], rfl, by show 1 ≤ 15; decide, ?_⟩
    have nrd : ∀ {o}, H r = some o → False := fun e => by rw [hr0] at e; cases e
    have s1 : Same H (upd (upd H r (.dK [])) r (.dK (mergeK [] [((.inr "" : L2.Key), V.str "")]))) := fun b o e => by
      have n : b ≠ r := ne_of_none e hr0
      rw [upd_ne n, upd_ne n]
      exact e
    refine ⟨sz (by show 1 ≤ 100000; decide), fun qd hqd => ?_⟩
    have s2 := same_upd (o := .lst [V.str ""]) hqd
    have s12 := s1.trans s2
    have hqd0 : H qd = none := s1.free hqd
    have nrq : r ≠ qd := fun e => by
      rw [← e, upd_same] at hqd
      cases hqd
    have er : (upd (upd (upd H r (.dK [])) r (.dK (mergeK [] [((.inr "" : L2.Key), V.str "")]))) qd (.lst [V.str ""])) r = some (.dK (kvB (R 0))) := by
      rw [upd_ne nrq, upd_same, ← hR]
      rfl
    have eq : (upd (upd (upd H r (.dK [])) r (.dK (mergeK [] [((.inr "" : L2.Key), V.str "")]))) qd (.lst [V.str ""])) qd = some (.lst ((R 0).map fun p => V.str p.1)) := by
      rw [upd_same, ← hR]
      rfl
    obtain ⟨dx0, ob0⟩ := W.ob
    obtain ⟨kvs0, hdd0, _⟩ := W.deeds
    obtain ⟨done0, started0, hdn0, hds0, _⟩ := W.tb
    have fr : ∀ {z : Addr}, H z = none → z ≠ p ∧ z ≠ dd ∧ z ≠ dn ∧ z ≠ ds := fun {z} e => ⟨(ne_of_none ob0 e).symm, (ne_of_none hdd0 e).symm, (ne_of_none hdn0 e).symm, (ne_of_none hds0 e).symm⟩
    obtain ⟨r1, r2, r3', r4⟩ := fr hr0
    obtain ⟨q1, q2, q3, q4⟩ := fr hqd0
    have rn : r ∉ [dn, ds] := fun m => by
      rcases List.mem_cons.mp m with e | m
      · exact r3' e
      · exact r4 (List.mem_singleton.mp m)
    have qn : qd ∉ [dn, ds] := fun m => by
      rcases List.mem_cons.mp m with e | m
      · exact q3 e
      · exact q4 (List.mem_singleton.mp m)
    have W0 := W.same s12
    generalize (upd (upd (upd H r (.dK [])) r (.dK (mergeK [] [((.inr "" : L2.Key), V.str "")]))) qd (.lst [V.str ""])) = H0 at s12 er eq W0
    refine ⟨fun m σ H' => ∃ (i : Nat) (x4 x5 x6 : Option V), m = 20 - i ∧ σ = [some (.ref p), some (.ref r), some (.ref qd), some (.int i), x4, x5, x6] ∧ Sb [dn, ds] H H' ∧ WorkAt K C H' p dd dn ds L qs [] ∧
      H' r = some (.dK (kvB (R i))) ∧ H' qd = some (.lst ((R i).map fun p => V.str p.1)) ∧ (∀ j, j < i → j < (R j).length) ∧ i ≤ 10, ⟨20, 0, none, none, none, rfl, rfl, Sb.of s12, W0, er, eq, fun j h => absurd h (Nat.not_lt_zero j), by decide⟩, ?_⟩
    rintro m σ H1 ⟨i, x4, x5, x6, rfl, rfl, sb1, W1, er1, eq1, hmin, hi10⟩
    have lR := good_len ok (good i)
    refine ⟨_, rfl, _, rfl, qd, _, rfl, .inl (SqL.of eq1), _, _, rfl, rfl, _, rfl, ?_⟩
    rw [List.length_map]
    by_cases lt : i < (R i).length
    · rw [decide_eq_true (show ((i : Nat) : Int) < ((R i).length : Nat) by omega)]
      refine iteT ?_
      obtain ⟨s0, wd, hswd⟩ : ∃ s0 wd, (R i)[i]? = some (s0, wd) := ⟨_, _, List.getElem?_eq_getElem lt⟩
      refine ⟨fun σ' H' => ∃ (x4 x5 x6 : Option V), σ' = [some (.ref p), some (.ref r), some (.ref qd), some (.int ((i + 1 : Nat))), x4, x5, x6] ∧ Sb [dn, ds] H H' ∧ WorkAt K C H' p dd dn ds L qs [] ∧
        H' r = some (.dK (kvB (R (i + 1)))) ∧ H' qd = some (.lst ((R (i + 1)).map fun p => V.str p.1)), ?_, ?_⟩
      · rintro σ' H' ⟨x4, x5, x6, rfl, sb, Wk, e1, e2⟩
        refine ⟨20 - (i + 1), by omega, i + 1, x4, x5, x6, rfl, rfl, sb, Wk, e1, e2, fun j hj => ?_, by omega⟩
        rcases Nat.lt_succ_iff_lt_or_eq.mp hj with h | h
        · exact hmin j h
        · rw [h]
          exact lt
      · have hq : ((R i).map fun p => V.str p.1)[i]? = some (V.str s0) := by
          rw [List.getElem?_map, hswd]
          rfl
        obtain ⟨dx1, ob1⟩ := W1.ob
        have hi1 : R (i + 1) = turnB (nx qs) (letsOf L) (R i) (s0, wd) := by
          rw [← hR]
          show (match (rowsB (nx qs) (letsOf L) i)[i]? with | none => rowsB (nx qs) (letsOf L) i | some p => turnB (nx qs) (letsOf L) (rowsB (nx qs) (letsOf L) i) p) = _
          rw [hR, hswd]
        obtain ⟨sideS, _⟩ := (good i).each i s0 wd hswd
        have wl := ((good i).each i s0 wd hswd).2.2.1
        refine ⟨_, rfl, _, rfl, qd, _, (i : Nat), .str s0, rfl, rfl, SqL.of eq1, atI_nat hq, _, rfl, _, _, rfl, rfl, _, rfl, p, C, dx1, _, _, rfl, ob1, TC.cl, TC.fL, fl_letters L dd dn ds, L, rfl,
          for_its (x := L) (fun k σ' H' => ∃ (x5 x6 : Option V), σ' = [some (.ref p), some (.ref r), some (.ref qd), some (.int ((i + 1 : Nat))), some (.str s0), x5, x6] ∧ Sb [dn, ds] H H' ∧ WorkAt K C H' p dd dn ds L qs [] ∧
            H' r = some (.dK (kvB (((letsOf L).take k).foldl (stepB (nx qs) s0 wd) (R i)))) ∧ H' qd = some (.lst ((((letsOf L).take k).foldl (stepB (nx qs) s0 wd) (R i)).map fun p => V.str p.1)))
          ⟨x5, x6, rfl, sb1, W1, er1, eq1⟩ ?_ ?_⟩
        · rintro k c σ2 H2 hc ⟨y5, y6, rfl, sb2, W2, er2, eq2⟩
          have hcl : (letsOf L)[k]? = some (sg c) := by
            unfold letsOf
            rw [List.getElem?_map, Array.getElem?_toList, hc]
            rfl
          have mc : IsLet L (sg c) := hls _ (List.mem_of_getElem? hcl)
          have tk : ((letsOf L).take (k + 1)).foldl (stepB (nx qs) s0 wd) (R i) = stepB (nx qs) s0 wd (((letsOf L).take k).foldl (stepB (nx qs) s0 wd) (R i)) (sg c) := by
            rw [take_snoc hcl, List.foldl_append]
            rfl
          obtain ⟨gk, more, em⟩ := good_fold (i := i) ok ((letsOf L).take k) (good i) hswd fun x hx => hls x (List.mem_of_mem_take hx)
          rw [tk]
          generalize ((letsOf L).take k).foldl (stepB (nx qs) s0 wd) (R i) = ws at er2 eq2 gk em
          have hsw : ws[i]? = some (s0, wd) := by
            rw [em, List.getElem?_append_left lt]
            exact hswd
          have wsl := good_len ok gk
          obtain ⟨dx2, ob2⟩ := W2.ob
          have rem0 : remS qs [] < 25 := by
            have h1 := rem_le (qs := qs) (S := [])
            have h2 := ok.few
            omega
          refine ⟨_, rfl, p, dx2, _, rfl, ob2, fl_no L dd dn ds (by decide +kernel) (by decide +kernel) (by decide +kernel) (by decide +kernel), _, rfl, _, rfl, ?_⟩
          refine ⟨p, dd, dn, ds, L, qs, [], s0, sg c, rfl, W2, ok, sideS, .inr mc, Needs.nil S0 (fOf qs) _ _, rem0, fun H3 v3 sb3 W3 tr3 => ?_⟩
          have er3 : H3 r = some (.dK (kvB ws)) := sb3 _ _ er2 rn
          have eq3 : H3 qd = some (.lst (ws.map fun p => V.str p.1)) := sb3 _ _ eq2 qn
          have sb23 := sb2.trans sb3
          refine ⟨_, rfl, rfl, _, rfl, ?_⟩
          rcases tr3 with ⟨rfl, nev⟩ | ⟨r3, ho3, go3⟩
          · refine iteF (iteF ?_)
            refine ⟨_, _, rfl, sb23, W3, ?_, ?_⟩
            · rw [stepB, nx_never nev]
              exact er3
            · rw [stepB, nx_never nev]
              exact eq3
          · obtain ⟨a3, t3, rfl, hs3⟩ := out_get ho3
            have nxe := nx_goes go3
            refine iteT ⟨_, rfl, a3, _, 2, .str r3.2, rfl, rfl, hs3, rfl, _, rfl, r, _, rfl, DGet.k (k := .inr r3.2) er3, ?_⟩
            have stp : stepB (nx qs) s0 wd ws (sg c) = if r3.2 ∈ ws.map (·.1) then ws else ws ++ [(r3.2, wd ++ sg c)] := by
              rw [stepB, nxe]
            rw [stp]
            by_cases hm : r3.2 ∈ ws.map (·.1)
            · obtain ⟨v0, hv0⟩ := kvB_some gk.nd hm
              rw [hv0, if_pos hm]
              refine ⟨_, rfl, iteF ?_⟩
              exact ⟨_, _, rfl, sb23, W3, er3, eq3⟩
            · rw [kvB_none hm, if_neg hm]
              refine ⟨_, rfl, iteT ?_⟩
              refine ⟨_, rfl, _, rfl, r, .str wd, rfl, ?_, _, rfl, wd, sg c, rfl, rfl, sz (by rw [sg_len]; omega), _, rfl, _, rfl, a3, _, 2, .str r3.2, rfl, rfl, hs3, rfl, r, _, rfl, .inl ⟨kvB ws, .inr r3.2, er3, rfl, szl (by show (ws.map _).length ≤ _; rw [List.length_map]; omega), rfl⟩, ?_⟩
              · rw [← kvB_at gk.nd hsw]
                exact DGet.k (k := .inr s0) er3
              · rw [putK_new _ (kvB_none hm)]
                have tk4 : TK K H3 (upd H3 r (.dK (kvB ws ++ [(.inr r3.2, .str (wd ++ sg c))]))) := TK.upd er3 True.intro
                have W4 := W3.side (u := .dK (kvB ws ++ [(.inr r3.2, .str (wd ++ sg c))])) er3 True.intro r1 r2 r3' r4
                have eq4 : (upd H3 r (.dK (kvB ws ++ [(.inr r3.2, .str (wd ++ sg c))]))) qd = some (.lst (ws.map fun p => V.str p.1)) := by
                  rw [upd_ne nrq.symm]
                  exact eq3
                have er4 : (upd H3 r (.dK (kvB ws ++ [(.inr r3.2, .str (wd ++ sg c))]))) r = some (.dK (kvB (ws ++ [(r3.2, wd ++ sg c)]))) := by
                  rw [upd_same]
                  unfold kvB
                  rw [List.map_append]
                  rfl
                refine ⟨_, rfl, .inl ⟨rfl, _, SqL.of eq4⟩, _, rfl, a3, _, 2, .str r3.2, rfl, rfl, tk4 _ _ hs3, rfl, qd, _, _, rfl, rfl, eq4, szl (by rw [List.length_map]; omega), ?_⟩
                have W5 := W4.side (u := .lst ((ws.map fun p => V.str p.1) ++ [.str r3.2])) eq4 True.intro q1 q2 q3 q4
                refine ⟨_, _, rfl, (sb23.updNew hr0).updNew hqd0, W5, ?_, ?_⟩
                · rw [upd_ne nrq]
                  exact er4
                · rw [upd_same, List.map_append]
                  rfl
        · rintro σ2 H2 ⟨y5, y6, rfl, sb2, W2, er2, eq2⟩
          have e : (letsOf L).take L.cps.size = letsOf L := List.take_of_length_le (by rw [lets_len]; exact Nat.le_refl _)
          rw [e] at er2 eq2
          refine ⟨_, _, _, rfl, sb2, W2, ?_, ?_⟩
          · rw [hi1]
            exact er2
          · rw [hi1]
            exact eq2
    · rw [decide_eq_false (show ¬ ((i : Nat) : Int) < ((R i).length : Nat) by omega)]
      exact iteF ⟨_, rfl, q H1 r i sb1 W1 hr0 er1 hmin lt⟩
end
end K24

namespace K24
open PySem PySem.Spec PyProof.Rows L2
def wD (x : Str) : PyData := .tuple [.int (x.length : Nat), .str x]
def leastV (es : List Str) : V := match es[bestAt (es.map wD)]? with
  | some x => .str x
  | none => .non
theorem wD_alike (es : List Str) : PySem.W.AlikeAll (es.map wD) := by
  refine ⟨fun x hx y hy => ?_, fun x hx e => ?_⟩
  · obtain ⟨a, _, rfl⟩ := List.mem_map.mp hx
    obtain ⟨b, _, rfl⟩ := List.mem_map.mp hy
    rfl
  · obtain ⟨a, _, rfl⟩ := List.mem_map.mp hx
    cases e
theorem wD_depth : ∀ es : List Str, PyData.depthAll (es.map wD) ≤ 3
  | [] => by simp [PyData.depthAll]
  | x :: es => by
    have ih := wD_depth es
    have h : PyData.depth (wD x) ≤ 2 := by simp [wD, PyData.depth, PyData.depthAll]
    rw [List.map_cons]
    simp only [PyData.depthAll]
    omega
/-- lengths and words, as tuples -/
def LenWs (K : PySem.W.Frag) (H : Hp) : List V → List Str → Prop := Paired fun v x => ∃ a, v = .ref a ∧ SqT K H a [.int (x.length : Nat), .str x]
theorem LenWs.dp {K : PySem.W.Frag} {H : Hp} : ∀ {vs : List V} {es : List Str}, LenWs K H vs es → DpAll K H vs (es.map wD)
  | _, _, .nil => .nil
  | _, _, .cons h t => by
    obtain ⟨a, rfl, h⟩ := h
    exact .cons (.tup h (.cons (.int _) (.cons (.str _) .nil))) (LenWs.dp t)
theorem LenWs.mono {K : PySem.W.Frag} {H H' : Hp} {vs : List V} {es : List Str} (k : TK K H H') (h : LenWs K H vs es) : LenWs K H' vs es := Paired.mapP h fun _ _ z => by
  obtain ⟨a, e, z⟩ := z
  exact ⟨a, e, k _ _ z⟩
theorem least_at {K : PySem.W.Frag} {H : Hp} {vs : List V} {es : List Str} {y : V} (h : LenWs K H vs es) (hy : vs[bestAt (es.map wD)]? = some y) : ∃ a x, y = .ref a ∧ SqT K H a [.int (x.length : Nat), .str x] ∧ leastV es = .str x := by
  obtain ⟨x, hx, a, e, hs⟩ := Paired.at1 h hy
  refine ⟨a, x, e, hs, ?_⟩
  unfold leastV
  rw [hx]
/-- where the rows come to rest -/
def StopB (T : Str → Str → Option Str) (ls : List Str) (i : Nat) : Prop := (∀ j, j < i → j < (rowsB T ls j).length) ∧ ¬ i < (rowsB T ls i).length
theorem StopB.one {T : Str → Str → Option Str} {ls : List Str} {i j : Nat} (h : StopB T ls i) (h' : StopB T ls j) : i = j := by
  rcases Nat.lt_trichotomy i j with l | e | l
  · exact absurd (h'.1 i l) h.2
  · exact e
  · exact absurd (h.1 j l) h'.2
theorem ends_app (T : Str → Str → Option Str) (ls : List Str) (a b : WD) : endsB T ls (a ++ b) = endsB T ls a ++ endsB T ls b := by
  unfold endsB
  rw [List.flatMap_append]
theorem sides_len (ls : List Str) (s : Str) : (sidesB ls s).length ≤ ls.length + 1 := by
  unfold sidesB
  split
  · exact Nat.le_succ _
  · exact Nat.le_refl _
theorem ends_len (T : Str → Str → Option Str) (ls : List Str) : ∀ ws : WD, (endsB T ls ws).length ≤ ws.length * (ls.length + 1)
  | [] => Nat.zero_le _
  | p :: ws => by
    have ih := ends_len T ls ws
    have h : (endsB T ls [p]).length ≤ ls.length + 1 := by
      unfold endsB
      rw [List.flatMap_cons, List.flatMap_nil, List.append_nil, List.length_map]
      exact Nat.le_trans (List.length_filter_le _ _) (sides_len ls p.1)
    have e : endsB T ls (p :: ws) = endsB T ls [p] ++ endsB T ls ws := ends_app T ls [p] ws
    rw [e, List.length_append, List.length_cons, Nat.succ_mul]
    omega
theorem TK.updF {K : PySem.W.Frag} {H : Hp} {p : Addr} {u : HO} {od : Obj} {kvs : List (L2.Key × V)} (h : H p = some (.frz od (.dK kvs))) : TK K H (L2.upd H p u) := by
  intro a xs q
  rcases q with (q | ⟨o', q⟩) | q
  · have n : a ≠ p := fun z => by
      subst z
      rw [h] at q
      cases q
    exact .inl (.inl (by rw [upd_ne n]; exact q))
  · have n : a ≠ p := fun z => by
      subst z
      rw [h] at q
      cases q
    exact .inl (.inr ⟨o', by rw [upd_ne n]; exact q⟩)
  · exact .inr q
theorem WorkAt.side2 {K : PySem.W.Frag} {C : Addr} {H : Hp} {p dd dn ds z : Addr} {L : Str} {qs : List Rule} {S : List (Str × Str)} {u : HO} (w : WorkAt K C H p dd dn ds L qs S) (k : TK K H (upd H z u))
    (z1 : z ≠ p) (z2 : z ≠ dd) (z3 : z ≠ dn) (z4 : z ≠ ds) : WorkAt K C (upd H z u) p dd dn ds L qs S := by
  obtain ⟨⟨dx, ob⟩, ⟨kvs, hdd, kv⟩, n1, n2, n3, done, started, hdn, hds, dm1, dm2, tr, st⟩ := w
  refine ⟨⟨dx, by rw [upd_ne z1.symm]; exact ob⟩, ⟨kvs, by rw [upd_ne z2.symm]; exact hdd, Paired.mapP kv fun _ _ y => ⟨y.1, ?_⟩⟩, n1, n2, n3, done, started, by rw [upd_ne z3.symm]; exact hdn, by rw [upd_ne z4.symm]; exact hds, dm1, dm2, fun a b v e => (tr a b v e).mono k, st⟩
  obtain ⟨d, e, h⟩ := y.2
  exact ⟨d, e, h.mono k⟩
end K24

namespace K24
open PySem PySem.Spec PyProof.Rows L2
theorem BoxW.side2 {K : PySem.W.Frag} {H : Hp} {p r d o z : Addr} {L : Str} {qs : List Rule} {S : List (Str × Str)} {u : HO} (w : BoxW K H p r d o L qs S) (k : TK K H (upd H z u)) (z1 : z ≠ p) (z2 : z ≠ r) (z3 : z ≠ d) (z4 : z ≠ o) : BoxW K (upd H z u) p r d o L qs S := by
  obtain ⟨h1, h2, h3, ⟨done, h4, h5, h6⟩, h7, h8, h9⟩ := w
  exact ⟨by unfold BoxAt; rw [upd_ne z1.symm]; exact h1, h2.mono k fun o' e => by rw [upd_ne z2.symm]; exact e, h3, ⟨done, by rw [upd_ne z3.symm]; exact h4, h5, fun a b v e => (h6 a b v e).mono k⟩, h7.mono k fun u' e => by rw [upd_ne z4.symm]; exact e, h8, h9⟩
theorem seq0 {n : Nat} (h : 0 < n) : seqIndex? 0 n = some 0 := by
  unfold seqIndex?
  have e : (decide ((0 : Int) ≤ 0) && decide ((0 : Int) < (n : Nat))) = true := by
    rw [decide_eq_true (show (0 : Int) ≤ 0 by decide), decide_eq_true (show (0 : Int) < (n : Nat) by omega)]
    rfl
  simp [h]
theorem dpStrs {K : PySem.W.Frag} {H : Hp} : ∀ xs : List Str, DpAll K H (xs.map V.str) (xs.map PyData.str)
  | [] => .nil
  | x :: xs => .cons (.str x) (dpStrs xs)
theorem layStrs : ∀ {xs : List Str}, (∀ x ∈ xs, Sm x) → PyData.canLayAll0 (xs.map PyData.str) = true
  | [], _ => rfl
  | x :: xs, h => by
    have h1 := (h x List.mem_cons_self).ok
    rw [List.map_cons]
    simp only [PyData.canLayAll0, PyData.canLay0]
    rw [h1, layStrs fun y hy => h y (List.mem_cons_of_mem _ hy)]
    rfl
theorem depStrs : ∀ xs : List Str, PyData.depthAll (xs.map PyData.str) ≤ 1
  | [] => by simp [PyData.depthAll]
  | x :: xs => by
    have ih := depStrs xs
    rw [List.map_cons]
    simp only [PyData.depthAll, PyData.depth]
    omega
theorem shStrs {xs : List Str} (h : ∀ x ∈ xs, Sm x) : SeqAt.shaped (.list (xs.map PyData.str)) = true := by
  have l := layStrs h
  have d := depStrs xs
  have d2 : PyData.depth (.list (xs.map PyData.str)) ≤ 64 := by
    simp only [PyData.depth]
    omega
  show (PyData.canLay0 (.list (xs.map PyData.str)) && decide (PyData.depth (.list (xs.map PyData.str)) ≤ 64)) = true
  rw [decide_eq_true d2, Bool.and_true]
  simp only [PyData.canLay0]
  exact l
theorem for_keys {dk : Addr} {od : Obj} {kvs : List (L2.Key × V)} {g : TG} {tb : TS} {D : Ends} {σ : L2.St} {H : Hp} (Pv : Nat → L2.St → Hp → Prop) (h0 : Pv 0 σ H) (hl : ∀ i σ H, Pv i σ H → H dk = some (.frz od (.dK kvs)))
    (hs : ∀ i k v σ H, kvs[i]? = some (k, v) → Pv i σ H → g (kV k) σ H fun σ2 H2 => tb { D with nx := Pv (i + 1), ct := Pv (i + 1), bk := D.nx } σ2 H2) (hd : ∀ σ H, Pv kvs.length σ H → D.nx σ H) :
    ∃ W : Nat → Nat → L2.St → Hp → Prop, (∃ m, W 0 m σ H) ∧ ∀ i m σ H, W i m σ H →
      ((Itk dk od kvs).stop i H ∧ D.nx σ H) ∨ ((Itk dk od kvs).go i H ∧ ∃ N : L2.St → Hp → Prop, (∀ σ' H', N σ' H' → ∃ m', m' < m ∧ W (i + 1) m' σ' H') ∧ ∀ v H', (Itk dk od kvs).yld i H v H' → g v σ H' fun σ2 H2 => tb { D with nx := N, ct := N, bk := D.nx } σ2 H2) := by
  refine ⟨fun i m σ H => m = kvs.length - i ∧ i ≤ kvs.length ∧ Pv i σ H, ⟨kvs.length, by simp, Nat.zero_le _, h0⟩, ?_⟩
  rintro i m σ H ⟨rfl, hi, p⟩
  have e := hl i σ H p
  by_cases lt : i < kvs.length
  · refine .inr ⟨⟨e, lt⟩, Pv (i + 1), fun σ' H' p' => ⟨kvs.length - (i + 1), by omega, rfl, lt, p'⟩, fun v H' y => ?_⟩
    obtain ⟨rfl, k, u, hk, rfl⟩ := y
    exact hs i k u σ _ hk p
  · have e2 : i = kvs.length := by omega
    subst e2
    exact .inl ⟨⟨e, Nat.le_refl _⟩, hd σ H p⟩
/-- the sides, with the pair of no sign told apart -/
theorem sides_filt (T : Str → Str → Option Str) {ls : List Str} (hn : S0 ∉ ls) (s : Str) : (S0 :: ls).filter (fun x => (!decide ((s, x) = (S0, S0))) && (T s x).isNone) = (sidesB ls s).filter fun x => (T s x).isNone := by
  unfold sidesB
  by_cases z : s = S0
  · rw [if_pos z, List.filter_cons_of_neg (by rw [z]; simp)]
    refine List.filter_congr fun x hx => ?_
    have : ¬ (s, x) = (S0, S0) := fun e => hn (by have h2 : x = S0 := (Prod.ext_iff.mp e).2; rw [← h2]; exact hx)
    rw [decide_eq_false this]
    rfl
  · rw [if_neg z]
    refine List.filter_congr fun x hx => ?_
    have : ¬ (s, x) = (S0, S0) := fun e => z (Prod.ext_iff.mp e).1
    rw [decide_eq_false this]
    rfl
theorem LenWs.len {K : PySem.W.Frag} {H : Hp} {vs : List V} {es : List Str} (h : LenWs K H vs es) : vs.length = es.length := Paired.length h
theorem wD_lay : ∀ {es : List Str}, (∀ x ∈ es, PyData.strOk x = true) → PyData.canLayAll0 (es.map wD) = true
  | [], _ => rfl
  | x :: xs, h => by
    have h1 := h x List.mem_cons_self
    rw [List.map_cons]
    simp only [PyData.canLayAll0, wD, PyData.canLay0]
    rw [h1, wD_lay fun y hy => h y (List.mem_cons_of_mem _ hy)]
    rfl
theorem word_strOk {L x : Str} (ok : LetOk L) (h : WordOk L x) : PyData.strOk x = true := by
  unfold PyData.strOk
  rw [← Array.all_toList]
  refine List.all_eq_true.mpr fun c hc => decide_eq_true ?_
  have := (ok.low c (h c hc)).2
  omega
theorem sh_wD {L : Str} (ok : LetOk L) {es : List Str} (h : ∀ x ∈ es, WordOk L x) : SeqAt.shaped (.list (es.map wD)) = true := by
  have l := wD_lay (es := es) fun x hx => word_strOk ok (h x hx)
  have d := wD_depth es
  have d2 : PyData.depth (.list (es.map wD)) ≤ 64 := by
    simp only [PyData.depth]
    omega
  show (PyData.canLay0 (.list (es.map wD)) && decide (PyData.depth (.list (es.map wD)) ≤ 64)) = true
  rw [decide_eq_true d2, Bool.and_true]
  simp only [PyData.canLay0]
  exact l
theorem s0_lets (L : Str) : S0 ∉ letsOf L := by
  intro m
  obtain ⟨c, _, e⟩ := List.mem_map.mp m
  have := congrArg (fun x : Str => x.cps.size) e
  cases this
def spLeads (K : PySem.W.Frag) : Sp := fun vs H Q _ => ∃ (v : V) (p r d o : Addr) (L : Str) (qs : List Rule), vs = [v, .ref p] ∧ ProgAt K H v L qs ∧ BoxW K H p r d o L qs [] ∧ ProgOk L qs ∧
  ∀ H' f i, Sb [d, o] H H' → BoxW K H' p r d o L qs [] → H f = none → H' f = some (.dK (kvB (rowsB (nx qs) (letsOf L) i))) → StopB (nx qs) (letsOf L) i → Q (.ref f) H'
def spEndless (K : PySem.W.Frag) : Sp := fun vs H Q _ => ∃ (v : V) (p r d o : Addr) (L : Str) (qs : List Rule), vs = [v, .ref p] ∧ ProgAt K H v L qs ∧ BoxW K H p r d o L qs [] ∧ ProgOk L qs ∧
  ∀ H' i, Sb [d, o] H H' → BoxW K H' p r d o L qs [] → StopB (nx qs) (letsOf L) i → Q (leastV (endsB (nx qs) (letsOf L) (rowsB (nx qs) (letsOf L) i))) H'
section
variable {P : Program} {w : World} {K : PySem.W.Frag} {mg : Str → Option Value} {base : Heap}
theorem scLeads : FnScope ["_law_pairs_here", "_law_box_here", "_law_found", "_law_line", "_law_here", "_law_letter", "_law_there"] ["_law_pairs_here", "_law_box_here"] (defScope sLeads) := ⟨rfl, rfl, rfl, by decide +kernel, rfl, by decide +kernel, by decide +kernel⟩
theorem ok_leads {f c : Addr} {fd cd : FuncData} (F : Fun K "_law_leads" "_law_leads" sLeads f fd) (T : Txt K mg)
    (C : FnOk P w K mg base CX0 (3 * 25 + 1) c cd ["_law_box_here", "_law_left", "_law_right_here"] (spCome K 25)) (kC : PySem.W.keepIn K (.ref c) = true) (mC : mg "_law_come" = some (.ref c)) (bC : Binds K cd ["_law_box_here", "_law_left", "_law_right_here"] []) :
    FnOk P w K mg base CX0 77 f fd ["_law_pairs_here", "_law_box_here"] (spLeads K) := by
  refine F.ok scLeads (fun vs H Q E h => ?_) (fun cdv A outer s H vs Q E hr h => ?_)
  · obtain ⟨_, _, _, _, _, _, _, rfl, _⟩ := h
    rfl
  · obtain ⟨v, p, r, d, o, L, qs, rfl, hP, W, ok, q⟩ := h
    have nd := scLeads.nd
    have hu := hu_of hr
    have hrC : Room (3 * 25 + 1) _ := hr.mono (by decide)
    refine ⟨_, pss_cons (ps_par (i := 2) (j := 3) rfl nd rfl rfl (by decide) rfl rfl (pa_cons (pe_disp (pps_cons pe_str pe_str pps_nil) (by rfl) (by rfl) (fun z => by cases z) (by decide)) (pa_cons (pe_lst (pa_cons pe_str pa_nil)) pa_nil)) (by rfl))
      (pss_cons (ps_while PassesOwn.never (pt_cmpR (op_neD (hu64 hr)) (pv 3) (pe_lst pa_nil) (nomark _))
        (pss_cons (ps_set (i := 4) nd rfl (.inl rfl) (pe_bm PySem.F.plainAttrs_list PySem.F.slot_list_pop PySem.F.type_list_pop mt_popAt (pv 3) (pa_cons pe_int pa_nil)))
        (pss_one (ps_for PassesOwn.never rfl (pi_str (pe_ix ix_tup (pv 0) pe_int (fun _ _ => rfl))) (pg_name (i := 5) nd rfl (.inl rfl))
          (pss_cons (ps_set (i := 6) nd rfl (.inl rfl) (pe_call C hrC rfl mC kC bC .nil pass0 (pa_cons (pv 1) (pa_cons (pv 4) (pa_cons (pv 5) pa_nil)))))
          (pss_one (ps_if (PW.pt (pw_and (pt_cmpR op_notN (pv 6) pe_non (nomark _)) (pw_and1 (pt_cmp (pc_dnotin hu (pe_ix ix_tup (pv 6) pe_int (fun _ _ => rfl)) (pv 2))))))
            (pss_cons (ps_dput hu (pv 2) (pe_ix ix_tup (pv 6) pe_int (fun _ _ => rfl)) (pe_op op_add_str (pe_dget hu (pv 2) (pv 4) (fun _ _ => rfl)) (pv 5)) rfl)
            (pss_one (ps_expr (pe_bm PySem.F.plainAttrs_list PySem.F.slot_list_append PySem.F.type_list_append mt_append (pv 3) (pa_cons (pe_ix ix_tup (pv 6) pe_int (fun _ _ => rfl)) pa_nil))))) pss_nil)))))))
      (pss_one (ps_ret (pv 2)))), ?_⟩
    have hls : ∀ x ∈ letsOf L, IsLet L x := fun x hx => by
      obtain ⟨c, hc, e⟩ := List.mem_map.mp hx
      exact ⟨c, hc, e.symm⟩
    have good := fun i => good_rows (qs := qs) (ls := letsOf L) ok hls i
    unfold StopB at q
    generalize hR : rowsB (nx qs) (letsOf L) = R at q good
    refine fun fd0 hf0 => ⟨upd_same, [(.inr "", .str "")], rfl, by show 1 ≤ 15; decide, ?_⟩
    have s1 : Same H (upd (upd H fd0 (.dK [])) fd0 (.dK (mergeK [] [((.inr "" : L2.Key), V.str "")]))) := fun b o e => by
      have n : b ≠ fd0 := ne_of_none e hf0
      rw [upd_ne n, upd_ne n]
      exact e
    refine ⟨sz (by show 1 ≤ 100000; decide), fun ln hln => ?_⟩
    have s2 := same_upd (o := .lst [V.str ""]) hln
    have s12 := s1.trans s2
    have hln0 : H ln = none := s1.free hln
    have nfl : fd0 ≠ ln := fun e => by
      rw [← e, upd_same] at hln
      cases hln
    have ef : (upd (upd (upd H fd0 (.dK [])) fd0 (.dK (mergeK [] [((.inr "" : L2.Key), V.str "")]))) ln (.lst [V.str ""])) fd0 = some (.dK (kvB (R 0))) := by
      rw [upd_ne nfl, upd_same, ← hR]
      rfl
    have el : (upd (upd (upd H fd0 (.dK [])) fd0 (.dK (mergeK [] [((.inr "" : L2.Key), V.str "")]))) ln (.lst [V.str ""])) ln = some (.lst (((((R 0).drop 0).map (·.1)) : List Str).map V.str)) := by
      rw [upd_same, ← hR]
      rfl
    refine ⟨_, _, rfl, ?_⟩
    obtain ⟨hB0, ⟨kvs0, hr0, _⟩, _, ⟨done0, hd0, _⟩, ⟨ps0, ho0, _⟩, _, _⟩ := id W
    have fr : ∀ {z : Addr}, H z = none → z ≠ p ∧ z ≠ r ∧ z ≠ d ∧ z ≠ o := fun {z} e => ⟨(ne_of_none hB0 e).symm, (ne_of_none hr0 e).symm, (ne_of_none hd0 e).symm, (ne_of_none ho0 e).symm⟩
    obtain ⟨f1, f2, f3, f4⟩ := fr hf0
    obtain ⟨l1, l2, l3, l4⟩ := fr hln0
    have fn : fd0 ∉ [d, o] := fun m => by
      rcases List.mem_cons.mp m with e | m
      · exact f3 e
      · exact f4 (List.mem_singleton.mp m)
    have lnn : ln ∉ [d, o] := fun m => by
      rcases List.mem_cons.mp m with e | m
      · exact l3 e
      · exact l4 (List.mem_singleton.mp m)
    have W0 := W.same s12
    generalize (upd (upd (upd H fd0 (.dK [])) fd0 (.dK (mergeK [] [((.inr "" : L2.Key), V.str "")]))) ln (.lst [V.str ""])) = H0 at s12 ef el W0
    refine ⟨fun m σ H' => ∃ (i : Nat) (x4 x5 x6 : Option V), m = 20 - i ∧ σ = [some v, some (.ref p), some (.ref fd0), some (.ref ln), x4, x5, x6] ∧ Sb [d, o] H H' ∧ BoxW K H' p r d o L qs [] ∧
      H' fd0 = some (.dK (kvB (R i))) ∧ H' ln = some (.lst ((((R i).drop i).map (·.1)).map V.str)) ∧ (∀ j, j < i → j < (R j).length) ∧ i ≤ 10, ⟨20, 0, none, none, none, rfl, rfl, Sb.of s12, W0, ef, el, fun j h => absurd h (Nat.not_lt_zero j), by decide⟩, ?_⟩
    rintro m σ H1 ⟨i, x4, x5, x6, rfl, rfl, sb1, W1, ef1, el1, hmin, hi10⟩
    have lR := good_len ok (good i)
    have smR : ∀ x ∈ ((R i).drop i).map (·.1), Sm x := fun x hx => by
      obtain ⟨⟨a, b⟩, hm, rfl⟩ := List.mem_map.mp hx
      obtain ⟨k, hk⟩ := List.getElem?_of_mem (List.mem_of_mem_drop hm)
      exact ((good i).each k a b hk).1.sm ok.lets
    refine ⟨_, rfl, sz (by show 0 ≤ 100000; decide), fun e0 he0 => ?_⟩
    have se := same_upd (o := .lst []) he0
    refine ⟨.list ((((R i).drop i).map (·.1)).map PyData.str), .list [], .lst (SqL.of (se _ _ el1)) (dpStrs _), .lst (SqL.of upd_same) .nil, shStrs smR, by decide +kernel, ?_⟩
    have sbE := sb1.trans (Sb.of se)
    have WE := W1.same se
    have efE := se _ _ ef1
    have elE := se _ _ el1
    generalize (upd H1 e0 (.lst [])) = H2 at sbE WE efE elE
    by_cases lt : i < (R i).length
    · obtain ⟨s0, wd, hswd⟩ : ∃ s0 wd, (R i)[i]? = some (s0, wd) := ⟨_, _, List.getElem?_eq_getElem lt⟩
      have dr : (R i).drop i = (s0, wd) :: (R i).drop (i + 1) := by
        obtain ⟨h1, h2⟩ := List.getElem?_eq_some_iff.mp hswd
        rw [List.drop_eq_getElem_cons h1, h2]
      rw [dr] at elE ⊢
      have ne : (!PyData.eqv (.list (List.map PyData.str (List.map (·.1) ((s0, wd) :: (R i).drop (i + 1))))) (.list [])) = true := rfl
      refine ⟨true, by rw [ne], iteT ?_⟩
      refine ⟨fun σ' H' => ∃ (x4 x5 x6 : Option V), σ' = [some v, some (.ref p), some (.ref fd0), some (.ref ln), x4, x5, x6] ∧ Sb [d, o] H H' ∧ BoxW K H' p r d o L qs [] ∧
        H' fd0 = some (.dK (kvB (R (i + 1)))) ∧ H' ln = some (.lst ((((R (i + 1)).drop (i + 1)).map (·.1)).map V.str)), ?_, ?_⟩
      · rintro σ' H' ⟨x4, x5, x6, rfl, sb, Wk, e1, e2⟩
        refine ⟨20 - (i + 1), by omega, i + 1, x4, x5, x6, rfl, rfl, sb, Wk, e1, e2, fun j hj => ?_, by omega⟩
        rcases Nat.lt_succ_iff_lt_or_eq.mp hj with h | h
        · exact hmin j h
        · rw [h]
          exact lt
      have hi1 : R (i + 1) = turnB (nx qs) (letsOf L) (R i) (s0, wd) := by
        rw [← hR]
        show (match (rowsB (nx qs) (letsOf L) i)[i]? with | none => rowsB (nx qs) (letsOf L) i | some p => turnB (nx qs) (letsOf L) (rowsB (nx qs) (letsOf L) i) p) = _
        rw [hR, hswd]
      obtain ⟨sideS, _⟩ := (good i).each i s0 wd hswd
      have wl := ((good i).each i s0 wd hswd).2.2.1
      -- line.pop(0)
      refine ⟨_, rfl, .inl ⟨rfl, _, SqL.of elE⟩, ln, _, 0, 0, .str s0, rfl, rfl, elE, by decide, by decide, seq0 (Nat.succ_pos _), rfl, ?_⟩
      have tkP : TK K H2 (upd H2 ln (.lst ((((R i).drop (i + 1)).map (·.1)).map V.str))) := TK.upd elE True.intro
      have WP := WE.side2 tkP l1 l2 l3 l4
      have sbP : Sb [d, o] H (upd H2 ln (.lst ((((R i).drop (i + 1)).map (·.1)).map V.str))) := sbE.updNew hln0
      have efP : (upd H2 ln (.lst ((((R i).drop (i + 1)).map (·.1)).map V.str))) fd0 = some (.dK (kvB (R i))) := by
        rw [upd_ne nfl]
        exact efE
      have elP : (upd H2 ln (.lst ((((R i).drop (i + 1)).map (·.1)).map V.str))) ln = some (.lst ((((R i).drop (i + 1)).map (·.1)).map V.str)) := upd_same
      rw [show ((List.map V.str (List.map (·.1) ((s0, wd) :: (R i).drop (i + 1)))).eraseIdx 0) = (((R i).drop (i + 1)).map (·.1)).map V.str from rfl]
      generalize (upd H2 ln (.lst ((((R i).drop (i + 1)).map (·.1)).map V.str))) = H3 at WP sbP efP elP
      obtain ⟨pa, pb, rfl, hpa, hpb⟩ := id hP
      refine ⟨_, rfl, pa, _, 0, .str L, rfl, rfl, W.tk sbP _ _ hpa, rfl, L, rfl,
        for_its (x := L) (fun k σ' H' => ∃ (x5 x6 : Option V), σ' = [some (.ref pa), some (.ref p), some (.ref fd0), some (.ref ln), some (.str s0), x5, x6] ∧ Sb [d, o] H H' ∧ BoxW K H' p r d o L qs [] ∧
          H' fd0 = some (.dK (kvB (((letsOf L).take k).foldl (stepB (nx qs) s0 wd) (R i)))) ∧ H' ln = some (.lst ((((((letsOf L).take k).foldl (stepB (nx qs) s0 wd) (R i)).drop (i + 1)).map (·.1)).map V.str)))
        ⟨x5, x6, rfl, sbP, WP, efP, elP⟩ ?_ ?_⟩
      · rintro k c σ2 H4 hc ⟨y5, y6, rfl, sb4, W4, ef4, el4⟩
        have hcl : (letsOf L)[k]? = some (sg c) := by
          unfold letsOf
          rw [List.getElem?_map, Array.getElem?_toList, hc]
          rfl
        have mc : IsLet L (sg c) := hls _ (List.mem_of_getElem? hcl)
        have tk : ((letsOf L).take (k + 1)).foldl (stepB (nx qs) s0 wd) (R i) = stepB (nx qs) s0 wd (((letsOf L).take k).foldl (stepB (nx qs) s0 wd) (R i)) (sg c) := by
          rw [take_snoc hcl, List.foldl_append]
          rfl
        obtain ⟨gk, more, em⟩ := good_fold (i := i) ok ((letsOf L).take k) (good i) hswd fun x hx => hls x (List.mem_of_mem_take hx)
        rw [tk]
        generalize ((letsOf L).take k).foldl (stepB (nx qs) s0 wd) (R i) = ws at ef4 el4 gk em
        have hsw : ws[i]? = some (s0, wd) := by
          rw [em, List.getElem?_append_left lt]
          exact hswd
        have il : i < ws.length := (List.getElem?_eq_some_iff.mp hsw).1
        have wsl := good_len ok gk
        have rem0 : remS qs [] < 25 := by
          have h1 := rem_le (qs := qs) (S := [])
          have h2 := ok.few
          omega
        refine ⟨_, rfl, _, rfl, _, rfl, ?_⟩
        refine ⟨p, r, d, o, L, qs, [], s0, sg c, rfl, W4, ok, sideS, .inr mc, Needs.nil S0 (fOf qs) _ _, rem0, by decide, fun H5 v5 sb5 W5 tr5 => ?_⟩
        have ef5 : H5 fd0 = some (.dK (kvB ws)) := sb5 _ _ ef4 fn
        have el5 : H5 ln = some (.lst (((ws.drop (i + 1)).map (·.1)).map V.str)) := sb5 _ _ el4 lnn
        have sb45 := sb4.trans sb5
        refine ⟨_, rfl, rfl, _, rfl, ?_⟩
        rcases tr5 with ⟨rfl, nev⟩ | ⟨r5, go5, a5, b5, xs5, rfl, hs5, ht5, lx5⟩
        · refine iteF (iteF ?_)
          refine ⟨_, _, rfl, sb45, W5, ?_, ?_⟩
          · rw [stepB, nx_never nev]
            exact ef5
          · rw [stepB, nx_never nev]
            exact el5
        · have nxe := nx_goes go5
          refine iteT ⟨_, rfl, a5, _, 1, .str r5.2, rfl, rfl, hs5, rfl, _, rfl, fd0, _, rfl, DGet.k (k := .inr r5.2) ef5, ?_⟩
          have stp : stepB (nx qs) s0 wd ws (sg c) = if r5.2 ∈ ws.map (·.1) then ws else ws ++ [(r5.2, wd ++ sg c)] := by
            rw [stepB, nxe]
          rw [stp]
          by_cases hm : r5.2 ∈ ws.map (·.1)
          · obtain ⟨v0, hv0⟩ := kvB_some gk.nd hm
            rw [hv0, if_pos hm]
            refine ⟨_, rfl, iteF ?_⟩
            exact ⟨_, _, rfl, sb45, W5, ef5, el5⟩
          · rw [kvB_none hm, if_neg hm]
            refine ⟨_, rfl, iteT ?_⟩
            refine ⟨_, rfl, _, rfl, fd0, .str wd, rfl, ?_, _, rfl, wd, sg c, rfl, rfl, sz (by rw [sg_len]; omega), _, rfl, _, rfl, a5, _, 1, .str r5.2, rfl, rfl, hs5, rfl, fd0, _, rfl, .inl ⟨kvB ws, .inr r5.2, ef5, rfl, szl (by show (ws.map _).length ≤ _; rw [List.length_map]; omega), rfl⟩, ?_⟩
            · rw [← kvB_at gk.nd hsw]
              exact DGet.k (k := .inr s0) ef5
            · rw [putK_new _ (kvB_none hm)]
              have tk6 : TK K H5 (upd H5 fd0 (.dK (kvB ws ++ [(.inr r5.2, .str (wd ++ sg c))]))) := TK.upd ef5 True.intro
              have W6 := W5.side2 tk6 f1 f2 f3 f4
              have el6 : (upd H5 fd0 (.dK (kvB ws ++ [(.inr r5.2, .str (wd ++ sg c))]))) ln = some (.lst (((ws.drop (i + 1)).map (·.1)).map V.str)) := by
                rw [upd_ne nfl.symm]
                exact el5
              have ef6 : (upd H5 fd0 (.dK (kvB ws ++ [(.inr r5.2, .str (wd ++ sg c))]))) fd0 = some (.dK (kvB (ws ++ [(r5.2, wd ++ sg c)]))) := by
                rw [upd_same]
                unfold kvB
                rw [List.map_append]
                rfl
              refine ⟨_, rfl, .inl ⟨rfl, _, SqL.of el6⟩, _, rfl, a5, _, 1, .str r5.2, rfl, rfl, tk6 _ _ hs5, rfl, ln, _, _, rfl, rfl, el6, szl (by rw [List.length_map, List.length_map, List.length_drop]; omega), ?_⟩
              have W7 := W6.side2 (u := .lst (((ws.drop (i + 1)).map (·.1)).map V.str ++ [.str r5.2])) (TK.upd el6 True.intro) l1 l2 l3 l4
              refine ⟨_, _, rfl, (sb45.updNew hf0).updNew hln0, W7, ?_, ?_⟩
              · rw [upd_ne nfl]
                exact ef6
              · rw [upd_same, List.drop_append_of_le_length (by omega), List.map_append, List.map_append]
                rfl
      · rintro σ2 H4 ⟨y5, y6, rfl, sb4, W4, ef4, el4⟩
        have e : (letsOf L).take L.cps.size = letsOf L := List.take_of_length_le (by rw [lets_len]; exact Nat.le_refl _)
        rw [e] at ef4 el4
        refine ⟨_, _, _, rfl, sb4, W4, ?_, ?_⟩
        · rw [hi1]
          exact ef4
        · rw [hi1]
          exact el4
    · have dn : (R i).drop i = [] := List.drop_eq_nil_of_le (by omega)
      rw [dn] at elE ⊢
      have ne : (!PyData.eqv (.list (List.map PyData.str (List.map (·.1) ([] : WD)))) (.list [])) = false := rfl
      refine ⟨false, by rw [ne], iteF ?_⟩
      exact ⟨_, rfl, q H2 fd0 i sbE WE hf0 efE ⟨hmin, lt⟩⟩
theorem scEndless : FnScope ["_law_pairs_here", "_law_box_here", "_law_words", "_law_found", "_law_standing", "_law_side"] ["_law_pairs_here", "_law_box_here"] (defScope sEndless) := ⟨rfl, rfl, rfl, by decide +kernel, rfl, by decide +kernel, by decide +kernel⟩
theorem ok_endless {f c g : Addr} {fd cd gd : FuncData} (F : Fun K "_law_endless" "_law_endless" sEndless f fd) (T : Txt K mg) (zMin : mg "min" = none)
    (C : FnOk P w K mg base CX0 (3 * 25 + 1) c cd ["_law_box_here", "_law_left", "_law_right_here"] (spCome K 25)) (kC : PySem.W.keepIn K (.ref c) = true) (mC : mg "_law_come" = some (.ref c)) (bC : Binds K cd ["_law_box_here", "_law_left", "_law_right_here"] [])
    (G : FnOk P w K mg base CX0 77 g gd ["_law_pairs_here", "_law_box_here"] (spLeads K)) (kG : PySem.W.keepIn K (.ref g) = true) (mG : mg "_law_leads" = some (.ref g)) (bG : Binds K gd ["_law_pairs_here", "_law_box_here"] []) :
    FnOk P w K mg base CX0 78 f fd ["_law_pairs_here", "_law_box_here"] (spEndless K) := by
  refine F.ok scEndless (fun vs H Q E h => ?_) (fun cdv A outer s H vs Q E hr h => ?_)
  · obtain ⟨_, _, _, _, _, _, _, rfl, _⟩ := h
    rfl
  · obtain ⟨v, p, r, d, o, L, qs, rfl, hP, W, ok, q⟩ := h
    have nd := scEndless.nd
    have hu := hu_of hr
    have hrC : Room (3 * 25 + 1) _ := hr.mono (by decide)
    refine ⟨_, pss_cons (ps_par (i := 2) (j := 3) rfl nd rfl rfl (by decide) rfl rfl (pa_cons (pe_call G hr rfl mG kG bG .nil pass0 (pa_cons (pv 0) (pa_cons (pv 1) pa_nil))) (pa_cons (pe_lst pa_nil) pa_nil)) (by rfl))
      (pss_cons (ps_lock (ps_for PassesOwn.never rfl (pi_keys (pv 2)) (pg_name (i := 4) nd rfl (.inl rfl))
        (pss_one (ps_for PassesOwn.never rfl (pi_list (pe_op op_cat (pe_lst (pa_cons pe_str pa_nil)) (pe_callTy (call_list_text rfl) (by rfl) T.list (by decide +kernel) (pa_cons (pe_ix ix_tup (pv 0) pe_int (fun _ _ => rfl)) pa_nil)))) (pg_name (i := 5) nd rfl (.inl rfl))
          (pss_one (ps_if (PW.pt (pw_and (pt_cmpR (op_neD (hu64 hr)) (pe_tup (pa_cons (pv 4) (pa_cons (pv 5) pa_nil))) (pe_tup (pa_cons pe_str (pa_cons pe_str pa_nil))) (nomark _))
              (pw_and1 (pt_cmpR op_isN (pe_call C hrC rfl mC kC bC .nil pass0 (pa_cons (pv 1) (pa_cons (pv 4) (pa_cons (pv 5) pa_nil)))) pe_non (nomark _)))))
            (pss_one (ps_expr (pe_bm PySem.F.plainAttrs_list PySem.F.slot_list_append PySem.F.type_list_append mt_append (pv 3) (pa_cons (pe_tup (pa_cons
                (pe_callB call_len_str (by rfl) T.len PySem.boot_len (pa_cons (pe_op op_add_str (pe_dget hu (pv 2) (pv 4) (fun _ _ => rfl)) (pv 5)) pa_nil))
                (pa_cons (pe_op op_add_str (pe_dget hu (pv 2) (pv 4) (fun _ _ => rfl)) (pv 5)) pa_nil))) pa_nil)))) pss_nil))))))
      (pss_one (ps_ret (pe_ifExp (pt_cmpR (op_neD (hu64 hr)) (pv 3) (pe_lst pa_nil) (nomark _)) (pe_ix ix_tup (pe_callB (cr_minD rfl (hu64 hr)) (by rfl) zMin (by decide +kernel) (pa_cons (pv 3) pa_nil)) pe_int (fun _ _ => rfl)) pe_non)))), ?_⟩
    have hls : ∀ x ∈ letsOf L, IsLet L x := fun x hx => by
      obtain ⟨c, hc, e⟩ := List.mem_map.mp hx
      exact ⟨c, hc, e.symm⟩
    have l8 := let_len ok.lets
    have ll := lets_len L
    refine ⟨_, rfl, _, rfl, v, p, r, d, o, L, qs, rfl, hP, W, ok, fun H1 wf n sb1 W1 hf0 ef1 hS => ?_⟩
    have q := fun H' s W => q H' n s W hS
    have g := good_rows (qs := qs) (ls := letsOf L) ok hls n
    clear hS
    generalize hws : rowsB (nx qs) (letsOf L) n = ws at ef1 q g
    have wsl := good_len ok g
    refine ⟨sz (by show 0 ≤ 100000; decide), fun fl hfl => ⟨_, _, rfl, ?_⟩⟩
    have s2 := same_upd (o := .lst []) hfl
    have sb2 := sb1.trans (Sb.of s2)
    have W2 := W1.same s2
    have ef2 := s2 _ _ ef1
    have nff : wf ≠ fl := ne_of_none ef1 hfl
    obtain ⟨hB0, ⟨kvs0, hr0, _⟩, _, ⟨done0, hd0, _⟩, ⟨ps0, ho0, _⟩, _, _⟩ := id W
    obtain ⟨hB1, ⟨kvs1, hr1, _⟩, _, ⟨done1, hd1, _⟩, ⟨ps1, ho1, _⟩, _, _⟩ := id W1
    obtain ⟨f1, f2, f3, f4⟩ : wf ≠ p ∧ wf ≠ r ∧ wf ≠ d ∧ wf ≠ o := ⟨(ne_of_none hB0 hf0).symm, (ne_of_none hr0 hf0).symm, (ne_of_none hd0 hf0).symm, (ne_of_none ho0 hf0).symm⟩
    obtain ⟨l1, l2, l3, l4⟩ : fl ≠ p ∧ fl ≠ r ∧ fl ≠ d ∧ fl ≠ o := ⟨(ne_of_none hB1 hfl).symm, (ne_of_none hr1 hfl).symm, (ne_of_none hd1 hfl).symm, (ne_of_none ho1 hfl).symm⟩
    have fn : wf ∉ [d, o] := fun m => by
      rcases List.mem_cons.mp m with e | m
      · exact f3 e
      · exact f4 (List.mem_singleton.mp m)
    have lnn : fl ∉ [d, o] := fun m => by
      rcases List.mem_cons.mp m with e | m
      · exact l3 e
      · exact l4 (List.mem_singleton.mp m)
    have hfl0 : H fl = none := sb1.free lnn hfl
    have efl2 : (upd H1 fl (.lst [])) fl = some (.lst []) := upd_same
    generalize (upd H1 fl (.lst [])) = H2 at sb2 W2 ef2 efl2
    refine ⟨wf, _, ef2, True.intro, fun od => ?_⟩
    have tk3 : TK K H2 (upd H2 wf (.frz od (.dK (kvB ws)))) := TK.upd ef2 True.intro
    have W3 := W2.side2 tk3 f1 f2 f3 f4
    have sb3 : Sb [d, o] H (upd H2 wf (.frz od (.dK (kvB ws)))) := sb2.updNew hf0
    have ef3 : (upd H2 wf (.frz od (.dK (kvB ws)))) wf = some (.frz od (.dK (kvB ws))) := upd_same
    have efl3 : (upd H2 wf (.frz od (.dK (kvB ws)))) fl = some (.lst []) := by
      rw [upd_ne nff.symm]
      exact efl2
    generalize (upd H2 wf (.frz od (.dK (kvB ws)))) = H3 at W3 sb3 ef3 efl3
    clear tk3 W2 sb2 ef2 efl2
    have el : ∀ k, (endsB (nx qs) (letsOf L) (ws.take k)).length ≤ 100 := fun k => by
      have h1 := ends_len (nx qs) (letsOf L) (ws.take k)
      have h2 : (ws.take k).length ≤ 9 := by
        rw [List.length_take]
        omega
      have h3 : (ws.take k).length * ((letsOf L).length + 1) ≤ 9 * 9 := Nat.mul_le_mul h2 (by omega)
      omega
    refine ⟨_, rfl, wf, od, rfl, .inl ⟨kvB ws, ef3, for_keys (dk := wf) (od := od) (kvs := kvB ws) (fun k σ H' => ∃ (x4 x5 : Option V) (ts : List V), σ = [some v, some (.ref p), some (.ref wf), some (.ref fl), x4, x5] ∧ Sb [d, o] H H' ∧ BoxW K H' p r d o L qs [] ∧
        H' wf = some (.frz od (.dK (kvB ws))) ∧ H' fl = some (.lst ts) ∧ LenWs K H' ts (endsB (nx qs) (letsOf L) (ws.take k)))
      ⟨none, none, [], rfl, sb3, W3, ef3, efl3, .nil⟩ (fun i σ H' ⟨_, _, _, _, _, _, z, _⟩ => z) ?_ ?_⟩⟩
    · rintro k ky vy σ H4 hky ⟨x4, x5, ts, rfl, sb4, W4, ef4, efl4, lw4⟩
      obtain ⟨s5, wd, hswd⟩ : ∃ s5 wd, ws[k]? = some (s5, wd) := by
        have lt := (List.getElem?_eq_some_iff.mp hky).1
        unfold kvB at lt
        rw [List.length_map] at lt
        exact ⟨_, _, List.getElem?_eq_getElem lt⟩
      have eky : ky = .inr s5 := by
        unfold kvB at hky
        rw [List.getElem?_map, hswd] at hky
        have := Option.some.inj hky
        exact (Prod.ext_iff.mp this).1.symm
      subst eky
      obtain ⟨sideS, _⟩ := g.each k s5 wd hswd
      have wl := (g.each k s5 wd hswd).2.2.1
      obtain ⟨pa, pb, rfl, hpa, hpb⟩ := id hP
      refine ⟨sz (by show 1 ≤ 100000; decide), fun a1 g1 => ?_⟩
      have u1 := same_upd (o := .lst [V.str ""]) g1
      refine ⟨_, rfl, pa, _, 0, .str L, rfl, rfl, TK.same u1 _ _ (W.tk sb4 _ _ hpa), rfl, L, rfl, sz (by omega), fun a2 g2 => ?_⟩
      have u2 := same_upd (o := .lst (signs L)) g2
      refine ⟨a1, a2, _, _, rfl, rfl, u2 _ _ upd_same, upd_same, sz (by rw [signs_map, List.length_map, ll]; show 1 + L.length ≤ 100000; omega), fun a3 g3 => ?_⟩
      have u3 := same_upd (o := .lst ([V.str ""] ++ signs L)) g3
      have u13 := (u1.trans u2).trans u3
      have e3 : (upd (upd (upd H4 a1 (.lst [V.str ""])) a2 (.lst (signs L))) a3 (.lst ([V.str ""] ++ signs L))) a3 = some (.lst ((S0 :: letsOf L).map V.str)) := by
        rw [upd_same, signs_map]
        rfl
      have a3n : a3 ∉ [d, o] := fun m => by
        obtain ⟨_, _, _, ⟨_, t1, _⟩, ⟨_, t2, _⟩, _, _⟩ := W4
        have t1 := (u1.trans u2) _ _ t1
        have t2 := (u1.trans u2) _ _ t2
        rcases List.mem_cons.mp m with e | m
        · rw [← e, g3] at t1
          cases t1
        · rw [← List.mem_singleton.mp m, g3] at t2
          cases t2
      have a3f : a3 ≠ fl := (ne_of_none ((u1.trans u2) _ _ efl4) g3).symm
      refine ⟨a3, rfl, ⟨_, SqL.of e3⟩, for_list (K := K) (a := a3) (xs := (S0 :: letsOf L).map V.str) (fun j σ H' => ∃ (x5 : Option V) (ts : List V), σ = [some (.ref pa), some (.ref p), some (.ref wf), some (.ref fl), some (.str s5), x5] ∧ Sb [d, o] H H' ∧ BoxW K H' p r d o L qs [] ∧
          H' wf = some (.frz od (.dK (kvB ws))) ∧ H' a3 = some (.lst ((S0 :: letsOf L).map V.str)) ∧ H' fl = some (.lst ts) ∧
          LenWs K H' ts (endsB (nx qs) (letsOf L) (ws.take k) ++ (((S0 :: letsOf L).take j).filter fun x => (!decide ((s5, x) = (S0, S0))) && (nx qs s5 x).isNone).map fun x => wd ++ x))
        ⟨x5, ts, rfl, sb4.trans (Sb.of u13), W4.same u13, u13 _ _ ef4, e3, u13 _ _ efl4, by
          rw [List.take_zero, List.filter_nil, List.map_nil, List.append_nil]
          exact lw4.mono (TK.same u13)⟩ (fun i σ H' _ ⟨_, _, _, _, _, _, z, _⟩ => SqL.of z) ?_ ?_⟩
      · rintro j z σ H5 hj ⟨x5, ts, rfl, sb5, W5, ef5, ea5, efl5, lw5⟩
        obtain ⟨sd5, hjs, rfl⟩ : ∃ y, (S0 :: letsOf L)[j]? = some y ∧ z = V.str y := by
          rw [List.getElem?_map] at hj
          obtain ⟨y, h1, h2⟩ := Option.map_eq_some_iff.mp hj
          exact ⟨y, h1, h2.symm⟩
        have tkj : (S0 :: letsOf L).take (j + 1) = (S0 :: letsOf L).take j ++ [sd5] := take_snoc hjs
        have side5 : IsSide L sd5 := by
          rcases List.mem_cons.mp (List.mem_of_getElem? hjs) with e | m
          · exact .inl e
          · exact .inr (hls _ m)
        refine ⟨_, rfl, _, rfl, sz (by show 2 ≤ 100000; decide), fun t1 h1 => ⟨sz (by show 2 ≤ 100000; decide), fun t2 h2 => ?_⟩⟩
        have v1 := same_upd (o := .tup [V.str s5, V.str sd5]) h1
        have v2 := same_upd (o := .tup [V.str "", V.str ""]) h2
        have v12 := v1.trans v2
        refine ⟨keyD (s5, sd5), keyD (S0, S0), .tup (SqT.of (v2 _ _ upd_same)) (.cons (.str _) (.cons (.str _) .nil)), .tup (SqT.of upd_same) (.cons (.str _) (.cons (.str _) .nil)), sh_key ⟨sideS.sm ok.lets, side5.sm ok.lets⟩, sh_key ⟨.inl rfl, .inl rfl⟩, _, rfl, ?_⟩
        rw [eqv_keyD]
        have sb6 := sb5.trans (Sb.of v12)
        have W6 := W5.same v12
        have ef6 := v12 _ _ ef5
        have ea6 := v12 _ _ ea5
        have efl6 := v12 _ _ efl5
        have lw6 := lw5.mono (TK.same v12)
        generalize (upd (upd H5 t1 (.tup [V.str s5, V.str sd5])) t2 (.tup [V.str "", V.str ""])) = H6 at sb6 W6 ef6 ea6 efl6 lw6
        by_cases hz : (s5, sd5) = (S0, S0)
        · rw [decide_eq_true hz]
          refine iteF (iteF ⟨_, ts, rfl, sb6, W6, ef6, ea6, efl6, ?_⟩)
          rw [tkj, List.filter_append]
          have : [sd5].filter (fun x => (!decide ((s5, x) = (S0, S0))) && (nx qs s5 x).isNone) = [] := by
            rw [List.filter_cons_of_neg (by rw [decide_eq_true hz]; simp)]
            rfl
          rw [this, List.append_nil]
          exact lw6
        · rw [decide_eq_false hz]
          have rem0 : remS qs [] < 25 := by
            have h1 := rem_le (qs := qs) (S := [])
            have h2 := ok.few
            omega
          refine iteT ⟨_, rfl, _, rfl, _, rfl, p, r, d, o, L, qs, [], s5, sd5, rfl, W6, ok, sideS, side5, Needs.nil S0 (fOf qs) _ _, rem0, by decide, fun H7 v7 sb7 W7 tr7 => ?_⟩
          have ef7 := sb7 _ _ ef6 fn
          have ea7 := sb7 _ _ ea6 a3n
          have efl7 := sb7 _ _ efl6 lnn
          have lw7 := lw6.mono (W6.tk sb7)
          have sb67 := sb6.trans sb7
          refine ⟨rfl, _, rfl, ?_⟩
          rcases tr7 with ⟨rfl, nev⟩ | ⟨r7, go7, a7, b7, xs7, rfl, _⟩
          · have side : (nx qs s5 sd5).isNone = true := by rw [nx_never nev]; rfl
            have fl1 : [sd5].filter (fun x => (!decide ((s5, x) = (S0, S0))) && (nx qs s5 x).isNone) = [sd5] := by
              rw [List.filter_cons_of_pos (by rw [decide_eq_false hz, side]; rfl)]
              rfl
            have tl : ts.length ≤ 200 := by
              rw [lw7.len, List.length_append, List.length_map]
              have h1 := el k
              have h2 := List.length_filter_le (fun x => (!decide ((s5, x) = (S0, S0))) && (nx qs s5 x).isNone) ((S0 :: letsOf L).take j)
              rw [List.length_take, List.length_cons] at h2
              omega
            have gt : DGet H7 wf (kV (.inr s5)) (some (.str wd)) := by
              rw [← kvB_at g.nd hswd]
              exact .inl ⟨kvB ws, .inr s5, .inr ⟨od, ef7⟩, rfl, rfl⟩
            have sl5 := IsSide.len side5
            have al := app_len wd sd5
            have kl := (List.getElem?_eq_some_iff.mp hswd).1
            refine iteT ⟨_, rfl, .inl ⟨rfl, _, SqL.of efl7⟩, _, rfl, _, rfl, wf, .str wd, rfl, gt, _, rfl, wd, sd5, rfl, rfl, sz (by omega), wd ++ sd5, rfl, sz (by omega), _, rfl, _, rfl, wf, .str wd, rfl, gt, _, rfl, wd, sd5, rfl, rfl, sz (by omega), sz (by show 2 ≤ 100000; decide), fun t3 h3 => ?_⟩
            have v3 := same_upd (o := .tup [V.int ((wd ++ sd5).length : Nat), V.str (wd ++ sd5)]) h3
            have efl8 := v3 _ _ efl7
            refine ⟨fl, _, _, rfl, rfl, efl8, szl (by omega), ?_⟩
            have tk9 : TK K _ (upd _ fl (.lst (ts ++ [V.ref t3]))) := TK.upd efl8 True.intro
            refine ⟨_, ts ++ [V.ref t3], rfl, (sb67.trans (Sb.of v3)).updNew hfl0, (W7.same v3).side2 tk9 l1 l2 l3 l4, by rw [upd_ne nff]; exact v3 _ _ ef7, by rw [upd_ne a3f]; exact v3 _ _ ea7, upd_same, ?_⟩
            rw [tkj, List.filter_append, fl1, List.map_append, ← List.append_assoc]
            exact Paired.app (lw7.mono ((TK.same v3).trans tk9)) (.cons ⟨t3, rfl, tk9 _ _ (SqT.of upd_same)⟩ .nil)
          · have side : (nx qs s5 sd5).isNone = false := by rw [nx_goes go7]; rfl
            refine iteF ⟨_, ts, rfl, sb67, W7, ef7, ea7, efl7, ?_⟩
            rw [tkj, List.filter_append]
            have : [sd5].filter (fun x => (!decide ((s5, x) = (S0, S0))) && (nx qs s5 x).isNone) = [] := by
              rw [List.filter_cons_of_neg (by rw [side]; simp)]
              rfl
            rw [this, List.append_nil]
            exact lw7
      · rintro σ H5 ⟨x5, ts, rfl, sb5, W5, ef5, ea5, efl5, lw5⟩
        rw [List.length_map, List.take_length, sides_filt _ (s0_lets L)] at lw5
        refine ⟨_, _, ts, rfl, sb5, W5, ef5, efl5, ?_⟩
        have blk : endsB (nx qs) (letsOf L) (ws.take (k + 1)) = endsB (nx qs) (letsOf L) (ws.take k) ++ ((sidesB (letsOf L) s5).filter fun r => (nx qs s5 r).isNone).map fun r => wd ++ r := by
          rw [take_snoc hswd, ends_app]
          congr 1
          unfold endsB
          rw [List.flatMap_cons, List.flatMap_nil, List.append_nil]
        rw [blk]
        exact lw5
    · rintro σ H4 ⟨x4, x5, ts, rfl, sb4, W4, ef4, efl4, lw4⟩
      have kvl : (kvB ws).length = ws.length := List.length_map ..
      rw [kvl, List.take_length] at lw4
      refine ⟨ef4, ?_⟩
      have tk5 : TK K H4 (upd H4 wf (.dK (kvB ws))) := TK.updF ef4
      have efl5 : (upd H4 wf (.dK (kvB ws))) fl = some (.lst ts) := by
        rw [upd_ne nff.symm]
        exact efl4
      have lw5 := lw4.mono tk5
      have sb5 : Sb [d, o] H (upd H4 wf (.dK (kvB ws))) := sb4.updNew hf0
      have eg := ends_good ok hls g
      have W5 := W4.side2 tk5 f1 f2 f3 f4
      generalize (upd H4 wf (.dK (kvB ws))) = H5 at efl5 lw5 sb5 W5
      generalize endsB (nx qs) (letsOf L) ws = es at q lw5 eg
      refine ⟨_, rfl, sz (by show 0 ≤ 100000; decide), fun e0 he0 => ?_⟩
      have se := same_upd (o := .lst []) he0
      have lw6 := lw5.mono (TK.same se)
      have efl6 := se _ _ efl5
      refine ⟨.list (es.map wD), .list [], .lst (SqL.of efl6) lw6.dp, .lst (SqL.of upd_same) .nil, sh_wD ok.lets fun x hx => (eg x hx).1, by decide +kernel, ?_⟩
      cases es with
      | nil =>
        have ne : (!PyData.eqv (.list (List.map wD [])) (.list [])) = false := rfl
        exact ⟨false, by rw [ne], iteF (q _ (sb5.trans (Sb.of se)) (W5.same se))⟩
      | cons x xs =>
        have ne : (!PyData.eqv (.list (List.map wD (x :: xs))) (.list [])) = true := rfl
        refine ⟨true, by rw [ne], iteT ⟨_, rfl, fl, ts, (x :: xs).map wD, rfl, SqL.of efl6, lw6.dp, wD_alike _, by rw [List.length_map]; exact Nat.succ_pos _, Nat.le_trans (wD_depth _) (by decide), fun y hy => ?_⟩⟩
        obtain ⟨ya, yx, rfl, hya, le⟩ := least_at lw6 hy
        refine ⟨ya, _, 1, .str yx, rfl, rfl, hya, rfl, ?_⟩
        rw [← le]
        exact q _ (sb5.trans (Sb.of se)) (W5.same se)
end
end K24

namespace K24
open PySem PySem.Spec PyProof.Rows L2
/-! ### written programs, reckoned -/
def runAllC (g : Str → Str → Option (Option Str)) : Str → List Str → Option (Option Str)
  | y, [] => some (some y)
  | y, z :: zs => match g y z with
    | none => none
    | some none => some none
    | some (some t) => runAllC g t zs
def runC (f : Str → Str → Option (Deed Str)) : Nat → List (Str × Str) → Str → Str → Option (Option Str)
  | 0, _, _, _ => none
  | n + 1, S, a, b => if (a, b) ∈ S then some none else match f a b with
    | none => some (some b)
    | some (.kern _) => some (some b)
    | some (.put x l r on) => match (rowOf a b x l r).drop on with
      | [] => none
      | y :: ys => runAllC (runC f n ((a, b) :: S)) y ys
def OkC (f : Str → Str → Option (Deed Str)) (a b : Str) : Option (Option Str) → Prop
  | none => True
  | some none => Never S0 f a b
  | some (some t) => ∃ r, Goes S0 f a b r ∧ r.2 = t
theorem runC_ok {f : Str → Str → Option (Deed Str)} : ∀ (n : Nat) (S : List (Str × Str)) (a b : Str), Needs S0 f S a b → OkC f a b (runC f n S a b)
  | 0, _, _, _, _ => True.intro
  | n + 1, S, a, b, h => by
    unfold runC
    by_cases hm : (a, b) ∈ S
    · rw [if_pos hm]
      exact Needs.ring S0 f h hm
    · rw [if_neg hm]
      cases hf : f a b with
      | none => exact ⟨_, Goes.plain S0 f hf, rfl⟩
      | some dd =>
        cases dd with
        | kern k => exact ⟨_, Goes.kern S0 f hf, rfl⟩
        | put x l r on =>
          dsimp only
          cases hd : (rowOf a b x l r).drop on with
          | nil => exact True.intro
          | cons y ys =>
            dsimp only
            have key : ∀ (post pre : List Str) (t : List (Thing Str) × Str), ys = pre ++ post → GoesAll S0 f y pre t → OkC f a b (runAllC (runC f n ((a, b) :: S)) t.2 post) := by
              intro post
              induction post with
              | nil =>
                intro pre t e ga
                rw [List.append_nil] at e
                subst e
                exact ⟨_, Goes.put S0 f hf hd ga, rfl⟩
              | cons z zs ih =>
                intro pre t e ga
                have need := Needs.down S0 f (S := S) h hf (by rw [hd, e]) ga
                have o := runC_ok n ((a, b) :: S) t.2 z need
                unfold runAllC
                cases hz : runC f n ((a, b) :: S) t.2 z with
                | none => exact True.intro
                | some w =>
                  rw [hz] at o
                  cases w with
                  | none =>
                    have nv : NeverAll S0 f y ys := by
                      rw [e]
                      exact NeverAll.of S0 f ga o
                    exact Never.put S0 f hf hd nv
                  | some t2 =>
                    obtain ⟨q, gq, rfl⟩ := o
                    have ga2 := GoesAll.snoc S0 f ga gq
                    exact ih (pre ++ [z]) (t.1 ++ q.1, q.2) (by rw [List.append_assoc]; exact e) ga2
            exact key ys [] ([], y) rfl (GoesAll.nil S0 f y)
/-- the table of a written program -/
def tabC (qs : List Rule) (a b : Str) : Option Str := (runC (fOf qs) 40 [] a b).getD none
def knownC (L : Str) (qs : List Rule) : Bool := (S0 :: letsOf L).all fun a => (S0 :: letsOf L).all fun b => (runC (fOf qs) 40 [] a b).isSome
theorem side_in {L a : Str} (h : IsSide L a) : a ∈ S0 :: letsOf L := by
  rcases h with e | ⟨c, hc, e⟩
  · rw [e]
    exact List.mem_cons_self
  · rw [e]
    exact List.mem_cons_of_mem _ (List.mem_map.mpr ⟨c, hc, rfl⟩)
theorem tab_nx {L : Str} {qs : List Rule} (k : knownC L qs = true) {a b : Str} (ha : IsSide L a) (hb : IsSide L b) : nx qs a b = tabC qs a b := by
  have h := List.all_eq_true.mp (List.all_eq_true.mp k a (side_in ha)) b (side_in hb)
  have o := runC_ok (f := fOf qs) 40 [] a b (Needs.nil S0 (fOf qs) a b)
  unfold tabC
  cases e : runC (fOf qs) 40 [] a b with
  | none =>
    rw [e] at h
    cases h
  | some w =>
    rw [e] at o
    cases w with
    | none => exact nx_never o
    | some t =>
      obtain ⟨r, gr, rfl⟩ := o
      exact nx_goes gr
theorem fold_congr {T T' : Str → Str → Option Str} {s wd : Str} : ∀ (xs : List Str) (ws : WD), (∀ x ∈ xs, T s x = T' s x) → xs.foldl (stepB T s wd) ws = xs.foldl (stepB T' s wd) ws
  | [], _, _ => rfl
  | x :: xs, ws, h => by
    have e : stepB T s wd ws x = stepB T' s wd ws x := by
      unfold stepB
      rw [h x List.mem_cons_self]
    rw [List.foldl_cons, List.foldl_cons, e]
    exact fold_congr xs _ fun y hy => h y (List.mem_cons_of_mem _ hy)
theorem rows_congr {L : Str} {qs : List Rule} (ok : ProgOk L qs) (k : knownC L qs = true) : ∀ i, rowsB (nx qs) (letsOf L) i = rowsB (tabC qs) (letsOf L) i
  | 0 => rfl
  | i + 1 => by
    have hls : ∀ x ∈ letsOf L, IsLet L x := fun x hx => by
      obtain ⟨c, hc, e⟩ := List.mem_map.mp hx
      exact ⟨c, hc, e.symm⟩
    have ih := rows_congr ok k i
    have g := good_rows (qs := qs) (ls := letsOf L) ok hls i
    show (match (rowsB (nx qs) (letsOf L) i)[i]? with | none => rowsB (nx qs) (letsOf L) i | some p => turnB (nx qs) (letsOf L) (rowsB (nx qs) (letsOf L) i) p) =
      (match (rowsB (tabC qs) (letsOf L) i)[i]? with | none => rowsB (tabC qs) (letsOf L) i | some p => turnB (tabC qs) (letsOf L) (rowsB (tabC qs) (letsOf L) i) p)
    rw [← ih]
    cases e : (rowsB (nx qs) (letsOf L) i)[i]? with
    | none => rfl
    | some p =>
      obtain ⟨s, wd⟩ := p
      exact fold_congr _ _ fun x hx => tab_nx k (g.each i s wd e).1 (.inr (hls x hx))
theorem flat_ext {α β : Type} {f g : α → List β} : ∀ xs : List α, (∀ x ∈ xs, f x = g x) → xs.flatMap f = xs.flatMap g
  | [], _ => rfl
  | x :: xs, h => by
    rw [List.flatMap_cons, List.flatMap_cons, h x List.mem_cons_self, flat_ext xs fun y hy => h y (List.mem_cons_of_mem _ hy)]
theorem ends_congr {L : Str} {qs : List Rule} (ok : ProgOk L qs) (k : knownC L qs = true) (i : Nat) : endsB (nx qs) (letsOf L) (rowsB (nx qs) (letsOf L) i) = endsB (tabC qs) (letsOf L) (rowsB (tabC qs) (letsOf L) i) := by
  have hls : ∀ x ∈ letsOf L, IsLet L x := fun x hx => by
    obtain ⟨c, hc, e⟩ := List.mem_map.mp hx
    exact ⟨c, hc, e.symm⟩
  have g := good_rows (qs := qs) (ls := letsOf L) ok hls i
  rw [← rows_congr ok k i]
  unfold endsB
  refine flat_ext _ fun p hp => ?_
  obtain ⟨j, hj⟩ := List.getElem?_of_mem hp
  obtain ⟨s, wd⟩ := p
  have side := (g.each j s wd hj).1
  congr 1
  refine List.filter_congr fun x hx => ?_
  have hx : IsSide L x := by
    have hx : x ∈ sidesB (letsOf L) s := hx
    unfold sidesB at hx
    split at hx
    · exact .inr (hls x hx)
    · rcases List.mem_cons.mp hx with e | m
      · exact .inl e
      · exact .inr (hls x m)
  rw [tab_nx k side hx]
def valC (L : Str) (qs : List Rule) (n : Nat) : V := leastV (endsB (tabC qs) (letsOf L) (rowsB (tabC qs) (letsOf L) n))
def stopC (L : Str) (qs : List Rule) (n : Nat) : Bool := (List.range n).all (fun j => decide (j < (rowsB (tabC qs) (letsOf L) j).length)) && !decide (n < (rowsB (tabC qs) (letsOf L) n).length)
theorem val_known {L : Str} {qs : List Rule} {n : Nat} {v : V} (ok : ProgOk L qs) (k : knownC L qs = true) (st : stopC L qs n = true) (e : valC L qs n = v) {i : Nat} (h : StopB (nx qs) (letsOf L) i) :
    leastV (endsB (nx qs) (letsOf L) (rowsB (nx qs) (letsOf L) i)) = v := by
  obtain ⟨h1, h2⟩ := Bool.and_eq_true_iff.mp st
  have hn : StopB (nx qs) (letsOf L) n := by
    refine ⟨fun j hj => ?_, ?_⟩
    · rw [rows_congr ok k]
      exact of_decide_eq_true (List.all_eq_true.mp h1 j (List.mem_range.mpr hj))
    · rw [rows_congr ok k]
      simpa using h2
  rw [h.one hn, ends_congr ok k]
  exact e
def waitR : Rule := (sg 97, sg 98, .put (sg 97) true true 0)
def never1 : Rule := (S0, sg 97, .put (sg 98) true false 1)
def never2 : Rule := (sg 98, sg 97, .put (sg 98) true false 1)
def farA : List Rule := [(sg 97, sg 97, .put (sg 98) false false 0), (sg 98, sg 97, .put (sg 99) false false 0), (S0, sg 98, .put (sg 97) true false 1), (S0, sg 99, .put (sg 97) true false 1)]
def farB : List Rule := [(sg 99, S0, .put (sg 99) false true 0), (sg 97, sg 98, .put (sg 97) false false 0), (sg 97, sg 99, .put (sg 97) false false 0)]
def ringR : List Rule := [(sg 97, S0, .put (sg 98) false true 0), (sg 98, S0, .put (sg 97) false true 0)]
/-! ### programs judged by a reckoning -/
def letB (L x : Str) : Bool := L.cps.toList.any fun c => decide (x = sg c)
theorem letB_ok {L x : Str} (h : letB L x = true) : IsLet L x := by
  obtain ⟨c, hc, e⟩ := List.any_eq_true.mp h
  exact ⟨c, hc, of_decide_eq_true e⟩
def sideB (L x : Str) : Bool := decide (x = S0) || letB L x
theorem sideB_ok {L x : Str} (h : sideB L x = true) : IsSide L x := by
  rcases Bool.or_eq_true_iff.mp h with e | e
  · exact .inl (of_decide_eq_true e)
  · exact .inr (letB_ok e)
def deedB (L a b : Str) : Deed Str → Bool
  | .kern n => decide (-99 ≤ n) && decide (n ≤ 99)
  | .put x l r on => letB L x && (!decide (a = S0) || l) && (!decide (b = S0) || r) && decide ((on : Int) ≤ b2 l + b2 r)
theorem deedB_ok {L a b : Str} {d : Deed Str} (h : deedB L a b d = true) : DeedOk L a b d := by
  cases d with
  | kern n =>
    obtain ⟨h1, h2⟩ := Bool.and_eq_true_iff.mp h
    exact ⟨of_decide_eq_true h1, of_decide_eq_true h2⟩
  | put x l r on =>
    obtain ⟨h1, h4⟩ := Bool.and_eq_true_iff.mp h
    obtain ⟨h1, h3⟩ := Bool.and_eq_true_iff.mp h1
    obtain ⟨h1, h2⟩ := Bool.and_eq_true_iff.mp h1
    refine ⟨letB_ok h1, fun e => ?_, fun e => ?_, of_decide_eq_true h4⟩
    · rw [decide_eq_true e] at h2
      simpa using h2
    · rw [decide_eq_true e] at h3
      simpa using h3
def ruleB (L : Str) (q : Rule) : Bool := sideB L q.1 && sideB L q.2.1 && !(decide (q.1 = S0) && decide (q.2.1 = S0)) && deedB L q.1 q.2.1 q.2.2
theorem ruleB_ok {L : Str} {q : Rule} (h : ruleB L q = true) : RuleOk L q := by
  obtain ⟨h1, h4⟩ := Bool.and_eq_true_iff.mp h
  obtain ⟨h1, h3⟩ := Bool.and_eq_true_iff.mp h1
  obtain ⟨h1, h2⟩ := Bool.and_eq_true_iff.mp h1
  refine ⟨sideB_ok h1, sideB_ok h2, fun e => ?_, deedB_ok h4⟩
  rw [decide_eq_true e.1, decide_eq_true e.2] at h3
  cases h3
def progB (L : Str) (qs : List Rule) : Bool := decide (L.cps.toList.length ≤ 8) && decide (1 ≤ L.cps.toList.length) && decide (∀ c ∈ L.cps.toList, 97 ≤ c ∧ c ≤ 122) && decide (L.cps.toList.Pairwise (· < ·)) &&
  qs.all (ruleB L) && decide ((qs.map fun q => (q.1, q.2.1)).Nodup) && decide (qs.length ≤ 24)
theorem progB_ok {L : Str} {qs : List Rule} (h : progB L qs = true) : ProgOk L qs := by
  obtain ⟨h, h7⟩ := Bool.and_eq_true_iff.mp h
  obtain ⟨h, h6⟩ := Bool.and_eq_true_iff.mp h
  obtain ⟨h, h5⟩ := Bool.and_eq_true_iff.mp h
  obtain ⟨h, h4⟩ := Bool.and_eq_true_iff.mp h
  obtain ⟨h, h3⟩ := Bool.and_eq_true_iff.mp h
  obtain ⟨h1, h2⟩ := Bool.and_eq_true_iff.mp h
  exact ⟨⟨of_decide_eq_true h1, of_decide_eq_true h2, of_decide_eq_true h3, of_decide_eq_true h4⟩, fun q hq => ruleB_ok (List.all_eq_true.mp h5 q hq), of_decide_eq_true h6, of_decide_eq_true h7⟩
end K24

namespace K24
open PySem PySem.Spec PyProof.Rows L2
/-! ### the pairs that words meet -/
def pairsB (ls : List Str) (ws : WD) : List (Str × Str) := ws.flatMap fun p => (sidesB ls p.1).map fun r => (p.1, r)
theorem pairs_app (ls : List Str) (a b : WD) : pairsB ls (a ++ b) = pairsB ls a ++ pairsB ls b := by
  unfold pairsB
  rw [List.flatMap_append]
theorem pairs_len (ls : List Str) : ∀ ws : WD, (pairsB ls ws).length ≤ ws.length * (ls.length + 1)
  | [] => Nat.zero_le _
  | p :: ws => by
    have ih := pairs_len ls ws
    have h : (pairsB ls [p]).length ≤ ls.length + 1 := by
      unfold pairsB
      rw [List.flatMap_cons, List.flatMap_nil, List.append_nil, List.length_map]
      exact sides_len ls p.1
    have e : pairsB ls (p :: ws) = pairsB ls [p] ++ pairsB ls ws := pairs_app ls [p] ws
    rw [e, List.length_append, List.length_cons, Nat.succ_mul]
    omega
theorem nd_inj {α : Type} {xs : List α} (nd : xs.Nodup) {i j : Nat} {a : α} (h1 : xs[i]? = some a) (h2 : xs[j]? = some a) : i = j := by
  obtain ⟨b1, e1⟩ := List.getElem?_eq_some_iff.mp h1
  obtain ⟨b2, e2⟩ := List.getElem?_eq_some_iff.mp h2
  rcases Nat.lt_trichotomy i j with l | e | l
  · exact absurd (e1.trans e2.symm) (List.pairwise_iff_getElem.mp nd i j b1 b2 l)
  · exact e
  · exact absurd (e2.trans e1.symm) (List.pairwise_iff_getElem.mp nd j i b2 b1 l)
theorem lets_nodup {L : Str} (ok : LetOk L) : (letsOf L).Nodup := by
  unfold letsOf
  refine List.Pairwise.map _ (fun a b h => ?_) (ok.asc.imp fun {a b} h => Nat.ne_of_lt h)
  intro e
  apply h
  have := congrArg (fun x : Str => x.cps.toList) e
  simpa [sg] using this
theorem sides_nodup {L : Str} (ok : LetOk L) (s : Str) : (sidesB (letsOf L) s).Nodup := by
  unfold sidesB
  split
  · exact lets_nodup ok
  · exact List.nodup_cons.mpr ⟨s0_lets L, lets_nodup ok⟩
theorem pairs_mem {ls : List Str} {ws : WD} {a b : Str} (h : (a, b) ∈ pairsB ls ws) : a ∈ ws.map (·.1) ∧ b ∈ sidesB ls a := by
  obtain ⟨p, hp, h2⟩ := List.mem_flatMap.mp h
  obtain ⟨r, hr, e⟩ := List.mem_map.mp h2
  cases e
  exact ⟨List.mem_map.mpr ⟨p, hp, rfl⟩, hr⟩
/-- what the dict of the pairs met tells -/
def MetKv (K : PySem.W.Frag) (H : Hp) (qs : List Rule) : List (List L2.Key × V) → List (Str × Str) → Prop := Paired fun kv sr => kv.1 = kp sr.1 sr.2 ∧ Truth K H qs sr.1 sr.2 kv.2
theorem MetKv.mono {K : PySem.W.Frag} {H H' : Hp} {qs : List Rule} {kvs : List (List L2.Key × V)} {ps : List (Str × Str)} (k : TK K H H') (h : MetKv K H qs kvs ps) : MetKv K H' qs kvs ps := Paired.mapP h fun _ _ z => ⟨z.1, z.2.mono k⟩
theorem MetKv.gone {K : PySem.W.Frag} {H : Hp} {qs : List Rule} : ∀ {kvs : List (List L2.Key × V)} {ps : List (Str × Str)}, MetKv K H qs kvs ps → ∀ {a b : Str}, (a, b) ∉ ps → valV kvs (kp a b) = none
  | _, _, .nil, a, b, _ => rfl
  | _, _, .cons (a := kv) (b := q) h t, a, b, n => by
    have ne : ¬ kv.1 = kp a b := fun e => by
      rw [h.1] at e
      obtain ⟨e1, e2⟩ := kp_inj e
      exact n (by
        have : q = (a, b) := Prod.ext e1 e2
        rw [this]
        exact List.mem_cons_self)
    rw [valV_neg ne]
    exact MetKv.gone t fun m => n (List.mem_cons_of_mem _ m)
def spMeet (K : PySem.W.Frag) : Sp := fun vs H Q _ => ∃ (v : V) (L : Str) (qs : List Rule), vs = [v] ∧ ProgAt K H v L qs ∧ ProgOk L qs ∧
  ∀ H' m i kvs, Same H H' → H m = none → StopB (nx qs) (letsOf L) i → H' m = some (.dT kvs) → MetKv K H' qs kvs (pairsB (letsOf L) (rowsB (nx qs) (letsOf L) i)) → Q (.ref m) H'
section
variable {P : Program} {w : World} {K : PySem.W.Frag} {mg : Str → Option Value} {base : Heap}
theorem scMeet : FnScope ["pairs", "work", "met", "standing", "right"] ["pairs"] (defScope sMeet) := ⟨rfl, rfl, rfl, by decide +kernel, rfl, by decide +kernel, by decide +kernel⟩
theorem ok_meet {f C i o wt sd : Addr} {fd id' od wtd sdd : FuncData} (F : Fun K "pairs_that_words_meet" "pairs_that_words_meet" sMeet f fd) (TC : ClsT K C) (M : Mk K C i) (mC : mg "PairWork" = some (.ref C))
    (I : FnOk P w K mg base CX0 1 i id' ["self", "pairs"] (spPInit K C)) (bI : Binds K id' ["self", "pairs"] [])
    (O : FnOk P w K mg base CX0 (3 * 25 + 1) o od ["self", "left", "right"] (spOutcome K C 25)) (mO : Meth K C "outcome" o) (bO : Binds K od ["self", "left", "right"] [])
    (Wt : FnOk P w K mg base CX0 77 wt wtd ["work"] (spStand K C)) (kW : PySem.W.keepIn K (.ref wt) = true) (mW : mg "words_to_standings" = some (.ref wt)) (bW : Binds K wtd ["work"] [])
    (Sd : FnOk P w K mg base CX0 1 sd sdd ["self", "standing"] (spSides K C)) (mS : Meth K C "right_sides" sd) (bS : Binds K sdd ["self", "standing"] []) :
    FnOk P w K mg base CX0 79 f fd ["pairs"] (spMeet K) := by
  refine F.ok scMeet (fun vs H Q E h => ?_) (fun cdv A outer s H vs Q E hr h => ?_)
  · obtain ⟨_, _, _, rfl, _⟩ := h
    rfl
  · obtain ⟨v, L, qs, rfl, hP, ok, q⟩ := h
    have nd := scMeet.nd
    have hu := hu_of hr
    have hr2 : Room 2 _ := hr.mono (by decide)
    have hr1 : Room 1 _ := hr.mono (by decide)
    have hr77 : Room 77 _ := hr.mono (by decide)
    have hrO : Room (3 * 25 + 1) _ := hr.mono (by decide)
    refine ⟨_, pss_cons (ps_set (i := 1) nd rfl (.inl rfl) (pe_make M I hr2 rfl mC bI .nil pass0 (pa_cons (pv 0) pa_nil)))
      (pss_cons (ps_set (i := 2) nd rfl (.inl rfl) pe_dnewT)
      (pss_cons (ps_for PassesOwn.never rfl (pi_keysK (pe_call Wt hr77 rfl mW kW bW .nil pass0 (pa_cons (pv 1) pa_nil))) (pg_name (i := 3) nd rfl (.inl rfl))
        (pss_one (ps_for PassesOwn.never rfl (pi_list (pe_meth (pv 1) TC.cl mS Sd hr1 bS .nil pass0 (pa_cons (pv 3) pa_nil))) (pg_name (i := 4) nd rfl (.inl rfl))
          (pss_one (ps_dput hu (pv 2) (pe_tup (pa_cons (pv 3) (pa_cons (pv 4) pa_nil))) (pe_meth (pv 1) TC.cl mO O hrO bO .nil pass0 (pa_cons (pv 3) (pa_cons (pv 4) pa_nil))) rfl)))))
      (pss_one (ps_ret (pv 2))))), ?_⟩
    have hls : ∀ x ∈ letsOf L, IsLet L x := fun x hx => by
      obtain ⟨c, hc, e⟩ := List.mem_map.mp hx
      exact ⟨c, hc, e.symm⟩
    have l8 := let_len ok.lets
    have ll := lets_len L
    refine ⟨_, rfl, fun p dx np ndx nex => ?_⟩
    have s0 : Same H (upd (upd H dx (.own p)) p (.ins C dx [])) := fun b o e => by
      rw [upd_ne (ne_of_none e np), upd_ne (ne_of_none e ndx)]
      exact e
    refine ⟨p, dx, v, L, qs, rfl, upd_same, hP.mono (TK.same s0), ok, fun H1 dd dn ds kp1 fn fs W => ⟨rfl, ?_⟩⟩
    have s1 : Same H H1 := fun b o e => kp1 b o (s0 b o e) (ne_of_none e np)
    have fn0 : H dn = none := s0.free fn
    have fs0 : H ds = none := s0.free fs
    have fin : ∀ {H'}, Sb [dn, ds] H1 H' → Same H H' := fun {H'} sb b o e => sb b o (s1 b o e) (by
      intro m
      rcases List.mem_cons.mp m with z | m
      · rw [z, fn0] at e
        cases e
      · rw [List.mem_singleton.mp m, fs0] at e
        cases e)
    -- met = {}
    intro mt hmt
    have sM := same_upd (o := .dT []) hmt
    have W1 := W.same sM
    have hm0 : H1 mt = none := hmt
    have emt1 : (upd H1 mt (.dT [])) mt = some (.dT []) := upd_same
    obtain ⟨dx0, ob0⟩ := W.ob
    obtain ⟨kvs0, hdd0, _⟩ := W.deeds
    obtain ⟨done0, started0, hdn0, hds0, _⟩ := W.tb
    have m1 := (ne_of_none ob0 hmt).symm
    have m2 := (ne_of_none hdd0 hmt).symm
    have m3 := (ne_of_none hdn0 hmt).symm
    have m4 := (ne_of_none hds0 hmt).symm
    have mn : mt ∉ [dn, ds] := fun m => by
      rcases List.mem_cons.mp m with e | m
      · exact m3 e
      · exact m4 (List.mem_singleton.mp m)
    have sbM : Sb [dn, ds] H1 (upd H1 mt (.dT [])) := Sb.of sM
    generalize (upd H1 mt (.dT [])) = HM at W1 emt1 sbM
    refine ⟨_, rfl, p, dd, dn, ds, L, qs, rfl, W1, ok, fun H2 r n sb2 W2 hr0 er2 hmin hstop => ⟨r, kvB (rowsB (nx qs) (letsOf L) n), rfl, er2, fun od => ?_⟩⟩
    have hS : StopB (nx qs) (letsOf L) n := ⟨hmin, hstop⟩
    have g := good_rows (qs := qs) (ls := letsOf L) ok hls n
    have q := fun H' m kvs s h0 => q H' m n kvs s h0 hS
    clear hmin hstop hS
    generalize hws : rowsB (nx qs) (letsOf L) n = ws at er2 q g
    have wsl := good_len ok g
    have emt2 : H2 mt = some (.dT []) := sb2 _ _ emt1 mn
    have nrm : r ≠ mt := fun e => by
      rw [e, emt1] at hr0
      cases hr0
    obtain ⟨dxM, obM⟩ := W1.ob
    obtain ⟨kvsM, hddM, _⟩ := W1.deeds
    obtain ⟨doneM, startedM, hdnM, hdsM, _⟩ := W1.tb
    have r1 := (ne_of_none obM hr0).symm
    have r2 := (ne_of_none hddM hr0).symm
    have r3 := (ne_of_none hdnM hr0).symm
    have r4 := (ne_of_none hdsM hr0).symm
    have rn : r ∉ [dn, ds] := fun m => by
      rcases List.mem_cons.mp m with e | m
      · exact r3 e
      · exact r4 (List.mem_singleton.mp m)
    have hr1' : H1 r = none := sbM.free rn hr0
    have tk3 : TK K H2 (upd H2 r (.frz od (.dK (kvB ws)))) := TK.upd er2 True.intro
    have W3 := W2.side2 tk3 r1 r2 r3 r4
    have sb3 : Sb [dn, ds] H1 (upd H2 r (.frz od (.dK (kvB ws)))) := (sbM.trans sb2).updNew hr1'
    have er3 : (upd H2 r (.frz od (.dK (kvB ws)))) r = some (.frz od (.dK (kvB ws))) := upd_same
    have emt3 : (upd H2 r (.frz od (.dK (kvB ws)))) mt = some (.dT []) := by
      rw [upd_ne nrm.symm]
      exact emt2
    generalize (upd H2 r (.frz od (.dK (kvB ws)))) = H3 at W3 sb3 er3 emt3
    have pl : ∀ k, (pairsB (letsOf L) (ws.take k)).length ≤ 100 := fun k => by
      have h1 := pairs_len (letsOf L) (ws.take k)
      have h2 : (ws.take k).length ≤ 9 := by
        rw [List.length_take]
        omega
      have h3 : (ws.take k).length * ((letsOf L).length + 1) ≤ 9 * 9 := Nat.mul_le_mul h2 (by omega)
      omega
    refine ⟨r, od, rfl, .inl ⟨kvB ws, er3, for_keys (dk := r) (od := od) (kvs := kvB ws) (fun k σ H' => ∃ (x3 x4 : Option V) (kvs : List (List L2.Key × V)), σ = [some v, some (.ref p), some (.ref mt), x3, x4] ∧ Sb [dn, ds] H1 H' ∧ WorkAt K C H' p dd dn ds L qs [] ∧
        H' r = some (.frz od (.dK (kvB ws))) ∧ H' mt = some (.dT kvs) ∧ MetKv K H' qs kvs (pairsB (letsOf L) (ws.take k)))
      ⟨none, none, [], rfl, sb3, W3, er3, emt3, .nil⟩ (fun i σ H' ⟨_, _, _, _, _, _, z, _⟩ => z) ?_ ?_⟩⟩
    · rintro k ky vy σ H4 hky ⟨x3, x4, kvs, rfl, sb4, W4, er4, emt4, mk4⟩
      obtain ⟨s5, wd, hswd⟩ : ∃ s5 wd, ws[k]? = some (s5, wd) := by
        have lt := (List.getElem?_eq_some_iff.mp hky).1
        unfold kvB at lt
        rw [List.length_map] at lt
        exact ⟨_, _, List.getElem?_eq_getElem lt⟩
      have eky : ky = .inr s5 := by
        unfold kvB at hky
        rw [List.getElem?_map, hswd] at hky
        have := Option.some.inj hky
        exact (Prod.ext_iff.mp this).1.symm
      subst eky
      obtain ⟨sideS, _⟩ := g.each k s5 wd hswd
      obtain ⟨dx4, ob4⟩ := W4.ob
      have s5n : s5 ∉ (ws.take k).map (·.1) := fun m => by
        obtain ⟨⟨a, b⟩, hm, e⟩ := List.mem_map.mp m
        obtain ⟨j, hj⟩ := List.getElem?_of_mem hm
        have jl := (List.getElem?_eq_some_iff.mp hj).1
        rw [List.length_take] at jl
        rw [List.getElem?_take_of_lt (by omega)] at hj
        have e1 : (ws.map (·.1))[j]? = some s5 := by
          rw [List.getElem?_map, hj]
          exact congrArg some e
        have e2 : (ws.map (·.1))[k]? = some s5 := by
          rw [List.getElem?_map, hswd]
          rfl
        have := nd_inj g.nd e1 e2
        omega
      refine ⟨_, rfl, p, dx4, _, rfl, ob4, fl_no L dd dn ds (by decide +kernel) (by decide +kernel) (by decide +kernel) (by decide +kernel), _, rfl, p, dd, dn, ds, L, qs, [], s5, rfl, W4, ok.lets, fun H6 l s6 hl el6 => ⟨l, rfl, ⟨_, SqL.of el6⟩, ?_⟩⟩
      have nln : l ∉ [dn, ds] := fun m => by
        obtain ⟨_, _, t1, t2, _⟩ := W4.tb
        rcases List.mem_cons.mp m with e | m
        · rw [← e, hl] at t1
          cases t1
        · rw [← List.mem_singleton.mp m, hl] at t2
          cases t2
      have nlm : l ≠ mt := (ne_of_none emt4 hl).symm
      have blk : pairsB (letsOf L) (ws.take (k + 1)) = pairsB (letsOf L) (ws.take k) ++ (sidesB (letsOf L) s5).map fun r => (s5, r) := by
        rw [take_snoc hswd, pairs_app]
        congr 1
        unfold pairsB
        rw [List.flatMap_cons, List.flatMap_nil, List.append_nil]
      refine for_list (K := K) (a := l) (xs := (sidesB (letsOf L) s5).map V.str) (fun j σ H' => ∃ (x4 : Option V) (kvs : List (List L2.Key × V)), σ = [some v, some (.ref p), some (.ref mt), some (.str s5), x4] ∧ Sb [dn, ds] H1 H' ∧ WorkAt K C H' p dd dn ds L qs [] ∧
          H' r = some (.frz od (.dK (kvB ws))) ∧ H' l = some (.lst ((sidesB (letsOf L) s5).map V.str)) ∧ H' mt = some (.dT kvs) ∧ MetKv K H' qs kvs (pairsB (letsOf L) (ws.take k) ++ ((sidesB (letsOf L) s5).take j).map fun r => (s5, r)))
        ⟨x4, kvs, rfl, sb4.trans (Sb.of s6), W4.same s6, s6 _ _ er4, el6, s6 _ _ emt4, by
          rw [List.take_zero, List.map_nil, List.append_nil]
          exact mk4.mono (TK.same s6)⟩ (fun i σ H' _ ⟨_, _, _, _, _, _, z, _⟩ => SqL.of z) ?_ ?_
      · rintro j z σ H7 hj ⟨x4, kvs, rfl, sb7, W7, er7, el7, emt7, mk7⟩
        obtain ⟨sd5, hjs, rfl⟩ : ∃ y, (sidesB (letsOf L) s5)[j]? = some y ∧ z = V.str y := by
          rw [List.getElem?_map] at hj
          obtain ⟨y, h1, h2⟩ := Option.map_eq_some_iff.mp hj
          exact ⟨y, h1, h2.symm⟩
        have side5 : IsSide L sd5 := by
          have m := List.mem_of_getElem? hjs
          unfold sidesB at m
          split at m
          · exact .inr (hls _ m)
          · rcases List.mem_cons.mp m with e | m
            · exact .inl e
            · exact .inr (hls _ m)
        obtain ⟨dx7, ob7⟩ := W7.ob
        have rem0 : remS qs [] < 25 := by
          have h1 := rem_le (qs := qs) (S := [])
          have h2 := ok.few
          omega
        refine ⟨_, rfl, p, dx7, _, rfl, ob7, fl_no L dd dn ds (by decide +kernel) (by decide +kernel) (by decide +kernel) (by decide +kernel), _, rfl, _, rfl, ?_⟩
        refine ⟨p, dd, dn, ds, L, qs, [], s5, sd5, rfl, W7, ok, sideS, side5, Needs.nil S0 (fOf qs) _ _, rem0, fun H9 v9 sb9 W9 tr9 => ?_⟩
        have er9 := sb9 _ _ er7 rn
        have el9 := sb9 _ _ el7 nln
        have emt9 := sb9 _ _ emt7 mn
        have mk9 := mk7.mono (W7.tk sb9)
        have fresh : (s5, sd5) ∉ pairsB (letsOf L) (ws.take k) ++ ((sidesB (letsOf L) s5).take j).map fun r => (s5, r) := fun m => by
          rcases List.mem_append.mp m with m | m
          · exact s5n (pairs_mem m).1
          · obtain ⟨x, hx, e⟩ := List.mem_map.mp m
            have e : x = sd5 := (Prod.ext_iff.mp e).2
            subst e
            obtain ⟨i', hi'⟩ := List.getElem?_of_mem hx
            have il := (List.getElem?_eq_some_iff.mp hi').1
            rw [List.length_take] at il
            rw [List.getElem?_take_of_lt (by omega)] at hi'
            have := nd_inj (sides_nodup ok.lets s5) hi' hjs
            omega
        have gone := mk9.gone fresh
        refine ⟨_, rfl, _, rfl, _, rfl, sz (by show 2 ≤ 100000; decide), fun t ht => ?_⟩
        have st := same_upd (o := .tup [V.str s5, V.str sd5]) ht
        have et : (upd H9 t (.tup [V.str s5, V.str sd5])) t = some (.tup ((kp s5 sd5).map kV)) := upd_same
        have emtA := st _ _ emt9
        have kl : kvs.length ≤ 200 := by
          have h1 := Paired.length mk9
          have h2 := pl k
          have h3 := sides_len (letsOf L) s5
          rw [List.length_append, List.length_map, List.length_take] at h1
          omega
        refine ⟨mt, _, rfl, DPut.t (k := kp s5 sd5) emtA et (szl (by omega)), ?_⟩
        rw [putK_new _ gone]
        have tkU : TK K _ (upd (upd H9 t (.tup [V.str s5, V.str sd5])) mt (.dT (kvs ++ [(kp s5 sd5, v9)]))) := TK.upd emtA True.intro
        refine ⟨_, kvs ++ [(kp s5 sd5, v9)], rfl, ((sb7.trans sb9).trans (Sb.of st)).updNew hm0, (W9.same st).side2 tkU m1 m2 m3 m4, by rw [upd_ne nrm]; exact st _ _ er9, by rw [upd_ne nlm]; exact st _ _ el9, upd_same, ?_⟩
        have tkj : (sidesB (letsOf L) s5).take (j + 1) = (sidesB (letsOf L) s5).take j ++ [sd5] := take_snoc hjs
        rw [tkj, List.map_append, ← List.append_assoc]
        exact Paired.app (mk9.mono ((TK.same st).trans tkU)) (.cons ⟨rfl, (tr9.mono (TK.same st)).mono tkU⟩ .nil)
      · rintro σ H7 ⟨x4, kvs, rfl, sb7, W7, er7, el7, emt7, mk7⟩
        rw [List.length_map, List.take_length, ← blk] at mk7
        exact ⟨_, _, kvs, rfl, sb7, W7, er7, emt7, mk7⟩
    · rintro σ H4 ⟨x3, x4, kvs, rfl, sb4, W4, er4, emt4, mk4⟩
      have kvl : (kvB ws).length = ws.length := List.length_map ..
      rw [kvl, List.take_length] at mk4
      exact ⟨_, rfl, q H4 mt kvs (fin sb4) (s1.free hm0) emt4 mk4⟩
end
end K24

namespace K24
open PySem PySem.Spec PyProof.Rows L2
/-- what comes of a pair, if it ends -/
noncomputable def ot (qs : List Rule) (a b : Str) : Option (List (Thing Str) × Str) := by
  classical
  exact if h : ∃ r, Goes S0 (fOf qs) a b r then some h.choose else none
theorem ot_goes {qs : List Rule} {a b : Str} {r : List (Thing Str) × Str} (h : Goes S0 (fOf qs) a b r) : ot qs a b = some r := by
  unfold ot
  have e : ∃ r, Goes S0 (fOf qs) a b r := ⟨r, h⟩
  rw [dif_pos e, Goes.one S0 (fOf qs) e.choose_spec h]
theorem ot_never {qs : List Rule} {a b : Str} (h : Never S0 (fOf qs) a b) : ot qs a b = none := by
  unfold ot
  rw [dif_neg]
  rintro ⟨r, n, e⟩
  rw [h n] at e
  cases e
theorem goes_ot {qs : List Rule} {a b : Str} {r : List (Thing Str) × Str} (h : ot qs a b = some r) : Goes S0 (fOf qs) a b r := by
  unfold ot at h
  split at h
  · rename_i e
    rw [← Option.some.inj h]
    exact e.choose_spec
  · cases h
theorem ot_nx (qs : List Rule) (a b : Str) : (ot qs a b).isNone = (nx qs a b).isNone := by
  cases e : ot qs a b with
  | some r =>
    rw [nx_goes (goes_ot e)]
    rfl
  | none =>
    cases e2 : nx qs a b with
    | none => rfl
    | some t =>
      obtain ⟨r, g, _⟩ := goes_nx e2
      rw [ot_goes g] at e
      cases e
def deadB (qs : List Rule) (ps : List (Str × Str)) : Prop := ∃ p ∈ ps, ot qs p.1 p.2 = none
noncomputable def longB (qs : List Rule) (p : Str × Str) : Bool := match ot qs p.1 p.2 with
  | some r => decide (40 < r.1.length)
  | none => false
theorem truth_some {K : PySem.W.Frag} {H : Hp} {qs : List Rule} {a b : Str} {v : V} {r : List (Thing Str) × Str} (h : Truth K H qs a b v) (e : ot qs a b = some r) : OutAt K H v r := by
  rcases h with ⟨_, n⟩ | ⟨r', h1, h2⟩
  · rw [ot_never n] at e
    cases e
  · rw [ot_goes h2] at e
    cases e
    exact h1
theorem truth_none {K : PySem.W.Frag} {H : Hp} {qs : List Rule} {a b : Str} {v : V} (h : Truth K H qs a b v) : decide (v = .non) = (ot qs a b).isNone := by
  rcases h with ⟨rfl, n⟩ | ⟨r', h1, h2⟩
  · rw [ot_never n]
    rfl
  · rw [ot_goes h2]
    obtain ⟨a', t, rfl, _⟩ := out_get h1
    rfl
def spTooLong (K : PySem.W.Frag) : Sp := fun vs H Q _ => ∃ (m : Addr) (kvs : List (List L2.Key × V)) (qs : List Rule) (ps : List (Str × Str)), vs = [.ref m] ∧ H m = some (.dT kvs) ∧ MetKv K H qs kvs ps ∧ ps.length ≤ 1000 ∧ (∀ p ∈ ps, (ot qs p.1 p.2).isSome = true) ∧
  ∀ H', Same H H' → Q (.bl (ps.any (longB qs))) H'
section
variable {P : Program} {w : World} {K : PySem.W.Frag} {mg : Str → Option Value} {base : Heap}
theorem scTooLong : FnScope ["met", "outcome"] ["met"] (defScope sTooLong) := ⟨rfl, rfl, rfl, by decide +kernel, rfl, by decide +kernel, by decide +kernel⟩
theorem lc_valsT {dk : Addr} {od : Obj} {kvs : List (List L2.Key × V)} {g : TG} {tt : TT} {te : TE} {vs : List Nat} {σ : L2.St} {H1 : Hp} {D : Addr} {Qd : Hp → Prop} (Pv : Nat → Hp → Prop) (h0 : Pv 0 (L2.upd H1 D (.lst []))) (hl : ∀ i H, Pv i H → H dk = some (.frz od (.dT kvs)))
    (hs : ∀ i k v H, kvs[i]? = some (k, v) → Pv i H → g v (wipe σ vs) H fun σ2 H2 => wipe σ2 vs = wipe σ vs ∧ tt σ2 H2 fun b H3 =>
      if b = true then te σ2 H3 fun y H4 => ∃ acc, H4 D = some (.lst acc) ∧ acc.length < sizeLine ∧ Pv (i + 1) (L2.upd H4 D (.lst (acc ++ [y]))) else Pv (i + 1) H3) (hd : ∀ H, Pv kvs.length H → Qd H) :
    ∃ W : Nat → Nat → Hp → Prop, (∃ m, W 0 m (L2.upd H1 D (.lst []))) ∧ ∀ i m H, W i m H →
      ((Itdt dk od kvs).stop i H ∧ Qd H) ∨ ((Itdt dk od kvs).go i H ∧ ∃ Nx : Hp → Prop, (∀ H', Nx H' → ∃ m', m' < m ∧ W (i + 1) m' H') ∧ ∀ x H', (Itdt dk od kvs).yld i H x H' → g x (wipe σ vs) H' fun σ2 H2 => wipe σ2 vs = wipe σ vs ∧ tt σ2 H2 fun b H3 =>
        if b = true then te σ2 H3 fun y H4 => ∃ acc, H4 D = some (.lst acc) ∧ acc.length < sizeLine ∧ Nx (L2.upd H4 D (.lst (acc ++ [y]))) else Nx H3) := by
  refine ⟨fun i m H => m = kvs.length - i ∧ i ≤ kvs.length ∧ Pv i H, ⟨kvs.length, by simp, Nat.zero_le _, h0⟩, ?_⟩
  rintro i m H ⟨rfl, hi, p⟩
  have e := hl i H p
  by_cases lt : i < kvs.length
  · refine .inr ⟨⟨e, lt⟩, Pv (i + 1), fun H' p' => ⟨kvs.length - (i + 1), by omega, rfl, lt, p'⟩, fun x H' y => ?_⟩
    obtain ⟨rfl, k, hk⟩ := y
    exact hs i k x _ hk p
  · have e2 : i = kvs.length := by omega
    subst e2
    exact .inl ⟨⟨e, Nat.le_refl _⟩, hd H p⟩
theorem ok_tooLong {f : Addr} {fd : FuncData} (F : Fun K "is_too_long" "is_too_long" sTooLong f fd) (T : Txt K mg) (zAny : mg "any" = none) : FnOk P w K mg base CX0 1 f fd ["met"] (spTooLong K) := by
  refine F.ok scTooLong (fun vs H Q E h => ?_) (fun cdv A outer s H vs Q E hr h => ?_)
  · obtain ⟨_, _, _, _, rfl, _⟩ := h
    rfl
  · obtain ⟨m, kvs, qs, ps, rfl, hm, hk, lp, all, q⟩ := h
    have nd := scTooLong.nd
    obtain ⟨tt, mLT⟩ := T.longT
    refine ⟨_, pss_one (ps_ret (pe_lock (pe_callB (cr_any rfl) (by rfl) zAny (by decide +kernel) (pa_cons
        (pe_lc (own := [("outcome", 1)]) (g := gName 1) (tt := tYes) rfl nd (pi_valuesT (pv 0))
          (blkOk_by (own := [("outcome", 1)]) (N := ["met", "outcome"]) (sc := defScope sTooLong) (by decide +kernel))
          (fun _ _ _ _ _ => pg_name (i := 1) nd rfl (Or.inl rfl)) (fun _ _ _ _ _ => pts_nil)
          (fun _ _ _ _ _ => pe_cmpR op_gt (pe_ix (show IxR _ (rIxT K) from ix_tup) (pv 1) pe_int (fun _ _ => rfl)) (pe_glob (v := .int 40) rfl mLT ⟨_, rfl⟩) (nomark _))) pa_nil)))), ?_⟩
    have kl : kvs.length = ps.length := Paired.length hk
    refine ⟨m, _, hm, True.intro, fun od => ?_⟩
    have tk1 : TK K H (upd H m (.frz od (.dT kvs))) := TK.upd hm True.intro
    have hk1 := hk.mono tk1
    have e1 : (upd H m (.frz od (.dT kvs))) m = some (.frz od (.dT kvs)) := upd_same
    have back : ∀ {H'}, Same (upd H m (.frz od (.dT kvs))) H' → Same H (upd H' m (.dT kvs)) := fun {H'} s b o e => by
      by_cases z : b = m
      · rw [z, hm] at e
        rw [z, upd_same]
        exact e
      · rw [upd_ne z]
        exact s b o (by rw [upd_ne z]; exact e)
    generalize (upd H m (.frz od (.dT kvs))) = H1 at hk1 e1 back
    refine ⟨_, rfl, m, od, kvs, rfl, e1, fun D hD => ?_⟩
    have nmD : m ≠ D := ne_of_none e1 hD
    refine lc_valsT (dk := m) (od := od) (kvs := kvs) (fun i H' => Same H1 H' ∧ H' D = some (.lst (((ps.take i).map (longB qs)).map V.bl))) ⟨same_upd hD, upd_same⟩ (fun i H' z => z.1 _ _ e1) ?_ ?_
    · rintro i k v H2 hi ⟨s2, e2⟩
      obtain ⟨sr, hsr, hkey, tr⟩ := Paired.at1 hk1 hi
      have so := all sr (List.mem_of_getElem? hsr)
      obtain ⟨r, hr1⟩ := Option.isSome_iff_exists.mp so
      have oa := (truth_some tr hr1).mono (TK.same s2)
      obtain ⟨a', t', rfl, hs'⟩ := out_get oa
      refine ⟨rfl, _, rfl, a', _, 0, .int (r.1.length : Nat), rfl, rfl, hs', rfl, _, _, rfl, rfl, _, e2, by rw [List.length_map, List.length_map, List.length_take]; exact szl (by omega), fun b o e => ?_, ?_⟩
      · have nb : b ≠ D := ne_of_none e hD
        rw [upd_ne nb]
        exact s2 b o e
      · rw [upd_same, take_snoc hsr, List.map_append, List.map_append]
        have : longB qs sr = decide ((40 : Int) < (r.1.length : Nat)) := by
          unfold longB
          rw [hr1]
          dsimp only
          by_cases c : 40 < r.1.length
          · rw [decide_eq_true c, decide_eq_true (by omega)]
          · rw [decide_eq_false c, decide_eq_false (by omega)]
        rw [List.map_cons, List.map_nil, List.map_cons, List.map_nil, this]
    · rintro H2 ⟨s2, e2⟩
      rw [kl, List.take_length] at e2
      refine ⟨D, _, rfl, SqL.of e2, ?_⟩
      refine ⟨s2 _ _ e1, ?_⟩
      have : (ps.map (longB qs)).any id = ps.any (longB qs) := by
        rw [List.any_map]
        rfl
      rw [this]
      exact q _ (back s2)
end
end K24

namespace K24
open PySem PySem.Spec PyProof.Rows L2
/-- what the text says of an error without words of its own -/
structure Err0 (K : PySem.W.Frag) (mg : Str → Option Value) (x : Str) (C : Addr) : Prop where
  g : mg x = some (.ref C)
  q : PySem.W.excIn K C [.type "ValueError", .type "Exception", .type "BaseException", .type "object"] "ValueError.__new__" = true
  k : PySem.W.keepIn K (.ref C) = true
  ex : PySem.W.subIn K (.ref C) (.type "BaseException") = some true
  ty : PySem.W.typeIn K (.ref C) = some (.type "type")
noncomputable abbrev psB (L : Str) (qs : List Rule) (i : Nat) : List (Str × Str) := pairsB (letsOf L) (rowsB (nx qs) (letsOf L) i)
theorem ps_len {L : Str} {qs : List Rule} (ok : ProgOk L qs) (i : Nat) : (psB L qs i).length ≤ 100 := by
  have hls : ∀ x ∈ letsOf L, IsLet L x := fun x hx => by
    obtain ⟨c, hc, e⟩ := List.mem_map.mp hx
    exact ⟨c, hc, e.symm⟩
  have h1 := pairs_len (letsOf L) (rowsB (nx qs) (letsOf L) i)
  have h2 := good_len ok (good_rows (qs := qs) (ls := letsOf L) ok hls i)
  have l8 := let_len ok.lets
  have ll := lets_len L
  have h3 : (rowsB (nx qs) (letsOf L) i).length * ((letsOf L).length + 1) ≤ 9 * 9 := Nat.mul_le_mul h2 (by omega)
  show (pairsB (letsOf L) (rowsB (nx qs) (letsOf L) i)).length ≤ 100
  omega
def spNeedShort (K : PySem.W.Frag) (CT CE : Addr) : Sp := fun vs H Q E => ∃ (v : V) (L : Str) (qs : List Rule), vs = [v] ∧ ProgAt K H v L qs ∧ ProgOk L qs ∧
  (∀ H' i, Same H H' → StopB (nx qs) (letsOf L) i → deadB qs (psB L qs i) → E (.ref CE) none H') ∧
  (∀ H' i d, Same H H' → StopB (nx qs) (letsOf L) i → ¬ deadB qs (psB L qs i) → (psB L qs i).any (longB qs) = true → H' d = none → E (.ref CT) (some d) (upd H' d (.xd [(("limit" : Str), .int 40)]))) ∧
  ∀ H' m i kvs, Same H H' → H m = none → StopB (nx qs) (letsOf L) i → ¬ deadB qs (psB L qs i) → (psB L qs i).any (longB qs) = false → H' m = some (.dT kvs) → MetKv K H' qs kvs (psB L qs i) → Q (.ref m) H'
section
variable {P : Program} {w : World} {K : PySem.W.Frag} {mg : Str → Option Value} {base : Heap}
theorem scNeedShort : FnScope ["value", "met", "outcome"] ["value"] (defScope sNeedShort) := ⟨rfl, rfl, rfl, by decide +kernel, rfl, by decide +kernel, by decide +kernel⟩
theorem ok_needShort {f CT CE fI g k t : Addr} {fd gd kd td : FuncData} (F : Fun K "need_short" "need_short" sNeedShort f fd) (T : Txt K mg) (zAny : mg "any" = none) (low : PySem.LowX.LowTxt K mg CT fI) (EE : Err0 K mg "Endless" CE)
    (G : FnOk P w K mg base CX0 7 g gd ["value"] (spNeed K)) (kG : PySem.W.keepIn K (.ref g) = true) (mG : mg "need_pairs" = some (.ref g)) (bG : Binds K gd ["value"] [])
    (Mt : FnOk P w K mg base CX0 79 k kd ["pairs"] (spMeet K)) (kM : PySem.W.keepIn K (.ref k) = true) (mM : mg "pairs_that_words_meet" = some (.ref k)) (bM : Binds K kd ["pairs"] [])
    (TL : FnOk P w K mg base CX0 1 t td ["met"] (spTooLong K)) (kT : PySem.W.keepIn K (.ref t) = true) (mT : mg "is_too_long" = some (.ref t)) (bT : Binds K td ["met"] []) :
    FnOk P w K mg base (L2.CX P w) 80 f fd ["value"] (spNeedShort K CT CE) := by
  refine F.okX scNeedShort (fun vs H Q E h => ?_) (fun cdv A outer s H vs Q E hr h => ?_)
  · obtain ⟨_, _, _, rfl, _⟩ := h
    rfl
  · obtain ⟨v, L, qs, rfl, hP, ok, qD, qL, q⟩ := h
    have nd := scNeedShort.nd
    have hr7 : Room 7 _ := hr.mono (by decide)
    have hr1 : Room 1 _ := hr.mono (by decide)
    obtain ⟨tt, mLT⟩ := T.longT
    refine ⟨_, pss_cons (ps_expr (pe_call G hr7 rfl mG kG bG .nil pass0 (pa_cons (pv 0) pa_nil)))
      (pss_cons (ps_set (i := 1) nd rfl (.inl rfl) (pe_call Mt hr rfl mM kM bM .nil pass0 (pa_cons (pv 0) pa_nil)))
      (pss_cons (ps_if (pt_val (pe_lock (pe_callB (cr_any rfl) (by rfl) zAny (by decide +kernel) (pa_cons
        (pe_lc (own := [("outcome", 2)]) (g := gName 2) (tt := tYes) rfl nd (pi_valuesT (pv 1))
          (blkOk_by (own := [("outcome", 2)]) (N := ["value", "met", "outcome"]) (sc := defScope sNeedShort) (by decide +kernel))
          (fun _ _ _ _ _ => pg_name (i := 2) nd rfl (Or.inl rfl)) (fun _ _ _ _ _ => pts_nil)
          (fun _ _ _ _ _ => pe_cmpR op_isN (pv 2) pe_non (nomark _))) pa_nil))))
        (pss_one (ps_raise rfl (takes_of rfl rfl rfl rfl) (pmk_own PySem.F.excBase_ValueError EE.q EE.g EE.k (raises_own EE.ex EE.ty) (by exact rfl)))) pss_nil)
      (pss_cons (ps_if (pt_val (pe_call TL hr1 rfl mT kT bT .nil pass0 (pa_cons (pv 1) pa_nil)))
        (pss_one (ps_raiseLow rfl low hr (takes_of rfl rfl rfl rfl) (by exact (pa_cons (pe_glob (v := .int 40) rfl mLT ⟨_, rfl⟩) pa_nil)))) pss_nil)
      (pss_one (ps_ret (pv 1)))))), ?_⟩
    refine ⟨_, rfl, v, L, qs, rfl, hP, ok, fun H1 s1 => ?_⟩
    refine ⟨_, rfl, v, L, qs, rfl, hP.mono (TK.same s1), ok, fun H2 m i kvs s2 hm0 st hm hk => ?_⟩
    have s12 := s1.trans s2
    have pl := ps_len (qs := qs) ok i
    have qD := fun H' s => qD H' i s st
    have qL := fun H' d s => qL H' i d s st
    have q := fun H' kvs s => q H' m i kvs s (s1.free hm0) st
    have hk : MetKv K H2 qs kvs (psB L qs i) := hk
    generalize psB L qs i = ps at hk pl qD qL q
    have kl : kvs.length = ps.length := Paired.length hk
    refine ⟨m, _, hm, True.intro, fun od => ?_⟩
    have tk3 : TK K H2 (upd H2 m (.frz od (.dT kvs))) := TK.upd hm True.intro
    have hk3 := hk.mono tk3
    have e3 : (upd H2 m (.frz od (.dT kvs))) m = some (.frz od (.dT kvs)) := upd_same
    have back : ∀ {H'}, Same (upd H2 m (.frz od (.dT kvs))) H' → Same H2 (upd H' m (.dT kvs)) := fun {H'} s b o e => by
      by_cases z : b = m
      · rw [z, hm] at e
        rw [z, upd_same]
        exact e
      · rw [upd_ne z]
        exact s b o (by rw [upd_ne z]; exact e)
    generalize (upd H2 m (.frz od (.dT kvs))) = H3 at hk3 e3 back
    refine ⟨_, rfl, m, od, kvs, rfl, e3, fun D hD => ?_⟩
    have nmD : m ≠ D := ne_of_none e3 hD
    refine lc_valsT (dk := m) (od := od) (kvs := kvs) (fun i H' => Same H3 H' ∧ H' D = some (.lst (((ps.take i).map fun sr => (ot qs sr.1 sr.2).isNone).map V.bl))) ⟨same_upd hD, upd_same⟩ (fun i H' z => z.1 _ _ e3) ?_ ?_
    · rintro j k v' H4 hj ⟨s4, e4⟩
      obtain ⟨sr, hsr, hkey, tr⟩ := Paired.at1 hk3 hj
      have tn := truth_none tr
      refine ⟨rfl, _, rfl, rfl, _, e4, by rw [List.length_map, List.length_map, List.length_take]; exact szl (by omega), fun b o e => ?_, ?_⟩
      · have nb : b ≠ D := ne_of_none e hD
        rw [upd_ne nb]
        exact s4 b o e
      · rw [upd_same, take_snoc hsr, List.map_append, List.map_append, tn]
        rfl
    · rintro H4 ⟨s4, e4⟩
      rw [kl, List.take_length] at e4
      refine ⟨D, _, rfl, SqL.of e4, s4 _ _ e3, ?_⟩
      have s5 := back s4
      have s15 := s12.trans s5
      have hk5 := hk.mono (TK.same s5)
      have e5 : (upd H4 m (.dT kvs)) m = some (.dT kvs) := upd_same
      generalize (upd H4 m (.dT kvs)) = H5 at s15 hk5 e5
      have ea : (ps.map fun sr => (ot qs sr.1 sr.2).isNone).any id = ps.any fun sr => (ot qs sr.1 sr.2).isNone := by
        rw [List.any_map]
        rfl
      rw [ea]
      refine ⟨_, rfl, ?_⟩
      by_cases dead : deadB qs ps
      · have : (ps.any fun sr => (ot qs sr.1 sr.2).isNone) = true := by
          obtain ⟨p, hp, e⟩ := dead
          exact List.any_eq_true.mpr ⟨p, hp, by rw [e]; rfl⟩
        rw [this]
        exact iteT (qD H5 s15 dead)
      · have all : ∀ p ∈ ps, (ot qs p.1 p.2).isSome = true := fun p hp => by
          cases e : ot qs p.1 p.2 with
          | some r => rfl
          | none => exact absurd ⟨p, hp, e⟩ dead
        have : (ps.any fun sr => (ot qs sr.1 sr.2).isNone) = false := by
          rw [List.any_eq_false]
          intro p hp
          have := all p hp
          cases e : ot qs p.1 p.2 with
          | some r => simp
          | none =>
            rw [e] at this
            cases this
        rw [this]
        refine iteF ⟨_, rfl, m, kvs, qs, ps, rfl, e5, hk5, by omega, all, fun H6 s6 => ⟨_, rfl, ?_⟩⟩
        cases lg : ps.any (longB qs) with
        | true => exact iteT ⟨_, rfl, fun d hd => qL H6 d (s15.trans s6) dead lg hd⟩
        | false => exact iteF ⟨_, rfl, q H6 kvs (s15.trans s6) dead lg (s6 _ _ e5) (hk5.mono (TK.same s6))⟩
end
end K24

namespace K24
open PySem PySem.Spec PyProof.Rows L2
def RowAt (K : PySem.W.Frag) (H : Hp) (qs : List Rule) (v : V) (sr : Str × Str) : Prop := ∃ a tv r, v = .ref a ∧ ot qs sr.1 sr.2 = some r ∧ SqT K H a [.str sr.1, .str sr.2, tv, .str r.2] ∧ Ths K H tv r.1
theorem RowAt.mono {K : PySem.W.Frag} {H H' : Hp} {qs : List Rule} {v : V} {sr : Str × Str} (k : TK K H H') (h : RowAt K H qs v sr) : RowAt K H' qs v sr := by
  obtain ⟨a, tv, r, e, h1, h2, h3⟩ := h
  exact ⟨a, tv, r, e, h1, k _ _ h2, h3.mono k⟩
theorem keys_of {K : PySem.W.Frag} {H : Hp} {qs : List Rule} : ∀ {ks : List Addr} {kvs : List (List L2.Key × V)} {ps : List (Str × Str)}, Paired (fun q (kv : List L2.Key × V) => H q = some (.tup (kv.1.map kV))) ks kvs → MetKv K H qs kvs ps →
    DpAll K H (ks.map V.ref) (ps.map keyD) ∧ Paired (fun v (sr : Str × Str) => ∃ a, v = V.ref a ∧ H a = some (.tup ((kp sr.1 sr.2).map kV))) (ks.map V.ref) ps
  | _, _, _, .nil, .nil => ⟨.nil, .nil⟩
  | _, _, _, .cons h t, .cons g u => by
    obtain ⟨i1, i2⟩ := keys_of t u
    rw [g.1] at h
    exact ⟨.cons (.tup (SqT.of h) (.cons (.str _) (.cons (.str _) .nil))) i1, .cons ⟨_, rfl, h⟩ i2⟩
theorem MetKv.get {K : PySem.W.Frag} {H : Hp} {qs : List Rule} : ∀ {kvs : List (List L2.Key × V)} {ps : List (Str × Str)}, MetKv K H qs kvs ps → ∀ {a b : Str}, (a, b) ∈ ps → ∃ v, valV kvs (kp a b) = some v ∧ Truth K H qs a b v
  | _, _, .nil, a, b, m => by cases m
  | _, _, .cons (a := kv) (b := q) h t, a, b, m => by
    by_cases e : kv.1 = kp a b
    · refine ⟨kv.2, valV_pos e, ?_⟩
      rw [h.1] at e
      obtain ⟨e1, e2⟩ := kp_inj e
      have := h.2
      rw [e1, e2] at this
      exact this
    · rw [valV_neg e]
      rcases List.mem_cons.mp m with z | m
      · exact absurd (by rw [h.1, ← z]) e
      · exact MetKv.get t m
theorem keyD_alike (ps : List (Str × Str)) : PySem.W.AllAlike (ps.map keyD) := PySem.W.AllAlike.of fun _ _ => rfl
theorem keyD_sortable (ps : List (Str × Str)) : PySem.W.Sortable (ps.map keyD) := PySem.W.Sortable.tuples fun _ => ⟨_, _, rfl⟩
theorem keyD_depth (p : Str × Str) : (keyD p).depth ≤ 60 := by simp [keyD, PyData.depth, PyData.depthAll]
theorem pa_starK {X : Cx} {K : PySem.W.Frag} {e : Expr} {es : List Expr} {te : TE} {t : TA} {p : Pos} (hK : X.K = K) (he : PE X e te) (hr : PA X es t) (hs : starEach (.Starred e p :: es) X.env = (true, eval e X.env) :: starEach es X.env := by rfl) : PA X (.Starred e p :: es) (StX.tStar K te t) := by
  subst hK
  exact StX.pa_star he hr hs
end K24

namespace K24
open PySem PySem.Spec PyProof.Rows L2
theorem side_all {L s x : Str} : x ∈ sidesB (letsOf L) s ↔ x ∈ S0 :: letsOf L ∧ ¬ (s, x) = (S0, S0) := by
  unfold sidesB
  by_cases z : s = S0
  · rw [if_pos z]
    constructor
    · intro h
      exact ⟨List.mem_cons_of_mem _ h, fun e => s0_lets L (by have h2 : x = S0 := (Prod.ext_iff.mp e).2; rw [← h2]; exact h)⟩
    · rintro ⟨h, n⟩
      rcases List.mem_cons.mp h with e | m
      · exact absurd (Prod.ext z e) n
      · exact m
  · rw [if_neg z]
    exact ⟨fun h => ⟨h, fun e => z (Prod.ext_iff.mp e).1⟩, fun h => h.1⟩
theorem pairs_in {ls : List Str} {ws : WD} {a wd b : Str} (h : (a, wd) ∈ ws) (hb : b ∈ sidesB ls a) : (a, b) ∈ pairsB ls ws := List.mem_flatMap.mpr ⟨(a, wd), h, List.mem_map.mpr ⟨b, hb, rfl⟩⟩
def spIsLong (K : PySem.W.Frag) : Sp := fun vs H Q _ => ∃ (v : V) (p r d o : Addr) (L : Str) (qs : List Rule), vs = [v, .ref p] ∧ ProgAt K H v L qs ∧ BoxW K H p r d o L qs [] ∧ ProgOk L qs ∧ (∀ i, StopB (nx qs) (letsOf L) i → ¬ deadB qs (psB L qs i)) ∧
  ∀ H' i, Sb [d, o] H H' → BoxW K H' p r d o L qs [] → StopB (nx qs) (letsOf L) i → Q (.bl ((psB L qs i).any (longB qs))) H'
section
variable {P : Program} {w : World} {K : PySem.W.Frag} {mg : Str → Option Value} {base : Heap}
theorem scIsLong : FnScope ["_law_pairs_here", "_law_box_here", "_law_standing", "_law_side"] ["_law_pairs_here", "_law_box_here"] (defScope sIsLong) := ⟨rfl, rfl, rfl, by decide +kernel, rfl, by decide +kernel, by decide +kernel⟩
theorem ok_isLong {f c g : Addr} {fd cd gd : FuncData} (F : Fun K "_law_is_long" "_law_is_long" sIsLong f fd) (T : Txt K mg)
    (C : FnOk P w K mg base CX0 (3 * 25 + 1) c cd ["_law_box_here", "_law_left", "_law_right_here"] (spCome K 25)) (kC : PySem.W.keepIn K (.ref c) = true) (mC : mg "_law_come" = some (.ref c)) (bC : Binds K cd ["_law_box_here", "_law_left", "_law_right_here"] [])
    (G : FnOk P w K mg base CX0 77 g gd ["_law_pairs_here", "_law_box_here"] (spLeads K)) (kG : PySem.W.keepIn K (.ref g) = true) (mG : mg "_law_leads" = some (.ref g)) (bG : Binds K gd ["_law_pairs_here", "_law_box_here"] []) :
    FnOk P w K mg base CX0 78 f fd ["_law_pairs_here", "_law_box_here"] (spIsLong K) := by
  refine F.ok scIsLong (fun vs H Q E h => ?_) (fun cdv A outer s H vs Q E hr h => ?_)
  · obtain ⟨_, _, _, _, _, _, _, rfl, _⟩ := h
    rfl
  · obtain ⟨v, p, r, d, o, L, qs, rfl, hP, W, ok, alive, q⟩ := h
    have nd := scIsLong.nd
    have hrC : Room (3 * 25 + 1) _ := hr.mono (by decide)
    refine ⟨_, pss_cons (ps_for PassesOwn.never rfl (pi_keysK (pe_call G hr rfl mG kG bG .nil pass0 (pa_cons (pv 0) (pa_cons (pv 1) pa_nil)))) (pg_name (i := 2) nd rfl (.inl rfl))
        (pss_one (ps_for PassesOwn.never rfl (pi_list (pe_op op_cat (pe_lst (pa_cons pe_str pa_nil)) (pe_callTy (call_list_text rfl) (by rfl) T.list (by decide +kernel) (pa_cons (pe_ix ix_tup (pv 0) pe_int (fun _ _ => rfl)) pa_nil)))) (pg_name (i := 3) nd rfl (.inl rfl))
          (pss_one (ps_if (PW.pt (pw_and (pt_cmpR (op_neD (hu64 hr)) (pe_tup (pa_cons (pv 2) (pa_cons (pv 3) pa_nil))) (pe_tup (pa_cons pe_str (pa_cons pe_str pa_nil))) (nomark _))
              (pw_and1 (pt_cmpR op_gt (pe_callB call_len_seq (by rfl) T.len PySem.boot_len (pa_cons (pe_ix ix_tup (pe_call C hrC rfl mC kC bC .nil pass0 (pa_cons (pv 1) (pa_cons (pv 2) (pa_cons (pv 3) pa_nil)))) pe_int (fun _ _ => rfl)) pa_nil)) pe_int (nomark _)))))
            (pss_one (ps_ret pe_bl)) pss_nil)))))
      (pss_one (ps_ret pe_bl)), ?_⟩
    have hls : ∀ x ∈ letsOf L, IsLet L x := fun x hx => by
      obtain ⟨c, hc, e⟩ := List.mem_map.mp hx
      exact ⟨c, hc, e.symm⟩
    have l8 := let_len ok.lets
    have ll := lets_len L
    refine ⟨_, rfl, _, rfl, v, p, r, d, o, L, qs, rfl, hP, W, ok, fun H1 wf n sb1 W1 hf0 ef1 hS => ⟨wf, _, rfl, ef1, fun od => ?_⟩⟩
    have q := fun H' s W => q H' n s W hS
    have alive := alive n hS
    have g := good_rows (qs := qs) (ls := letsOf L) ok hls n
    clear hS
    unfold psB at q alive
    generalize hws : rowsB (nx qs) (letsOf L) n = ws at ef1 q g alive
    have wsl := good_len ok g
    obtain ⟨hB0, ⟨kvs0, hr0, _⟩, _, ⟨done0, hd0, _⟩, ⟨ps0, ho0, _⟩, _, _⟩ := id W
    obtain ⟨f1, f2, f3, f4⟩ : wf ≠ p ∧ wf ≠ r ∧ wf ≠ d ∧ wf ≠ o := ⟨(ne_of_none hB0 hf0).symm, (ne_of_none hr0 hf0).symm, (ne_of_none hd0 hf0).symm, (ne_of_none ho0 hf0).symm⟩
    have fn : wf ∉ [d, o] := fun m => by
      rcases List.mem_cons.mp m with e | m
      · exact f3 e
      · exact f4 (List.mem_singleton.mp m)
    have tk3 : TK K H1 (upd H1 wf (.frz od (.dK (kvB ws)))) := TK.upd ef1 True.intro
    have W3 := W1.side2 tk3 f1 f2 f3 f4
    have sb3 : Sb [d, o] H (upd H1 wf (.frz od (.dK (kvB ws)))) := sb1.updNew hf0
    have ef3 : (upd H1 wf (.frz od (.dK (kvB ws)))) wf = some (.frz od (.dK (kvB ws))) := upd_same
    generalize (upd H1 wf (.frz od (.dK (kvB ws)))) = H3 at W3 sb3 ef3
    refine ⟨wf, od, rfl, .inl ⟨kvB ws, ef3, for_keys (dk := wf) (od := od) (kvs := kvB ws) (fun k σ H' => ∃ (x2 x3 : Option V), σ = [some v, some (.ref p), x2, x3] ∧ Sb [d, o] H H' ∧ BoxW K H' p r d o L qs [] ∧
        H' wf = some (.frz od (.dK (kvB ws))) ∧ ∀ pr ∈ pairsB (letsOf L) (ws.take k), longB qs pr = false)
      ⟨none, none, rfl, sb3, W3, ef3, fun pr h => by cases h⟩ (fun i σ H' ⟨_, _, _, _, _, z, _⟩ => z) ?_ ?_⟩⟩
    · rintro k ky vy σ H4 hky ⟨x2, x3, rfl, sb4, W4, ef4, sh4⟩
      obtain ⟨s5, wd, hswd⟩ : ∃ s5 wd, ws[k]? = some (s5, wd) := by
        have lt := (List.getElem?_eq_some_iff.mp hky).1
        unfold kvB at lt
        rw [List.length_map] at lt
        exact ⟨_, _, List.getElem?_eq_getElem lt⟩
      have eky : ky = .inr s5 := by
        unfold kvB at hky
        rw [List.getElem?_map, hswd] at hky
        have := Option.some.inj hky
        exact (Prod.ext_iff.mp this).1.symm
      subst eky
      obtain ⟨sideS, _⟩ := g.each k s5 wd hswd
      obtain ⟨pa, pb, rfl, hpa, hpb⟩ := id hP
      refine ⟨sz (by show 1 ≤ 100000; decide), fun a1 g1 => ?_⟩
      have u1 := same_upd (o := .lst [V.str ""]) g1
      refine ⟨_, rfl, pa, _, 0, .str L, rfl, rfl, TK.same u1 _ _ (W.tk sb4 _ _ hpa), rfl, L, rfl, sz (by omega), fun a2 g2 => ?_⟩
      have u2 := same_upd (o := .lst (signs L)) g2
      refine ⟨a1, a2, _, _, rfl, rfl, u2 _ _ upd_same, upd_same, sz (by rw [signs_map, List.length_map, ll]; show 1 + L.length ≤ 100000; omega), fun a3 g3 => ?_⟩
      have u3 := same_upd (o := .lst ([V.str ""] ++ signs L)) g3
      have u13 := (u1.trans u2).trans u3
      have e3 : (upd (upd (upd H4 a1 (.lst [V.str ""])) a2 (.lst (signs L))) a3 (.lst ([V.str ""] ++ signs L))) a3 = some (.lst ((S0 :: letsOf L).map V.str)) := by
        rw [upd_same, signs_map]
        rfl
      have a3n : a3 ∉ [d, o] := fun m => by
        obtain ⟨_, _, _, ⟨_, t1, _⟩, ⟨_, t2, _⟩, _, _⟩ := W4
        have t1 := (u1.trans u2) _ _ t1
        have t2 := (u1.trans u2) _ _ t2
        rcases List.mem_cons.mp m with e | m
        · rw [← e, g3] at t1
          cases t1
        · rw [← List.mem_singleton.mp m, g3] at t2
          cases t2
      refine ⟨a3, rfl, ⟨_, SqL.of e3⟩, for_list (K := K) (a := a3) (xs := (S0 :: letsOf L).map V.str) (fun j σ H' => ∃ (x3 : Option V), σ = [some (.ref pa), some (.ref p), some (.str s5), x3] ∧ Sb [d, o] H H' ∧ BoxW K H' p r d o L qs [] ∧
          H' wf = some (.frz od (.dK (kvB ws))) ∧ H' a3 = some (.lst ((S0 :: letsOf L).map V.str)) ∧ ∀ x ∈ (S0 :: letsOf L).take j, ¬ (s5, x) = (S0, S0) → longB qs (s5, x) = false)
        ⟨x3, rfl, sb4.trans (Sb.of u13), W4.same u13, u13 _ _ ef4, e3, fun x h => by cases h⟩ (fun i σ H' _ ⟨_, _, _, _, _, z, _⟩ => SqL.of z) ?_ ?_⟩
      · rintro j z σ H5 hj ⟨x3, rfl, sb5, W5, ef5, ea5, sh5⟩
        obtain ⟨sd5, hjs, rfl⟩ : ∃ y, (S0 :: letsOf L)[j]? = some y ∧ z = V.str y := by
          rw [List.getElem?_map] at hj
          obtain ⟨y, h1, h2⟩ := Option.map_eq_some_iff.mp hj
          exact ⟨y, h1, h2.symm⟩
        have tkj : (S0 :: letsOf L).take (j + 1) = (S0 :: letsOf L).take j ++ [sd5] := take_snoc hjs
        have side5 : IsSide L sd5 := by
          rcases List.mem_cons.mp (List.mem_of_getElem? hjs) with e | m
          · exact .inl e
          · exact .inr (hls _ m)
        refine ⟨_, rfl, _, rfl, sz (by show 2 ≤ 100000; decide), fun t1 h1 => ⟨sz (by show 2 ≤ 100000; decide), fun t2 h2 => ?_⟩⟩
        have v1 := same_upd (o := .tup [V.str s5, V.str sd5]) h1
        have v2 := same_upd (o := .tup [V.str "", V.str ""]) h2
        have v12 := v1.trans v2
        refine ⟨keyD (s5, sd5), keyD (S0, S0), .tup (SqT.of (v2 _ _ upd_same)) (.cons (.str _) (.cons (.str _) .nil)), .tup (SqT.of upd_same) (.cons (.str _) (.cons (.str _) .nil)), sh_key ⟨sideS.sm ok.lets, side5.sm ok.lets⟩, sh_key ⟨.inl rfl, .inl rfl⟩, _, rfl, ?_⟩
        rw [eqv_keyD]
        have sb6 := sb5.trans (Sb.of v12)
        have W6 := W5.same v12
        have ef6 := v12 _ _ ef5
        have ea6 := v12 _ _ ea5
        generalize (upd (upd H5 t1 (.tup [V.str s5, V.str sd5])) t2 (.tup [V.str "", V.str ""])) = H6 at sb6 W6 ef6 ea6
        by_cases hz : (s5, sd5) = (S0, S0)
        · rw [decide_eq_true hz]
          refine iteF (iteF ⟨_, rfl, sb6, W6, ef6, ea6, fun x hx hn => ?_⟩)
          rw [tkj] at hx
          rcases List.mem_append.mp hx with m | m
          · exact sh5 x m hn
          · rw [List.mem_singleton.mp m] at hn
            exact absurd hz hn
        · rw [decide_eq_false hz]
          have rem0 : remS qs [] < 25 := by
            have h1 := rem_le (qs := qs) (S := [])
            have h2 := ok.few
            omega
          have inP : (s5, sd5) ∈ pairsB (letsOf L) ws := pairs_in (List.mem_of_getElem? hswd) (side_all.mpr ⟨List.mem_of_getElem? hjs, hz⟩)
          refine iteT ⟨_, rfl, _, rfl, _, rfl, p, r, d, o, L, qs, [], s5, sd5, rfl, W6, ok, sideS, side5, Needs.nil S0 (fOf qs) _ _, rem0, by decide, fun H7 v7 sb7 W7 tr7 => ?_⟩
          rcases tr7 with ⟨rfl, nev⟩ | ⟨r7, go7, a7, b7, xs7, rfl, hs7, ht7, lx7⟩
          · exact absurd ⟨_, inP, ot_never nev⟩ alive
          · have l7 := lx7.len
            rw [List.length_take] at l7
            refine ⟨a7, _, 0, .ref b7, rfl, rfl, hs7, rfl, b7, xs7, rfl, .inr ht7, _, _, rfl, rfl, _, rfl, ?_⟩
            have el : decide ((40 : Int) < ((xs7.length : Nat) : Int)) = longB qs (s5, sd5) := by
              unfold longB
              rw [ot_goes go7]
              dsimp only
              by_cases c : 40 < r7.1.length
              · rw [decide_eq_true c, decide_eq_true (by omega)]
              · rw [decide_eq_false c, decide_eq_false (by omega)]
            rw [el]
            cases lg : longB qs (s5, sd5) with
            | true =>
              have any : (pairsB (letsOf L) ws).any (longB qs) = true := List.any_eq_true.mpr ⟨_, inP, lg⟩
              refine iteT ?_
              have := q H7 (sb6.trans sb7) W7
              rw [any] at this
              exact this
            | false =>
              refine iteF ⟨_, rfl, sb6.trans sb7, W7, sb7 _ _ ef6 fn, sb7 _ _ ea6 a3n, fun x hx hn => ?_⟩
              rw [tkj] at hx
              rcases List.mem_append.mp hx with m | m
              · exact sh5 x m hn
              · rw [List.mem_singleton.mp m]
                exact lg
      · rintro σ H5 ⟨x3, rfl, sb5, W5, ef5, ea5, sh5⟩
        rw [List.length_map, List.take_length] at sh5
        refine ⟨_, _, rfl, sb5, W5, ef5, fun pr hp => ?_⟩
        rw [take_snoc hswd, pairs_app] at hp
        rcases List.mem_append.mp hp with m | m
        · exact sh4 pr m
        · obtain ⟨m1, m2⟩ := pairs_mem (a := pr.1) (b := pr.2) m
          have e1 : pr.1 = s5 := List.mem_singleton.mp m1
          rw [e1] at m2
          obtain ⟨m3, m4⟩ := side_all.mp m2
          have := sh5 pr.2 m3 m4
          rw [← e1] at this
          exact this
    · rintro σ H4 ⟨x2, x3, rfl, sb4, W4, ef4, sh4⟩
      have kvl : (kvB ws).length = ws.length := List.length_map ..
      rw [kvl, List.take_length] at sh4
      have any : (pairsB (letsOf L) ws).any (longB qs) = false := by
        rw [List.any_eq_false]
        intro x hx
        rw [sh4 x hx]
        decide
      have := q H4 sb4 W4
      rw [any] at this
      exact this
end
end K24

namespace K24
open PySem PySem.Spec PyProof.Rows L2
/-! ### things as data -/
def thD : Thing Str → PyData
  | .sign x => .tuple [.str "sign", .str x]
  | .kern n => .tuple [.str "kern", .int n]
section
variable {K : PySem.W.Frag} {H : Hp}
theorem Th.dp {v : V} {t : Thing Str} (h : Th K H v t) : Dp K H v (thD t) := by
  cases t with
  | sign x =>
    obtain ⟨_, a, rfl, h⟩ := h
    exact .tup h (.cons (.str _) (.cons (.str _) .nil))
  | kern n =>
    obtain ⟨a, rfl, h⟩ := h
    exact .tup h (.cons (.str _) (.cons (.int _) .nil))
theorem ThL.dp : ∀ {vs : List V} {ts : List (Thing Str)}, ThL K H vs ts → DpAll K H vs (ts.map thD)
  | _, _, .nil => .nil
  | _, _, .cons h t => .cons h.dp (ThL.dp t)
theorem Ths.dp {v : V} {ts : List (Thing Str)} (h : Ths K H v ts) : Dp K H v (.tuple (ts.map thD)) := by
  obtain ⟨a, vs, rfl, h1, h2⟩ := h
  exact .tup h1 h2.dp
theorem Th.lay {v : V} {t : Thing Str} (h : Th K H v t) : (thD t).canLay0 = true := by
  have e1 : PyData.strOk ("sign" : Str) = true := by decide +kernel
  have e2 : PyData.strOk ("kern" : Str) = true := by decide +kernel
  cases t with
  | sign x =>
    have := h.1.ok
    simp [thD, PyData.canLay0, PyData.canLayAll0, e1, this]
  | kern n => simp [thD, PyData.canLay0, PyData.canLayAll0, e2]
theorem ThL.lay : ∀ {vs : List V} {ts : List (Thing Str)}, ThL K H vs ts → PyData.canLayAll0 (ts.map thD) = true
  | _, _, .nil => rfl
  | _, _, .cons h t => by
    rw [List.map_cons]
    simp only [PyData.canLayAll0]
    rw [h.lay, ThL.lay t]
    rfl
theorem th_depth (t : Thing Str) : (thD t).depth ≤ 2 := by
  cases t <;> simp [thD, PyData.depth, PyData.depthAll]
theorem ths_depth : ∀ (ts : List (Thing Str)), PyData.depthAll (ts.map thD) ≤ 3
  | [] => by simp [PyData.depthAll]
  | t :: ts => by
    have ih := ths_depth ts
    have h := th_depth t
    rw [List.map_cons]
    simp only [PyData.depthAll]
    omega
theorem Ths.shaped {v : V} {ts : List (Thing Str)} (h : Ths K H v ts) : SeqAt.shaped (.tuple (ts.map thD)) = true := by
  obtain ⟨a, vs, rfl, h1, h2⟩ := h
  have l := h2.lay
  have d := ths_depth ts
  have d2 : PyData.depth (.tuple (ts.map thD)) ≤ 64 := by
    simp only [PyData.depth]
    omega
  show (PyData.canLay0 (.tuple (ts.map thD)) && decide (PyData.depth (.tuple (ts.map thD)) ≤ 64)) = true
  rw [decide_eq_true d2, Bool.and_true]
  simp only [PyData.canLay0]
  exact l
theorem shaped_lay {d : PyData} (h : SeqAt.shaped d = true) : d.canLay0 = true := (Bool.and_eq_true_iff.mp h).1
theorem Ths.notNone {v : V} {ts : List (Thing Str)} (h : Ths K H v ts) : ¬ v = .non := by
  obtain ⟨a, vs, rfl, _⟩ := h
  exact fun e => nomatch e
end
end K24

namespace K24
open PySem PySem.Spec PyProof.Rows L2
/-! ### the pairs that are dead, and the ends -/
theorem nx_ot {qs : List Rule} (a b : Str) : (nx qs a b).isNone = (ot qs a b).isNone := by
  by_cases h : ∃ r, Goes S0 (fOf qs) a b r
  · obtain ⟨r, h⟩ := h
    rw [nx_goes h, ot_goes h]
    rfl
  · have n : Never S0 (fOf qs) a b := fun n => by
      cases e : ev S0 (fOf qs) n a b with
      | none => rfl
      | some r => exact absurd ⟨r, n, e⟩ h
    rw [nx_never n, ot_never n]
    rfl
theorem ends_dead {qs : List Rule} {ls : List Str} {ws : WD} : endsB (nx qs) ls ws = [] ↔ ¬ deadB qs (pairsB ls ws) := by
  constructor
  · rintro e ⟨⟨a, b⟩, hp, hn⟩
    obtain ⟨p, hp1, hp2⟩ := List.mem_flatMap.mp hp
    obtain ⟨r, hr, e2⟩ := List.mem_map.mp hp2
    cases e2
    have : p.2 ++ b ∈ endsB (nx qs) ls ws := List.mem_flatMap.mpr ⟨p, hp1, List.mem_map.mpr ⟨b, List.mem_filter.mpr ⟨hr, by rw [nx_ot, hn]; rfl⟩, rfl⟩⟩
    rw [e] at this
    cases this
  · intro h
    refine List.eq_nil_iff_forall_not_mem.mpr fun x hx => h ?_
    obtain ⟨p, hp1, hp2⟩ := List.mem_flatMap.mp hx
    obtain ⟨r, hr, e2⟩ := List.mem_map.mp hp2
    obtain ⟨hr1, hr2⟩ := List.mem_filter.mp hr
    rw [nx_ot] at hr2
    refine ⟨(p.1, r), List.mem_flatMap.mpr ⟨p, hp1, List.mem_map.mpr ⟨r, hr1, rfl⟩⟩, ?_⟩
    cases e : ot qs p.1 r with
    | none => rfl
    | some z => rw [e] at hr2; cases hr2
theorem argBest_le (bt : Nat → Nat → Bool) : ∀ k, argBest bt k ≤ k
  | 0 => Nat.le_refl _
  | k + 1 => by
    have ih := argBest_le bt k
    unfold argBest
    first
      | (split <;> omega)
      | (dsimp only; split <;> omega)
theorem least_none {es : List Str} : leastV es = .non ↔ es = [] := by
  constructor
  · intro h
    cases es with
    | nil => rfl
    | cons x xs =>
      exfalso
      unfold leastV at h
      split at h
      · cases h
      · rename_i e
        have h1 := List.getElem?_eq_none_iff.mp e
        have h2 : bestAt (List.map wD (x :: xs)) ≤ (List.map wD (x :: xs)).length - 1 := argBest_le _ _
        rw [List.length_map] at h2
        rw [List.length_cons] at h1 h2
        omega
  · rintro rfl
    rfl
end K24

namespace K24
open PySem PySem.Spec PyProof.Rows L2
/-! ### the search for a word with a shape, turn by turn -/
abbrev Tg := List (Thing Str)
abbrev TT := Str → Str → Tg × Str
abbrev Ent := Str × Nat × Str
def keyE (e : Ent) : Str × Nat := (e.1, e.2.1)
def fits (ths : Tg) (T : TT) (e : Ent) (x : Str) : Bool := decide ((ths.drop e.2.1).take (T e.1 x).1.length = (T e.1 x).1)
def childE (T : TT) (e : Ent) (x : Str) : Ent := ((T e.1 x).2, e.2.1 + (T e.1 x).1.length, e.2.2 ++ x)
def stepW (ths : Tg) (T : TT) (e : Ent) (q : List Ent) (x : Str) : List Ent := if fits ths T e x = true ∧ keyE (childE T e x) ∉ q.map keyE then q ++ [childE T e x] else q
def rowsW (ths : Tg) (T : TT) (ls : List Str) : Nat → List Ent
  | 0 => [(S0, 0, S0)]
  | i + 1 => match (rowsW ths T ls i)[i]? with
    | none => rowsW ths T ls i
    | some e => ls.foldl (stepW ths T e) (rowsW ths T ls i)
def goalW (ths : Tg) (T : TT) (e : Ent) : Bool := decide (e.2.2 ≠ S0) && decide ((T e.1 S0).1 = ths.drop e.2.1)
def EndW (ths : Tg) (T : TT) (ls : List Str) (i : Nat) (v : V) : Prop :=
  (∀ j, j < i → ∃ e, (rowsW ths T ls j)[j]? = some e ∧ goalW ths T e = false) ∧
  ((∃ e, (rowsW ths T ls i)[i]? = some e ∧ goalW ths T e = true ∧ v = .str e.2.2) ∨ ((rowsW ths T ls i)[i]? = none ∧ v = .non))
theorem EndW.lt {ths : Tg} {T : TT} {ls : List Str} {i j : Nat} {v u : V} (h : EndW ths T ls i v) (h' : EndW ths T ls j u) : ¬ i < j := by
  intro l
  obtain ⟨e, h1, h2⟩ := h'.1 i l
  rcases h.2 with ⟨e', h3, h4, _⟩ | ⟨h3, _⟩
  · rw [h1] at h3
    cases h3
    rw [h2] at h4
    cases h4
  · rw [h1] at h3
    cases h3
theorem EndW.one {ths : Tg} {T : TT} {ls : List Str} {i j : Nat} {v u : V} (h : EndW ths T ls i v) (h' : EndW ths T ls j u) : v = u := by
  have e : i = j := by
    have h1 := h.lt h'
    have h2 := h'.lt h
    omega
  subst e
  rcases h.2 with ⟨e, h3, h4, rfl⟩ | ⟨h3, rfl⟩ <;> rcases h'.2 with ⟨e', h5, h6, rfl⟩ | ⟨h5, rfl⟩
  · rw [h3] at h5
    cases h5
    rfl
  · rw [h3] at h5
    cases h5
  · rw [h3] at h5
    cases h5
  · rfl
section
variable {ths : Tg} {T : TT} {ls : List Str}
theorem stepW_app (e : Ent) (q : List Ent) (x : Str) : ∃ more, stepW ths T e q x = q ++ more := by
  unfold stepW
  split
  · exact ⟨_, rfl⟩
  · exact ⟨[], (List.append_nil _).symm⟩
theorem foldW_app (e : Ent) : ∀ (xs : List Str) (q : List Ent), ∃ more, xs.foldl (stepW ths T e) q = q ++ more
  | [], q => ⟨[], (List.append_nil _).symm⟩
  | x :: xs, q => by
    obtain ⟨m1, h1⟩ := stepW_app (ths := ths) (T := T) e q x
    obtain ⟨m2, h2⟩ := foldW_app e xs (stepW ths T e q x)
    exact ⟨m1 ++ m2, by rw [List.foldl_cons, h2, h1, List.append_assoc]⟩
theorem rowsW_succ (i : Nat) : ∃ more, rowsW ths T ls (i + 1) = rowsW ths T ls i ++ more := by
  show ∃ more, (match (rowsW ths T ls i)[i]? with | none => rowsW ths T ls i | some e => ls.foldl (stepW ths T e) (rowsW ths T ls i)) = _
  cases (rowsW ths T ls i)[i]? with
  | none => exact ⟨[], (List.append_nil _).symm⟩
  | some e => exact foldW_app e ls _
theorem rowsW_le {i j : Nat} (h : i ≤ j) : ∃ more, rowsW ths T ls j = rowsW ths T ls i ++ more := by
  induction j with
  | zero =>
    have : i = 0 := by omega
    subst this
    exact ⟨[], (List.append_nil _).symm⟩
  | succ j ih =>
    by_cases e : i = j + 1
    · subst e
      exact ⟨[], (List.append_nil _).symm⟩
    · obtain ⟨m, h1⟩ := ih (by omega)
      obtain ⟨m2, h2⟩ := rowsW_succ (ths := ths) (T := T) (ls := ls) j
      exact ⟨m ++ m2, by rw [h2, h1, List.append_assoc]⟩
theorem rowsW_get {i j k : Nat} {e : Ent} (h : i ≤ j) (hk : (rowsW ths T ls i)[k]? = some e) : (rowsW ths T ls j)[k]? = some e := by
  obtain ⟨m, h1⟩ := rowsW_le (ths := ths) (T := T) (ls := ls) h
  rw [h1, List.getElem?_append_left (List.getElem?_eq_some_iff.mp hk).1]
  exact hk
/-- what a row of letters leads to -/
def runW (T : TT) : Str → List Str → Tg × Str
  | h, [] => ([], h)
  | h, x :: xs => ((T h x).1 ++ (runW T (T h x).2 xs).1, (runW T (T h x).2 xs).2)
theorem runW_snoc : ∀ (xs : List Str) (h x : Str), runW T h (xs ++ [x]) = ((runW T h xs).1 ++ (T (runW T h xs).2 x).1, (T (runW T h xs).2 x).2)
  | [], h, x => by
    show ((T h x).1 ++ [], (T h x).2) = ([] ++ (T h x).1, (T h x).2)
    rw [List.append_nil, List.nil_append]
  | y :: xs, h, x => by
    show ((T h y).1 ++ (runW T (T h y).2 (xs ++ [x])).1, (runW T (T h y).2 (xs ++ [x])).2) = (((T h y).1 ++ (runW T (T h y).2 xs).1) ++ _, _)
    rw [runW_snoc xs _ x, List.append_assoc]
    rfl
theorem runW_app : ∀ (xs ys : List Str) (h : Str), runW T h (xs ++ ys) = ((runW T h xs).1 ++ (runW T (runW T h xs).2 ys).1, (runW T (runW T h xs).2 ys).2)
  | [], ys, h => by
    show runW T h ys = ([] ++ (runW T h ys).1, (runW T h ys).2)
    rw [List.nil_append]
  | y :: xs, ys, h => by
    show ((T h y).1 ++ (runW T (T h y).2 (xs ++ ys)).1, (runW T (T h y).2 (xs ++ ys)).2) = _
    rw [runW_app xs ys _, ← List.append_assoc]
    rfl
structure TOk (L : Str) (T : TT) (Re : Str → Prop) : Prop where
  z : Re S0
  st : ∀ s x, Re s → IsLet L x → IsLet L (T s x).2 ∧ Re (T s x).2
  sd : ∀ s, Re s → IsSide L s
structure GoodW (L : Str) (ths : Tg) (T : TT) (Re : Str → Prop) (q : List Ent) : Prop where
  nd : (q.map keyE).Nodup
  z : q[0]? = some (S0, 0, S0)
  each : ∀ k e, q[k]? = some e → Re e.1 ∧ e.2.1 ≤ ths.length ∧ WordOk L e.2.2 ∧ e.2.2.length ≤ k ∧ (0 < k → 1 ≤ e.2.2.length ∧ IsLet L e.1) ∧ runW T S0 (letsOf e.2.2) = (ths.take e.2.1, e.1)
variable {L : Str} {Re : Str → Prop}
theorem fits_len {e : Ent} {x : Str} (h : fits ths T e x = true) (le : e.2.1 ≤ ths.length) : e.2.1 + (T e.1 x).1.length ≤ ths.length := by
  have h := congrArg List.length (of_decide_eq_true h)
  rw [List.length_take, List.length_drop] at h
  omega
theorem word_snoc {L w x : Str} (h : WordOk L w) (hx : IsLet L x) : WordOk L (w ++ x) := by
  obtain ⟨c, hc, rfl⟩ := hx
  intro d hd
  have : d ∈ (w.cps ++ (sg c).cps).toList := hd
  rw [Array.toList_append] at this
  rcases List.mem_append.mp this with m | m
  · exact h d m
  · have : d = c := by simpa [sg] using m
    rw [this]
    exact hc
theorem goodW_step (t : TOk L T Re) {q : List Ent} {e : Ent} {i : Nat} {x : Str} (g : GoodW L ths T Re q) (hi : q[i]? = some e) (hx : IsLet L x) : GoodW L ths T Re (stepW ths T e q x) := by
  unfold stepW
  split
  · rename_i c
    obtain ⟨c1, c2⟩ := c
    obtain ⟨g1, g2, g3, g4, g5, g6⟩ := g.each i e hi
    have il := (List.getElem?_eq_some_iff.mp hi).1
    have s1 := t.st e.1 x g1 hx
    refine ⟨?_, ?_, fun k e' h => ?_⟩
    · rw [List.map_append]
      refine List.nodup_append.mpr ⟨g.nd, by simp, ?_⟩
      intro a ha b hb
      simp at hb
      subst hb
      intro e2
      subst e2
      exact c2 ha
    · rw [List.getElem?_append_left (List.getElem?_eq_some_iff.mp g.z).1]
      exact g.z
    · by_cases hk : k < q.length
      · rw [List.getElem?_append_left hk] at h
        exact g.each k e' h
      · have hl := (List.getElem?_eq_some_iff.mp h).1
        rw [List.length_append] at hl
        have hk2 : k = q.length := by
          simp at hl
          omega
        subst hk2
        rw [List.getElem?_append_right (Nat.le_refl _)] at h
        simp at h
        subst h
        obtain ⟨c, hc, rfl⟩ := id hx
        have al : (e.2.2 ++ sg c).length = e.2.2.length + 1 := app_len _ _
        refine ⟨s1.2, fits_len c1 g2, word_snoc g3 hx, ?_, fun _ => ⟨?_, s1.1⟩, ?_⟩
        · show (e.2.2 ++ sg c).length ≤ _
          omega
        · show 1 ≤ (e.2.2 ++ sg c).length
          omega
        · show runW T S0 (letsOf (e.2.2 ++ sg c)) = (ths.take (e.2.1 + _), _)
          rw [lets_app, lets_sg, runW_snoc, g6, List.take_add, of_decide_eq_true c1]
          rfl
  · exact g
theorem goodW_fold (t : TOk L T Re) {e : Ent} {i : Nat} : ∀ (xs : List Str) {q : List Ent}, GoodW L ths T Re q → q[i]? = some e → (∀ x ∈ xs, IsLet L x) → GoodW L ths T Re (xs.foldl (stepW ths T e) q)
  | [], q, g, _, _ => g
  | x :: xs, q, g, hi, hx => by
    rw [List.foldl_cons]
    have g1 := goodW_step t g hi (hx x List.mem_cons_self)
    obtain ⟨m, h1⟩ := stepW_app (ths := ths) (T := T) e q x
    refine goodW_fold (i := i) t xs g1 ?_ fun y hy => hx y (List.mem_cons_of_mem _ hy)
    rw [h1, List.getElem?_append_left (List.getElem?_eq_some_iff.mp hi).1]
    exact hi
theorem goodW_zero (t : TOk L T Re) : GoodW L ths T Re [(S0, 0, S0)] := by
  refine ⟨by simp, rfl, fun k e h => ?_⟩
  cases k with
  | zero =>
    cases h
    exact ⟨t.z, Nat.zero_le _, (fun c hc => by cases hc), Nat.zero_le _, (fun z => absurd z (by decide)), rfl⟩
  | succ k => simp at h
theorem goodW_rows (t : TOk L T Re) (hl : ∀ x ∈ ls, IsLet L x) : ∀ i, GoodW L ths T Re (rowsW ths T ls i)
  | 0 => goodW_zero t
  | i + 1 => by
    have g := goodW_rows t hl i
    show GoodW L ths T Re (match (rowsW ths T ls i)[i]? with | none => rowsW ths T ls i | some e => ls.foldl (stepW ths T e) (rowsW ths T ls i))
    cases h : (rowsW ths T ls i)[i]? with
    | none => exact g
    | some e => exact goodW_fold t ls g h hl
theorem goodW_len (ok : LetOk L) (t : TOk L T Re) {q : List Ent} (g : GoodW L ths T Re q) : q.length ≤ 9 * (ths.length + 1) := by
  have sub : ∀ x ∈ q.map keyE, x ∈ (S0 :: letsOf L).flatMap fun s => (List.range (ths.length + 1)).map fun n => (s, n) := by
    intro x hx
    obtain ⟨e, hm, rfl⟩ := List.mem_map.mp hx
    obtain ⟨k, hk⟩ := List.getElem?_of_mem hm
    obtain ⟨g1, g2, _⟩ := g.each k e hk
    refine List.mem_flatMap.mpr ⟨e.1, side_in (t.sd _ g1), List.mem_map.mpr ⟨e.2.1, List.mem_range.mpr (by omega), rfl⟩⟩
  have h1 := nodup_len _ _ g.nd sub
  have h2 : ∀ xs : List Str, (xs.flatMap fun s => (List.range (ths.length + 1)).map fun n => (s, n)).length = xs.length * (ths.length + 1) := by
    intro xs
    induction xs with
    | nil => simp
    | cons x xs ih =>
      rw [List.flatMap_cons, List.length_append, ih, List.length_map, List.length_range, List.length_cons, Nat.succ_mul]
      omega
  rw [h2, List.length_map, List.length_cons, lets_len] at h1
  have h3 := let_len ok
  have h4 : (L.length + 1) * (ths.length + 1) ≤ 9 * (ths.length + 1) := Nat.mul_le_mul_right _ (by omega)
  omega
/-! ### the order of words -/
def valL (cs : List Nat) : Nat := cs.foldl (fun a c => 1000 * a + c) 0
def valW (x : Str) : Nat := valL x.cps.toList
theorem valW_snoc (w : Str) (c : Nat) : valW (w ++ sg c) = 1000 * valW w + c := by
  unfold valW valL
  rw [show (w ++ sg c).cps.toList = w.cps.toList ++ [c] from by
    show (w.cps ++ (sg c).cps).toList = _
    simp [sg], List.foldl_append]
  rfl
def SortW (q : List Ent) : Prop := ∀ (a b : Nat) (ea eb : Ent), q[a]? = some ea → q[b]? = some eb → a < b → valW ea.2.2 < valW eb.2.2
theorem sortW_fold {e : Ent} {B : Nat} : ∀ (cs : List Nat) (q : List Ent) (m : Nat), SortW q → (∀ e' ∈ q, valW e'.2.2 < 1000 * valW e.2.2 + m) → cs.Pairwise (· < ·) → (∀ c ∈ cs, m ≤ c ∧ c < B) → m ≤ B → SortW ((cs.map sg).foldl (stepW ths T e) q) ∧
    ∀ e' ∈ (cs.map sg).foldl (stepW ths T e) q, valW e'.2.2 < 1000 * valW e.2.2 + B
  | [], q, m, s, h, _, _, hm => ⟨s, fun e' he => by have := h e' he; omega⟩
  | c :: cs, q, m, s, h, p, hc, hm => by
    obtain ⟨p1, p2⟩ := List.pairwise_cons.mp p
    obtain ⟨c1, c2⟩ := hc c List.mem_cons_self
    rw [List.map_cons, List.foldl_cons]
    refine sortW_fold cs (stepW ths T e q (sg c)) (c + 1) ?_ ?_ p2 (fun d hd => ⟨p1 d hd, (hc d (List.mem_cons_of_mem _ hd)).2⟩) c2
    · unfold stepW
      split
      · intro a b ea eb ha hb lt
        by_cases hb2 : b < q.length
        · rw [List.getElem?_append_left hb2] at hb
          rw [List.getElem?_append_left (by omega)] at ha
          exact s a b ea eb ha hb lt
        · have hl := (List.getElem?_eq_some_iff.mp hb).1
          rw [List.length_append] at hl
          have hk2 : b = q.length := by
            simp at hl
            omega
          subst hk2
          rw [List.getElem?_append_right (Nat.le_refl _)] at hb
          simp at hb
          subst hb
          rw [List.getElem?_append_left lt] at ha
          have h1 := h ea (List.mem_of_getElem? ha)
          show _ < valW (e.2.2 ++ sg c)
          rw [valW_snoc]
          omega
      · exact s
    · unfold stepW
      intro e' he
      split at he
      · rcases List.mem_append.mp he with m1 | m1
        · have := h e' m1
          omega
        · rw [List.mem_singleton.mp m1]
          show valW (e.2.2 ++ sg c) < _
          rw [valW_snoc]
          omega
      · have := h e' he
        omega
theorem sortW_rows (ok : LetOk L) (hls : ls = letsOf L) : ∀ i, SortW (rowsW ths T ls i) ∧ ∀ e, (rowsW ths T ls i)[i]? = some e → ∀ e' ∈ rowsW ths T ls i, valW e'.2.2 < 1000 * valW e.2.2 + 1
  | 0 => by
    refine ⟨fun a b ea eb ha hb lt => ?_, fun e he e' he' => ?_⟩
    · have h1 := (List.getElem?_eq_some_iff.mp hb).1
      have h1 : b < 1 := h1
      omega
    · have he' : e' ∈ [((S0, 0, S0) : Ent)] := he'
      rw [List.mem_singleton.mp he']
      show valW S0 < _
      have : valW S0 = 0 := rfl
      omega
  | i + 1 => by
    obtain ⟨s, b⟩ := sortW_rows ok hls i
    show SortW (match (rowsW ths T ls i)[i]? with | none => rowsW ths T ls i | some e => ls.foldl (stepW ths T e) (rowsW ths T ls i)) ∧
      ∀ e, (match (rowsW ths T ls i)[i]? with | none => rowsW ths T ls i | some e => ls.foldl (stepW ths T e) (rowsW ths T ls i))[i + 1]? = some e →
        ∀ e' ∈ (match (rowsW ths T ls i)[i]? with | none => rowsW ths T ls i | some e => ls.foldl (stepW ths T e) (rowsW ths T ls i)), valW e'.2.2 < 1000 * valW e.2.2 + 1
    cases h : (rowsW ths T ls i)[i]? with
    | none =>
      refine ⟨s, fun e he => ?_⟩
      have h1 := List.getElem?_eq_none_iff.mp h
      have he : (rowsW ths T ls i)[i + 1]? = some e := he
      have h2 := (List.getElem?_eq_some_iff.mp he).1
      omega
    | some e =>
      obtain ⟨s2, b2⟩ := sortW_fold (ths := ths) (T := T) (e := e) (B := 123) L.cps.toList (rowsW ths T ls i) 1 s (b e h) ok.asc (fun c hc => by have := ok.low c hc; omega) (by decide)
      rw [hls] at *
      refine ⟨s2, fun e2 he2 e' he' => ?_⟩
      have b3 := b2 e' he'
      obtain ⟨m, h1⟩ := foldW_app (ths := ths) (T := T) e (letsOf L) (rowsW ths T (letsOf L) i)
      have hi : ((letsOf L).foldl (stepW ths T e) (rowsW ths T (letsOf L) i))[i]? = some e := by
        rw [h1, List.getElem?_append_left (List.getElem?_eq_some_iff.mp h).1]
        exact h
      have := s2 i (i + 1) e e2 hi he2 (Nat.lt_succ_self i)
      omega
/-- children are there, by words that are no greater -/
theorem childW_fold {e : Ent} : ∀ (cs : List Nat) (q : List Ent) (m : Nat), (∀ e' ∈ q, valW e'.2.2 < 1000 * valW e.2.2 + m) → cs.Pairwise (· < ·) → (∀ c ∈ cs, m ≤ c) → ∀ c ∈ cs, fits ths T e (sg c) = true →
    ∃ e2 ∈ (cs.map sg).foldl (stepW ths T e) q, keyE e2 = keyE (childE T e (sg c)) ∧ valW e2.2.2 ≤ 1000 * valW e.2.2 + c
  | [], q, m, h, _, _, c, hc, _ => nomatch hc
  | d :: cs, q, m, h, p, hm, c, hc, f => by
    obtain ⟨p1, p2⟩ := List.pairwise_cons.mp p
    have hd := hm d List.mem_cons_self
    rw [List.map_cons, List.foldl_cons]
    have h2 : ∀ e' ∈ stepW ths T e q (sg d), valW e'.2.2 < 1000 * valW e.2.2 + (d + 1) := by
      unfold stepW
      intro e' he
      split at he
      · rcases List.mem_append.mp he with m1 | m1
        · have := h e' m1
          omega
        · rw [List.mem_singleton.mp m1]
          show valW (e.2.2 ++ sg d) < _
          rw [valW_snoc]
          omega
      · have := h e' he
        omega
    by_cases z : c = d
    · subst z
      obtain ⟨m2, e3⟩ := foldW_app (ths := ths) (T := T) e (cs.map sg) (stepW ths T e q (sg c))
      have h3 : ∃ e2 ∈ stepW ths T e q (sg c), keyE e2 = keyE (childE T e (sg c)) ∧ valW e2.2.2 ≤ 1000 * valW e.2.2 + c := by
        unfold stepW
        by_cases k : keyE (childE T e (sg c)) ∈ q.map keyE
        · rw [if_neg (fun z => z.2 k)]
          obtain ⟨e2, he2, k2⟩ := List.mem_map.mp k
          have := h e2 he2
          exact ⟨e2, he2, k2, by omega⟩
        · rw [if_pos ⟨f, k⟩]
          refine ⟨childE T e (sg c), List.mem_append_right _ (List.mem_singleton.mpr rfl), rfl, ?_⟩
          show valW (e.2.2 ++ sg c) ≤ _
          rw [valW_snoc]
          exact Nat.le_refl _
      obtain ⟨e2, he2, k2, v2⟩ := h3
      exact ⟨e2, by rw [e3]; exact List.mem_append_left _ he2, k2, v2⟩
    · have hc2 : c ∈ cs := by
        rcases List.mem_cons.mp hc with e1 | m1
        · exact absurd e1 z
        · exact m1
      exact childW_fold cs _ (d + 1) h2 p2 (fun y hy => p1 y hy) c hc2 f
theorem childW (ok : LetOk L) (hls : ls = letsOf L) {j : Nat} {e : Ent} (hj : (rowsW ths T ls j)[j]? = some e) {c : Nat} (hc : c ∈ L.cps.toList) (f : fits ths T e (sg c) = true) :
    ∃ e2 ∈ rowsW ths T ls (j + 1), keyE e2 = keyE (childE T e (sg c)) ∧ valW e2.2.2 ≤ valW (e.2.2 ++ sg c) := by
  obtain ⟨_, b⟩ := sortW_rows (ths := ths) (T := T) ok hls j
  have h := childW_fold (ths := ths) (T := T) (e := e) L.cps.toList (rowsW ths T ls j) 1 (b e hj) ok.asc (fun c hc => by have := ok.low c hc; omega) c hc f
  have hr : rowsW ths T ls (j + 1) = (L.cps.toList.map sg).foldl (stepW ths T e) (rowsW ths T ls j) := by
    show (match (rowsW ths T ls j)[j]? with | none => rowsW ths T ls j | some e => ls.foldl (stepW ths T e) (rowsW ths T ls j)) = _
    rw [hj]
    subst hls
    rfl
  rw [hr, valW_snoc]
  exact h
/-- the word told is the least one -/
theorem least_word (ok : LetOk L) (t : TOk L T Re) (hls : ls = letsOf L) {N : Nat} {v : V} (h : EndW ths T ls N v) {w : Str} (hw : WordOk L w) (h1 : 1 ≤ w.length) (hr : (runW T S0 (letsOf w ++ [S0])).1 = ths) :
    ∃ u, v = .str u ∧ valW u ≤ valW w := by
  have hlet : ∀ x ∈ ls, IsLet L x := fun x hx => by
    rw [hls] at hx
    obtain ⟨c, hc, e⟩ := List.mem_map.mp hx
    exact ⟨c, hc, e.symm⟩
  have g := goodW_rows (ths := ths) t hlet
  obtain ⟨so, _⟩ := sortW_rows (ths := ths) (T := T) (L := L) ok hls N
  have so' : ∀ M, N ≤ M → SortW (rowsW ths T ls M) := fun M _ => (sortW_rows (ths := ths) (T := T) (L := L) ok hls M).1
  -- prefixes
  have key : ∀ (ys : List Nat) (zs : List Nat), w.cps.toList = ys ++ zs →
      (∃ e, (rowsW ths T ls N)[N]? = some e ∧ valW e.2.2 ≤ valL ys) ∨ ∃ p e, p < N ∧ (rowsW ths T ls p)[p]? = some e ∧ valW e.2.2 ≤ valL ys ∧ ∃ n, runW T S0 (ys.map sg) = (ths.take n, e.1) ∧ e.2.1 = n ∧ n ≤ ths.length := by
    suffices K : ∀ (k : Nat) (ys zs : List Nat), ys.length = k → w.cps.toList = ys ++ zs →
      (∃ e, (rowsW ths T ls N)[N]? = some e ∧ valW e.2.2 ≤ valL ys) ∨ ∃ p e, p < N ∧ (rowsW ths T ls p)[p]? = some e ∧ valW e.2.2 ≤ valL ys ∧ ∃ n, runW T S0 (ys.map sg) = (ths.take n, e.1) ∧ e.2.1 = n ∧ n ≤ ths.length from fun ys zs => K _ ys zs rfl
    intro k
    induction k with
    | zero =>
      intro ys zs hk _
      have hk := List.length_eq_zero_iff.mp hk
      subst hk
      by_cases n0 : N = 0
      · subst n0
        exact .inl ⟨(S0, 0, S0), rfl, Nat.le_refl _⟩
      · exact .inr ⟨0, (S0, 0, S0), by omega, rfl, Nat.le_refl _, 0, rfl, rfl, Nat.zero_le _⟩
    | succ k ih =>
      intro ys zs hk e0
      have hd := List.dropLast_concat_getLast (l := ys) (by intro z; rw [z] at hk; cases hk)
      have hkl : ys.dropLast.length = k := by
        rw [List.length_dropLast]
        omega
      obtain ⟨ys', hy'⟩ : ∃ z, z = ys.dropLast := ⟨_, rfl⟩
      rw [← hy'] at hd hkl
      clear hy'
      generalize ys.getLast _ = c at hd
      subst hd
      clear hk
      have vs : valL (ys' ++ [c]) = 1000 * valL ys' + c := by
        unfold valL
        rw [List.foldl_append]
        rfl
      rcases ih ys' (c :: zs) hkl (by rw [e0, List.append_assoc]; rfl) with ⟨e, he, le⟩ | ⟨p, e, pN, hp, le, n, rn, en, nl⟩
      · exact .inl ⟨e, he, by omega⟩
      · subst en
        have hc : c ∈ L.cps.toList := hw c (by rw [e0]; simp)
        have f : fits ths T e (sg c) = true := by
          refine decide_eq_true ?_
          have hw2 : letsOf w = (ys'.map sg ++ [sg c]) ++ zs.map sg := by
            unfold letsOf
            rw [e0, List.map_append, List.map_append]
            rfl
          rw [hw2, List.append_assoc, List.append_assoc, runW_app, rn] at hr
          have hr : ths.take e.2.1 ++ ((T e.1 (sg c)).1 ++ (runW T (T e.1 (sg c)).2 (zs.map sg ++ [S0])).1) = ths := hr
          have h5 : ths.drop e.2.1 = (T e.1 (sg c)).1 ++ (runW T (T e.1 (sg c)).2 (zs.map sg ++ [S0])).1 := by
            have h6 := congrArg (List.drop e.2.1) hr
            rw [List.drop_append, List.drop_take, Nat.sub_self, List.take_zero, List.nil_append, List.length_take, Nat.min_eq_left nl, Nat.sub_self, List.drop_zero] at h6
            exact h6.symm
          rw [h5, List.take_left]
        obtain ⟨e2, m2, k2, v2⟩ := childW ok hls hp hc f
        obtain ⟨p2, hp2⟩ := List.getElem?_of_mem m2
        have v2 : valW e2.2.2 ≤ 1000 * valW e.2.2 + c := by
          rw [valW_snoc] at v2
          exact v2
        have hp2N : (rowsW ths T ls N)[p2]? = some e2 := rowsW_get (by omega) hp2
        by_cases lt : p2 < N
        · refine .inr ⟨p2, e2, lt, ?_, by omega, e.2.1 + (T e.1 (sg c)).1.length, ?_, (Prod.ext_iff.mp k2).2, fits_len f nl⟩
          · obtain ⟨e3, h3, _⟩ := h.1 p2 lt
            have := rowsW_get (ths := ths) (T := T) (ls := ls) (Nat.le_of_lt lt) h3
            rw [hp2N] at this
            rw [h3, ← this]
          · rw [List.map_append, List.map_cons, List.map_nil, runW_snoc, rn, List.take_add, of_decide_eq_true f]
            show (_, (T e.1 (sg c)).2) = (_, e2.1)
            have k1 : e2.1 = (T e.1 (sg c)).2 := (Prod.ext_iff.mp k2).1
            rw [k1]
        · have ll := (List.getElem?_eq_some_iff.mp hp2N).1
          obtain ⟨e3, h3⟩ : ∃ e3, (rowsW ths T ls N)[N]? = some e3 := ⟨_, List.getElem?_eq_getElem (by omega)⟩
          refine .inl ⟨e3, h3, ?_⟩
          by_cases z : p2 = N
          · subst z
            rw [hp2N] at h3
            cases h3
            omega
          · have := so N p2 e3 e2 h3 hp2N (by omega)
            omega
  rcases key w.cps.toList [] (List.append_nil _).symm with ⟨e, he, le⟩ | ⟨p, e, pN, hp, le, n, rn, en, nl⟩
  · rcases h.2 with ⟨e', h3, h4, rfl⟩ | ⟨h3, _⟩
    · rw [he] at h3
      cases h3
      exact ⟨_, rfl, le⟩
    · rw [he] at h3
      cases h3
  · exfalso
    subst en
    obtain ⟨e', h3, h4⟩ := h.1 p pN
    rw [hp] at h3
    cases h3
    have rn : runW T S0 (letsOf w) = (ths.take e.2.1, e.1) := rn
    rw [runW_snoc, rn] at hr
    have hr : ths.take e.2.1 ++ (T e.1 S0).1 = ths := hr
    have h5 : (T e.1 S0).1 = ths.drop e.2.1 := by
      have h6 := congrArg (List.drop e.2.1) hr
      rw [List.drop_append, List.drop_take, Nat.sub_self, List.take_zero, List.nil_append, List.length_take, Nat.min_eq_left nl, Nat.sub_self, List.drop_zero] at h6
      exact h6
    have ne : e.2.2 ≠ S0 := by
      intro z
      have e1 : e.1 ≠ S0 := by
        have lw : 1 ≤ (letsOf w).length := by
          rw [lets_len]
          exact h1
        obtain ⟨l0, x, e0⟩ : ∃ l0 x, letsOf w = l0 ++ [x] := by
          have := List.dropLast_concat_getLast (l := letsOf w) (by intro z; rw [z] at lw; exact absurd lw (by decide))
          exact ⟨_, _, this.symm⟩
        have hx : ∀ y ∈ letsOf w, IsLet L y := fun y hy => by
          obtain ⟨c, hc, e⟩ := List.mem_map.mp hy
          exact ⟨c, hw c hc, e.symm⟩
        have re : ∀ (xs : List Str), (∀ y ∈ xs, IsLet L y) → ∀ s, Re s → Re (runW T s xs).2 := by
          intro xs
          induction xs with
          | nil => intro _ s hs; exact hs
          | cons y ys ih => intro hy s hs; exact ih (fun z hz => hy z (List.mem_cons_of_mem _ hz)) _ (t.st s y hs (hy y List.mem_cons_self)).2
        rw [e0] at hx
        have r0 := re l0 (fun y hy => hx y (List.mem_append_left _ hy)) S0 t.z
        have := (t.st _ x r0 (hx x (List.mem_append_right _ (List.mem_singleton.mpr rfl)))).1
        rw [e0, runW_snoc] at rn
        have e2 := (Prod.ext_iff.mp rn).2
        have e2 : (T (runW T S0 l0).2 x).2 = e.1 := e2
        rw [e2] at this
        obtain ⟨c, hc, e3⟩ := this
        rw [e3]
        intro z
        have := congrArg (fun x : Str => x.cps.size) z
        cases this
      have ge := (g p).each p e hp
      by_cases p0 : p = 0
      · subst p0
        have := (g 0).z
        rw [hp] at this
        cases this
        exact e1 rfl
      · have := (ge.2.2.2.2.1 (by omega)).1
        rw [z] at this
        exact absurd this (by decide)
    unfold goalW at h4
    rw [decide_eq_true ne, decide_eq_true h5] at h4
    cases h4
end
end K24

namespace K24
open PySem PySem.Spec PyProof.Rows L2
/-! ### programs that are short -/
def ShortQ (L : Str) (qs : List Rule) : Prop := ∀ i, StopB (nx qs) (letsOf L) i → ¬ deadB qs (psB L qs i) ∧ (psB L qs i).any (longB qs) = false
noncomputable def tw (qs : List Rule) : TT := fun a b => (ot qs a b).getD ([], S0)
def ReB (L : Str) (qs : List Rule) (s : Str) : Prop := ∃ i, StopB (nx qs) (letsOf L) i ∧ s ∈ (rowsB (nx qs) (letsOf L) i).map (·.1)
theorem lets_is {L : Str} : ∀ x ∈ letsOf L, IsLet L x := fun x hx => by
  obtain ⟨c, hc, e⟩ := List.mem_map.mp hx
  exact ⟨c, hc, e.symm⟩
theorem let_in {L x : Str} (h : IsLet L x) : x ∈ letsOf L := by
  obtain ⟨c, hc, e⟩ := h
  exact List.mem_map.mpr ⟨c, hc, e.symm⟩
theorem stop_ex {L : Str} {qs : List Rule} (ok : ProgOk L qs) : ∃ i, StopB (nx qs) (letsOf L) i := by
  have key : ∀ n, (∀ j, j < n → j < (rowsB (nx qs) (letsOf L) j).length) ∨ ∃ i, StopB (nx qs) (letsOf L) i := by
    intro n
    induction n with
    | zero => exact .inl fun j h => absurd h (Nat.not_lt_zero j)
    | succ n ih =>
      rcases ih with h | h
      · by_cases c : n < (rowsB (nx qs) (letsOf L) n).length
        · refine .inl fun j hj => ?_
          rcases Nat.lt_succ_iff_lt_or_eq.mp hj with l | e
          · exact h j l
          · rw [e]
            exact c
        · exact .inr ⟨n, h, c⟩
      · exact .inr h
  rcases key 10 with h | h
  · have h1 := h 9 (by decide)
    have h2 := good_len ok (good_rows (qs := qs) (ls := letsOf L) ok lets_is 9)
    omega
  · exact h
theorem stepB_app (T : Str → Str → Option Str) (s wd : Str) (ws : WD) (x : Str) : ∃ more, stepB T s wd ws x = ws ++ more := by
  unfold stepB
  split
  · exact ⟨[], (List.append_nil _).symm⟩
  · split
    · exact ⟨[], (List.append_nil _).symm⟩
    · exact ⟨_, rfl⟩
theorem foldB_app (T : Str → Str → Option Str) (s wd : Str) : ∀ (xs : List Str) (ws : WD), ∃ more, xs.foldl (stepB T s wd) ws = ws ++ more
  | [], ws => ⟨[], (List.append_nil _).symm⟩
  | x :: xs, ws => by
    obtain ⟨m1, h1⟩ := stepB_app T s wd ws x
    obtain ⟨m2, h2⟩ := foldB_app T s wd xs (stepB T s wd ws x)
    exact ⟨m1 ++ m2, by rw [List.foldl_cons, h2, h1, List.append_assoc]⟩
theorem rowsB_succ (T : Str → Str → Option Str) (ls : List Str) (i : Nat) : ∃ more, rowsB T ls (i + 1) = rowsB T ls i ++ more := by
  show ∃ more, (match (rowsB T ls i)[i]? with | none => rowsB T ls i | some p => turnB T ls (rowsB T ls i) p) = _
  cases (rowsB T ls i)[i]? with
  | none => exact ⟨[], (List.append_nil _).symm⟩
  | some p => exact foldB_app T p.1 p.2 ls _
theorem rowsB_le (T : Str → Str → Option Str) (ls : List Str) {i j : Nat} (h : i ≤ j) : ∃ more, rowsB T ls j = rowsB T ls i ++ more := by
  induction j with
  | zero =>
    have : i = 0 := by omega
    subst this
    exact ⟨[], (List.append_nil _).symm⟩
  | succ j ih =>
    by_cases e : i = j + 1
    · subst e
      exact ⟨[], (List.append_nil _).symm⟩
    · obtain ⟨m, h1⟩ := ih (by omega)
      obtain ⟨m2, h2⟩ := rowsB_succ T ls j
      exact ⟨m ++ m2, by rw [h2, h1, List.append_assoc]⟩
theorem foldB_has (T : Str → Str → Option Str) (s wd : Str) {t : Str} : ∀ (xs : List Str) (ws : WD) {x : Str}, x ∈ xs → T s x = some t → t ∈ (xs.foldl (stepB T s wd) ws).map (·.1)
  | [], _, _, h, _ => nomatch h
  | y :: xs, ws, x, h, e => by
    rw [List.foldl_cons]
    rcases List.mem_cons.mp h with z | m
    · subst z
      obtain ⟨m2, h2⟩ := foldB_app T s wd xs (stepB T s wd ws x)
      rw [h2, List.map_append]
      refine List.mem_append_left _ ?_
      unfold stepB
      rw [e]
      show t ∈ (if t ∈ ws.map (·.1) then ws else ws ++ [(t, wd ++ x)]).map (·.1)
      split
      · assumption
      · rw [List.map_append]
        exact List.mem_append_right _ (by simp)
    · exact foldB_has T s wd xs _ m e
theorem stop_closed {T : Str → Str → Option Str} {ls : List Str} {n : Nat} (h : StopB T ls n) {s x t : Str} (hs : s ∈ (rowsB T ls n).map (·.1)) (hx : x ∈ ls) (e : T s x = some t) : t ∈ (rowsB T ls n).map (·.1) := by
  obtain ⟨⟨s', wd⟩, hm, rfl⟩ := List.mem_map.mp hs
  obtain ⟨k, hk⟩ := List.getElem?_of_mem hm
  have kl := (List.getElem?_eq_some_iff.mp hk).1
  have kn : k < n := by have := h.2; omega
  have k1 := h.1 k kn
  obtain ⟨m, e1⟩ := rowsB_le T ls (Nat.le_of_lt kn)
  have hk2 : (rowsB T ls k)[k]? = some (s', wd) := by
    rw [e1, List.getElem?_append_left k1] at hk
    exact hk
  have e3 : rowsB T ls (k + 1) = turnB T ls (rowsB T ls k) (s', wd) := by
    show (match (rowsB T ls k)[k]? with | none => rowsB T ls k | some p => turnB T ls (rowsB T ls k) p) = _
    rw [hk2]
  obtain ⟨m2, e2⟩ := rowsB_le T ls (show k + 1 ≤ n by omega)
  have := foldB_has T s' wd ls (rowsB T ls k) hx e
  rw [e2, List.map_append]
  refine List.mem_append_left _ ?_
  rw [e3]
  exact this
/-! ### letters stay letters, things are of the program -/
def ThOk (L : Str) : Thing Str → Prop
  | .sign x => IsLet L x
  | .kern n => -99 ≤ n ∧ n ≤ 99
section
variable {L : Str} {qs : List Rule}
theorem tell_ok {a : Str} (h : IsSide L a) : ∀ t ∈ tell S0 a, ThOk L t := by
  intro t ht
  unfold tell at ht
  split at ht
  · cases ht
  · rename_i n
    rw [List.mem_singleton.mp ht]
    rcases h with z | z
    · exact absurd z n
    · exact z
theorem evs_ok {g : Str → Str → Option (Tg × Str)} (ih : ∀ a b r, IsSide L a → IsSide L b → g a b = some r → (∀ t ∈ r.1, ThOk L t) ∧ IsSide L r.2 ∧ (IsLet L b → IsLet L r.2)) :
    ∀ (xs : List Str) (a : Str) (r), IsSide L a → (∀ x ∈ xs, IsSide L x) → evs g a xs = some r → (∀ t ∈ r.1, ThOk L t) ∧ ((∀ x ∈ xs, IsLet L x) → (xs = [] → IsLet L a) → IsLet L r.2)
  | [], a, r, ha, _, q => by
    have z : r = ([], a) := (Option.some.inj q).symm
    subst z
    refine ⟨fun t ht => ?_, fun _ h => h rfl⟩
    cases ht
  | x :: xs, a, r, ha, hx, q => by
    rw [evs_cons] at q
    cases e1 : g a x with
    | none => rw [e1] at q; cases q
    | some r1 =>
      rw [e1] at q
      dsimp only at q
      cases e2 : evs g r1.2 xs with
      | none => rw [e2] at q; cases q
      | some r2 =>
        rw [e2] at q
        have z : r = (r1.1 ++ r2.1, r2.2) := (Option.some.inj q).symm
        subst z
        obtain ⟨i1, i2, i3⟩ := ih a x r1 ha (hx x List.mem_cons_self) e1
        obtain ⟨j1, j2⟩ := evs_ok ih xs r1.2 r2 i2 (fun y hy => hx y (List.mem_cons_of_mem _ hy)) e2
        refine ⟨fun t ht => ?_, fun h _ => j2 (fun y hy => h y (List.mem_cons_of_mem _ hy)) fun _ => i3 (h x List.mem_cons_self)⟩
        rcases List.mem_append.mp ht with m | m
        · exact i1 t m
        · exact j1 t m
theorem tells_ok {as : List Str} (h : ∀ a ∈ as, IsSide L a) : ∀ t ∈ tells S0 as, ThOk L t := by
  intro t ht
  obtain ⟨a, ha, h2⟩ := List.mem_flatMap.mp ht
  exact tell_ok (h a ha) t h2
theorem ev_ok (ok : ProgOk L qs) : ∀ (n : Nat) (a b : Str) (r), IsSide L a → IsSide L b → ev S0 (fOf qs) n a b = some r → (∀ t ∈ r.1, ThOk L t) ∧ IsSide L r.2 ∧ (IsLet L b → IsLet L r.2)
  | 0, _, _, _, _, _, q => by cases q
  | n + 1, a, b, r, ha, hb, q => by
    have sd := ev_side ok (n + 1) a b r ha hb q
    have q : came S0 (ev S0 (fOf qs) n) a b (fOf qs a b) = some r := q
    cases hf : fOf qs a b with
    | none =>
      rw [hf] at q
      have z : r = (tell S0 a, b) := (Option.some.inj q).symm
      subst z
      exact ⟨tell_ok ha, sd, id⟩
    | some d =>
      rw [hf] at q
      cases d with
      | kern c =>
        have z : r = (tell S0 a ++ [.kern c], b) := (Option.some.inj q).symm
        subst z
        refine ⟨fun t ht => ?_, sd, id⟩
        rcases List.mem_append.mp ht with m | m
        · exact tell_ok ha t m
        · rw [List.mem_singleton.mp m]
          obtain ⟨q', hq, e1, e2, e3⟩ := f_rule hf
          have d := (ok.rules q' hq).d
          rw [e3] at d
          exact d
      | put x l r' on =>
        unfold came at q
        dsimp only at q
        have hs := row_side ok ha hb hf
        obtain ⟨q', hq, e3', e4, e5⟩ := f_rule hf
        have dd := (ok.rules q' hq).d
        rw [e5] at dd
        have lx : IsLet L x := dd.1
        have lon := row_on ok hf
        cases e1 : (rowOf a b x l r').drop on with
        | nil => rw [e1] at q; cases q
        | cons y ys =>
          rw [e1] at q
          dsimp only at q
          have sub : ∀ z ∈ y :: ys, IsSide L z := fun z hz => hs z (List.mem_of_mem_drop (by rw [e1]; exact hz))
          cases e2 : evs (ev S0 (fOf qs) n) y ys with
          | none => rw [e2] at q; cases q
          | some r2 =>
            rw [e2] at q
            have z : r = (tells S0 ((rowOf a b x l r').take on) ++ r2.1, r2.2) := (Option.some.inj q).symm
            subst z
            obtain ⟨j1, j2⟩ := evs_ok (fun a b r => ev_ok ok n a b r) ys y r2 (sub y List.mem_cons_self) (fun z hz => sub z (List.mem_cons_of_mem _ hz)) e2
            refine ⟨fun t ht => ?_, sd, fun lb => ?_⟩
            · rcases List.mem_append.mp ht with m | m
              · exact tells_ok (fun z hz => hs z (List.mem_of_mem_take hz)) t m
              · exact j1 t m
            · have tl : ys = (rowOf a b x l r').drop (on + 1) := by
                rw [← List.drop_drop, e1]
                rfl
              refine j2 (fun z hz => ?_) fun en => ?_
              · rw [tl] at hz
                have : z ∈ (rowOf a b x l r').drop 1 := by
                  rw [Nat.add_comm, ← List.drop_drop] at hz
                  exact List.mem_of_mem_drop hz
                cases l <;> cases r' <;> simp [rowOf] at this
                · rw [this]; exact lb
                · rw [this]; exact lx
                · rcases this with e | e
                  · rw [e]; exact lx
                  · rw [e]; exact lb
              · have ll : (rowOf a b x l r').length = on + 1 := by
                  have := congrArg List.length e1
                  rw [List.length_drop, en] at this
                  simp at this
                  omega
                have last : (rowOf a b x l r')[on]? = some y := by
                  have := congrArg (fun z => z[0]?) e1
                  rw [List.getElem?_drop] at this
                  exact this
                cases l <;> cases r' <;> simp [rowOf] at ll last
                · subst ll
                  simp at last
                  rw [← last]; exact lx
                · subst ll
                  simp at last
                  rw [← last]; exact lb
                · subst ll
                  simp at last
                  rw [← last]; exact lx
                · subst ll
                  simp at last
                  rw [← last]; exact lb
theorem goes_ok (ok : ProgOk L qs) {a b : Str} {r} (ha : IsSide L a) (hb : IsSide L b) (h : Goes S0 (fOf qs) a b r) : (∀ t ∈ r.1, ThOk L t) ∧ IsSide L r.2 ∧ (IsLet L b → IsLet L r.2) := by
  obtain ⟨n, h⟩ := h
  exact ev_ok ok n a b r ha hb h
theorem reb_side (ok : ProgOk L qs) {s : Str} (h : ReB L qs s) : IsSide L s := by
  obtain ⟨i, st, h⟩ := h
  obtain ⟨⟨s', wd⟩, hm, rfl⟩ := List.mem_map.mp h
  obtain ⟨k, hk⟩ := List.getElem?_of_mem hm
  exact ((good_rows (qs := qs) (ls := letsOf L) ok lets_is i).each k s' wd hk).1
/-- what a short program tells of a pair that words meet -/
theorem short_goes (ok : ProgOk L qs) (sh : ShortQ L qs) {s x : Str} (hs : ReB L qs s) (hx : IsSide L x) (ne : ¬ (s = S0 ∧ x = S0)) : ∃ r, Goes S0 (fOf qs) s x r ∧ tw qs s x = r ∧ r.1.length ≤ 40 := by
  obtain ⟨i, st, hs⟩ := hs
  obtain ⟨h1, h2⟩ := sh i st
  obtain ⟨⟨s', wd⟩, hm, e⟩ := List.mem_map.mp hs
  have e : s' = s := e
  subst e
  have hm2 : (s', x) ∈ psB L qs i := pairs_in hm (side_all.mpr ⟨side_in hx, fun z => ne ⟨(Prod.ext_iff.mp z).1, (Prod.ext_iff.mp z).2⟩⟩)
  cases e : ot qs s' x with
  | none => exact absurd ⟨(s', x), hm2, e⟩ h1
  | some r =>
    refine ⟨r, goes_ot e, by unfold tw; rw [e]; rfl, ?_⟩
    have := List.any_eq_false.mp h2 _ hm2
    unfold longB at this
    have e' : ot qs (s', x).1 (s', x).2 = some r := e
    rw [e'] at this
    simp at this
    exact this
theorem tw_ok (ok : ProgOk L qs) (sh : ShortQ L qs) : TOk L (tw qs) (ReB L qs) where
  z := by
    obtain ⟨i, st⟩ := stop_ex ok
    exact ⟨i, st, List.mem_map.mpr ⟨(S0, S0), List.mem_of_getElem? (good_rows (qs := qs) (ls := letsOf L) ok lets_is i).z, rfl⟩⟩
  sd := fun s h => reb_side ok h
  st := fun s x hs hx => by
    obtain ⟨r, g, e, _⟩ := short_goes ok sh hs (.inr hx) (fun z => by
      obtain ⟨c, _, e⟩ := hx
      rw [z.2] at e
      have := congrArg (fun x : Str => x.cps.size) e
      cases this)
    rw [e]
    refine ⟨(goes_ok ok (reb_side ok hs) (.inr hx) g).2.2 hx, ?_⟩
    obtain ⟨i, st, hs⟩ := hs
    exact ⟨i, st, stop_closed st hs (let_in hx) (nx_goes g)⟩
end
/-! ### more than, on rows of a length and a word -/
theorem valL_ge : ∀ (cs : List Nat) (a : Nat), a ≤ cs.foldl (fun a c => 1000 * a + c) a
  | [], a => Nat.le_refl _
  | c :: cs, a => by
    have := valL_ge cs (1000 * a + c)
    rw [List.foldl_cons]
    omega
theorem wD_gt {w u : Str} (hw : ∀ c ∈ w.cps.toList, 97 ≤ c ∧ c ≤ 122) (hu : ∀ c ∈ u.cps.toList, 97 ≤ c ∧ c ≤ 122) (l1 : 1 ≤ w.length) (l2 : w.length ≤ 2) (le : valW u ≤ valW w) : PySem.W.dataLt (wD w) (wD u) = false := by
  have lw := strLen w
  have lu := strLen u
  unfold wD
  rw [PySem.W.dataLt_tuple]
  simp only [PySem.W.keyToksAll, PySem.W.keyToks, List.cons_append, List.nil_append]
  rw [PyProof.Rows.lex_self (O := PyProof.Rows.itemOrd)]
  unfold valW valL at le
  have tail : ∀ (a b : List Nat), ¬ a < b → PyProof.Rows.lexLt PyProof.Rows.itemOrd [Sum.inl (1 : Int), .inr a, .inl 0] [Sum.inl (1 : Int), .inr b, .inl 0] = false := by
    intro a b h
    rw [PyProof.Rows.lex_self (O := PyProof.Rows.itemOrd)]
    by_cases e : a = b
    · subst e
      rw [PyProof.Rows.lex_self (O := PyProof.Rows.itemOrd), PyProof.Rows.lex_self (O := PyProof.Rows.itemOrd)]
      rfl
    · rw [PyProof.Rows.lex_diff (O := PyProof.Rows.itemOrd) (fun z => e (Sum.inr.inj z))]
      exact decide_eq_false h
  have less : ∀ (m n : Nat) (r t : List (Int ⊕ List Nat)), n < m → PyProof.Rows.lexLt PyProof.Rows.itemOrd (Sum.inl ((m : Nat) : Int) :: r) (Sum.inl ((n : Nat) : Int) :: t) = false := by
    intro m n r t h
    rw [PyProof.Rows.lex_diff (O := PyProof.Rows.itemOrd) (fun z => by have := Sum.inl.inj z; omega)]
    exact decide_eq_false (by omega)
  rw [lw, lu]
  rw [lw] at l1 l2
  revert hw hu le l1 l2
  generalize w.cps.toList = cs
  generalize u.cps.toList = ds
  clear lw lu
  intro hw hu l1 l2 le
  match cs, ds with
  | [], _ => exact absurd l1 (by decide)
  | _ :: _ :: _ :: _, _ => exact absurd l2 (by simp)
  | [a], [] => exact less 1 0 _ _ (by decide)
  | [a, b], [] => exact less 2 0 _ _ (by decide)
  | [a, b], [c] => exact less 2 1 _ _ (by decide)
  | [a], [c] =>
    rw [show ([a] : List Nat).length = ([c] : List Nat).length from rfl, PyProof.Rows.lex_self (O := PyProof.Rows.itemOrd)]
    refine tail _ _ fun h => ?_
    have le : 1000 * 0 + c ≤ 1000 * 0 + a := le
    rw [List.cons_lt_cons_iff] at h
    rcases h with h | ⟨_, h⟩
    · omega
    · exact absurd h (List.lt_irrefl _)
  | [a, b], [c, d] =>
    rw [show ([a, b] : List Nat).length = ([c, d] : List Nat).length from rfl, PyProof.Rows.lex_self (O := PyProof.Rows.itemOrd)]
    refine tail _ _ fun h => ?_
    have le : 1000 * (1000 * 0 + c) + d ≤ 1000 * (1000 * 0 + a) + b := le
    have hb := hw b (by simp)
    have hd := hu d (by simp)
    rw [List.cons_lt_cons_iff] at h
    rcases h with h | ⟨e, h⟩
    · omega
    · subst e
      rw [List.cons_lt_cons_iff] at h
      rcases h with h | ⟨_, h⟩
      · omega
      · exact absurd h (List.lt_irrefl _)
  | [a], c :: d :: r =>
    exfalso
    have le : (c :: d :: r).foldl (fun a c => 1000 * a + c) 0 ≤ 1000 * 0 + a := le
    rw [List.foldl_cons, List.foldl_cons] at le
    have := valL_ge r (1000 * (1000 * 0 + c) + d)
    have hc := hu c (by simp)
    have ha := hw a (by simp)
    omega
  | [a, b], c :: d :: e :: r =>
    exfalso
    have le : (c :: d :: e :: r).foldl (fun a c => 1000 * a + c) 0 ≤ 1000 * (1000 * 0 + a) + b := le
    rw [List.foldl_cons, List.foldl_cons, List.foldl_cons] at le
    have := valL_ge r (1000 * (1000 * (1000 * 0 + c) + d) + e)
    have hc := hu c (by simp)
    have ha := hw a (by simp)
    have hb := hw b (by simp)
    omega
def rGtD (K : PySem.W.Frag) : R2 := fun x y H Q => ∃ d e, Dp K H x d ∧ Dp K H y e ∧ PySem.W.alike d e = true ∧ d ≠ .none ∧ d.depth ≤ 60 ∧ Q (.bl (PySem.W.dataLt e d)) H
theorem op_gtD {X : Cx} (hu : X.A.units + 64 < cLine) : OpR X (compareOp .Gt) (rGtD X.K) := by
  intro pins s σ H x y v u Q I rx ry h
  obtain ⟨d, e, hd, he, al, nn, dp, q⟩ := h
  obtain ⟨as, r1⟩ := Dp.reads I d x v hd rx
  obtain ⟨bs, r2⟩ := Dp.reads I e y u he ry
  exact PySem.W.gt_data r1 r2 al nn (by omega) ⟨.bl _, H, I, rfl, q⟩
end K24

namespace K24
open PySem PySem.Spec PyProof.Rows L2
/-! ### things: cut, and held against one another -/
theorem drop_ths {K : PySem.W.Frag} {H : Hp} : ∀ {xs : List V} {ts : List (Thing Str)} (n : Nat), ThL K H xs ts → ThL K H (xs.drop n) (ts.drop n)
  | _, _, 0, h => h
  | _, _, _ + 1, .nil => .nil
  | _, _, n + 1, .cons _ t => drop_ths n t
theorem cutV_nat (xs : List V) (l h : Nat) (hl : l ≤ xs.length) : cutV xs (some (l : Int)) (some (h : Int)) = (xs.drop l).take (h - l) := by
  unfold cutV
  rw [HT.sIx_nat, HT.sIx_nat, Nat.min_eq_left hl]
  by_cases c : h ≤ xs.length
  · rw [Nat.min_eq_left c]
  · rw [Nat.min_eq_right (by omega), List.take_of_length_le (by rw [List.length_drop]; omega), List.take_of_length_le (by rw [List.length_drop]; omega)]
theorem cutV_from (xs : List V) (l : Nat) : cutV xs (some (l : Int)) none = xs.drop l := by
  unfold cutV
  rw [HT.sIx_nat, HT.sIx_none]
  by_cases c : l ≤ xs.length
  · rw [Nat.min_eq_left c, List.take_of_length_le (by rw [List.length_drop]; omega)]
  · rw [Nat.min_eq_right (by omega), List.drop_of_length_le (by omega), List.drop_of_length_le (by omega), List.take_nil]
theorem sliceThs {K : PySem.W.Frag} {H : Hp} {v : V} {as : Tg} {l h : Nat} {R : VK} (h1 : Ths K H v as) (hl : l ≤ as.length) (go : ∀ H' r, Same H H' → Ths K H' r ((as.drop l).take (h - l)) → R r H') : rSlA K v (some (l : Int)) (some (h : Int)) H R := by
  obtain ⟨a, xs, rfl, ha, ra⟩ := h1
  have la := ra.len
  refine ⟨a, xs, rfl, ha, fun e => ?_, fun _ p hp => ?_⟩
  · obtain ⟨e1, e2⟩ := e
    rw [HT.sIx_nat] at e1 e2
    by_cases z : xs.length = 0
    · have : as = [] := List.length_eq_zero_iff.mp (by omega)
      subst this
      refine go H _ (Same.refl H) ⟨a, xs, rfl, ha, ?_⟩
      rw [List.drop_nil, List.take_nil]
      exact ra
    · have l0 : l = 0 := by omega
      subst l0
      refine go H _ (Same.refl H) ⟨a, xs, rfl, ha, ?_⟩
      rw [List.drop_zero, List.take_of_length_le (by omega)]
      exact ra
  · refine go _ _ (same_upd hp) ⟨p, _, rfl, SqT.of upd_same, ?_⟩
    rw [cutV_nat _ _ _ (by omega)]
    exact ThL.mono (TK.new hp) (take_ths _ (drop_ths l ra))
theorem fromThs {K : PySem.W.Frag} {H : Hp} {v : V} {as : Tg} {l : Nat} {R : VK} (h1 : Ths K H v as) (go : ∀ H' r, Same H H' → Ths K H' r (as.drop l) → R r H') : rSlA K v (some (l : Int)) none H R := by
  obtain ⟨a, xs, rfl, ha, ra⟩ := h1
  have la := ra.len
  refine ⟨a, xs, rfl, ha, fun e => ?_, fun _ p hp => ?_⟩
  · obtain ⟨e1, _⟩ := e
    rw [HT.sIx_nat] at e1
    by_cases z : xs.length = 0
    · have : as = [] := List.length_eq_zero_iff.mp (by omega)
      subst this
      refine go H _ (Same.refl H) ⟨a, xs, rfl, ha, ?_⟩
      rw [List.drop_nil]
      exact ra
    · have l0 : l = 0 := by omega
      subst l0
      exact go H _ (Same.refl H) ⟨a, xs, rfl, ha, ra⟩
  · refine go _ _ (same_upd hp) ⟨p, _, rfl, SqT.of upd_same, ?_⟩
    rw [cutV_from]
    exact ThL.mono (TK.new hp) (drop_ths l ra)
theorem eqv_th (a b : Thing Str) : PyData.eqv (thD a) (thD b) = decide (a = b) := by
  have ne1 : ¬ ("sign" : Str) = "kern" := by decide +kernel
  have ne2 : ¬ ("kern" : Str) = "sign" := by decide +kernel
  cases a with
  | sign x =>
    cases b with
    | sign y =>
      simp only [thD, PyData.eqv, PyData.eqvAll]
      by_cases e : x = y
      · subst e
        simp
      · simp [e]
    | kern n =>
      simp only [thD, PyData.eqv, PyData.eqvAll]
      simp [ne1]
  | kern m =>
    cases b with
    | sign y =>
      simp only [thD, PyData.eqv, PyData.eqvAll]
      simp [ne2]
    | kern n =>
      simp only [thD, PyData.eqv, PyData.eqvAll]
      by_cases e : m = n
      · subst e
        simp
      · simp [e]
theorem eqv_ths : ∀ (as bs : Tg), PyData.eqvAll (as.map thD) (bs.map thD) = decide (as = bs)
  | [], [] => by simp [PyData.eqvAll]
  | [], b :: bs => by simp [PyData.eqvAll]
  | a :: as, [] => by simp [PyData.eqvAll]
  | a :: as, b :: bs => by
    rw [List.map_cons, List.map_cons, PyData.eqvAll, eqv_th, eqv_ths as bs]
    by_cases e : a = b
    · subst e
      by_cases e2 : as = bs
      · subst e2
        simp
      · simp [e2]
    · simp [e]
theorem eqv_tup (as bs : Tg) : PyData.eqv (.tuple (as.map thD)) (.tuple (bs.map thD)) = decide (as = bs) := by
  rw [PyData.eqv, eqv_ths]
/-! ### keys of the dict of what was seen -/
def kwK (k : Str × Nat) : List L2.Key := [.inr k.1, .inl (k.2 : Int)]
theorem kwK_inj {a b : Str × Nat} (h : kwK a = kwK b) : a = b := by
  unfold kwK at h
  injection h with h1 h2
  injection h2 with h2 _
  injection h1 with h1
  injection h2 with h2
  exact Prod.ext h1 (by omega)
def kvS (q : List Ent) : List (List L2.Key × V) := q.map fun e => (kwK (keyE e), .bl true)
theorem kvS_none : ∀ {q : List Ent} {k : Str × Nat}, k ∉ q.map keyE → valV (kvS q) (kwK k) = none
  | [], _, _ => rfl
  | e :: q, k, h => by
    have n1 : ¬ kwK (keyE e) = kwK k := fun z => h (by rw [← kwK_inj z]; exact List.mem_cons_self)
    show valV ((kwK (keyE e), .bl true) :: kvS q) _ = none
    rw [valV_neg n1]
    exact kvS_none fun m => h (List.mem_cons_of_mem _ m)
theorem kvS_some : ∀ {q : List Ent} {k : Str × Nat}, k ∈ q.map keyE → valV (kvS q) (kwK k) = some (.bl true)
  | [], _, h => nomatch h
  | e :: q, k, h => by
    by_cases z : kwK (keyE e) = kwK k
    · exact valV_pos z
    · show valV ((kwK (keyE e), .bl true) :: kvS q) _ = _
      rw [valV_neg z]
      rcases List.mem_cons.mp h with e1 | m
      · exact absurd (by rw [e1]) z
      · exact kvS_some m
/-! ### entries -/
def EntAt (K : PySem.W.Frag) (H : Hp) (v : V) (e : Ent) : Prop := ∃ a, v = .ref a ∧ SqT K H a [.str e.1, .int (e.2.1 : Nat), .str e.2.2]
theorem EntAt.mono {K : PySem.W.Frag} {H H' : Hp} {v : V} {e : Ent} (k : TK K H H') (h : EntAt K H v e) : EntAt K H' v e := by
  obtain ⟨a, e1, h⟩ := h
  exact ⟨a, e1, k _ _ h⟩
theorem met_out {K : PySem.W.Frag} {H : Hp} {L : Str} {qs : List Rule} {kvs : List (List L2.Key × V)} {i : Nat} (ok : ProgOk L qs) (sh : ShortQ L qs) (st : StopB (nx qs) (letsOf L) i) (hk : MetKv K H qs kvs (psB L qs i))
    {s x : Str} (hs : ReB L qs s) (hx : IsSide L x) (ne : ¬ (s = S0 ∧ x = S0)) : ∃ v, valV kvs (kp s x) = some v ∧ OutAt K H v (tw qs s x) ∧ (tw qs s x).1.length ≤ 40 := by
  obtain ⟨r, g, e, l⟩ := short_goes ok sh hs hx ne
  obtain ⟨j, st', hs⟩ := hs
  have e1 := st'.one st
  subst e1
  obtain ⟨⟨s', wd⟩, hm, e2⟩ := List.mem_map.mp hs
  have e2 : s' = s := e2
  subst e2
  have hm2 : (s', x) ∈ psB L qs j := pairs_in hm (side_all.mpr ⟨side_in hx, fun z => ne ⟨(Prod.ext_iff.mp z).1, (Prod.ext_iff.mp z).2⟩⟩)
  obtain ⟨v, h1, h2⟩ := hk.get hm2
  refine ⟨v, h1, ?_, by rw [e]; exact l⟩
  rw [e]
  exact truth_some h2 (ot_goes g)
def spNeedS (K : PySem.W.Frag) : Sp := fun vs H Q _ => ∃ (v : V) (L : Str) (qs : List Rule), vs = [v] ∧ ProgAt K H v L qs ∧ ProgOk L qs ∧ ShortQ L qs ∧
  ∀ H' m i kvs, Same H H' → H m = none → StopB (nx qs) (letsOf L) i → H' m = some (.dT kvs) → MetKv K H' qs kvs (psB L qs i) → Q (.ref m) H'
section
variable {P : Program} {w : World} {K : PySem.W.Frag} {mg : Str → Option Value} {base : Heap}
theorem ok_needS {f g k t : Addr} {fd gd kd td : FuncData} (F : Fun K "need_short" "need_short" sNeedShort f fd) (T : Txt K mg) (zAny : mg "any" = none)
    (G : FnOk P w K mg base CX0 7 g gd ["value"] (spNeed K)) (kG : PySem.W.keepIn K (.ref g) = true) (mG : mg "need_pairs" = some (.ref g)) (bG : Binds K gd ["value"] [])
    (Mt : FnOk P w K mg base CX0 79 k kd ["pairs"] (spMeet K)) (kM : PySem.W.keepIn K (.ref k) = true) (mM : mg "pairs_that_words_meet" = some (.ref k)) (bM : Binds K kd ["pairs"] [])
    (TL : FnOk P w K mg base CX0 1 t td ["met"] (spTooLong K)) (kT : PySem.W.keepIn K (.ref t) = true) (mT : mg "is_too_long" = some (.ref t)) (bT : Binds K td ["met"] []) :
    FnOk P w K mg base CX0 80 f fd ["value"] (spNeedS K) := by
  refine F.ok scNeedShort (fun vs H Q E h => ?_) (fun cdv A outer s H vs Q E hr h => ?_)
  · obtain ⟨_, _, _, rfl, _⟩ := h
    rfl
  · obtain ⟨v, L, qs, rfl, hP, ok, sh, q⟩ := h
    have nd := scNeedShort.nd
    have hr7 : Room 7 _ := hr.mono (by decide)
    have hr1 : Room 1 _ := hr.mono (by decide)
    have hr79 : Room 79 _ := hr.mono (by decide)
    refine ⟨_, pss_cons (ps_expr (pe_call G hr7 rfl mG kG bG .nil pass0 (pa_cons (pv 0) pa_nil)))
      (pss_cons (ps_set (i := 1) nd rfl (.inl rfl) (pe_call Mt hr79 rfl mM kM bM .nil pass0 (pa_cons (pv 0) pa_nil)))
      (pss_cons (ps_if (pt_val (pe_lock (pe_callB (cr_any rfl) (by rfl) zAny (by decide +kernel) (pa_cons
        (pe_lc (own := [("outcome", 2)]) (g := gName 2) (tt := tYes) rfl nd (pi_valuesT (pv 1))
          (blkOk_by (own := [("outcome", 2)]) (N := ["value", "met", "outcome"]) (sc := defScope sNeedShort) (by decide +kernel))
          (fun _ _ _ _ _ => pg_name (i := 2) nd rfl (Or.inl rfl)) (fun _ _ _ _ _ => pts_nil)
          (fun _ _ _ _ _ => pe_cmpR op_isN (pv 2) pe_non (nomark _))) pa_nil))))
        (pss_one ps_never) pss_nil)
      (pss_cons (ps_if (pt_val (pe_call TL hr1 rfl mT kT bT .nil pass0 (pa_cons (pv 1) pa_nil)))
        (pss_one ps_never) pss_nil)
      (pss_one (ps_ret (pv 1)))))), ?_⟩
    refine ⟨_, rfl, v, L, qs, rfl, hP, ok, fun H1 s1 => ?_⟩
    refine ⟨_, rfl, v, L, qs, rfl, hP.mono (TK.same s1), ok, fun H2 m i kvs s2 hm0 st hm hk => ?_⟩
    have s12 := s1.trans s2
    have pl := ps_len (qs := qs) ok i
    obtain ⟨dead, lg⟩ := sh i st
    have q := fun H' kvs s => q H' m i kvs s (s1.free hm0) st
    have hk : MetKv K H2 qs kvs (psB L qs i) := hk
    generalize psB L qs i = ps at hk pl dead lg q
    have kl : kvs.length = ps.length := Paired.length hk
    refine ⟨m, _, hm, True.intro, fun od => ?_⟩
    have tk3 : TK K H2 (upd H2 m (.frz od (.dT kvs))) := TK.upd hm True.intro
    have hk3 := hk.mono tk3
    have e3 : (upd H2 m (.frz od (.dT kvs))) m = some (.frz od (.dT kvs)) := upd_same
    have back : ∀ {H'}, Same (upd H2 m (.frz od (.dT kvs))) H' → Same H2 (upd H' m (.dT kvs)) := fun {H'} s b o e => by
      by_cases z : b = m
      · rw [z, hm] at e
        rw [z, upd_same]
        exact e
      · rw [upd_ne z]
        exact s b o (by rw [upd_ne z]; exact e)
    generalize (upd H2 m (.frz od (.dT kvs))) = H3 at hk3 e3 back
    refine ⟨_, rfl, m, od, kvs, rfl, e3, fun D hD => ?_⟩
    have nmD : m ≠ D := ne_of_none e3 hD
    refine lc_valsT (dk := m) (od := od) (kvs := kvs) (fun i H' => Same H3 H' ∧ H' D = some (.lst (((ps.take i).map fun sr => (ot qs sr.1 sr.2).isNone).map V.bl))) ⟨same_upd hD, upd_same⟩ (fun i H' z => z.1 _ _ e3) ?_ ?_
    · rintro j k v' H4 hj ⟨s4, e4⟩
      obtain ⟨sr, hsr, hkey, tr⟩ := Paired.at1 hk3 hj
      have tn := truth_none tr
      refine ⟨rfl, _, rfl, rfl, _, e4, by rw [List.length_map, List.length_map, List.length_take]; exact szl (by omega), fun b o e => ?_, ?_⟩
      · have nb : b ≠ D := ne_of_none e hD
        rw [upd_ne nb]
        exact s4 b o e
      · rw [upd_same, take_snoc hsr, List.map_append, List.map_append, tn]
        rfl
    · rintro H4 ⟨s4, e4⟩
      rw [kl, List.take_length] at e4
      refine ⟨D, _, rfl, SqL.of e4, s4 _ _ e3, ?_⟩
      have s5 := back s4
      have s15 := s12.trans s5
      have hk5 := hk.mono (TK.same s5)
      have e5 : (upd H4 m (.dT kvs)) m = some (.dT kvs) := upd_same
      generalize (upd H4 m (.dT kvs)) = H5 at s15 hk5 e5
      have ea : (ps.map fun sr => (ot qs sr.1 sr.2).isNone).any id = ps.any fun sr => (ot qs sr.1 sr.2).isNone := by
        rw [List.any_map]
        rfl
      rw [ea]
      refine ⟨_, rfl, ?_⟩
      have all : ∀ p ∈ ps, (ot qs p.1 p.2).isSome = true := fun p hp => by
        cases e : ot qs p.1 p.2 with
        | some r => rfl
        | none => exact absurd ⟨p, hp, e⟩ dead
      have : (ps.any fun sr => (ot qs sr.1 sr.2).isNone) = false := by
        rw [List.any_eq_false]
        intro p hp
        have := all p hp
        cases e : ot qs p.1 p.2 with
        | some r => simp
        | none =>
          rw [e] at this
          cases this
      rw [this]
      refine iteF ⟨_, rfl, m, kvs, qs, ps, rfl, e5, hk5, by omega, all, fun H6 s6 => ⟨_, rfl, ?_⟩⟩
      rw [lg]
      exact iteF ⟨_, rfl, q H6 kvs (s15.trans s6) (s6 _ _ e5) (hk5.mono (TK.same s6))⟩
end
end K24

namespace K24
open PySem PySem.Spec PyProof.Rows L2
def spIsShort (K : PySem.W.Frag) : Sp := fun vs H Q _ => ∃ (v : V) (L : Str) (qs : List Rule), vs = [v] ∧ ProgAt K H v L qs ∧ ProgOk L qs ∧ ∀ H' b, Same H H' → (b = true → ShortQ L qs) → Q (.bl b) H'
def spShort (K : PySem.W.Frag) : Sp := fun vs H Q _ => ∃ (c : Addr) (m R : Int), vs = [.ref c, .int m, .int R] ∧ CupAt H c ∧ 1 ≤ m ∧ m ≤ 8 ∧ 0 ≤ R ∧ R ≤ 24 ∧ ∀ H' v L qs, Sb [c] H H' → CupAt H' c → ProgAt K H' v L qs → ProgOk L qs → ShortQ L qs → Q v H'
/-- rows made so far -/
def RowsAt (K : PySem.W.Frag) (H : Hp) (v : V) (qs : List Rule) : Prop := ∃ a, v = .ref a ∧ RulesAt K H a qs
theorem RowsAt.mono {K : PySem.W.Frag} {H H' : Hp} {v : V} {qs : List Rule} (k : TK K H H') (h : RowsAt K H v qs) : RowsAt K H' v qs := by
  obtain ⟨a, e, h⟩ := h
  exact ⟨a, e, h.mono k⟩
theorem catRows {K : PySem.W.Frag} {H : Hp} {v u : V} {qs us : List Rule} {R : VK} (h1 : RowsAt K H v qs) (h2 : RowsAt K H u us) (l : qs.length + us.length ≤ 1000) (go : ∀ H' r, Same H H' → RowsAt K H' r (qs ++ us) → R r H') : rCatA K v u H R := by
  obtain ⟨a, rfl, xs, ha, ra⟩ := h1
  obtain ⟨b, rfl, ys, hb, rb⟩ := h2
  have l1 : xs.length = qs.length := Paired.length ra
  have l2 : ys.length = us.length := Paired.length rb
  refine ⟨a, b, xs, ys, rfl, rfl, ha, hb, sz (by omega), fun e => ?_, fun _ e => ?_, fun _ _ p hp => ?_⟩
  · subst e
    exact go H _ (Same.refl H) ⟨b, rfl, ys, hb, Paired.app ra rb⟩
  · subst e
    exact go H _ (Same.refl H) ⟨a, rfl, xs, ha, by have := Paired.app ra rb; rw [List.append_nil] at this; exact this⟩
  · exact go _ _ (same_upd hp) ⟨p, rfl, xs ++ ys, SqT.of upd_same, Paired.mapP (Paired.app ra rb) fun _ _ z => RuleAt.mono (TK.new hp) z⟩
/-- the deed that passes on all that it keeps -/
def onD : Deed Str → Deed Str
  | .kern n => .kern n
  | .put x l r _ => .put x l r ((if l = true then 1 else 0) + (if r = true then 1 else 0))
def onR (q : Rule) : Rule := (q.1, q.2.1, onD q.2.2)
theorem on_b2 (l r : Bool) : (((if l = true then 1 else 0) + (if r = true then 1 else 0) : Nat) : Int) = b2 l + b2 r := by cases l <;> cases r <;> rfl
theorem on_ok {L : Str} {qs : List Rule} (ok : ProgOk L qs) : ProgOk L (qs.map onR) := by
  refine ⟨ok.lets, fun q hq => ?_, ?_, by rw [List.length_map]; exact ok.few⟩
  · obtain ⟨q0, h0, rfl⟩ := List.mem_map.mp hq
    have r := ok.rules q0 h0
    refine ⟨r.l, r.r, r.ne, ?_⟩
    have d := r.d
    show DeedOk L q0.1 q0.2.1 (onD q0.2.2)
    cases e : q0.2.2 with
    | kern n =>
      rw [e] at d
      exact d
    | put x l rr on =>
      rw [e] at d
      exact ⟨d.1, d.2.1, d.2.2.1, by rw [on_b2]; exact Int.le_refl _⟩
  · rw [List.map_map]
    exact ok.nd
theorem tellsOn_len : ∀ as : List Str, (tells S0 as).length ≤ as.length
  | [] => Nat.le_refl _
  | a :: as => by
    have ih := tellsOn_len as
    have h1 : (tell S0 a).length ≤ 1 := by
      unfold tell
      split <;> simp
    show (tell S0 a ++ tells S0 as).length ≤ as.length + 1
    rw [List.length_append]
    omega
theorem on_goes {qs : List Rule} (a b : Str) : ∃ r, Goes S0 (fOf (qs.map onR)) a b r ∧ r.1.length ≤ 40 := by
  have h1 : (tell S0 a).length ≤ 1 := by
    unfold tell
    split <;> simp
  cases e : fOf (qs.map onR) a b with
  | none => exact ⟨_, Goes.plain S0 _ e, by show (tell S0 a).length ≤ 40; omega⟩
  | some d =>
    obtain ⟨q, hq, e1, e2, e3⟩ := f_rule e
    obtain ⟨q0, _, rfl⟩ := List.mem_map.mp hq
    have e3 : onD q0.2.2 = d := e3
    cases e4 : q0.2.2 with
    | kern n =>
      rw [e4] at e3
      subst e3
      exact ⟨_, Goes.kern S0 _ e, by show (tell S0 a ++ [Thing.kern n]).length ≤ 40; rw [List.length_append]; simp; omega⟩
    | put x l r on =>
      rw [e4] at e3
      subst e3
      have hd : ∃ y, (rowOf a b x l r).drop ((if l = true then 1 else 0) + (if r = true then 1 else 0)) = [y] := by
        cases l <;> cases r <;> exact ⟨_, rfl⟩
      obtain ⟨y, hy⟩ := hd
      refine ⟨_, Goes.put S0 _ e hy (GoesAll.nil S0 _ y), ?_⟩
      have h2 := tellsOn_len ((rowOf a b x l r).take ((if l = true then 1 else 0) + (if r = true then 1 else 0)))
      rw [List.length_take] at h2
      have h3 : (rowOf a b x l r).length ≤ 3 := by cases l <;> cases r <;> simp [rowOf]
      show (tells S0 _ ++ []).length ≤ 40
      rw [List.append_nil]
      omega
theorem on_short {L : Str} (qs : List Rule) : ShortQ L (qs.map onR) := by
  intro i _
  refine ⟨fun ⟨p, _, e⟩ => ?_, List.any_eq_false.mpr fun p _ => ?_⟩
  · obtain ⟨r, g, _⟩ := on_goes (qs := qs) p.1 p.2
    rw [ot_goes g] at e
    cases e
  · obtain ⟨r, g, l⟩ := on_goes (qs := qs) p.1 p.2
    unfold longB
    rw [ot_goes g]
    simp
    exact l
section
variable {P : Program} {w : World} {K : PySem.W.Frag} {mg : Str → Option Value} {base : Heap}
theorem scIsShort : FnScope ["_law_pairs_here", "_law_box_here"] ["_law_pairs_here"] (defScope sIsShort) := ⟨rfl, rfl, rfl, by decide +kernel, rfl, by decide +kernel, by decide +kernel⟩
theorem ok_isShort {f b en lo : Addr} {fd bd end' ld : FuncData} (F : Fun K "_law_is_short" "_law_is_short" sIsShort f fd)
    (B : FnOk P w K mg base CX0 1 b bd ["_law_pairs_here"] (spBox K)) (kB : PySem.W.keepIn K (.ref b) = true) (mB : mg "_law_box" = some (.ref b)) (bB : Binds K bd ["_law_pairs_here"] [])
    (EN : FnOk P w K mg base CX0 78 en end' ["_law_pairs_here", "_law_box_here"] (spEndless K)) (kN : PySem.W.keepIn K (.ref en) = true) (mN : mg "_law_endless" = some (.ref en)) (bN : Binds K end' ["_law_pairs_here", "_law_box_here"] [])
    (LO : FnOk P w K mg base CX0 78 lo ld ["_law_pairs_here", "_law_box_here"] (spIsLong K)) (kL : PySem.W.keepIn K (.ref lo) = true) (mL : mg "_law_is_long" = some (.ref lo)) (bL : Binds K ld ["_law_pairs_here", "_law_box_here"] []) :
    FnOk P w K mg base CX0 79 f fd ["_law_pairs_here"] (spIsShort K) := by
  refine F.ok scIsShort (fun vs H Q E h => ?_) (fun cdv A outer s H vs Q E hr h => ?_)
  · obtain ⟨_, _, _, rfl, _⟩ := h
    rfl
  · obtain ⟨v, L, qs, rfl, hP, ok, q⟩ := h
    have nd := scIsShort.nd
    have hr1 : Room 1 _ := hr.mono (by decide)
    refine ⟨_, pss_cons (ps_set (i := 1) nd rfl (.inl rfl) (pe_call B hr1 rfl mB kB bB .nil pass0 (pa_cons (pv 0) pa_nil)))
      (pss_one (ps_ret (pe_and (pe_cmpR op_isN (pe_call EN hr rfl mN kN bN .nil pass0 (pa_cons (pv 0) (pa_cons (pv 1) pa_nil))) pe_non (nomark _))
        (pe_one (pe_not (pe_call LO hr rfl mL kL bL .nil pass0 (pa_cons (pv 0) (pa_cons (pv 1) pa_nil)))))))), ?_⟩
    refine ⟨_, rfl, v, L, qs, rfl, hP, ok, fun H0 p r d o s0 np ndn no hB hD hdn ho hrd => ?_⟩
    have W0 : BoxW K H0 p r d o L qs [] := ⟨hB, hD, hrd, ⟨[], hdn, Dom.nil, fun a b v e => nomatch e⟩, ⟨[], ho, .nil⟩, fun s hs => (nomatch hs), Nat.zero_le _⟩
    have P0 := hP.mono (TK.same s0)
    have back : ∀ {H'}, Sb [d, o] H0 H' → Same H H' := fun {H'} sb b' o' e => sb b' o' (s0 b' o' e) (by
      intro m
      rcases List.mem_cons.mp m with z | m
      · rw [z, ndn] at e
        cases e
      · rw [List.mem_singleton.mp m, no] at e
        cases e)
    refine ⟨_, rfl, _, rfl, v, p, r, d, o, L, qs, rfl, P0, W0, ok, fun H1 i sb1 W1 st1 => ⟨rfl, _, rfl, ?_⟩⟩
    by_cases e : leastV (endsB (nx qs) (letsOf L) (rowsB (nx qs) (letsOf L) i)) = .non
    · rw [decide_eq_true e]
      have al := ends_dead.mp (least_none.mp e)
      refine iteT ⟨_, rfl, _, rfl, v, p, r, d, o, L, qs, rfl, hP.mono (TK.same (back sb1)), W1, ok, fun j sj => ?_, fun H2 j sb2 W2 stj => ⟨_, rfl, q H2 _ (back (sb1.trans sb2)) fun hb k sk => ?_⟩⟩
      · rw [sj.one st1]
        exact al
      · have e1 := sk.one st1
        have e2 := sk.one stj
        refine ⟨by rw [e1]; exact al, ?_⟩
        rw [e2]
        revert hb
        cases (psB L qs j).any (longB qs) <;> simp
    · rw [decide_eq_false e]
      exact iteF (q H1 _ (back sb1) fun z => nomatch z)
theorem scShort : FnScope ["_law_cup_here", "_law_many", "_law_rows", "_law_pairs_here", "_law_found", "_law_left", "_law_right_here", "_law_deed_here"] ["_law_cup_here", "_law_many", "_law_rows"] (defScope sShort) := ⟨rfl, rfl, rfl, by decide +kernel, rfl, by decide +kernel, by decide +kernel⟩
theorem ok_short {f p k : Addr} {fd pd kd : FuncData} (F : Fun K "_law_short" "_law_short" sShort f fd)
    (Pr : FnOk P w K mg base CX0 4 p pd ["_law_cup_here", "_law_many", "_law_rows"] (spPairs K)) (kP : PySem.W.keepIn K (.ref p) = true) (mP : mg "_law_pairs" = some (.ref p)) (bP : Binds K pd ["_law_cup_here", "_law_many", "_law_rows"] [])
    (S : FnOk P w K mg base CX0 79 k kd ["_law_pairs_here"] (spIsShort K)) (kS : PySem.W.keepIn K (.ref k) = true) (mS : mg "_law_is_short" = some (.ref k)) (bS : Binds K kd ["_law_pairs_here"] []) :
    FnOk P w K mg base CX0 80 f fd ["_law_cup_here", "_law_many", "_law_rows"] (spShort K) := by
  refine F.ok scShort (fun vs H Q E h => ?_) (fun cdv A outer s H vs Q E hr h => ?_)
  · obtain ⟨_, _, _, rfl, _⟩ := h
    rfl
  · obtain ⟨c, m, R, rfl, hc, m1, m8, R0, R24, q⟩ := h
    have nd := scShort.nd
    have hr4 : Room 4 _ := hr.mono (by decide)
    refine ⟨_, pss_cons (ps_set (i := 3) nd rfl (.inl rfl) (pe_call Pr hr4 rfl mP kP bP .nil pass0 (pa_cons (pv 0) (pa_cons (pv 1) (pa_cons (pv 2) pa_nil)))))
      (pss_cons (ps_if (pt_val (pe_call S hr rfl mS kS bS .nil pass0 (pa_cons (pv 3) pa_nil))) (pss_one (ps_ret (pv 3))) pss_nil)
      (pss_cons (ps_set (i := 4) nd rfl (.inl rfl) (pe_tup pa_nil))
      (pss_cons (ps_for PassesOwn.never rfl (pi_tup (pe_ix ix_tup (pv 3) pe_int (fun _ _ => rfl))) (pg_tup (by rfl) (pgs_cons (pg_name (i := 5) nd rfl (.inl rfl)) (pgs_cons (pg_name (i := 6) nd rfl (.inl rfl)) (pgs_cons (pg_name (i := 7) nd rfl (.inl rfl)) pgs_nil))))
        (pss_one (ps_set (i := 4) nd rfl (.inl rfl) (pe_op op_catA (pv 4) (pe_tup (pa_cons (pe_tup (pa_cons (pv 5) (pa_cons (pv 6) (pa_cons
          (pe_ifExp (pt_cmpR op_eq (pe_ix ix_tup (pv 7) pe_int (fun _ _ => rfl)) pe_str (nomark _)) (pv 7)
            (pe_op op_catA (pe_slice sl_tupA (pv 7) po_none (po_some pe_int)) (pe_tup (pa_cons (pe_op op_add (pe_ix ix_tup (pv 7) pe_int (fun _ _ => rfl)) (pe_ix ix_tup (pv 7) pe_int (fun _ _ => rfl))) pa_nil)))) pa_nil)))) pa_nil))))))
      (pss_one (ps_ret (pe_tup (pa_cons (pe_ix ix_tup (pv 3) pe_int (fun _ _ => rfl)) (pa_cons (pv 4) pa_nil)))))))), ?_⟩
    refine ⟨_, rfl, _, rfl, _, rfl, c, m, R, rfl, hc, m1, m8, R0, R24, fun H1 v L qs sb1 hc1 hP ok => ?_⟩
    refine ⟨_, rfl, v, L, qs, rfl, hP, ok, fun H2 b s2 hb => ⟨b, rfl, ?_⟩⟩
    have P2 := hP.mono (TK.same s2)
    have hc2 := hc1.same s2
    have sb2 := sb1.trans (Sb.of s2)
    cases b with
    | true => exact iteT ⟨_, rfl, q H2 v L qs sb2 hc2 P2 ok (hb rfl)⟩
    | false =>
      refine iteF ⟨sz (by show 0 ≤ 100000; decide), fun t0 h0 => ?_⟩
      have s3 := same_upd (o := .tup []) h0
      obtain ⟨pa, pb, rfl, hpa, rs, hpb, pr⟩ := P2.mono (TK.same (K := K) s3)
      have st : SqT K (upd H2 t0 (.tup [])) t0 [] := SqT.of upd_same
      have hc3 := hc2.same s3
      have sb3 := sb2.trans (Sb.of s3)
      generalize (upd H2 t0 (.tup [])) = H3 at s3 hpa hpb pr st hc3 sb3
      have rl : rs.length = qs.length := Paired.length pr
      have few := ok.few
      refine ⟨_, rfl, pa, _, 1, .ref pb, rfl, rfl, hpa, rfl, pb, rfl, ⟨rs, hpb⟩, for_tup (K := K) (a := pb) (xs := rs) (fun i σ H' => ∃ (v4 : V) (x5 x6 x7 : Option V), σ = [some (.ref c), some (.int m), some (.int R), some (.ref pa), some v4, x5, x6, x7] ∧ Same H3 H' ∧ RowsAt K H' v4 ((qs.map onR).take i))
        ⟨.ref t0, none, none, none, rfl, Same.refl _, t0, rfl, [], st, .nil⟩ (fun i σ H' _ ⟨_, _, _, _, _, s', _⟩ => TK.same s' _ _ hpb) ?_ ?_⟩
      · rintro i x σ H4 hi ⟨v4, x5, x6, x7, rfl, s4, r4⟩
        obtain ⟨⟨q1, q2, qd⟩, hq, a, dd, rfl, ha, hd⟩ := Paired.at1 pr hi
        have ha := TK.same (K := K) s4 _ _ ha
        have hd := hd.mono (TK.same (K := K) s4)
        have ha : SqT K H4 a [.str q1, .str q2, .ref dd] := ha
        have hqm : (qs.map onR)[i]? = some (q1, q2, onD qd) := by
          rw [List.getElem?_map, hq]
          rfl
        have l4 : ((qs.map onR).take i).length ≤ 24 := by
          rw [List.length_take, List.length_map]
          omega
        refine ⟨a, _, rfl, ha, rfl, _, _, rfl, _, _, rfl, _, _, rfl, rfl, ?_⟩
        have row : ∀ {H5 : Hp} {d5 t1 t2 : Addr}, Same H4 H5 → DeedAt K H5 d5 (onD qd) → SqT K H5 t1 [.str q1, .str q2, .ref d5] → SqT K H5 t2 [.ref t1] → ∀ R : VK, (∀ H' r, Same H5 H' → RowsAt K H' r ((qs.map onR).take (i + 1)) → R r H') → rCatA K v4 (.ref t2) H5 R := fun {H5 d5 t1 t2} s5 h5 g1 g2 R go => by
          refine catRows (r4.mono (TK.same s5)) ⟨t2, rfl, [.ref t1], g2, .cons ⟨t1, d5, rfl, g1, h5⟩ .nil⟩ (us := [(q1, q2, onD qd)]) (by rw [List.length_singleton]; omega) fun H' r s6 r6 => go H' r s6 ?_
          rw [take_snoc hqm]
          exact r6
        refine ⟨_, rfl, _, rfl, _, rfl, ?_⟩
        cases qd with
        | kern n =>
          have hS : SqT K H4 dd [.str "kern", .int n] := hd
          refine ⟨_, rfl, dd, _, 0, .str "kern", rfl, rfl, hS, rfl, rfl, _, rfl, ?_⟩
          rw [decide_eq_true (show V.str "kern" = V.str "kern" from rfl)]
          refine iteT ⟨_, rfl, sz (by show 3 ≤ 100000; decide), fun t1 h1 => ⟨sz (by show 1 ≤ 100000; decide), fun t2 h2 => ?_⟩⟩
          have u1 := same_upd (o := .tup [V.str q1, V.str q2, V.ref dd]) h1
          have u2 := same_upd (o := .tup [V.ref t1]) h2
          refine row (u1.trans u2) (hd.mono (TK.same (u1.trans u2))) (TK.same u2 _ _ (SqT.of upd_same)) (SqT.of upd_same) _ fun H6 r6 s6 g6 => ?_
          exact ⟨_, _, _, _, rfl, (s4.trans (u1.trans u2)).trans s6, g6⟩
        | put x l rr on =>
          have hS : SqT K H4 dd [.str "put", .str x, .int (b2 l), .int (b2 rr), .int (on : Nat)] := hd
          refine ⟨_, rfl, dd, _, 0, .str "put", rfl, rfl, hS, rfl, rfl, _, rfl, ?_⟩
          rw [decide_eq_false (show ¬ V.str "put" = V.str "kern" by decide +kernel)]
          refine iteF ⟨_, rfl, 4, rfl, dd, _, rfl, hS, fun e => absurd e.2 (show ¬ HT.sIx 5 5 (some 4) = 5 by decide), fun _ t3 h3 => ?_⟩
          have u3 := same_upd (o := .tup (cutV [V.str "put", V.str x, V.int (b2 l), V.int (b2 rr), V.int (on : Nat)] none (some 4))) h3
          have hS3 := TK.same (K := K) u3 _ _ hS
          refine ⟨_, rfl, dd, _, 2, .int (b2 l), rfl, rfl, hS3, rfl, _, rfl, dd, _, 3, .int (b2 rr), rfl, rfl, hS3, rfl, _, _, rfl, rfl, sz (by show 1 ≤ 100000; decide), fun t4 h4 => ?_⟩
          have u4 := same_upd (o := .tup [V.int (b2 l + b2 rr)]) h4
          refine ⟨t3, t4, [V.str "put", V.str x, V.int (b2 l), V.int (b2 rr)], [V.int (b2 l + b2 rr)], rfl, rfl, TK.same u4 _ _ (SqT.of upd_same), SqT.of upd_same, sz (by show 5 ≤ 100000; decide), (fun e => nomatch e), (fun _ e => nomatch e), fun _ _ t5 h5 => ?_⟩
          have u5 := same_upd (o := .tup ([V.str "put", V.str x, V.int (b2 l), V.int (b2 rr)] ++ [V.int (b2 l + b2 rr)])) h5
          refine ⟨sz (by show 3 ≤ 100000; decide), fun t1 h1 => ⟨sz (by show 1 ≤ 100000; decide), fun t2 h2 => ?_⟩⟩
          have u1 := same_upd (o := .tup [V.str q1, V.str q2, V.ref t5]) h1
          have u2 := same_upd (o := .tup [V.ref t1]) h2
          have uu := ((u3.trans u4).trans u5).trans (u1.trans u2)
          refine row uu (d5 := t5) ?_ (TK.same u2 _ _ (SqT.of upd_same)) (SqT.of upd_same) _ fun H6 r6 s6 g6 => ?_
          · show SqT K _ t5 [.str "put", .str x, .int (b2 l), .int (b2 rr), .int (((if l = true then 1 else 0) + (if rr = true then 1 else 0) : Nat) : Int)]
            rw [on_b2]
            exact TK.same (u1.trans u2) _ _ (SqT.of upd_same)
          · exact ⟨_, _, _, _, rfl, (s4.trans uu).trans s6, g6⟩
      · rintro σ H4 ⟨v4, x5, x6, x7, rfl, s4, r4⟩
        rw [rl, List.take_of_length_le (by rw [List.length_map]; exact Nat.le_refl _)] at r4
        obtain ⟨rb, rfl, hrb⟩ := r4
        refine ⟨_, rfl, pa, _, 0, .str L, rfl, rfl, TK.same s4 _ _ hpa, rfl, _, rfl, sz (by show 2 ≤ 100000; decide), fun t ht => ?_⟩
        have s5 := same_upd (o := .tup [V.str L, V.ref rb]) ht
        have s45 := s4.trans s5
        exact q _ _ L (qs.map onR) (sb3.trans (Sb.of s45)) (hc3.same s45) ⟨t, rb, rfl, SqT.of upd_same, hrb.mono (TK.same s5)⟩ (on_ok ok) (on_short qs)
end
end K24

namespace K24
open PySem PySem.Spec PyProof.Rows L2
theorem come_short {K : PySem.W.Frag} {H : Hp} {L : Str} {qs : List Rule} {s x : Str} {v : V} (ok : ProgOk L qs) (sh : ShortQ L qs) (hs : ReB L qs s) (hx : IsSide L x) (ne : ¬ (s = S0 ∧ x = S0)) (tr : CTruth K H qs s x v) :
    ∃ a b, v = .ref a ∧ SqT K H a [.ref b, .str (tw qs s x).2] ∧ Ths K H (.ref b) (tw qs s x).1 ∧ (tw qs s x).1.length ≤ 40 := by
  obtain ⟨r, g, e, l⟩ := short_goes ok sh hs hx ne
  rw [e]
  rcases tr with ⟨_, n⟩ | ⟨t, g2, a, b, xs, rfl, h1, h2, h3⟩
  · obtain ⟨n1, g⟩ := g
    rw [n n1] at g
    cases g
  · have e2 := Goes.one S0 (fOf qs) g2 g
    subst e2
    rw [List.take_of_length_le (by omega)] at h3
    exact ⟨a, b, rfl, h1, ⟨b, xs, rfl, h2, h3⟩, l⟩
theorem drop_snoc {α : Type} {q : List α} {x : α} {n : Nat} (h : n ≤ q.length) : (q ++ [x]).drop n = q.drop n ++ [x] := by
  rw [List.drop_append_of_le_length h]
end K24

namespace K24
open PySem PySem.Spec PyProof.Rows L2
section
variable {P : Program} {w : World} {K : PySem.W.Frag} {mg : Str → Option Value} {base : Heap}
theorem scWord : FnScope ["_law_cup_here", "_law_letters", "_law_many", "_law_turn"] ["_law_cup_here", "_law_letters", "_law_many"] (defScope sWord) := ⟨rfl, rfl, rfl, by decide +kernel, rfl, by decide +kernel, by decide +kernel⟩
theorem join_sg : ∀ (cs : List Nat), (Str.join S0 (cs.map sg)).cps.toList = cs
  | [] => by decide +kernel
  | [c] => rfl
  | c :: d :: r => by
    have ih := join_sg (d :: r)
    show ((sg c ++ S0) ++ Str.join S0 ((d :: r).map sg)).cps.toList = c :: d :: r
    have app : ∀ (x y : Str), (x ++ y).cps.toList = x.cps.toList ++ y.cps.toList := fun x y => by
      show (x.cps ++ y.cps).toList = _
      simp
    rw [app, app, ih]
    have e : (S0 : Str).cps.toList = [] := by decide +kernel
    rw [e]
    rfl
theorem sum_sg (cs : List Nat) : ((cs.map sg).map (·.length)).sum = cs.length := by
  induction cs with
  | nil => rfl
  | cons c cs ih =>
    rw [List.map_cons, List.map_cons, List.sum_cons, ih]
    show 1 + cs.length = cs.length + 1
    omega
theorem ok_word {f g s2 : Addr} {fd gd sd : FuncData} (F : Fun K "_law_word" "_law_word" sWord f fd) (T : Txt K mg)
    (G : FnOk P w K mg base CX0 1 g gd ["_law_cup_here", "_law_many"] spRoll) (kG : PySem.W.keepIn K (.ref g) = true) (mG : mg "_law_roll" = some (.ref g)) (bG : Binds K gd ["_law_cup_here", "_law_many"] [])
    (S : FnOk P w K mg base CX0 2 s2 sd ["_law_cup_here", "_law_things"] (spSome K)) (kS : PySem.W.keepIn K (.ref s2) = true) (mS : mg "_law_some" = some (.ref s2)) (bS : Binds K sd ["_law_cup_here", "_law_things"] []) :
    FnOk P w K mg base CX0 3 f fd ["_law_cup_here", "_law_letters", "_law_many"] (spWord K) := by
  refine F.ok scWord (fun vs H Q E h => ?_) (fun cdv A outer s H vs Q E hr h => ?_)
  · obtain ⟨_, _, _, rfl, _⟩ := h
    rfl
  · obtain ⟨c, L, m, rfl, hc, ok, m1, m2, q⟩ := h
    have nd := scWord.nd
    have hr1 : Room 1 _ := hr.mono (by decide)
    refine ⟨_, pss_one (ps_ret (pe_join pe_str (pe_lc (own := [("_law_turn", 3)]) (g := gName 3) (tt := tYes) rfl nd
        (pi_range1 rfl T.range (pa_cons (pe_op op_add pe_int (pe_call G hr1 rfl mG kG bG .nil pass0 (pa_cons (pv 0) (pa_cons (pv 2) pa_nil)))) pa_nil))
        (blkOk_by (own := [("_law_turn", 3)]) (N := ["_law_cup_here", "_law_letters", "_law_many", "_law_turn"]) (sc := defScope sWord) (by decide +kernel))
        (fun _ _ _ _ _ => pg_name (i := 3) nd rfl (Or.inl rfl)) (fun _ _ _ _ _ => pts_nil)
        (fun _ _ _ _ _ => pe_call S hr rfl mS kS bS .nil pass0 (pa_cons (pv 0) (pa_cons (pe_callTy (call_list_text rfl) (by rfl) T.list (by decide +kernel) (pa_cons (pv 1) pa_nil)) pa_nil)))))), ?_⟩
    have few := ok.few
    have one := ok.some
    have ll := strLen L
    refine ⟨⟨_, rfl⟩, _, rfl, _, rfl, c, m, rfl, hc, by omega, by omega, fun H1 r1 sb1 hc1 r10 r11 => ⟨_, _, rfl, rfl, _, rfl, by omega, by omega, fun D hD => ?_⟩⟩
    have nDc : D ≠ c := fun e => by
      obtain ⟨xs, h⟩ := cup_lst hc1
      rw [← e, hD] at h
      cases h
    refine lc_range (lo := 0) (n := (1 + r1).toNat) (fun i H' => Sb [c] H1 H' ∧ CupAt H' c ∧ ∃ cs : List Nat, H' D = some (.lst ((cs.map sg).map V.str)) ∧ cs.length = i ∧ ∀ z ∈ cs, z ∈ L.cps.toList) ⟨Sb.of (same_upd hD), hc1.same (same_upd hD), [], upd_same, rfl, fun z hz => nomatch hz⟩ ?_ ?_
    · rintro i H2 hi ⟨sb2, hc2, cs, e2, l2, mem⟩
      refine ⟨rfl, _, rfl, _, rfl, L, rfl, sz (by omega), fun l1 hl1 => ?_⟩
      have s1 := same_upd (o := .lst (signs L)) hl1
      have nlc : l1 ≠ c := fun e => by
        obtain ⟨xs, h⟩ := cup_lst hc2
        rw [← e, hl1] at h
        cases h
      refine ⟨c, l1, signs L, rfl, hc2.same s1, nlc, upd_same, by rw [signs_len]; omega, by rw [signs_len]; omega, fun H3 v sb3 hc3 hv => ?_⟩
      obtain ⟨z, hz, rfl⟩ := sign_let hv
      have e3 : H3 D = some (.lst ((cs.map sg).map V.str)) := sb3 _ _ (s1 _ _ e2) (by simpa using nDc)
      refine ⟨_, e3, by rw [List.length_map, List.length_map, l2]; exact szl (by omega), fun b o e n => ?_, ?_, cs ++ [z], ?_, by simp [l2], fun u hu => ?_⟩
      · have ne : b ≠ D := ne_of_none e hD
        rw [upd_ne ne]
        exact ((sb2.trans (Sb.of s1)).trans sb3) b o e n
      · obtain ⟨x0, y0, h1, h2, h3⟩ := hc3
        exact ⟨x0, y0, h1, h2, by rw [upd_ne nDc.symm]; exact h3⟩
      · rw [upd_same, List.map_append, List.map_append]
        rfl
      · rcases List.mem_append.mp hu with m | m
        · exact mem u m
        · rw [List.mem_singleton.mp m]
          exact hz
    · rintro H2 ⟨sb2, hc2, cs, e2, l2, mem⟩
      refine ⟨_, D, cs.map sg, rfl, rfl, .inl (SqL.of e2), ?_, ?_⟩
      · rw [sum_sg, List.length_map]
        show cs.length + cs.length * 0 ≤ 16777216
        omega
      · rw [TL.join_eq]
        have jl := join_sg cs
        have len : (Str.join S0 (cs.map sg)).length = cs.length := by
          rw [strLen, jl]
        refine q H2 _ (sb1.trans sb2) hc2 (fun u hu => ?_) ?_ ?_
        · have jl' : (Str.join ("" : Str) (cs.map sg)).cps.toList = cs := jl
          rw [jl'] at hu
          exact mem u hu
        · show 1 ≤ (Str.join S0 (cs.map sg)).length
          rw [len]
          omega
        · show (Str.join S0 (cs.map sg)).length ≤ 12
          rw [len]
          omega
end
/-! ### the shape of a word -/
theorem run_re {L : Str} {T : TT} {Re : Str → Prop} (t : TOk L T Re) : ∀ (xs : List Str), (∀ y ∈ xs, IsLet L y) → ∀ s, Re s → Re (runW T s xs).2
  | [], _, s, hs => hs
  | y :: ys, hy, s, hs => run_re t ys (fun z hz => hy z (List.mem_cons_of_mem _ hz)) _ (t.st s y hs (hy y List.mem_cons_self)).2
theorem run_let {L : Str} {T : TT} {Re : Str → Prop} (t : TOk L T Re) : ∀ (xs : List Str), xs ≠ [] → (∀ y ∈ xs, IsLet L y) → ∀ s, Re s → IsLet L (runW T s xs).2
  | [], n, _, _, _ => absurd rfl n
  | [y], _, hy, s, hs => (t.st s y hs (hy y List.mem_cons_self)).1
  | y :: z :: ys, _, hy, s, hs => run_let t (z :: ys) (by simp) (fun x hx => hy x (List.mem_cons_of_mem _ hx)) _ (t.st s y hs (hy y List.mem_cons_self)).2
theorem run_th {L : Str} {qs : List Rule} (ok : ProgOk L qs) (sh : ShortQ L qs) : ∀ (xs : List Str) (s : Str), ReB L qs s → (∀ y ∈ xs, IsSide L y) → (∀ i y, xs[i]? = some y → y = S0 → i ≠ 0 ∧ i + 1 = xs.length ∨ (i = 0 ∧ s ≠ S0 ∧ xs.length = 1)) → ∀ t ∈ (runW (tw qs) s xs).1, ThOk L t
  | [], _, _, _, _ => fun t ht => nomatch ht
  | x :: xs, s, hs, hx, h0 => by
    have side := hx x List.mem_cons_self
    have ne : ¬ (s = S0 ∧ x = S0) := fun z => by
      rcases h0 0 x rfl z.2 with h | h
      · exact h.1 rfl
      · exact h.2.1 z.1
    obtain ⟨r, g, e, _⟩ := short_goes ok sh hs side ne
    have tk := tw_ok ok sh
    obtain ⟨h1, h2, h3⟩ := goes_ok ok (reb_side ok hs) side g
    show ∀ t ∈ (tw qs s x).1 ++ (runW (tw qs) (tw qs s x).2 xs).1, ThOk L t
    intro t ht
    rcases List.mem_append.mp ht with m | m
    · rw [e] at m
      exact h1 t m
    · by_cases z : x = S0
      · have : xs = [] := by
          rcases h0 0 x rfl z with h | h
          · exact absurd rfl h.1
          · have := h.2.2
            rw [List.length_cons] at this
            exact List.length_eq_zero_iff.mp (by omega)
        rw [this] at m
        cases m
      · have lx : IsLet L x := by
          rcases side with y | y
          · exact absurd y z
          · exact y
        have st := tk.st s x hs lx
        refine run_th ok sh xs _ st.2 (fun y hy => hx y (List.mem_cons_of_mem _ hy)) (fun i y hi hy => ?_) t m
        rcases h0 (i + 1) y (by simpa using hi) hy with h | h
        · by_cases i0 : i = 0
          · refine .inr ⟨i0, st.1.ne, ?_⟩
            have := h.2
            rw [List.length_cons] at this
            omega
          · refine .inl ⟨i0, ?_⟩
            have := h.2
            rw [List.length_cons] at this
            omega
        · have := h.1
          omega
theorem word_lets {L x : Str} (h : WordOk L x) : ∀ y ∈ letsOf x, IsLet L y := fun y hy => by
  obtain ⟨c, hc, e⟩ := List.mem_map.mp hy
  exact ⟨c, h c hc, e.symm⟩
/-- the shape of a word, by the pairs -/
noncomputable def shapeW (qs : List Rule) (x : Str) : Tg := (runW (tw qs) S0 (letsOf x ++ [S0])).1
theorem shape_ok {L : Str} {qs : List Rule} (ok : ProgOk L qs) (sh : ShortQ L qs) {x : Str} (h : WordOk L x) (h1 : 1 ≤ x.length) : ∀ t ∈ shapeW qs x, ThOk L t := by
  refine run_th ok sh _ S0 (tw_ok ok sh).z (lets_side h) fun i y hi hy => ?_
  have ll := lets_len x
  have il := (List.getElem?_eq_some_iff.mp hi).1
  rw [List.length_append] at il
  by_cases c : i < (letsOf x).length
  · rw [List.getElem?_append_left c] at hi
    have := word_lets h y (List.mem_of_getElem? hi)
    exact absurd hy this.ne
  · refine .inl ⟨by omega, ?_⟩
    rw [List.length_append]
    simp at il ⊢
    omega
def spWhole (K : PySem.W.Frag) : Sp := fun vs H Q _ => ∃ (v : V) (x L : Str) (qs : List Rule), vs = [v, .str x] ∧ ProgAt K H v L qs ∧ ProgOk L qs ∧ ShortQ L qs ∧ WordOk L x ∧ 1 ≤ x.length ∧ x.length ≤ 400 ∧ ∀ H' u, Same H H' → Ths K H' u (shapeW qs x) → Q u H'
section
variable {P : Program} {w : World} {K : PySem.W.Frag} {mg : Str → Option Value} {base : Heap}
theorem scWhole : FnScope ["_law_pairs_here", "_law_word_here", "_law_box_here", "_law_here", "_law_told_here", "_law_side", "_law_there"] ["_law_pairs_here", "_law_word_here"] (defScope sWhole) := ⟨rfl, rfl, rfl, by decide +kernel, rfl, by decide +kernel, by decide +kernel⟩
theorem ok_whole {f b c : Addr} {fd bd cd : FuncData} (F : Fun K "_law_whole" "_law_whole" sWhole f fd) (T : Txt K mg)
    (B : FnOk P w K mg base CX0 1 b bd ["_law_pairs_here"] (spBox K)) (kB : PySem.W.keepIn K (.ref b) = true) (mB : mg "_law_box" = some (.ref b)) (bB : Binds K bd ["_law_pairs_here"] [])
    (C : FnOk P w K mg base CX0 (3 * 25 + 1) c cd ["_law_box_here", "_law_left", "_law_right_here"] (spCome K 25)) (kC : PySem.W.keepIn K (.ref c) = true) (mC : mg "_law_come" = some (.ref c)) (bC : Binds K cd ["_law_box_here", "_law_left", "_law_right_here"] []) :
    FnOk P w K mg base CX0 77 f fd ["_law_pairs_here", "_law_word_here"] (spWhole K) := by
  refine F.ok scWhole (fun vs H Q E h => ?_) (fun cdv A outer s H vs Q E hr h => ?_)
  · obtain ⟨_, _, _, _, rfl, _⟩ := h
    rfl
  · obtain ⟨v, x, L, qs, rfl, hP, ok, sh, wok, x1, x400, q⟩ := h
    have nd := scWhole.nd
    have hr1 : Room 1 _ := hr.mono (by decide)
    have hrC : Room (3 * 25 + 1) _ := hr.mono (by decide)
    refine ⟨_, pss_cons (ps_par3 (i := 2) (j := 3) (l := 4) rfl nd rfl rfl rfl (by decide) (by decide) (by decide) rfl rfl rfl
        (pa_cons (pe_call B hr1 rfl mB kB bB .nil pass0 (pa_cons (pv 0) pa_nil)) (pa_cons pe_str (pa_cons (pe_tup pa_nil) pa_nil))) (by rfl))
      (pss_cons (ps_for PassesOwn.never rfl (pi_list (pe_op op_cat (pe_callTy (call_list_text rfl) (by rfl) T.list (by decide +kernel) (pa_cons (pv 1) pa_nil)) (pe_lst (pa_cons pe_str pa_nil)))) (pg_name (i := 5) nd rfl (.inl rfl))
        (pss_cons (ps_set (i := 6) nd rfl (.inl rfl) (pe_call C hrC rfl mC kC bC .nil pass0 (pa_cons (pv 2) (pa_cons (pv 3) (pa_cons (pv 5) pa_nil)))))
        (pss_one (ps_par (i := 4) (j := 3) rfl nd rfl rfl (by decide) rfl rfl (pa_cons (pe_op op_catA (pv 4) (pe_ix ix_tup (pv 6) pe_int (fun _ _ => rfl))) (pa_cons (pe_ix ix_tup (pv 6) pe_int (fun _ _ => rfl)) pa_nil)) (by rfl)))))
      (pss_one (ps_ret (pv 4)))), ?_⟩
    have tk := tw_ok ok sh
    have ll := lets_len x
    refine ⟨_, rfl, v, L, qs, rfl, hP, ok, fun HB p r d o s0 np ndn no hB hD hdn ho hrd => ?_⟩
    have WB : BoxW K HB p r d o L qs [] := ⟨hB, hD, hrd, ⟨[], hdn, Dom.nil, fun a b v e => nomatch e⟩, ⟨[], ho, .nil⟩, fun s hs => (nomatch hs), Nat.zero_le _⟩
    have back : ∀ {H'}, Sb [d, o] HB H' → Same H H' := fun {H'} sb b' o' e => sb b' o' (s0 b' o' e) (by
      intro m
      rcases List.mem_cons.mp m with z | m
      · rw [z, ndn] at e
        cases e
      · rw [List.mem_singleton.mp m, no] at e
        cases e)
    refine ⟨sz (by show 0 ≤ 100000; decide), fun t0 ht0 => ⟨_, _, _, rfl, ?_⟩⟩
    have u1 := same_upd (o := .tup []) ht0
    have th0 : Ths K (upd HB t0 (.tup [])) (.ref t0) [] := ⟨t0, [], rfl, SqT.of upd_same, .nil⟩
    have W1 := WB.same u1
    clear hB hD hdn ho hrd np
    generalize (upd HB t0 (.tup [])) = H1 at u1 th0 W1
    refine ⟨_, rfl, x, rfl, sz (by omega), fun a1 g1 => ⟨sz (by show 1 ≤ 100000; decide), fun a2 g2 => ?_⟩⟩
    have v1 := same_upd (o := .lst (signs x)) g1
    have v2 := same_upd (o := .lst [V.str ""]) g2
    refine ⟨a1, a2, _, _, rfl, rfl, v2 _ _ upd_same, upd_same, sz (by rw [signs_map, List.length_map, ll]; show x.length + 1 ≤ 100000; omega), fun a3 g3 => ?_⟩
    have v3 := same_upd (o := .lst (signs x ++ [V.str ""])) g3
    have v13 := (v1.trans v2).trans v3
    have e3 : (upd (upd (upd H1 a1 (.lst (signs x))) a2 (.lst [V.str ""])) a3 (.lst (signs x ++ [V.str ""]))) a3 = some (.lst ((letsOf x ++ [S0]).map V.str)) := by
      rw [upd_same, signs_lets]
    have sb3 : Sb [d, o] HB (upd (upd (upd H1 a1 (.lst (signs x))) a2 (.lst [V.str ""])) a3 (.lst (signs x ++ [V.str ""]))) := Sb.of (u1.trans v13)
    have W3 := W1.same v13
    have th3 := th0.mono (TK.same v13)
    have a3n : a3 ∉ [d, o] := fun m => by
      obtain ⟨_, _, _, ⟨_, t1, _⟩, ⟨_, t2, _⟩, _, _⟩ := W1
      have t1 := (v1.trans v2) _ _ t1
      have t2 := (v1.trans v2) _ _ t2
      rcases List.mem_cons.mp m with e | m
      · rw [← e, g3] at t1
        cases t1
      · rw [← List.mem_singleton.mp m, g3] at t2
        cases t2
    generalize (upd (upd (upd H1 a1 (.lst (signs x))) a2 (.lst [V.str ""])) a3 (.lst (signs x ++ [V.str ""]))) = H3 at e3 sb3 W3 th3
    have rem0 : remS qs [] < 25 := by
      have h1 := rem_le (qs := qs) (S := [])
      have h2 := ok.few
      omega
    have few : ∀ k, (runW (tw qs) S0 ((letsOf x ++ [S0]).take k)).1.length ≤ 40 * k ∨ True := fun _ => .inr True.intro
    refine ⟨a3, rfl, ⟨_, SqL.of e3⟩, for_list (K := K) (a := a3) (xs := (letsOf x ++ [S0]).map V.str) (fun j σ H' => ∃ (tv : V) (x5 x6 : Option V), σ = [some v, some (.str x), some (.ref p), some (.str (runW (tw qs) S0 ((letsOf x ++ [S0]).take j)).2), some tv, x5, x6] ∧ Sb [d, o] HB H' ∧ BoxW K H' p r d o L qs [] ∧
        H' a3 = some (.lst ((letsOf x ++ [S0]).map V.str)) ∧ Ths K H' tv (runW (tw qs) S0 ((letsOf x ++ [S0]).take j)).1 ∧ (runW (tw qs) S0 ((letsOf x ++ [S0]).take j)).1.length ≤ 40 * j)
      ⟨.ref t0, none, none, rfl, sb3, W3, e3, th3, Nat.le_refl _⟩ (fun i σ H' _ ⟨_, _, _, _, _, _, z, _⟩ => SqL.of z) ?_ ?_⟩
    · rintro j z σ H5 hj ⟨tv, x5, x6, rfl, sb5, W5, ea5, th5, tl5⟩
      obtain ⟨y, hjs, rfl⟩ : ∃ y, (letsOf x ++ [S0])[j]? = some y ∧ z = V.str y := by
        rw [List.getElem?_map] at hj
        obtain ⟨y, h1, h2⟩ := Option.map_eq_some_iff.mp hj
        exact ⟨y, h1, h2.symm⟩
      have jl := (List.getElem?_eq_some_iff.mp hjs).1
      rw [List.length_append] at jl
      have jl : j < (letsOf x).length + 1 := jl
      have pre : (letsOf x ++ [S0]).take j = (letsOf x).take j := by
        rw [List.take_append_of_le_length (by omega)]
      have sideY : IsSide L y := lets_side wok y (List.mem_of_getElem? hjs)
      have preL : ∀ y ∈ (letsOf x ++ [S0]).take j, IsLet L y := fun y hy => by
        rw [pre] at hy
        exact word_lets wok y (List.mem_of_mem_take hy)
      have re := run_re tk _ preL S0 tk.z
      have ne : ¬ ((runW (tw qs) S0 ((letsOf x ++ [S0]).take j)).2 = S0 ∧ y = S0) := fun zz => by
        have jx : j = (letsOf x).length := by
          by_cases c : j < (letsOf x).length
          · rw [List.getElem?_append_left c] at hjs
            exact absurd zz.2 (word_lets wok y (List.mem_of_getElem? hjs)).ne
          · omega
        have nn : (letsOf x ++ [S0]).take j ≠ [] := by
          intro e
          have := congrArg List.length e
          rw [pre, List.length_take, jx, Nat.min_self, ll, List.length_nil] at this
          omega
        exact (run_let tk _ nn preL S0 tk.z).ne zz.1
      have rs : runW (tw qs) S0 ((letsOf x ++ [S0]).take (j + 1)) = ((runW (tw qs) S0 ((letsOf x ++ [S0]).take j)).1 ++ (tw qs (runW (tw qs) S0 ((letsOf x ++ [S0]).take j)).2 y).1, (tw qs (runW (tw qs) S0 ((letsOf x ++ [S0]).take j)).2 y).2) := by
        rw [take_snoc hjs, runW_snoc]
      rw [rs]
      have sideH := reb_side ok re
      generalize runW (tw qs) S0 ((letsOf x ++ [S0]).take j) = R at re ne th5 tl5 sideH
      refine ⟨_, rfl, _, rfl, _, rfl, p, r, d, o, L, qs, [], R.2, y, rfl, W5, ok, sideH, sideY, Needs.nil S0 (fOf qs) _ _, rem0, by decide, fun H6 v6 sb6 W6 tr6 => ?_⟩
      obtain ⟨a6, b6, rfl, h61, h62, hl40⟩ := come_short ok sh re sideY ne tr6
      have th6 := th5.mono (W5.tk sb6)
      have ea6 := sb6 _ _ ea5 a3n
      have sb56 := sb5.trans sb6
      generalize tw qs R.2 y = rr at h61 h62 hl40
      refine ⟨_, rfl, _, rfl, a6, _, 0, .ref b6, rfl, rfl, h61, rfl, ?_⟩
      refine catThs th6 h62 (by omega) fun H7 tv7 s7 th7 => ?_
      refine ⟨_, rfl, a6, _, 1, .str rr.2, rfl, rfl, TK.same s7 _ _ h61, rfl, _, _, rfl, ?_⟩
      refine ⟨tv7, _, _, rfl, sb56.trans (Sb.of s7), W6.same s7, s7 _ _ ea6, th7, ?_⟩
      rw [List.length_append]
      omega
    · rintro σ H5 ⟨tv, x5, x6, rfl, sb5, W5, ea5, th5, tl5⟩
      rw [List.length_map, List.take_length] at th5
      exact ⟨_, rfl, q H5 tv (back sb5) th5⟩
end
end K24

namespace K24
open PySem PySem.Spec PyProof.Rows L2
theorem s0_len {x : Str} (h : x.length = 0) : x = S0 := by
  obtain ⟨cps⟩ := x
  have : cps = #[] := Array.eq_empty_of_size_eq_zero h
  rw [this]
  rfl
/-! ### lags -/
abbrev Lg := Tg × Tg
def strip : Tg → Tg → Lg
  | x :: xs, y :: ys => if x = y then strip xs ys else (x :: xs, y :: ys)
  | [], ys => ([], ys)
  | xs, [] => (xs, [])
theorem strip_nil (q : Tg) : strip [] q = ([], q) := by cases q <;> rfl
theorem strip_nil2 (p : Tg) : strip p [] = (p, []) := by cases p <;> rfl
theorem strip_eq (x : Thing Str) (p q : Tg) : strip (x :: p) (x :: q) = strip p q := by
  show (if x = x then strip p q else (x :: p, x :: q)) = _
  rw [if_pos rfl]
theorem strip_ne {x y : Thing Str} (h : x ≠ y) (p q : Tg) : strip (x :: p) (y :: q) = (x :: p, y :: q) := by
  show (if x = y then strip p q else (x :: p, y :: q)) = _
  rw [if_neg h]
theorem strip_app : ∀ (p q a b : Tg), strip ((strip p q).1 ++ a) ((strip p q).2 ++ b) = strip (p ++ a) (q ++ b)
  | [], q, a, b => by rw [strip_nil]
  | x :: p, [], a, b => by rw [strip_nil2]
  | x :: p, y :: q, a, b => by
    by_cases h : x = y
    · subst h
      rw [strip_eq, strip_app p q a b, List.cons_append, List.cons_append, strip_eq]
    · rw [strip_ne h]
theorem strip_ends : ∀ (p q a b : Tg), (strip p q).1 ++ a = (strip p q).2 ++ b ↔ p ++ a = q ++ b
  | [], q, a, b => by rw [strip_nil]
  | x :: p, [], a, b => by rw [strip_nil2]
  | x :: p, y :: q, a, b => by
    by_cases h : x = y
    · subst h
      rw [strip_eq, strip_ends p q a b, List.cons_append, List.cons_append, List.cons_inj_right]
    · rw [strip_ne h]
def Strp (l : Lg) : Prop := ∀ x xs y ys, l = (x :: xs, y :: ys) → x ≠ y
theorem strip_strp : ∀ (p q : Tg), Strp (strip p q)
  | [], q => by
    rw [strip_nil]
    intro x xs y ys e
    cases e
  | x :: p, [] => by
    rw [strip_nil2]
    intro x xs y ys e
    cases e
  | x :: p, y :: q => by
    by_cases h : x = y
    · subst h
      rw [strip_eq]
      exact strip_strp p q
    · rw [strip_ne h]
      intro x' xs y' ys e
      cases e
      exact h
theorem strip_len : ∀ (p q : Tg), (strip p q).1.length ≤ p.length ∧ (strip p q).2.length ≤ q.length
  | [], q => by rw [strip_nil]; exact ⟨Nat.le_refl _, Nat.le_refl _⟩
  | x :: p, [] => by rw [strip_nil2]; exact ⟨Nat.le_refl _, Nat.le_refl _⟩
  | x :: p, y :: q => by
    by_cases h : x = y
    · subst h
      rw [strip_eq]
      have := strip_len p q
      simp
      omega
    · rw [strip_ne h]
      exact ⟨Nat.le_refl _, Nat.le_refl _⟩
theorem strp_nil {l : Lg} {a b : Tg} (s : Strp l) (e : l.1 ++ a = l.2 ++ b) : l.1 = [] ∨ l.2 = [] := by
  obtain ⟨p, q⟩ := l
  cases p with
  | nil => exact .inl rfl
  | cons x xs =>
    cases q with
    | nil => exact .inr rfl
    | cons y ys =>
      exfalso
      have e : x :: (xs ++ a) = y :: (ys ++ b) := e
      injection e with e1 _
      exact s x xs y ys rfl e1
theorem lag_det {l m : Lg} {a b : Tg} (s : Strp l) (t : Strp m) (e : l.1 ++ a = l.2 ++ b) (f : m.1 ++ a = m.2 ++ b) : l = m := by
  obtain ⟨p, q⟩ := l
  obtain ⟨p', q'⟩ := m
  have e : p ++ a = q ++ b := e
  have f : p' ++ a = q' ++ b := f
  have le := congrArg List.length e
  have lf := congrArg List.length f
  rw [List.length_append, List.length_append] at le lf
  have n1 : p = [] ∨ q = [] := strp_nil (l := (p, q)) s e
  have n2 : p' = [] ∨ q' = [] := strp_nil (l := (p', q')) t f
  by_cases c : a.length ≤ b.length
  · have hq : q = [] := by
      rcases n1 with h | h
      · rw [h] at le
        exact List.length_eq_zero_iff.mp (by simp at le; omega)
      · exact h
    have hq' : q' = [] := by
      rcases n2 with h | h
      · rw [h] at lf
        exact List.length_eq_zero_iff.mp (by simp at lf; omega)
      · exact h
    subst hq
    subst hq'
    have : p ++ a = p' ++ a := e.trans f.symm
    rw [List.append_cancel_right this]
  · have hp : p = [] := by
      rcases n1 with h | h
      · exact h
      · rw [h] at le
        exact List.length_eq_zero_iff.mp (by simp at le; omega)
    have hp' : p' = [] := by
      rcases n2 with h | h
      · exact h
      · rw [h] at lf
        exact List.length_eq_zero_iff.mp (by simp at lf; omega)
    subst hp
    subst hp'
    have : q ++ b = q' ++ b := e.symm.trans f
    rw [List.append_cancel_right this]
/-! ### the search for a word with unlike shapes -/
abbrev St2 := Str × Str × Lg
abbrev En2 := St2 × Str
def nextU (T1 T2 : TT) (s : St2) (x : Str) : St2 := ((T1 s.1 x).2, (T2 s.2.1 x).2, strip (s.2.2.1 ++ (T1 s.1 x).1) (s.2.2.2 ++ (T2 s.2.1 x).1))
def endsU (T1 T2 : TT) (s : St2) : Bool := decide (s.2.2.1 ++ (T1 s.1 S0).1 = s.2.2.2 ++ (T2 s.2.1 S0).1)
def childU (T1 T2 : TT) (e : En2) (x : Str) : En2 := (nextU T1 T2 e.1 x, e.2 ++ x)
def stepG (T1 T2 : TT) (e : En2) (q : List En2) (x : Str) : List En2 := if nextU T1 T2 e.1 x ∈ q.map (·.1) then q else q ++ [childU T1 T2 e x]
def st0 : St2 := (S0, S0, [], [])
def rowsG (T1 T2 : TT) (ls : List Str) : Nat → List En2
  | 0 => [(st0, S0)]
  | i + 1 => match (rowsG T1 T2 ls i)[i]? with
    | none => rowsG T1 T2 ls i
    | some e => ls.foldl (stepG T1 T2 e) (rowsG T1 T2 ls i)
def badU (T1 T2 : TT) (e : En2) : Bool := decide (e.2 ≠ S0) && !endsU T1 T2 e.1
def EndG (T1 T2 : TT) (ls : List Str) (i : Nat) (v : V) : Prop :=
  (∀ j, j < i → ∃ e, (rowsG T1 T2 ls j)[j]? = some e ∧ badU T1 T2 e = false) ∧
  ((∃ e, (rowsG T1 T2 ls i)[i]? = some e ∧ badU T1 T2 e = true ∧ v = .str e.2) ∨ ((rowsG T1 T2 ls i)[i]? = none ∧ v = .non))
section
variable {T1 T2 : TT} {ls : List Str}
theorem EndG.lt {i j : Nat} {v u : V} (h : EndG T1 T2 ls i v) (h' : EndG T1 T2 ls j u) : ¬ i < j := by
  intro l
  obtain ⟨e, h1, h2⟩ := h'.1 i l
  rcases h.2 with ⟨e', h3, h4, _⟩ | ⟨h3, _⟩
  · rw [h1] at h3
    cases h3
    rw [h2] at h4
    cases h4
  · rw [h1] at h3
    cases h3
theorem EndG.one {i j : Nat} {v u : V} (h : EndG T1 T2 ls i v) (h' : EndG T1 T2 ls j u) : v = u := by
  have e : i = j := by
    have h1 := h.lt h'
    have h2 := h'.lt h
    omega
  subst e
  rcases h.2 with ⟨e, h3, h4, rfl⟩ | ⟨h3, rfl⟩ <;> rcases h'.2 with ⟨e', h5, h6, rfl⟩ | ⟨h5, rfl⟩
  · rw [h3] at h5
    cases h5
    rfl
  · rw [h3] at h5
    cases h5
  · rw [h3] at h5
    cases h5
  · rfl
theorem stepG_app (e : En2) (q : List En2) (x : Str) : ∃ more, stepG T1 T2 e q x = q ++ more := by
  unfold stepG
  split
  · exact ⟨[], (List.append_nil _).symm⟩
  · exact ⟨_, rfl⟩
theorem foldG_app (e : En2) : ∀ (xs : List Str) (q : List En2), ∃ more, xs.foldl (stepG T1 T2 e) q = q ++ more
  | [], q => ⟨[], (List.append_nil _).symm⟩
  | x :: xs, q => by
    obtain ⟨m1, h1⟩ := stepG_app (T1 := T1) (T2 := T2) e q x
    obtain ⟨m2, h2⟩ := foldG_app e xs (stepG T1 T2 e q x)
    exact ⟨m1 ++ m2, by rw [List.foldl_cons, h2, h1, List.append_assoc]⟩
theorem foldG_len (e : En2) : ∀ (xs : List Str) (q : List En2), (xs.foldl (stepG T1 T2 e) q).length ≤ q.length + xs.length
  | [], q => Nat.le_refl _
  | x :: xs, q => by
    have ih := foldG_len e xs (stepG T1 T2 e q x)
    have h1 : (stepG T1 T2 e q x).length ≤ q.length + 1 := by
      unfold stepG
      split
      · omega
      · rw [List.length_append]
        exact Nat.le_refl _
    rw [List.foldl_cons, List.length_cons]
    omega
theorem rowsG_turn {i : Nat} {e : En2} (h : (rowsG T1 T2 ls i)[i]? = some e) : rowsG T1 T2 ls (i + 1) = ls.foldl (stepG T1 T2 e) (rowsG T1 T2 ls i) := by
  show (match (rowsG T1 T2 ls i)[i]? with | none => rowsG T1 T2 ls i | some e => ls.foldl (stepG T1 T2 e) (rowsG T1 T2 ls i)) = _
  rw [h]
theorem rowsG_succ (i : Nat) : ∃ more, rowsG T1 T2 ls (i + 1) = rowsG T1 T2 ls i ++ more := by
  show ∃ more, (match (rowsG T1 T2 ls i)[i]? with | none => rowsG T1 T2 ls i | some e => ls.foldl (stepG T1 T2 e) (rowsG T1 T2 ls i)) = _
  cases (rowsG T1 T2 ls i)[i]? with
  | none => exact ⟨[], (List.append_nil _).symm⟩
  | some e => exact foldG_app e ls _
theorem rowsG_len : ∀ i, (rowsG T1 T2 ls i).length ≤ 1 + ls.length * i
  | 0 => by simp [rowsG]
  | i + 1 => by
    have ih := rowsG_len i
    show (match (rowsG T1 T2 ls i)[i]? with | none => rowsG T1 T2 ls i | some e => ls.foldl (stepG T1 T2 e) (rowsG T1 T2 ls i)).length ≤ _
    rw [Nat.mul_succ]
    cases (rowsG T1 T2 ls i)[i]? with
    | none => show (rowsG T1 T2 ls i).length ≤ _; omega
    | some e =>
      have := foldG_len (T1 := T1) (T2 := T2) e ls (rowsG T1 T2 ls i)
      show (ls.foldl (stepG T1 T2 e) (rowsG T1 T2 ls i)).length ≤ _
      omega
theorem rowsG_le {i j : Nat} (h : i ≤ j) : ∃ more, rowsG T1 T2 ls j = rowsG T1 T2 ls i ++ more := by
  induction j with
  | zero =>
    have : i = 0 := by omega
    subst this
    exact ⟨[], (List.append_nil _).symm⟩
  | succ j ih =>
    by_cases e : i = j + 1
    · subst e
      exact ⟨[], (List.append_nil _).symm⟩
    · obtain ⟨m, h1⟩ := ih (by omega)
      obtain ⟨m2, h2⟩ := rowsG_succ (T1 := T1) (T2 := T2) (ls := ls) j
      exact ⟨m ++ m2, by rw [h2, h1, List.append_assoc]⟩
theorem rowsG_get {i j k : Nat} {e : En2} (h : i ≤ j) (hk : (rowsG T1 T2 ls i)[k]? = some e) : (rowsG T1 T2 ls j)[k]? = some e := by
  obtain ⟨m, h1⟩ := rowsG_le (T1 := T1) (T2 := T2) (ls := ls) h
  rw [h1, List.getElem?_append_left (List.getElem?_eq_some_iff.mp hk).1]
  exact hk
/-- where a word leads -/
def stW (T1 T2 : TT) (xs : List Str) : St2 := ((runW T1 S0 xs).2, (runW T2 S0 xs).2, strip (runW T1 S0 xs).1 (runW T2 S0 xs).1)
theorem stW_snoc (xs : List Str) (x : Str) : stW T1 T2 (xs ++ [x]) = nextU T1 T2 (stW T1 T2 xs) x := by
  unfold stW nextU
  rw [runW_snoc, runW_snoc, strip_app]
theorem stW_ends (xs : List Str) : endsU T1 T2 (stW T1 T2 xs) = decide ((runW T1 S0 (xs ++ [S0])).1 = (runW T2 S0 (xs ++ [S0])).1) := by
  unfold endsU stW
  rw [runW_snoc, runW_snoc]
  exact decide_eq_decide.mpr (strip_ends _ _ _ _)
variable {L : Str} {R1 R2 : Str → Prop}
structure GoodG (L : Str) (T1 T2 : TT) (R1 R2 : Str → Prop) (q : List En2) : Prop where
  nd : (q.map (·.1)).Nodup
  z : q[0]? = some (st0, S0)
  each : ∀ k e, q[k]? = some e → R1 e.1.1 ∧ R2 e.1.2.1 ∧ WordOk L e.2 ∧ e.2.length ≤ k ∧ (0 < k → 1 ≤ e.2.length ∧ IsLet L e.1.1 ∧ IsLet L e.1.2.1) ∧ e.1 = stW T1 T2 (letsOf e.2) ∧
    e.1.2.2.1.length ≤ 40 * k ∧ e.1.2.2.2.length ≤ 40 * k
/-- what both tell at a letter is little -/
structure TFew (L : Str) (T : TT) (Re : Str → Prop) : Prop where
  ok : TOk L T Re
  few : ∀ s x, Re s → IsSide L x → ¬ (s = S0 ∧ x = S0) → (T s x).1.length ≤ 40
theorem goodG_step (t1 : TFew L T1 R1) (t2 : TFew L T2 R2) {q : List En2} {e : En2} {i : Nat} {x : Str} (g : GoodG L T1 T2 R1 R2 q) (hi : q[i]? = some e) (hx : IsLet L x) : GoodG L T1 T2 R1 R2 (stepG T1 T2 e q x) := by
  unfold stepG
  split
  · exact g
  · rename_i c
    obtain ⟨g1, g2, g3, g4, g5, g6, g7, g8⟩ := g.each i e hi
    have il := (List.getElem?_eq_some_iff.mp hi).1
    have s1 := t1.ok.st e.1.1 x g1 hx
    have s2 := t2.ok.st e.1.2.1 x g2 hx
    have f1 := t1.few e.1.1 x g1 (.inr hx) (fun z => hx.ne z.2)
    have f2 := t2.few e.1.2.1 x g2 (.inr hx) (fun z => hx.ne z.2)
    refine ⟨?_, ?_, fun k e' h => ?_⟩
    · rw [List.map_append]
      refine List.nodup_append.mpr ⟨g.nd, by simp, ?_⟩
      intro a ha b hb
      simp at hb
      subst hb
      intro e2
      subst e2
      exact c ha
    · rw [List.getElem?_append_left (List.getElem?_eq_some_iff.mp g.z).1]
      exact g.z
    · by_cases hk : k < q.length
      · rw [List.getElem?_append_left hk] at h
        exact g.each k e' h
      · have hl := (List.getElem?_eq_some_iff.mp h).1
        rw [List.length_append] at hl
        have hk2 : k = q.length := by
          simp at hl
          omega
        subst hk2
        rw [List.getElem?_append_right (Nat.le_refl _)] at h
        simp at h
        subst h
        obtain ⟨c', hc, rfl⟩ := id hx
        have al : (e.2 ++ sg c').length = e.2.length + 1 := app_len _ _
        have sl := strip_len (e.1.2.2.1 ++ (T1 e.1.1 (sg c')).1) (e.1.2.2.2 ++ (T2 e.1.2.1 (sg c')).1)
        rw [List.length_append, List.length_append] at sl
        refine ⟨s1.2, s2.2, word_snoc g3 hx, ?_, fun _ => ⟨?_, s1.1, s2.1⟩, ?_, ?_, ?_⟩
        · show (e.2 ++ sg c').length ≤ _
          omega
        · show 1 ≤ (e.2 ++ sg c').length
          omega
        · show nextU T1 T2 e.1 (sg c') = stW T1 T2 (letsOf (e.2 ++ sg c'))
          rw [lets_app, lets_sg, stW_snoc, ← g6]
        · show (strip (e.1.2.2.1 ++ (T1 e.1.1 (sg c')).1) (e.1.2.2.2 ++ (T2 e.1.2.1 (sg c')).1)).1.length ≤ _
          omega
        · show (strip (e.1.2.2.1 ++ (T1 e.1.1 (sg c')).1) (e.1.2.2.2 ++ (T2 e.1.2.1 (sg c')).1)).2.length ≤ _
          omega
theorem goodG_fold (t1 : TFew L T1 R1) (t2 : TFew L T2 R2) {e : En2} {i : Nat} : ∀ (xs : List Str) {q : List En2}, GoodG L T1 T2 R1 R2 q → q[i]? = some e → (∀ x ∈ xs, IsLet L x) → GoodG L T1 T2 R1 R2 (xs.foldl (stepG T1 T2 e) q)
  | [], q, g, _, _ => g
  | x :: xs, q, g, hi, hx => by
    rw [List.foldl_cons]
    have g1 := goodG_step t1 t2 g hi (hx x List.mem_cons_self)
    obtain ⟨m, h1⟩ := stepG_app (T1 := T1) (T2 := T2) e q x
    refine goodG_fold (i := i) t1 t2 xs g1 ?_ fun y hy => hx y (List.mem_cons_of_mem _ hy)
    rw [h1, List.getElem?_append_left (List.getElem?_eq_some_iff.mp hi).1]
    exact hi
theorem goodG_rows (t1 : TFew L T1 R1) (t2 : TFew L T2 R2) (hl : ∀ x ∈ ls, IsLet L x) : ∀ i, GoodG L T1 T2 R1 R2 (rowsG T1 T2 ls i)
  | 0 => by
    refine ⟨by simp [rowsG], rfl, fun k e h => ?_⟩
    cases k with
    | zero =>
      cases h
      exact ⟨t1.ok.z, t2.ok.z, (fun c hc => by cases hc), Nat.zero_le _, (fun z => absurd z (by decide)), rfl, Nat.zero_le _, Nat.zero_le _⟩
    | succ k => simp [rowsG] at h
  | i + 1 => by
    have g := goodG_rows t1 t2 hl i
    show GoodG L T1 T2 R1 R2 (match (rowsG T1 T2 ls i)[i]? with | none => rowsG T1 T2 ls i | some e => ls.foldl (stepG T1 T2 e) (rowsG T1 T2 ls i))
    cases h : (rowsG T1 T2 ls i)[i]? with
    | none => exact g
    | some e => exact goodG_fold t1 t2 ls g h hl
/-- of states whose ends agree, the standings tell the lag -/
theorem good_key {q : List En2} (g : GoodG L T1 T2 R1 R2 q) {e e' : En2} (h : e.1 = stW T1 T2 (letsOf e.2)) (h' : e'.1 = stW T1 T2 (letsOf e'.2)) (b : endsU T1 T2 e.1 = true) (b' : endsU T1 T2 e'.1 = true) (k1 : e.1.1 = e'.1.1) (k2 : e.1.2.1 = e'.1.2.1) : e.1 = e'.1 := by
  have b := of_decide_eq_true b
  have b' := of_decide_eq_true b'
  rw [k1, k2] at b
  have s : Strp e.1.2.2 := by rw [h]; exact strip_strp _ _
  have s' : Strp e'.1.2.2 := by rw [h']; exact strip_strp _ _
  have := lag_det s s' b b'
  exact Prod.ext k1 (Prod.ext k2 this)
/-- few are looked at -/
theorem few_rows (t1 : TFew L T1 R1) (t2 : TFew L T2 R2) (ok : LetOk L) (hl : ∀ x ∈ ls, IsLet L x) {i : Nat} (h : ∀ j, j < i → ∃ e, (rowsG T1 T2 ls j)[j]? = some e ∧ badU T1 T2 e = false) : i ≤ 81 := by
  have g := goodG_rows t1 t2 hl i
  have at' : ∀ j, j < i → ∃ e, (rowsG T1 T2 ls i)[j]? = some e ∧ badU T1 T2 e = false := fun j hj => by
    obtain ⟨e, h1, h2⟩ := h j hj
    exact ⟨e, rowsG_get (Nat.le_of_lt hj) h1, h2⟩
  have len : i ≤ (rowsG T1 T2 ls i).length := by
    rcases Nat.eq_zero_or_pos i with z | z
    · omega
    · obtain ⟨e, h1, _⟩ := at' (i - 1) (by omega)
      have := (List.getElem?_eq_some_iff.mp h1).1
      omega
  have nd : (((rowsG T1 T2 ls i).take i).map fun e => (e.1.1, e.1.2.1)).Nodup := by
    refine List.nodup_iff_pairwise_ne.mpr (List.pairwise_iff_getElem.mpr fun a b ha hb lt => ?_)
    rw [List.length_map, List.length_take] at ha hb
    rw [List.getElem_map, List.getElem_map, List.getElem_take, List.getElem_take]
    intro e
    have ga : (rowsG T1 T2 ls i)[a]? = some (rowsG T1 T2 ls i)[a] := List.getElem?_eq_getElem (by omega)
    have gb : (rowsG T1 T2 ls i)[b]? = some (rowsG T1 T2 ls i)[b] := List.getElem?_eq_getElem (by omega)
    obtain ⟨xa, h1, h2⟩ := at' a (by omega)
    obtain ⟨xb, h3, h4⟩ := at' b (by omega)
    have ea' : (rowsG T1 T2 ls i)[a] = xa := by
      rw [ga] at h1
      exact Option.some.inj h1
    have eb' : (rowsG T1 T2 ls i)[b] = xb := by
      rw [gb] at h3
      exact Option.some.inj h3
    rw [ea', eb'] at e
    clear ga gb ea' eb'
    have ga := h1
    have gb := h3
    have Ga := g.each a xa ga
    have Gb := g.each b xb gb
    have k1 : xa.1.1 = xb.1.1 := (Prod.ext_iff.mp e).1
    have k2 : xa.1.2.1 = xb.1.2.1 := (Prod.ext_iff.mp e).2
    by_cases a0 : a = 0
    · subst a0
      rw [g.z] at ga
      cases ga
      exact ((Gb.2.2.2.2.1 (by omega)).2.1).ne k1.symm
    · have ne : ∀ {x : En2}, 1 ≤ x.2.length → x.2 ≠ S0 := fun h z => by
        rw [z] at h
        exact absurd h (by decide)
      have good : ∀ {x : En2}, x.2 ≠ S0 → badU T1 T2 x = false → endsU T1 T2 x.1 = true := fun h1 h2 => by
        unfold badU at h2
        rw [decide_eq_true h1] at h2
        simpa using h2
      have same := good_key g Ga.2.2.2.2.2.1 Gb.2.2.2.2.2.1 (good (ne (Ga.2.2.2.2.1 (by omega)).1) h2) (good (ne (Gb.2.2.2.2.1 (by omega)).1) h4) k1 k2
      have e1 : ((rowsG T1 T2 ls i).map (·.1))[a]? = some xa.1 := by
        rw [List.getElem?_map, ga]
        rfl
      have e2 : ((rowsG T1 T2 ls i).map (·.1))[b]? = some xa.1 := by
        rw [List.getElem?_map, gb, same]
        rfl
      have := nd_inj g.nd e1 e2
      omega
  have sub : ∀ x ∈ ((rowsG T1 T2 ls i).take i).map (fun e => (e.1.1, e.1.2.1)), x ∈ (S0 :: letsOf L).flatMap fun a => (S0 :: letsOf L).map fun b => (a, b) := by
    intro x hx
    obtain ⟨e, hm, rfl⟩ := List.mem_map.mp hx
    obtain ⟨k, hk⟩ := List.getElem?_of_mem (List.mem_of_mem_take hm)
    obtain ⟨g1, g2, _⟩ := g.each k e hk
    exact List.mem_flatMap.mpr ⟨e.1.1, side_in (t1.ok.sd _ g1), List.mem_map.mpr ⟨e.1.2.1, side_in (t2.ok.sd _ g2), rfl⟩⟩
  have h1 := nodup_len _ _ nd sub
  have h2 : ∀ xs : List Str, (xs.flatMap fun a => (S0 :: letsOf L).map fun b => (a, b)).length = xs.length * (L.length + 1) := by
    intro xs
    induction xs with
    | nil => simp
    | cons x xs ih =>
      rw [List.flatMap_cons, List.length_append, ih, List.length_map, List.length_cons, lets_len, List.length_cons, Nat.succ_mul]
      omega
  rw [h2, List.length_map, List.length_take, List.length_cons, lets_len] at h1
  have h3 := let_len ok
  have h4 : (L.length + 1) * (L.length + 1) ≤ 9 * 9 := Nat.mul_le_mul (by omega) (by omega)
  omega
/-! ### the order -/
def SortG (q : List En2) : Prop := ∀ (a b : Nat) (ea eb : En2), q[a]? = some ea → q[b]? = some eb → a < b → valW ea.2 < valW eb.2
theorem sortG_fold {e : En2} {B : Nat} : ∀ (cs : List Nat) (q : List En2) (m : Nat), SortG q → (∀ e' ∈ q, valW e'.2 < 1000 * valW e.2 + m) → cs.Pairwise (· < ·) → (∀ c ∈ cs, m ≤ c ∧ c < B) → m ≤ B → SortG ((cs.map sg).foldl (stepG T1 T2 e) q) ∧
    ∀ e' ∈ (cs.map sg).foldl (stepG T1 T2 e) q, valW e'.2 < 1000 * valW e.2 + B
  | [], q, m, s, h, _, _, hm => ⟨s, fun e' he => by have := h e' he; omega⟩
  | c :: cs, q, m, s, h, p, hc, hm => by
    obtain ⟨p1, p2⟩ := List.pairwise_cons.mp p
    obtain ⟨c1, c2⟩ := hc c List.mem_cons_self
    rw [List.map_cons, List.foldl_cons]
    refine sortG_fold cs (stepG T1 T2 e q (sg c)) (c + 1) ?_ ?_ p2 (fun d hd => ⟨p1 d hd, (hc d (List.mem_cons_of_mem _ hd)).2⟩) c2
    · unfold stepG
      split
      · exact s
      · intro a b ea eb ha hb lt
        by_cases hb2 : b < q.length
        · rw [List.getElem?_append_left hb2] at hb
          rw [List.getElem?_append_left (by omega)] at ha
          exact s a b ea eb ha hb lt
        · have hl := (List.getElem?_eq_some_iff.mp hb).1
          rw [List.length_append] at hl
          have hk2 : b = q.length := by
            simp at hl
            omega
          subst hk2
          rw [List.getElem?_append_right (Nat.le_refl _)] at hb
          simp at hb
          subst hb
          rw [List.getElem?_append_left lt] at ha
          have h1 := h ea (List.mem_of_getElem? ha)
          show _ < valW (e.2 ++ sg c)
          rw [valW_snoc]
          omega
    · unfold stepG
      intro e' he
      split at he
      · have := h e' he
        omega
      · rcases List.mem_append.mp he with m1 | m1
        · have := h e' m1
          omega
        · rw [List.mem_singleton.mp m1]
          show valW (e.2 ++ sg c) < _
          rw [valW_snoc]
          omega
theorem sortG_rows (ok : LetOk L) (hls : ls = letsOf L) : ∀ i, SortG (rowsG T1 T2 ls i) ∧ ∀ e, (rowsG T1 T2 ls i)[i]? = some e → ∀ e' ∈ rowsG T1 T2 ls i, valW e'.2 < 1000 * valW e.2 + 1
  | 0 => by
    refine ⟨fun a b ea eb ha hb lt => ?_, fun e he e' he' => ?_⟩
    · have h1 := (List.getElem?_eq_some_iff.mp hb).1
      have h1 : b < 1 := h1
      omega
    · have he' : e' ∈ [((st0, S0) : En2)] := he'
      rw [List.mem_singleton.mp he']
      show valW S0 < _
      have : valW S0 = 0 := rfl
      omega
  | i + 1 => by
    obtain ⟨s, b⟩ := sortG_rows ok hls i
    cases h : (rowsG T1 T2 ls i)[i]? with
    | none =>
      have e1 : rowsG T1 T2 ls (i + 1) = rowsG T1 T2 ls i := by
        show (match (rowsG T1 T2 ls i)[i]? with | none => rowsG T1 T2 ls i | some e => ls.foldl (stepG T1 T2 e) (rowsG T1 T2 ls i)) = _
        rw [h]
      rw [e1]
      refine ⟨s, fun e he => ?_⟩
      have h1 := List.getElem?_eq_none_iff.mp h
      have h2 := (List.getElem?_eq_some_iff.mp he).1
      omega
    | some e =>
      rw [rowsG_turn h]
      obtain ⟨s2, b2⟩ := sortG_fold (T1 := T1) (T2 := T2) (e := e) (B := 123) L.cps.toList (rowsG T1 T2 ls i) 1 s (b e h) ok.asc (fun c hc => by have := ok.low c hc; omega) (by decide)
      rw [hls] at *
      refine ⟨s2, fun e2 he2 e' he' => ?_⟩
      have b3 := b2 e' he'
      obtain ⟨m, h1⟩ := foldG_app (T1 := T1) (T2 := T2) e (letsOf L) (rowsG T1 T2 (letsOf L) i)
      have hi : ((letsOf L).foldl (stepG T1 T2 e) (rowsG T1 T2 (letsOf L) i))[i]? = some e := by
        rw [h1, List.getElem?_append_left (List.getElem?_eq_some_iff.mp h).1]
        exact h
      have := s2 i (i + 1) e e2 hi he2 (Nat.lt_succ_self i)
      omega
theorem childG_fold {e : En2} : ∀ (cs : List Nat) (q : List En2) (m : Nat), (∀ e' ∈ q, valW e'.2 < 1000 * valW e.2 + m) → cs.Pairwise (· < ·) → (∀ c ∈ cs, m ≤ c) → ∀ c ∈ cs,
    ∃ e2 ∈ (cs.map sg).foldl (stepG T1 T2 e) q, e2.1 = nextU T1 T2 e.1 (sg c) ∧ valW e2.2 ≤ 1000 * valW e.2 + c
  | [], q, m, h, _, _, c, hc => nomatch hc
  | d :: cs, q, m, h, p, hm, c, hc => by
    obtain ⟨p1, p2⟩ := List.pairwise_cons.mp p
    have hd := hm d List.mem_cons_self
    rw [List.map_cons, List.foldl_cons]
    have h2 : ∀ e' ∈ stepG T1 T2 e q (sg d), valW e'.2 < 1000 * valW e.2 + (d + 1) := by
      unfold stepG
      intro e' he
      split at he
      · have := h e' he
        omega
      · rcases List.mem_append.mp he with m1 | m1
        · have := h e' m1
          omega
        · rw [List.mem_singleton.mp m1]
          show valW (e.2 ++ sg d) < _
          rw [valW_snoc]
          omega
    by_cases z : c = d
    · subst z
      obtain ⟨m2, e3⟩ := foldG_app (T1 := T1) (T2 := T2) e (cs.map sg) (stepG T1 T2 e q (sg c))
      have h3 : ∃ e2 ∈ stepG T1 T2 e q (sg c), e2.1 = nextU T1 T2 e.1 (sg c) ∧ valW e2.2 ≤ 1000 * valW e.2 + c := by
        unfold stepG
        by_cases k : nextU T1 T2 e.1 (sg c) ∈ q.map (·.1)
        · rw [if_pos k]
          obtain ⟨e2, he2, k2⟩ := List.mem_map.mp k
          have := h e2 he2
          exact ⟨e2, he2, k2, by omega⟩
        · rw [if_neg k]
          refine ⟨childU T1 T2 e (sg c), List.mem_append_right _ (List.mem_singleton.mpr rfl), rfl, ?_⟩
          show valW (e.2 ++ sg c) ≤ _
          rw [valW_snoc]
          exact Nat.le_refl _
      obtain ⟨e2, he2, k2, v2⟩ := h3
      exact ⟨e2, by rw [e3]; exact List.mem_append_left _ he2, k2, v2⟩
    · have hc2 : c ∈ cs := by
        rcases List.mem_cons.mp hc with e1 | m1
        · exact absurd e1 z
        · exact m1
      exact childG_fold cs _ (d + 1) h2 p2 (fun y hy => p1 y hy) c hc2
theorem childG (ok : LetOk L) (hls : ls = letsOf L) {j : Nat} {e : En2} (hj : (rowsG T1 T2 ls j)[j]? = some e) {c : Nat} (hc : c ∈ L.cps.toList) :
    ∃ e2 ∈ rowsG T1 T2 ls (j + 1), e2.1 = nextU T1 T2 e.1 (sg c) ∧ valW e2.2 ≤ valW (e.2 ++ sg c) := by
  obtain ⟨_, b⟩ := sortG_rows (T1 := T1) (T2 := T2) ok hls j
  have h := childG_fold (T1 := T1) (T2 := T2) (e := e) L.cps.toList (rowsG T1 T2 ls j) 1 (b e hj) ok.asc (fun c hc => by have := ok.low c hc; omega) c hc
  rw [rowsG_turn hj, valW_snoc]
  subst hls
  exact h
/-- the word told is the least one -/
theorem least_unlike (ok : LetOk L) (t1 : TFew L T1 R1) (t2 : TFew L T2 R2) (hls : ls = letsOf L) {N : Nat} {v : V} (h : EndG T1 T2 ls N v) {w : Str} (hw : WordOk L w) (h1 : 1 ≤ w.length)
    (hr : (runW T1 S0 (letsOf w ++ [S0])).1 ≠ (runW T2 S0 (letsOf w ++ [S0])).1) : ∃ u, v = .str u ∧ valW u ≤ valW w := by
  have hlet : ∀ x ∈ ls, IsLet L x := fun x hx => by
    rw [hls] at hx
    exact lets_is x hx
  have g := goodG_rows (ls := ls) t1 t2 hlet
  obtain ⟨so, _⟩ := sortG_rows (T1 := T1) (T2 := T2) (L := L) ok hls N
  have K : ∀ (k : Nat) (ys zs : List Nat), ys.length = k → w.cps.toList = ys ++ zs →
      (∃ e, (rowsG T1 T2 ls N)[N]? = some e ∧ valW e.2 ≤ valL ys) ∨ ∃ p e, p < N ∧ (rowsG T1 T2 ls p)[p]? = some e ∧ valW e.2 ≤ valL ys ∧ e.1 = stW T1 T2 (ys.map sg) := by
    intro k
    induction k with
    | zero =>
      intro ys zs hk _
      have hk := List.length_eq_zero_iff.mp hk
      subst hk
      by_cases n0 : N = 0
      · subst n0
        exact .inl ⟨(st0, S0), rfl, Nat.le_refl _⟩
      · exact .inr ⟨0, (st0, S0), by omega, rfl, Nat.le_refl _, rfl⟩
    | succ k ih =>
      intro ys zs hk e0
      have hd := List.dropLast_concat_getLast (l := ys) (by intro z; rw [z] at hk; cases hk)
      have hkl : ys.dropLast.length = k := by
        rw [List.length_dropLast]
        omega
      obtain ⟨ys', hy'⟩ : ∃ z, z = ys.dropLast := ⟨_, rfl⟩
      rw [← hy'] at hd hkl
      clear hy'
      generalize ys.getLast _ = c at hd
      subst hd
      clear hk
      have vs : valL (ys' ++ [c]) = 1000 * valL ys' + c := by
        unfold valL
        rw [List.foldl_append]
        rfl
      rcases ih ys' (c :: zs) hkl (by rw [e0, List.append_assoc]; rfl) with ⟨e, he, le⟩ | ⟨p, e, pN, hp, le, en⟩
      · exact .inl ⟨e, he, by omega⟩
      · have hc : c ∈ L.cps.toList := hw c (by rw [e0]; simp)
        obtain ⟨e2, m2, k2, v2⟩ := childG ok hls hp hc
        obtain ⟨p2, hp2⟩ := List.getElem?_of_mem m2
        have v2 : valW e2.2 ≤ 1000 * valW e.2 + c := by
          rw [valW_snoc] at v2
          exact v2
        have hp2N : (rowsG T1 T2 ls N)[p2]? = some e2 := rowsG_get (by omega) hp2
        by_cases lt : p2 < N
        · refine .inr ⟨p2, e2, lt, ?_, by omega, ?_⟩
          · obtain ⟨e3, h3, _⟩ := h.1 p2 lt
            have := rowsG_get (T1 := T1) (T2 := T2) (ls := ls) (Nat.le_of_lt lt) h3
            rw [hp2N] at this
            rw [h3, ← this]
          · rw [List.map_append, List.map_cons, List.map_nil, stW_snoc, ← en]
            exact k2
        · have ll := (List.getElem?_eq_some_iff.mp hp2N).1
          obtain ⟨e3, h3⟩ : ∃ e3, (rowsG T1 T2 ls N)[N]? = some e3 := ⟨_, List.getElem?_eq_getElem (by omega)⟩
          refine .inl ⟨e3, h3, ?_⟩
          by_cases z : p2 = N
          · subst z
            rw [hp2N] at h3
            cases h3
            omega
          · have := so N p2 e3 e2 h3 hp2N (by omega)
            omega
  rcases K _ w.cps.toList [] rfl (List.append_nil _).symm with ⟨e, he, le⟩ | ⟨p, e, pN, hp, le, en⟩
  · rcases h.2 with ⟨e', h3, h4, rfl⟩ | ⟨h3, _⟩
    · rw [he] at h3
      cases h3
      exact ⟨_, rfl, le⟩
    · rw [he] at h3
      cases h3
  · exfalso
    obtain ⟨e', h3, h4⟩ := h.1 p pN
    rw [hp] at h3
    cases h3
    have en : e.1 = stW T1 T2 (letsOf w) := en
    have lw : letsOf w ≠ [] := fun z => by
      have := lets_len w
      rw [z, List.length_nil] at this
      omega
    have e1 : e.1.1 ≠ S0 := by
      rw [en]
      exact (run_let t1.ok _ lw (word_lets hw) S0 t1.ok.z).ne
    have ne : e.2 ≠ S0 := by
      intro z
      by_cases p0 : p = 0
      · subst p0
        have := (g 0).z
        rw [hp] at this
        cases this
        exact e1 rfl
      · have := (((g p).each p e hp).2.2.2.2.1 (by omega)).1
        rw [z] at this
        exact absurd this (by decide)
    unfold badU at h4
    rw [decide_eq_true ne, en, stW_ends, decide_eq_false hr] at h4
    cases h4
theorem told_unlike (t1 : TFew L T1 R1) (t2 : TFew L T2 R2) (ok : LetOk L) (hl : ∀ x ∈ ls, IsLet L x) (l8 : ls.length ≤ 8) {N : Nat} {v : V} (h : EndG T1 T2 ls N v) :
    v = .non ∨ ∃ u, v = .str u ∧ WordOk L u ∧ 1 ≤ u.length ∧ u.length ≤ 81 ∧ (runW T1 S0 (letsOf u ++ [S0])).1 ≠ (runW T2 S0 (letsOf u ++ [S0])).1 := by
  rcases h.2 with ⟨e, h3, h4, rfl⟩ | ⟨_, rfl⟩
  · refine .inr ⟨e.2, rfl, ?_⟩
    have n := few_rows t1 t2 ok hl h.1
    obtain ⟨_, _, g3, g4, _, g6, _⟩ := (goodG_rows t1 t2 hl N).each N e h3
    unfold badU at h4
    obtain ⟨c1, c2⟩ := Bool.and_eq_true_iff.mp h4
    have c1 : e.2 ≠ S0 := of_decide_eq_true c1
    refine ⟨g3, ?_, by omega, fun z => ?_⟩
    · by_cases z : e.2.length = 0
      · exfalso
        exact c1 (s0_len z)
      · omega
    · rw [g6, stW_ends, decide_eq_true z] at c2
      cases c2
  · exact .inl rfl
/-- words of letters, by their value -/
theorem valL_inj : ∀ (a b : List Nat), (∀ c ∈ a, 97 ≤ c ∧ c ≤ 122) → (∀ c ∈ b, 97 ≤ c ∧ c ≤ 122) → valL a = valL b → a = b := by
  have K : ∀ (n : Nat) (a b : List Nat), a.length = n → (∀ c ∈ a, 97 ≤ c ∧ c ≤ 122) → (∀ c ∈ b, 97 ≤ c ∧ c ≤ 122) → valL a = valL b → a = b := by
    intro n
    have snoc : ∀ (a : List Nat) (c : Nat), valL (a ++ [c]) = 1000 * valL a + c := fun a c => by
      unfold valL
      rw [List.foldl_append]
      rfl
    have cut : ∀ (a : List Nat), a ≠ [] → ∃ a' c, a = a' ++ [c] := fun a h => ⟨_, _, (List.dropLast_concat_getLast h).symm⟩
    induction n with
    | zero =>
      intro a b ha _ hb e
      have ha := List.length_eq_zero_iff.mp ha
      subst ha
      by_cases z : b = []
      · exact z.symm
      · obtain ⟨b', c, rfl⟩ := cut b z
        rw [snoc] at e
        have := hb c (by simp)
        have e : 0 = 1000 * valL b' + c := e
        omega
    | succ n ih =>
      intro a b ha h1 h2 e
      obtain ⟨a', c, rfl⟩ := cut a (by intro z; rw [z] at ha; cases ha)
      by_cases z : b = []
      · subst z
        rw [snoc] at e
        have := h1 c (by simp)
        have e : 1000 * valL a' + c = 0 := e
        omega
      · obtain ⟨b', d, rfl⟩ := cut b z
        rw [snoc, snoc] at e
        have c1 := h1 c (by simp)
        have c2 := h2 d (by simp)
        have e1 : valL a' = valL b' := by omega
        have e2 : c = d := by omega
        rw [ih a' b' (by simp at ha; omega) (fun x hx => h1 x (by simp [hx])) (fun x hx => h2 x (by simp [hx])) e1, e2]
  exact fun a b => K _ a b rfl
theorem valW_inj (ok : LetOk L) {a b : Str} (ha : WordOk L a) (hb : WordOk L b) (e : valW a = valW b) : a = b := by
  have := valL_inj _ _ (fun c hc => ok.low c (ha c hc)) (fun c hc => ok.low c (hb c hc)) e
  obtain ⟨x⟩ := a
  obtain ⟨y⟩ := b
  have : x = y := Array.toList_inj.mp this
  rw [this]
end
end K24

namespace K24
open PySem PySem.Spec PyProof.Rows L2
/-! ### {k: v}, with a key that is a tuple -/
def tDisp1T (tk tv : TE) : TE := fun σ H Q => ∀ p, H p = none → tk σ (upd H p (.dT [])) fun x H1 => tv σ H1 fun y H2 => ∃ (k : List L2.Key) (b : Addr), x = .ref b ∧ H2 b = some (.tup (k.map kV)) ∧ H2 p = some (.dT []) ∧ Q (.ref p) (upd H2 p (.dT [(k, y)]))
theorem pe_disp1T {X : Cx} {pos : Pos} {k v : Expr} {tk tv : TE} (hu : X.A.units + 1 < cLine) (hk : PE X k tk) (hv : PE X v tv) : PE X (.Dict [some k] [v] pos) (tDisp1T tk tv) := by
  refine ⟨fun pins s σ H Q I q => ?_⟩
  have hn := I.hok.fresh (Nat.le_refl s.heap.objs.size)
  have I1 := I.laid (a := s.heap.objs.size) (o := .dT []) (h' := s.heap.push { cls := .type "dict", data := .dict #[] }) (t' := s.toks) (fun _ _ q => Heap.get?_push_of_some _ q) (Nat.le_refl _) (dt_empty s.heap I.big)
  have run := (pps_cons hk hv (pps_nil (X := X) (pos := pos))).run pins _ σ _ (fun ps H2 => match ps with
    | [(x, y)] => ∃ (k : List L2.Key) (b : Addr), x = .ref b ∧ H2 b = some (.tup (k.map kV)) ∧ H2 s.heap.objs.size = some (.dT []) ∧ Q (.ref s.heap.objs.size) (upd H2 s.heap.objs.size (.dT [(k, y)]))
    | _ => False) I1 (q _ hn)
  rw [arm_eval_Dict, zip_pairTrees [some k] [v] X.env pos rfl rfl, dictDisplay_pairs _ (by simp [pairTrees]) (by simp [pairTrees])]
  refine wpAny_bind (wpAny_standAt (wpAny_bind ?_))
  unfold subDict
  refine wpAny_bind (wpAny_alloc ?_)
  refine wpAny_bind (wpAny_holding ?_)
  rw [if_pos (by simp [pairTrees])]
  refine wpAny_bind (wpAny_mono run (fun vs s1 h1 => ?_) fun _ _ e => e)
  obtain ⟨ps, H2, I2, rel, q2⟩ := h1
  match ps, rel, q2 with
  | [(x, y)], .cons (b := (u, w2)) ⟨rx, ry⟩ .nil, ⟨ks, b, ex, eb, ep, q3⟩ =>
    subst ex
    obtain rfl : u = Value.ref b := rx
    obtain ⟨z, hd, xs, kt, dd⟩ := dt_of I2.hok ep
    cases kt
    refine wpAny_holding ?_
    rw [List.forIn_cons]
    refine wpAny_bind (wpAny_bind (wpAny_bind (wpAny_dictSet_heap (knd := tupleKind (mixKind X.prog X.w)) (k := ks) (show (tupleKind (mixKind X.prog X.w)).room X.A from (by show X.A.units < cLine; omega)) (key_of I2.hok eb) dd (fun h' dd' hs => wpAny_pure ?_) (by rw [List.length_nil]; exact Nat.zero_le _))))
    dsimp only
    rw [List.forIn_nil]
    refine wpAny_pure (wpAny_pure (wpAny_pure ?_))
    refine wpAny_pure ⟨.ref s.heap.objs.size, _, ?_, rfl, q3⟩
    obtain ⟨o, es, ep', hq, h2, h3, h4, _, h5⟩ := dd'
    refine d_write I2 (by rw [ep]; exact True.intro) hs ⟨o, hq⟩ ⟨by rw [sizeLine_eq]; show 1 ≤ _; omega, hd, _, .cons ⟨rfl, ?_, ry⟩ .nil, o, es, ep', hq, h2, h3, h4, h5⟩
    rw [upd_ne (ne_of eb ep (fun z => nomatch z))]
    exact eb
end K24

namespace K24
open PySem PySem.Spec PyProof.Rows L2
/-! ### states, and two programs side by side -/
def StAt (K : PySem.W.Frag) (H : Hp) (v : V) (s : St2) : Prop := ∃ a lag av bv, v = .ref a ∧ SqT K H a [.str s.1, .str s.2.1, .ref lag] ∧ SqT K H lag [av, bv] ∧ Ths K H av s.2.2.1 ∧ Ths K H bv s.2.2.2
theorem StAt.mono {K : PySem.W.Frag} {H H' : Hp} {v : V} {s : St2} (k : TK K H H') (h : StAt K H v s) : StAt K H' v s := by
  obtain ⟨a, lag, av, bv, e, h1, h2, h3, h4⟩ := h
  exact ⟨a, lag, av, bv, e, k _ _ h1, k _ _ h2, h3.mono k, h4.mono k⟩
theorem tw_few {L : Str} {qs : List Rule} (ok : ProgOk L qs) (sh : ShortQ L qs) : TFew L (tw qs) (ReB L qs) :=
  ⟨tw_ok ok sh, fun s x hs hx ne => by
    obtain ⟨r, _, e, l⟩ := short_goes ok sh hs hx ne
    rw [e]
    exact l⟩
def flB (L : Str) (m1 m2 : Addr) : List (Str × V) := putF "met_other" (.ref m2) (putF "met_one" (.ref m1) (putF "letters" (.str L) []))
section
variable (L : Str) (m1 m2 : Addr)
theorem fb_other : (flB L m1 m2).lookup ("met_other" : Str) = some (.ref m2) := by
  unfold flB
  rw [lookup_putF, if_pos rfl]
theorem fb_one : (flB L m1 m2).lookup ("met_one" : Str) = some (.ref m1) := by
  unfold flB
  rw [lookup_putF, if_neg (by decide +kernel), lookup_putF, if_pos rfl]
theorem fb_letters : (flB L m1 m2).lookup ("letters" : Str) = some (.str L) := by
  unfold flB
  rw [lookup_putF, if_neg (by decide +kernel), lookup_putF, if_neg (by decide +kernel), lookup_putF, if_pos rfl]
theorem fb_no {m : Str} (h1 : ¬ m = "met_other") (h2 : ¬ m = "met_one") (h3 : ¬ m = "letters") : (flB L m1 m2).lookup m = none := by
  unfold flB
  rw [lookup_putF, if_neg h1, lookup_putF, if_neg h2, lookup_putF, if_neg h3]
  rfl
end
structure ClsB (K : PySem.W.Frag) (C : Addr) : Prop where
  cl : Cls K C
  fL : NoAttr K C "letters"
  f1 : NoAttr K C "met_one"
  f2 : NoAttr K C "met_other"
def MetAt (K : PySem.W.Frag) (H : Hp) (L : Str) (qs : List Rule) (m : Addr) : Prop := ∃ i kvs, StopB (nx qs) (letsOf L) i ∧ H m = some (.dT kvs) ∧ MetKv K H qs kvs (psB L qs i)
theorem MetAt.same {K : PySem.W.Frag} {H H' : Hp} {L : Str} {qs : List Rule} {m : Addr} (s : Same H H') (h : MetAt K H L qs m) : MetAt K H' L qs m := by
  obtain ⟨i, kvs, h1, h2, h3⟩ := h
  exact ⟨i, kvs, h1, s _ _ h2, h3.mono (TK.same s)⟩
/-- what a short program tells of a pair, by its dict -/
theorem MetAt.get {K : PySem.W.Frag} {H : Hp} {L : Str} {qs : List Rule} {m : Addr} (ok : ProgOk L qs) (sh : ShortQ L qs) (h : MetAt K H L qs m) {s x : Str} (hs : ReB L qs s) (hx : IsSide L x) (ne : ¬ (s = S0 ∧ x = S0)) {t : Addr} (ht : H t = some (.tup ((kp s x).map kV))) :
    ∃ ao to, DGet H m (.ref t) (some (.ref ao)) ∧ SqT K H ao [.int ((tw qs s x).1.length : Nat), to, .str (tw qs s x).2] ∧ Ths K H to (tw qs s x).1 ∧ (tw qs s x).1.length ≤ 40 := by
  obtain ⟨i, kvs, st, hm, hk⟩ := h
  obtain ⟨v, h1, h2, h3⟩ := met_out ok sh st hk hs hx ne
  obtain ⟨ao, to, rfl, hso, hth, _⟩ := h2
  exact ⟨ao, to, by rw [← h1]; exact DGet.t (k := kp s x) hm ht, hso, hth (by omega), h3⟩
structure BothAt (K : PySem.W.Frag) (C : Addr) (H : Hp) (p : Addr) (L : Str) (q1 q2 : List Rule) : Prop where
  ob : ∃ dx m1 m2, H p = some (.ins C dx (flB L m1 m2)) ∧ MetAt K H L q1 m1 ∧ MetAt K H L q2 m2
theorem BothAt.same {K : PySem.W.Frag} {C : Addr} {H H' : Hp} {p : Addr} {L : Str} {q1 q2 : List Rule} (s : Same H H') (h : BothAt K C H p L q1 q2) : BothAt K C H' p L q1 q2 := by
  obtain ⟨dx, m1, m2, h1, h2, h3⟩ := h.ob
  exact ⟨⟨dx, m1, m2, s _ _ h1, h2.same s, h3.same s⟩⟩
def spWithout (K : PySem.W.Frag) : Sp := fun vs H Q _ => ∃ (v1 v2 : V) (p q : Tg), vs = [v1, v2] ∧ Ths K H v1 p ∧ Ths K H v2 q ∧ p.length ≤ 90000 ∧ q.length ≤ 90000 ∧
  ∀ H' a u1 u2, Same H H' → SqT K H' a [u1, u2] → Ths K H' u1 (strip p q).1 → Ths K H' u2 (strip p q).2 → Q (.ref a) H'
def spBInit (K : PySem.W.Frag) (C : Addr) : Sp := fun vs H Q _ => ∃ (p dx m1 m2 : Addr) (L : Str) (q1 q2 : List Rule), vs = [.ref p, .str L, .ref m1, .ref m2] ∧ H p = some (.ins C dx []) ∧ MetAt K H L q1 m1 ∧ MetAt K H L q2 m2 ∧
  ∀ H', (∀ b o, H b = some o → b ≠ p → H' b = some o) → BothAt K C H' p L q1 q2 → Q .non H'
def spBBehind (K : PySem.W.Frag) (C : Addr) : Sp := fun vs H Q _ => ∃ (p : Addr) (tv : V) (L x : Str) (q1 q2 : List Rule) (s : St2), vs = [.ref p, tv, .str x] ∧ BothAt K C H p L q1 q2 ∧ ProgOk L q1 ∧ ProgOk L q2 ∧ ShortQ L q1 ∧ ShortQ L q2 ∧
  StAt K H tv s ∧ ReB L q1 s.1 ∧ ReB L q2 s.2.1 ∧ IsLet L x ∧ s.2.2.1.length ≤ 80000 ∧ s.2.2.2.length ≤ 80000 ∧ ∀ H' r, Same H H' → StAt K H' r (nextU (tw q1) (tw q2) s x) → Q r H'
def spBEnds (K : PySem.W.Frag) (C : Addr) : Sp := fun vs H Q _ => ∃ (p : Addr) (tv : V) (L : Str) (q1 q2 : List Rule) (s : St2), vs = [.ref p, tv] ∧ BothAt K C H p L q1 q2 ∧ ProgOk L q1 ∧ ProgOk L q2 ∧ ShortQ L q1 ∧ ShortQ L q2 ∧
  StAt K H tv s ∧ ReB L q1 s.1 ∧ ReB L q2 s.2.1 ∧ IsLet L s.1 ∧ IsLet L s.2.1 ∧ s.2.2.1.length ≤ 80000 ∧ s.2.2.2.length ≤ 80000 ∧ ∀ H', Same H H' → Q (.bl (endsU (tw q1) (tw q2) s)) H'
theorem strip_cut (p q : Tg) : ∀ (k : Nat), k ≤ p.length → k ≤ q.length → p.take k = q.take k → strip p q = strip (p.drop k) (q.drop k)
  | 0, _, _, _ => rfl
  | k + 1, h1, h2, e => by
    cases p with
    | nil => exact absurd h1 (by simp)
    | cons x p =>
      cases q with
      | nil => exact absurd h2 (by simp)
      | cons y q =>
        rw [List.take_succ_cons, List.take_succ_cons] at e
        injection e with e1 e2
        subst e1
        rw [strip_eq, List.drop_succ_cons, List.drop_succ_cons]
        exact strip_cut p q k (by simpa using h1) (by simpa using h2) e2
section
variable {P : Program} {w : World} {K : PySem.W.Frag} {mg : Str → Option Value} {base : Heap}
theorem scWithout : FnScope ["one", "other", "many"] ["one", "other"] (defScope sWithout) := ⟨rfl, rfl, rfl, by decide +kernel, rfl, by decide +kernel, by decide +kernel⟩
theorem ok_without {f : Addr} {fd : FuncData} (F : Fun K "without_common" "without_common" sWithout f fd) (T : Txt K mg) (zMin : mg "min" = none) : FnOk P w K mg base CX0 1 f fd ["one", "other"] (spWithout K) := by
  refine F.ok scWithout (fun vs H Q E h => ?_) (fun cdv A outer s H vs Q E hr h => ?_)
  · obtain ⟨_, _, _, _, rfl, _⟩ := h
    rfl
  · obtain ⟨v1, v2, p, q, rfl, h1, h2, l1, l2, go⟩ := h
    have nd := scWithout.nd
    refine ⟨_, pss_cons (ps_set (i := 2) nd rfl (.inl rfl) pe_int)
      (pss_cons (ps_while PassesOwn.never (PW.pt (pw_and (pt_cmpR op_lt (pv 2) (pe_callB (call_min2 rfl) (by rfl) zMin (by decide +kernel) (pa_cons (pe_callB call_len_seq (by rfl) T.len PySem.boot_len (pa_cons (pv 0) pa_nil)) (pa_cons (pe_callB call_len_seq (by rfl) T.len PySem.boot_len (pa_cons (pv 1) pa_nil)) pa_nil))) (nomark _))
          (pw_and1 (pt_cmpR (op_eqD (hu64 hr)) (pe_ix ix_tup (pv 0) (pv 2) (fun _ _ => rfl)) (pe_ix ix_tup (pv 1) (pv 2) (fun _ _ => rfl)) (nomark _)))))
        (pss_one (ps_aug (i := 2) nd rfl (.inl rfl) pe_int ip_add)))
      (pss_one (ps_ret (pe_tup (pa_cons (pe_slice sl_tupA (pv 0) (po_some (pv 2)) po_none) (pa_cons (pe_slice sl_tupA (pv 1) (po_some (pv 2)) po_none) pa_nil)))))), ?_⟩
    obtain ⟨a, xs, rfl, ha, ra⟩ := id h1
    obtain ⟨b, ys, rfl, hb, rb⟩ := id h2
    have la := ra.len
    have lb := rb.len
    refine ⟨fun m σ H' => ∃ k : Nat, m = p.length - k ∧ σ = [some (.ref a), some (.ref b), some (.int k)] ∧ H' = H ∧ k ≤ p.length ∧ k ≤ q.length ∧ p.take k = q.take k, ⟨p.length, 0, rfl, rfl, rfl, Nat.zero_le _, Nat.zero_le _, rfl⟩, ?_⟩
    rintro m σ H' ⟨k, rfl, rfl, rfl, k1, k2, ek⟩
    have leave : (∀ x xs' y ys', p.drop k = x :: xs' → q.drop k = y :: ys' → x ≠ y) → strip p q = (p.drop k, q.drop k) := fun h => by
      rw [strip_cut p q k k1 k2 ek]
      cases e1 : p.drop k with
      | nil => rw [strip_nil]
      | cons x xs' =>
        cases e2 : q.drop k with
        | nil => rw [strip_nil2]
        | cons y ys' => rw [strip_ne (h x xs' y ys' e1 e2)]
    refine ⟨_, rfl, _, rfl, a, _, rfl, .inr ha, _, rfl, b, _, rfl, .inr hb, _, _, rfl, _, _, rfl, rfl, _, rfl, ?_⟩
    have step : ∀ (σ : L2.St) (kk : Bool → Hp → Prop), σ[0]? = some (some (.ref a)) → σ[1]? = some (some (.ref b)) → σ[2]? = some (some (.int (k : Nat))) →
        kk (decide (k < p.length ∧ k < q.length ∧ p[k]? = q[k]?)) H' →
        (fun (c : Bool) H1 => if c = true then tTest (tOp (rEqD K) (tOp (rIxT K) (tVar 0) (tVar 2)) (tOp (rIxT K) (tVar 1) (tVar 2))) σ H1 kk else kk false H1)
          (decide (((k : Nat) : Int) < if ((ys.length : Nat) : Int) < ((xs.length : Nat) : Int) then ((ys.length : Nat) : Int) else ((xs.length : Nat) : Int))) H' := by
      intro σ kk e0 e1 e2 hk
      have em : (if ((ys.length : Nat) : Int) < ((xs.length : Nat) : Int) then ((ys.length : Nat) : Int) else ((xs.length : Nat) : Int)) = ((min p.length q.length : Nat) : Int) := by
        split <;> omega
      rw [em]
      by_cases c : k < min p.length q.length
      · rw [decide_eq_true (show ((k : Nat) : Int) < ((min p.length q.length : Nat) : Int) by omega)]
        have kx : k < xs.length := by omega
        have ky : k < ys.length := by omega
        have hx : xs[k]? = some xs[k] := List.getElem?_eq_getElem kx
        have hy : ys[k]? = some ys[k] := List.getElem?_eq_getElem ky
        obtain ⟨tx, htx, thx⟩ := Paired.at1 ra hx
        obtain ⟨ty, hty, thy⟩ := Paired.at1 rb hy
        have sx : SeqAt.shaped (thD tx) = true := by
          have := thx.lay
          have d := th_depth tx
          show (PyData.canLay0 (thD tx) && decide (PyData.depth (thD tx) ≤ 64)) = true
          rw [this, decide_eq_true (show (thD tx).depth ≤ 64 by omega)]
          rfl
        have sy : SeqAt.shaped (thD ty) = true := by
          have := thy.lay
          have d := th_depth ty
          show (PyData.canLay0 (thD ty) && decide (PyData.depth (thD ty) ≤ 64)) = true
          rw [this, decide_eq_true (show (thD ty).depth ≤ 64 by omega)]
          rfl
        refine iteT ⟨_, e0, _, e2, a, _, (k : Nat), _, rfl, rfl, ha, atI_nat hx, _, e1, _, e2, b, _, (k : Nat), _, rfl, rfl, hb, atI_nat hy, _, _, thx.dp, thy.dp, sx, sy, _, rfl, ?_⟩
        rw [eqv_th]
        have : decide (k < p.length ∧ k < q.length ∧ p[k]? = q[k]?) = decide (tx = ty) := by
          refine decide_eq_decide.mpr ?_
          rw [htx, hty]
          constructor
          · rintro ⟨_, _, e⟩
            exact Option.some.inj e
          · intro e
            exact ⟨by omega, by omega, by rw [e]⟩
        rw [this] at hk
        exact hk
      · rw [decide_eq_false (show ¬ ((k : Nat) : Int) < ((min p.length q.length : Nat) : Int) by omega)]
        rw [decide_eq_false (fun z => by have h1 := z.1; have h2 := z.2.1; omega)] at hk
        exact iteF hk
    refine step _ _ rfl rfl rfl ?_
    by_cases c : k < p.length ∧ k < q.length ∧ p[k]? = q[k]?
    · rw [decide_eq_true c]
      refine iteT ⟨fun σ' H2 => σ' = [some (.ref a), some (.ref b), some (.int ((k + 1 : Nat)))] ∧ H2 = H', ?_, ?_⟩
      · rintro σ' H2 ⟨rfl, rfl⟩
        refine ⟨p.length - (k + 1), by omega, k + 1, rfl, rfl, rfl, by omega, by omega, ?_⟩
        have e1 : p[k]? = some p[k] := List.getElem?_eq_getElem c.1
        have e2 : q[k]? = some p[k] := by rw [← c.2.2, e1]
        rw [take_snoc e1, take_snoc e2, ek]
      · exact ⟨_, rfl, _, _, rfl, rfl, rfl, rfl⟩
    · rw [decide_eq_false c]
      have lv := leave fun x xs' y ys' e1 e2 z => c (by
        have f1 : p[k]? = some x := by
          have := congrArg (fun l => l[0]?) e1
          rw [List.getElem?_drop] at this
          exact this
        have f2 : q[k]? = some y := by
          have := congrArg (fun l => l[0]?) e2
          rw [List.getElem?_drop] at this
          exact this
        exact ⟨(List.getElem?_eq_some_iff.mp f1).1, (List.getElem?_eq_some_iff.mp f2).1, by rw [f1, f2, z]⟩)
      refine iteF ⟨_, rfl, _, rfl, _, rfl, ?_⟩
      dsimp only [tNoPart]
      refine fromThs h1 fun H3 r3 s3 h3 => ⟨_, rfl, _, rfl, _, rfl, ?_⟩
      dsimp only [tNoPart]
      refine fromThs (h2.mono (TK.same s3)) fun H4 r4 s4 h4 => ⟨sz (by show 2 ≤ 100000; decide), fun t ht => ?_⟩
      have v1 := same_upd (o := .tup [r3, r4]) ht
      refine go _ t r3 r4 ((s3.trans s4).trans v1) (SqT.of upd_same) ?_ ?_
      · rw [lv]
        exact h3.mono (TK.same (s4.trans v1))
      · rw [lv]
        exact h4.mono (TK.same v1)
theorem scBInit : FnScope ["self", "letters", "met_one", "met_other"] ["self", "letters", "met_one", "met_other"] (defScope sBInit) := ⟨rfl, rfl, rfl, by decide +kernel, rfl, by decide +kernel, by decide +kernel⟩
theorem ok_bInit {f C : Addr} {fd : FuncData} (F : Fun K "__init__" "Both.__init__" sBInit f fd) (TC : ClsB K C) : FnOk P w K mg base CX0 1 f fd ["self", "letters", "met_one", "met_other"] (spBInit K C) := by
  refine F.ok scBInit (fun vs H Q E h => ?_) (fun cdv A outer s H vs Q E hr h => ?_)
  · obtain ⟨_, _, _, _, _, _, _, rfl, _⟩ := h
    rfl
  · obtain ⟨p, dx, m1, m2, L, q1, q2, rfl, hp, h1, h2, q⟩ := h
    refine ⟨_, pss_cons (ps_fld (pv 0) (pv 1) rfl) (pss_cons (ps_fld (pv 0) (pv 2) rfl) (pss_one (ps_fld (pv 0) (pv 3) rfl))), ?_⟩
    obtain ⟨i1, kvs1, st1, hm1, hk1⟩ := h1
    obtain ⟨i2, kvs2, st2, hm2, hk2⟩ := h2
    have n1 : m1 ≠ p := ne_of hm1 hp (fun z => nomatch z)
    have n2 : m2 ≠ p := ne_of hm2 hp (fun z => nomatch z)
    refine ⟨_, rfl, _, rfl, p, C, dx, [], rfl, hp, TC.cl, TC.fL, (by show 0 < 1000; decide), ?_⟩
    refine ⟨_, rfl, _, rfl, p, C, dx, _, rfl, upd_same, TC.cl, TC.f1, (by show 1 < 1000; decide), ?_⟩
    refine ⟨_, rfl, _, rfl, p, C, dx, _, rfl, upd_same, TC.cl, TC.f2, (by show 2 < 1000; decide), ?_⟩
    have k1 : TK K H (upd H p (.ins C dx (putF "letters" (.str L) []))) := TK.upd hp True.intro
    have k2 : TK K _ (upd (upd H p (.ins C dx (putF "letters" (.str L) []))) p (.ins C dx (putF "met_one" (.ref m1) (putF "letters" (.str L) [])))) := TK.upd upd_same True.intro
    have k3 : TK K _ (upd (upd (upd H p (.ins C dx (putF "letters" (.str L) []))) p (.ins C dx (putF "met_one" (.ref m1) (putF "letters" (.str L) [])))) p (.ins C dx (flB L m1 m2))) := TK.upd upd_same True.intro
    have kk := (k1.trans k2).trans k3
    have keep : ∀ b o, H b = some o → b ≠ p → (upd (upd (upd H p (.ins C dx (putF "letters" (.str L) []))) p (.ins C dx (putF "met_one" (.ref m1) (putF "letters" (.str L) [])))) p (.ins C dx (flB L m1 m2))) b = some o := fun b o e n => by
      rw [upd_ne n, upd_ne n, upd_ne n]
      exact e
    exact q _ keep ⟨⟨dx, m1, m2, upd_same, ⟨i1, kvs1, st1, keep _ _ hm1 n1, hk1.mono kk⟩, ⟨i2, kvs2, st2, keep _ _ hm2 n2, hk2.mono kk⟩⟩⟩
theorem scBBehind : FnScope ["self", "triple", "letter", "one", "other", "lag", "_", "told_one", "behind_one", "told_other", "behind_other"] ["self", "triple", "letter"] (defScope sBBehind) := ⟨rfl, rfl, rfl, by decide +kernel, rfl, by decide +kernel, by decide +kernel⟩
theorem ok_bBehind {f C g : Addr} {fd gd : FuncData} (F : Fun K "behind" "Both.behind" sBBehind f fd) (TC : ClsB K C)
    (G : FnOk P w K mg base CX0 1 g gd ["one", "other"] (spWithout K)) (kG : PySem.W.keepIn K (.ref g) = true) (mG : mg "without_common" = some (.ref g)) (bG : Binds K gd ["one", "other"] []) :
    FnOk P w K mg base CX0 2 f fd ["self", "triple", "letter"] (spBBehind K C) := by
  refine F.ok scBBehind (fun vs H Q E h => ?_) (fun cdv A outer s H vs Q E hr h => ?_)
  · obtain ⟨_, _, _, _, _, _, _, rfl, _⟩ := h
    rfl
  · obtain ⟨p, tv, L, x, q1, q2, st, rfl, hB, ok1, ok2, sh1, sh2, hS, r1, r2, lx, n1, n2, q⟩ := h
    have nd := scBBehind.nd
    have hu := hu_of hr
    refine ⟨_, pss_cons (ps_asg (pv 1) (pg_tup (by rfl) (pgs_cons (pg_name (i := 3) nd rfl (.inl rfl)) (pgs_cons (pg_name (i := 4) nd rfl (.inl rfl)) (pgs_cons (pg_name (i := 5) nd rfl (.inl rfl)) pgs_nil)))))
      (pss_cons (ps_asg (pe_dget hu (pe_fld (pv 0) rfl) (pe_tup (pa_cons (pv 3) (pa_cons (pv 2) pa_nil))) (fun _ _ => rfl)) (pg_tup (by rfl) (pgs_cons (pg_name (i := 6) nd rfl (.inl rfl)) (pgs_cons (pg_name (i := 7) nd rfl (.inl rfl)) (pgs_cons (pg_name (i := 8) nd rfl (.inl rfl)) pgs_nil)))))
      (pss_cons (ps_asg (pe_dget hu (pe_fld (pv 0) rfl) (pe_tup (pa_cons (pv 4) (pa_cons (pv 2) pa_nil))) (fun _ _ => rfl)) (pg_tup (by rfl) (pgs_cons (pg_name (i := 6) nd rfl (.inl rfl)) (pgs_cons (pg_name (i := 9) nd rfl (.inl rfl)) (pgs_cons (pg_name (i := 10) nd rfl (.inl rfl)) pgs_nil)))))
      (pss_one (ps_ret (pe_tup (pa_cons (pv 8) (pa_cons (pv 10) (pa_cons (pe_call G hr rfl mG kG bG .nil pass0
        (pa_cons (pe_op op_catA (pe_ix ix_tup (pv 5) pe_int (fun _ _ => rfl)) (pv 7)) (pa_cons (pe_op op_catA (pe_ix ix_tup (pv 5) pe_int (fun _ _ => rfl)) (pv 9)) pa_nil))) pa_nil)))))))), ?_⟩
    obtain ⟨dx, m1, m2, ob, me1, me2⟩ := hB.ob
    obtain ⟨a, lag, av, bv, rfl, ha, hlag, hav, hbv⟩ := hS
    refine ⟨_, rfl, a, _, rfl, ha, rfl, _, _, rfl, _, _, rfl, _, _, rfl, rfl, ?_⟩
    refine ⟨_, rfl, p, C, dx, _, _, rfl, ob, TC.cl, TC.f1, fb_one L m1 m2, _, rfl, _, rfl, sz (by show 2 ≤ 100000; decide), fun t1 ht1 => ?_⟩
    have v1 := same_upd (o := .tup [V.str st.1, V.str x]) ht1
    obtain ⟨a1, to1, gt1, hs1, hth1, hl1⟩ := (me1.same v1).get ok1 sh1 (s := st.1) (x := x) r1 (.inr lx) (fun z => lx.ne z.2) (t := t1) upd_same
    refine ⟨m1, _, rfl, gt1, a1, _, rfl, hs1, rfl, _, _, rfl, _, _, rfl, _, _, rfl, rfl, ?_⟩
    refine ⟨_, rfl, p, C, dx, _, _, rfl, v1 _ _ ob, TC.cl, TC.f2, fb_other L m1 m2, _, rfl, _, rfl, sz (by show 2 ≤ 100000; decide), fun t2 ht2 => ?_⟩
    have v2 := same_upd (o := .tup [V.str st.2.1, V.str x]) ht2
    obtain ⟨a2, to2, gt2, hs2, hth2, hl2⟩ := (me2.same (v1.trans v2)).get ok2 sh2 (s := st.2.1) (x := x) r2 (.inr lx) (fun z => lx.ne z.2) (t := t2) upd_same
    refine ⟨m2, _, rfl, gt2, a2, _, rfl, hs2, rfl, _, _, rfl, _, _, rfl, _, _, rfl, rfl, ?_⟩
    have v12 := v1.trans v2
    have hlag2 := TK.same (K := K) v12 _ _ hlag
    have hav2 := hav.mono (TK.same (K := K) v12)
    have hbv2 := hbv.mono (TK.same (K := K) v12)
    have hth1' := hth1.mono (TK.same (K := K) v2)
    unfold nextU at q
    generalize tw q1 st.1 x = rr1 at *
    generalize tw q2 st.2.1 x = rr2 at *
    refine ⟨_, rfl, _, rfl, _, rfl, lag, _, 0, av, rfl, rfl, hlag2, rfl, _, rfl, ?_⟩
    refine catThs hav2 hth1' (by omega) fun H3 c3 s3 h3 => ⟨_, rfl, lag, _, 1, bv, rfl, rfl, TK.same s3 _ _ hlag2, rfl, _, rfl, ?_⟩
    refine catThs (hbv2.mono (TK.same s3)) (hth2.mono (TK.same s3)) (by omega) fun H4 c4 s4 h4 => ?_
    refine ⟨c3, c4, _, _, rfl, h3.mono (TK.same s4), h4, by rw [List.length_append]; omega, by rw [List.length_append]; omega, fun H5 a5 u1 u2 s5 h5 hu1 hu2 => ?_⟩
    refine ⟨sz (by show 3 ≤ 100000; decide), fun t6 ht6 => ?_⟩
    have v6 := same_upd (o := .tup [V.str rr1.2, V.str rr2.2, V.ref a5]) ht6
    exact q _ _ ((((v12.trans s3).trans s4).trans s5).trans v6) ⟨t6, a5, u1, u2, rfl, SqT.of upd_same, TK.same v6 _ _ h5, hu1.mono (TK.same v6), hu2.mono (TK.same v6)⟩
theorem scBEnds : FnScope ["self", "triple", "one", "other", "lag"] ["self", "triple"] (defScope sBEnds) := ⟨rfl, rfl, rfl, by decide +kernel, rfl, by decide +kernel, by decide +kernel⟩
theorem ok_bEnds {f C : Addr} {fd : FuncData} (F : Fun K "do_ends_agree" "Both.do_ends_agree" sBEnds f fd) (TC : ClsB K C) :
    FnOk P w K mg base CX0 1 f fd ["self", "triple"] (spBEnds K C) := by
  refine F.ok scBEnds (fun vs H Q E h => ?_) (fun cdv A outer s H vs Q E hr h => ?_)
  · obtain ⟨_, _, _, _, _, _, rfl, _⟩ := h
    rfl
  · obtain ⟨p, tv, L, q1, q2, st, rfl, hB, ok1, ok2, sh1, sh2, hS, r1, r2, lx1, lx2, n1, n2, q⟩ := h
    have nd := scBEnds.nd
    have hu := hu_of hr
    refine ⟨_, pss_cons (ps_asg (pv 1) (pg_tup (by rfl) (pgs_cons (pg_name (i := 2) nd rfl (.inl rfl)) (pgs_cons (pg_name (i := 3) nd rfl (.inl rfl)) (pgs_cons (pg_name (i := 4) nd rfl (.inl rfl)) pgs_nil)))))
      (pss_one (ps_ret (pe_cmpR (op_eqD (hu64 hr))
        (pe_op op_catA (pe_ix ix_tup (pv 4) pe_int (fun _ _ => rfl)) (pe_ix ix_tup (pe_dget hu (pe_fld (pv 0) rfl) (pe_tup (pa_cons (pv 2) (pa_cons pe_str pa_nil))) (fun _ _ => rfl)) pe_int (fun _ _ => rfl)))
        (pe_op op_catA (pe_ix ix_tup (pv 4) pe_int (fun _ _ => rfl)) (pe_ix ix_tup (pe_dget hu (pe_fld (pv 0) rfl) (pe_tup (pa_cons (pv 3) (pa_cons pe_str pa_nil))) (fun _ _ => rfl)) pe_int (fun _ _ => rfl))) (nomark _)))), ?_⟩
    obtain ⟨dx, m1, m2, ob, me1, me2⟩ := hB.ob
    obtain ⟨a, lag, av, bv, rfl, ha, hlag, hav, hbv⟩ := hS
    refine ⟨_, rfl, a, _, rfl, ha, rfl, _, _, rfl, _, _, rfl, _, _, rfl, rfl, ?_⟩
    refine ⟨_, rfl, lag, _, 0, av, rfl, rfl, hlag, rfl, _, rfl, p, C, dx, _, _, rfl, ob, TC.cl, TC.f1, fb_one L m1 m2, _, rfl, sz (by show 2 ≤ 100000; decide), fun t1 ht1 => ?_⟩
    have v1 := same_upd (o := .tup [V.str st.1, V.str ""]) ht1
    obtain ⟨a1, to1, gt1, hs1, hth1, hl1⟩ := (me1.same v1).get ok1 sh1 (s := st.1) (x := S0) r1 (.inl rfl) (fun z => lx1.ne z.1) (t := t1) upd_same
    refine ⟨m1, _, rfl, gt1, a1, _, 1, to1, rfl, rfl, hs1, rfl, ?_⟩
    refine catThs (hav.mono (TK.same v1)) hth1 (by omega) fun H3 c3 s3 h3 => ?_
    have s13 := v1.trans s3
    refine ⟨_, rfl, lag, _, 1, bv, rfl, rfl, TK.same s13 _ _ hlag, rfl, _, rfl, p, C, dx, _, _, rfl, s13 _ _ ob, TC.cl, TC.f2, fb_other L m1 m2, _, rfl, sz (by show 2 ≤ 100000; decide), fun t2 ht2 => ?_⟩
    have v2 := same_upd (o := .tup [V.str st.2.1, V.str ""]) ht2
    have s14 := s13.trans v2
    obtain ⟨a2, to2, gt2, hs2, hth2, hl2⟩ := (me2.same s14).get ok2 sh2 (s := st.2.1) (x := S0) r2 (.inl rfl) (fun z => lx2.ne z.1) (t := t2) upd_same
    refine ⟨m2, _, rfl, gt2, a2, _, 1, to2, rfl, rfl, hs2, rfl, ?_⟩
    refine catThs (hbv.mono (TK.same s14)) hth2 (by omega) fun H5 c5 s5 h5 => ?_
    have h35 := h3.mono (TK.same (K := K) (v2.trans s5))
    refine ⟨_, _, h35.dp, h5.dp, h35.shaped, h5.shaped, ?_⟩
    rw [eqv_tup]
    exact q H5 (s14.trans s5)
end
end K24

namespace K24
open PySem PySem.Spec PyProof.Rows L2
/-! ### two boxes side by side -/
theorem BoxW.keep {K : PySem.W.Frag} {H H' : Hp} {p r d o : Addr} {L : Str} {qs : List Rule} {S : List (Str × Str)} (w : BoxW K H p r d o L qs S) (k : TK K H H') (e : ∀ b, b = p ∨ b = r ∨ b = d ∨ b = o → ∀ u, H b = some u → H' b = some u) : BoxW K H' p r d o L qs S := by
  obtain ⟨h1, h2, h3, ⟨done, h4, h5, h6⟩, h7, h8, h9⟩ := w
  exact ⟨e _ (.inl rfl) _ h1, h2.mono k fun _ z => e _ (.inr (.inl rfl)) _ z, h3, ⟨done, e _ (.inr (.inr (.inl rfl))) _ h4, h5, fun a b v z => (h6 a b v z).mono k⟩, h7.mono k fun _ z => e _ (.inr (.inr (.inr rfl))) _ z, h8, h9⟩
structure Ad where
  p1 : Addr
  r1 : Addr
  d1 : Addr
  o1 : Addr
  p2 : Addr
  r2 : Addr
  d2 : Addr
  o2 : Addr
def Ad.l (x : Ad) : List Addr := [x.d1, x.o1, x.d2, x.o2]
structure Bx (K : PySem.W.Frag) (H : Hp) (x : Ad) (L : Str) (q1 q2 : List Rule) : Prop where
  w1 : BoxW K H x.p1 x.r1 x.d1 x.o1 L q1 []
  w2 : BoxW K H x.p2 x.r2 x.d2 x.o2 L q2 []
  a : ∀ z ∈ [x.d1, x.o1], z ≠ x.p2 ∧ z ≠ x.r2 ∧ z ≠ x.d2 ∧ z ≠ x.o2
  b : ∀ z ∈ [x.d2, x.o2], z ≠ x.p1 ∧ z ≠ x.r1 ∧ z ≠ x.d1 ∧ z ≠ x.o1
section
variable {K : PySem.W.Frag} {H H' : Hp} {x : Ad} {L : Str} {q1 q2 : List Rule}
theorem Bx.tk (h : Bx K H x L q1 q2) (s : Sb x.l H H') : TK K H H' := by
  obtain ⟨done1, h1, _⟩ := h.w1.dn
  obtain ⟨ps1, h2, _⟩ := h.w1.op
  obtain ⟨done2, h3, _⟩ := h.w2.dn
  obtain ⟨ps2, h4, _⟩ := h.w2.op
  refine Sb.tk s fun c hc => ?_
  unfold Ad.l at hc
  rcases List.mem_cons.mp hc with e | hc
  · rw [e]; exact ⟨_, h1, True.intro⟩
  rcases List.mem_cons.mp hc with e | hc
  · rw [e]; exact ⟨_, h2, True.intro⟩
  rcases List.mem_cons.mp hc with e | hc
  · rw [e]; exact ⟨_, h3, True.intro⟩
  · rw [List.mem_singleton.mp hc]; exact ⟨_, h4, True.intro⟩
theorem Bx.same (h : Bx K H x L q1 q2) (s : Same H H') : Bx K H' x L q1 q2 := ⟨h.w1.same s, h.w2.same s, h.a, h.b⟩
theorem Bx.fresh (h : Bx K H x L q1 q2) {z : Addr} (e : H z = none) : z ≠ x.p1 ∧ z ≠ x.r1 ∧ z ≠ x.d1 ∧ z ≠ x.o1 ∧ z ≠ x.p2 ∧ z ≠ x.r2 ∧ z ≠ x.d2 ∧ z ≠ x.o2 := by
  obtain ⟨hB1, ⟨kvs1, hr1, _⟩, _, ⟨done1, hd1, _⟩, ⟨ps1, ho1, _⟩, _, _⟩ := h.w1
  obtain ⟨hB2, ⟨kvs2, hr2, _⟩, _, ⟨done2, hd2, _⟩, ⟨ps2, ho2, _⟩, _, _⟩ := h.w2
  exact ⟨(ne_of_none hB1 e).symm, (ne_of_none hr1 e).symm, (ne_of_none hd1 e).symm, (ne_of_none ho1 e).symm, (ne_of_none hB2 e).symm, (ne_of_none hr2 e).symm, (ne_of_none hd2 e).symm, (ne_of_none ho2 e).symm⟩
def Off (x : Ad) (z : Addr) : Prop := z ≠ x.p1 ∧ z ≠ x.r1 ∧ z ≠ x.d1 ∧ z ≠ x.o1 ∧ z ≠ x.p2 ∧ z ≠ x.r2 ∧ z ≠ x.d2 ∧ z ≠ x.o2
theorem Off.l {z : Addr} (h : Off x z) : z ∉ x.l := by
  obtain ⟨_, _, h1, h2, _, _, h3, h4⟩ := h
  unfold Ad.l
  intro m
  rcases List.mem_cons.mp m with e | m
  · exact h1 e
  rcases List.mem_cons.mp m with e | m
  · exact h2 e
  rcases List.mem_cons.mp m with e | m
  · exact h3 e
  · exact h4 (List.mem_singleton.mp m)
theorem Bx.side {z : Addr} {u : HO} (h : Bx K H x L q1 q2) (k : TK K H (upd H z u)) (f : Off x z) : Bx K (upd H z u) x L q1 q2 := by
  obtain ⟨f1, f2, f3, f4, f5, f6, f7, f8⟩ := f
  exact ⟨h.w1.side2 k f1 f2 f3 f4, h.w2.side2 k f5 f6 f7 f8, h.a, h.b⟩
theorem sb1 (s : Sb [x.d1, x.o1] H H') : Sb x.l H H' := fun b o e n => s b o e fun m => n (by
  unfold Ad.l
  rcases List.mem_cons.mp m with z | m
  · rw [z]; simp
  · rw [List.mem_singleton.mp m]; simp)
theorem sb2 (s : Sb [x.d2, x.o2] H H') : Sb x.l H H' := fun b o e n => s b o e fun m => n (by
  unfold Ad.l
  rcases List.mem_cons.mp m with z | m
  · rw [z]; simp
  · rw [List.mem_singleton.mp m]; simp)
theorem Bx.call1 {Q : VK} {s y : Str} (h : Bx K H x L q1 q2) (ok : ProgOk L q1) (sh : ShortQ L q1) (hs : ReB L q1 s) (hy : IsSide L y) (ne : ¬ (s = S0 ∧ y = S0))
    (go : ∀ H' a b, Sb x.l H H' → Bx K H' x L q1 q2 → SqT K H' a [.ref b, .str (tw q1 s y).2] → Ths K H' (.ref b) (tw q1 s y).1 → (tw q1 s y).1.length ≤ 40 → Q (.ref a) H') : spCome K 25 [.ref x.p1, .str s, .str y] H Q E0 := by
  have rem0 : remS q1 [] < 25 := by
    have h1 := rem_le (qs := q1) (S := [])
    have h2 := ok.few
    omega
  refine ⟨x.p1, x.r1, x.d1, x.o1, L, q1, [], s, y, rfl, h.w1, ok, reb_side ok hs, hy, Needs.nil S0 (fOf q1) _ _, rem0, by decide, fun H' v sb W tr => ?_⟩
  obtain ⟨a, b, rfl, h1, h2, h3⟩ := come_short ok sh hs hy ne tr
  refine go H' a b (sb1 sb) ⟨W, h.w2.keep (h.w1.tk sb) (fun z hz u e => sb z u e fun m => ?_), h.a, h.b⟩ h1 h2 h3
  obtain ⟨n1, n2, n3, n4⟩ := h.a z m
  rcases hz with e | e | e | e
  · exact n1 e
  · exact n2 e
  · exact n3 e
  · exact n4 e
theorem Bx.call2 {Q : VK} {s y : Str} (h : Bx K H x L q1 q2) (ok : ProgOk L q2) (sh : ShortQ L q2) (hs : ReB L q2 s) (hy : IsSide L y) (ne : ¬ (s = S0 ∧ y = S0))
    (go : ∀ H' a b, Sb x.l H H' → Bx K H' x L q1 q2 → SqT K H' a [.ref b, .str (tw q2 s y).2] → Ths K H' (.ref b) (tw q2 s y).1 → (tw q2 s y).1.length ≤ 40 → Q (.ref a) H') : spCome K 25 [.ref x.p2, .str s, .str y] H Q E0 := by
  have rem0 : remS q2 [] < 25 := by
    have h1 := rem_le (qs := q2) (S := [])
    have h2 := ok.few
    omega
  refine ⟨x.p2, x.r2, x.d2, x.o2, L, q2, [], s, y, rfl, h.w2, ok, reb_side ok hs, hy, Needs.nil S0 (fOf q2) _ _, rem0, by decide, fun H' v sb W tr => ?_⟩
  obtain ⟨a, b, rfl, h1, h2, h3⟩ := come_short ok sh hs hy ne tr
  refine go H' a b (sb2 sb) ⟨h.w1.keep (h.w2.tk sb) (fun z hz u e => sb z u e fun m => ?_), W, h.a, h.b⟩ h1 h2 h3
  obtain ⟨n1, n2, n3, n4⟩ := h.b z m
  rcases hz with e | e | e | e
  · exact n1 e
  · exact n2 e
  · exact n3 e
  · exact n4 e
end
/-- what stands side by side -/
structure Two (L : Str) (q1 q2 : List Rule) : Prop where
  ok1 : ProgOk L q1
  ok2 : ProgOk L q2
  sh1 : ShortQ L q1
  sh2 : ShortQ L q2
/-- a state that words lead to -/
structure StOk (L : Str) (q1 q2 : List Rule) (s : St2) : Prop where
  r1 : ReB L q1 s.1
  r2 : ReB L q2 s.2.1
  n1 : s.2.2.1.length ≤ 40000
  n2 : s.2.2.2.length ≤ 40000
def spEnds (K : PySem.W.Frag) : Sp := fun vs H Q _ => ∃ (x : Ad) (tv : V) (L : Str) (q1 q2 : List Rule) (s : St2), vs = [.ref x.p1, .ref x.p2, tv] ∧ Bx K H x L q1 q2 ∧ Two L q1 q2 ∧ StAt K H tv s ∧ StOk L q1 q2 s ∧ IsLet L s.1 ∧ IsLet L s.2.1 ∧
  ∀ H', Sb x.l H H' → Bx K H' x L q1 q2 → Q (.bl (endsU (tw q1) (tw q2) s)) H'
def spLag (K : PySem.W.Frag) : Sp := fun vs H Q _ => ∃ (lag : Addr) (av bv v1 v2 : V) (l1 l2 p q : Tg), vs = [.ref lag, v1, v2] ∧ SqT K H lag [av, bv] ∧ Ths K H av l1 ∧ Ths K H bv l2 ∧ Ths K H v1 p ∧ Ths K H v2 q ∧ l1.length + p.length ≤ 90000 ∧ l2.length + q.length ≤ 90000 ∧
  ∀ H' a u1 u2, Same H H' → SqT K H' a [u1, u2] → Ths K H' u1 (strip (l1 ++ p) (l2 ++ q)).1 → Ths K H' u2 (strip (l1 ++ p) (l2 ++ q)).2 → Q (.ref a) H'
def spNext (K : PySem.W.Frag) : Sp := fun vs H Q _ => ∃ (x : Ad) (tv : V) (L y : Str) (q1 q2 : List Rule) (s : St2), vs = [.ref x.p1, .ref x.p2, tv, .str y] ∧ Bx K H x L q1 q2 ∧ Two L q1 q2 ∧ StAt K H tv s ∧ StOk L q1 q2 s ∧ IsLet L y ∧
  ∀ H' r, Sb x.l H H' → Bx K H' x L q1 q2 → StAt K H' r (nextU (tw q1) (tw q2) s y) → Q r H'
section
variable {P : Program} {w : World} {K : PySem.W.Frag} {mg : Str → Option Value} {base : Heap}
theorem scEnds : FnScope ["_law_box_here", "_law_other", "_law_state"] ["_law_box_here", "_law_other", "_law_state"] (defScope sEnds) := ⟨rfl, rfl, rfl, by decide +kernel, rfl, by decide +kernel, by decide +kernel⟩
theorem ok_ends {f c : Addr} {fd cd : FuncData} (F : Fun K "_law_ends" "_law_ends" sEnds f fd)
    (C : FnOk P w K mg base CX0 (3 * 25 + 1) c cd ["_law_box_here", "_law_left", "_law_right_here"] (spCome K 25)) (kC : PySem.W.keepIn K (.ref c) = true) (mC : mg "_law_come" = some (.ref c)) (bC : Binds K cd ["_law_box_here", "_law_left", "_law_right_here"] []) :
    FnOk P w K mg base CX0 77 f fd ["_law_box_here", "_law_other", "_law_state"] (spEnds K) := by
  refine F.ok scEnds (fun vs H Q E h => ?_) (fun cdv A outer s H vs Q E hr h => ?_)
  · obtain ⟨_, _, _, _, _, _, rfl, _⟩ := h
    rfl
  · obtain ⟨x, tv, L, q1, q2, st, rfl, hB, two, hS, so, lx1, lx2, q⟩ := h
    have nd := scEnds.nd
    have hrC : Room (3 * 25 + 1) _ := hr.mono (by decide)
    refine ⟨_, pss_one (ps_ret (pe_cmpR (op_eqD (hu64 hr))
      (pe_op op_catA (pe_ix ix_tup (pe_ix ix_tup (pv 2) pe_int (fun _ _ => rfl)) pe_int (fun _ _ => rfl)) (pe_ix ix_tup (pe_call C hrC rfl mC kC bC .nil pass0 (pa_cons (pv 0) (pa_cons (pe_ix ix_tup (pv 2) pe_int (fun _ _ => rfl)) (pa_cons pe_str pa_nil)))) pe_int (fun _ _ => rfl)))
      (pe_op op_catA (pe_ix ix_tup (pe_ix ix_tup (pv 2) pe_int (fun _ _ => rfl)) pe_int (fun _ _ => rfl)) (pe_ix ix_tup (pe_call C hrC rfl mC kC bC .nil pass0 (pa_cons (pv 1) (pa_cons (pe_ix ix_tup (pv 2) pe_int (fun _ _ => rfl)) (pa_cons pe_str pa_nil)))) pe_int (fun _ _ => rfl))) (nomark _))), ?_⟩
    obtain ⟨a, lag, av, bv, rfl, ha, hlag, hav, hbv⟩ := hS
    obtain ⟨r1, r2, n1, n2⟩ := so
    refine ⟨_, rfl, a, _, 2, .ref lag, rfl, rfl, ha, rfl, lag, _, 0, av, rfl, rfl, hlag, rfl, _, rfl, _, rfl, a, _, 0, .str st.1, rfl, rfl, ha, rfl, ?_⟩
    refine hB.call1 two.ok1 two.sh1 r1 (.inl rfl) (fun z => lx1.ne z.1) fun H1 a1 b1 sB1 B1 h11 h12 l1 => ?_
    have k1 := hB.tk sB1
    refine ⟨a1, _, 0, .ref b1, rfl, rfl, h11, rfl, ?_⟩
    refine catThs (hav.mono k1) h12 (by omega) fun H2 c2 s2 h2 => ?_
    have B2 := B1.same s2
    have k2 := k1.trans (TK.same s2)
    have ha2 := k2 _ _ ha
    refine ⟨_, rfl, a, _, 2, .ref lag, rfl, rfl, ha2, rfl, lag, _, 1, bv, rfl, rfl, k2 _ _ hlag, rfl, _, rfl, _, rfl, a, _, 1, .str st.2.1, rfl, rfl, ha2, rfl, ?_⟩
    refine B2.call2 two.ok2 two.sh2 r2 (.inl rfl) (fun z => lx2.ne z.1) fun H3 a3 b3 sB3 B3 h31 h32 l3 => ?_
    have k3 := k2.trans (B2.tk sB3)
    refine ⟨a3, _, 0, .ref b3, rfl, rfl, h31, rfl, ?_⟩
    refine catThs (hbv.mono k3) h32 (by omega) fun H4 c4 s4 h4 => ?_
    have h24 := (h2.mono (B2.tk sB3)).mono (TK.same (K := K) s4)
    refine ⟨_, _, h24.dp, h4.dp, h24.shaped, h4.shaped, ?_⟩
    rw [eqv_tup]
    exact q H4 (((sB1.trans (Sb.of s2)).trans sB3).trans (Sb.of s4)) (B3.same s4)
theorem scLag : FnScope ["_law_lag_here", "_law_one", "_law_other", "_law_first", "_law_second"] ["_law_lag_here", "_law_one", "_law_other"] (defScope sLag) := ⟨rfl, rfl, rfl, by decide +kernel, rfl, by decide +kernel, by decide +kernel⟩
theorem ok_lag {f : Addr} {fd : FuncData} (F : Fun K "_law_lag" "_law_lag" sLag f fd) : FnOk P w K mg base CX0 1 f fd ["_law_lag_here", "_law_one", "_law_other"] (spLag K) := by
  refine F.ok scLag (fun vs H Q E h => ?_) (fun cdv A outer s H vs Q E hr h => ?_)
  · obtain ⟨_, _, _, _, _, _, _, _, _, rfl, _⟩ := h
    rfl
  · obtain ⟨lag, av, bv, v1, v2, l1, l2, p, q, rfl, hlag, hav, hbv, h1, h2, n1, n2, go⟩ := h
    have nd := scLag.nd
    refine ⟨_, pss_cons (ps_par (i := 3) (j := 4) rfl nd rfl rfl (by decide) rfl rfl (pa_cons (pe_op op_catA (pe_ix ix_tup (pv 0) pe_int (fun _ _ => rfl)) (pv 1)) (pa_cons (pe_op op_catA (pe_ix ix_tup (pv 0) pe_int (fun _ _ => rfl)) (pv 2)) pa_nil)) (by rfl))
      (pss_cons (ps_while PassesOwn.never (PW.pt (pw_and (pt_cmpR (op_neD (hu64 hr)) (pv 3) (pe_tup pa_nil) (nomark _)) (pw_and (pt_cmpR (op_neD (hu64 hr)) (pv 4) (pe_tup pa_nil) (nomark _))
          (pw_and1 (pt_cmpR (op_eqD (hu64 hr)) (pe_ix ix_tup (pv 3) pe_int (fun _ _ => rfl)) (pe_ix ix_tup (pv 4) pe_int (fun _ _ => rfl)) (nomark _))))))
        (pss_one (ps_par (i := 3) (j := 4) rfl nd rfl rfl (by decide) rfl rfl (pa_cons (pe_slice sl_tupA (pv 3) (po_some pe_int) po_none) (pa_cons (pe_slice sl_tupA (pv 4) (po_some pe_int) po_none) pa_nil)) (by rfl))))
      (pss_one (ps_ret (pe_tup (pa_cons (pv 3) (pa_cons (pv 4) pa_nil)))))), ?_⟩
    refine ⟨_, rfl, lag, _, 0, av, rfl, rfl, hlag, rfl, _, rfl, ?_⟩
    refine catThs hav h1 (by omega) fun H1 c1 s1 g1 => ⟨_, rfl, lag, _, 1, bv, rfl, rfl, TK.same s1 _ _ hlag, rfl, _, rfl, ?_⟩
    refine catThs (hbv.mono (TK.same s1)) (h2.mono (TK.same s1)) (by omega) fun H2 c2 s2 g2 => ⟨_, _, rfl, ?_⟩
    have s12 := s1.trans s2
    have g1 := g1.mono (TK.same (K := K) s2)
    generalize l1 ++ p = p0 at g1 go
    generalize l2 ++ q = q0 at g2 go
    refine ⟨fun m σ H' => ∃ (p' q' : Tg) (x3 x4 : V), m = p'.length ∧ σ = [some (.ref lag), some v1, some v2, some x3, some x4] ∧ Same H H' ∧ Ths K H' x3 p' ∧ Ths K H' x4 q' ∧ strip p' q' = strip p0 q0, ⟨p0.length, p0, q0, c1, c2, rfl, rfl, s12, g1, g2, rfl⟩, ?_⟩
    rintro m σ H3 ⟨p', q', x3, x4, rfl, rfl, s3, t3, t4, es⟩
    have last : ∀ {H4 : Hp}, Same H3 H4 → strip p0 q0 = (p', q') → ∀ t, H4 t = none → Q (.ref t) (upd H4 t (.tup [x3, x4])) := fun {H4} s4 e t ht => by
      have v := same_upd (o := .tup [x3, x4]) ht
      refine go _ t x3 x4 ((s3.trans s4).trans v) (SqT.of upd_same) ?_ ?_
      · rw [e]
        exact t3.mono (TK.same (s4.trans v))
      · rw [e]
        exact t4.mono (TK.same (s4.trans v))
    have sh0 : SeqAt.shaped (.tuple []) = true := by decide +kernel
    refine ⟨_, rfl, sz (by show 0 ≤ 100000; decide), fun e1 he1 => ?_⟩
    have u1 := same_upd (o := .tup []) he1
    have t31 := t3.mono (TK.same (K := K) u1)
    refine ⟨.tuple (p'.map thD), .tuple [], t31.dp, .tup (SqT.of upd_same) .nil, t31.shaped, sh0, _, rfl, ?_⟩
    rw [show PyData.tuple [] = .tuple (([] : Tg).map thD) from rfl, eqv_tup]
    cases p' with
    | nil =>
      rw [decide_eq_true (show ([] : Tg) = [] from rfl)]
      rw [strip_nil] at es
      exact iteF (iteF ⟨_, rfl, _, rfl, sz (by show 2 ≤ 100000; decide), fun t ht => last u1 es.symm t ht⟩)
    | cons a p' =>
      rw [decide_eq_false (fun z => nomatch z)]
      refine iteT ⟨_, rfl, sz (by show 0 ≤ 100000; decide), fun e2 he2 => ?_⟩
      have u2 := same_upd (o := .tup []) he2
      have u12 := u1.trans u2
      have t42 := t4.mono (TK.same (K := K) u12)
      refine ⟨.tuple (q'.map thD), .tuple [], t42.dp, .tup (SqT.of upd_same) .nil, t42.shaped, sh0, _, rfl, ?_⟩
      rw [show PyData.tuple [] = .tuple (([] : Tg).map thD) from rfl, eqv_tup]
      cases q' with
      | nil =>
        rw [decide_eq_true (show ([] : Tg) = [] from rfl)]
        rw [strip_nil2] at es
        exact iteF (iteF ⟨_, rfl, _, rfl, sz (by show 2 ≤ 100000; decide), fun t ht => last u12 es.symm t ht⟩)
      | cons b q' =>
        rw [decide_eq_false (fun z => nomatch z)]
        have t32 := t3.mono (TK.same (K := K) u12)
        obtain ⟨xa, xs, rfl, hxa, hxs⟩ := id t32
        obtain ⟨yb, ys, rfl, hyb, hys⟩ := id t42
        obtain ⟨x0, xs', rfl, hx0⟩ : ∃ x0 xs', xs = x0 :: xs' ∧ Th K _ x0 a := by
          cases hxs with
          | cons h t => exact ⟨_, _, rfl, h⟩
        obtain ⟨y0, ys', rfl, hy0⟩ : ∃ y0 ys', ys = y0 :: ys' ∧ Th K _ y0 b := by
          cases hys with
          | cons h t => exact ⟨_, _, rfl, h⟩
        have sx : SeqAt.shaped (thD a) = true := by
          have := hx0.lay
          have d := th_depth a
          show (PyData.canLay0 (thD a) && decide (PyData.depth (thD a) ≤ 64)) = true
          rw [this, decide_eq_true (show (thD a).depth ≤ 64 by omega)]
          rfl
        have sy : SeqAt.shaped (thD b) = true := by
          have := hy0.lay
          have d := th_depth b
          show (PyData.canLay0 (thD b) && decide (PyData.depth (thD b) ≤ 64)) = true
          rw [this, decide_eq_true (show (thD b).depth ≤ 64 by omega)]
          rfl
        refine iteT ⟨_, rfl, xa, _, 0, x0, rfl, rfl, hxa, (atI_nat (show (x0 :: xs')[0]? = some x0 from rfl) : atI (x0 :: xs') ((0 : Nat) : Int) = some x0), _, rfl, yb, _, 0, y0, rfl, rfl, hyb, (atI_nat (show (y0 :: ys')[0]? = some y0 from rfl) : atI (y0 :: ys') ((0 : Nat) : Int) = some y0), thD a, thD b, hx0.dp, hy0.dp, sx, sy, _, rfl, ?_⟩
        rw [eqv_th]
        by_cases c : a = b
        · subst c
          rw [decide_eq_true rfl]
          rw [strip_eq] at es
          refine iteT ⟨fun σ' H' => ∃ (x3 x4 : V), σ' = [some (.ref lag), some v1, some v2, some x3, some x4] ∧ Same H H' ∧ Ths K H' x3 p' ∧ Ths K H' x4 q', ?_, ?_⟩
          · rintro σ' H' ⟨x3, x4, rfl, sb, g3, g4⟩
            exact ⟨p'.length, by simp, p', q', x3, x4, rfl, rfl, sb, g3, g4, es⟩
          · refine ⟨_, rfl, 1, rfl, ?_⟩
            dsimp only [tNoPart]
            refine fromThs (l := 1) t32 fun H5 r5 s5 h5 => ⟨_, rfl, 1, rfl, ?_⟩
            dsimp only [tNoPart]
            refine fromThs (l := 1) (t42.mono (TK.same s5)) fun H6 r6 s6 h6 => ⟨_, _, rfl, ?_⟩
            exact ⟨r5, r6, rfl, ((s3.trans u12).trans s5).trans s6, h5.mono (TK.same s6), h6⟩
        · rw [decide_eq_false c]
          rw [strip_ne c] at es
          exact iteF ⟨_, rfl, _, rfl, sz (by show 2 ≤ 100000; decide), fun t ht => last u12 es.symm t ht⟩
theorem scNext : FnScope ["_law_box_here", "_law_other", "_law_state", "_law_letter", "_law_one", "_law_two"] ["_law_box_here", "_law_other", "_law_state", "_law_letter"] (defScope sNext) := ⟨rfl, rfl, rfl, by decide +kernel, rfl, by decide +kernel, by decide +kernel⟩
theorem ok_next {f c g : Addr} {fd cd gd : FuncData} (F : Fun K "_law_next" "_law_next" sNext f fd)
    (C : FnOk P w K mg base CX0 (3 * 25 + 1) c cd ["_law_box_here", "_law_left", "_law_right_here"] (spCome K 25)) (kC : PySem.W.keepIn K (.ref c) = true) (mC : mg "_law_come" = some (.ref c)) (bC : Binds K cd ["_law_box_here", "_law_left", "_law_right_here"] [])
    (G : FnOk P w K mg base CX0 1 g gd ["_law_lag_here", "_law_one", "_law_other"] (spLag K)) (kG : PySem.W.keepIn K (.ref g) = true) (mG : mg "_law_lag" = some (.ref g)) (bG : Binds K gd ["_law_lag_here", "_law_one", "_law_other"] []) :
    FnOk P w K mg base CX0 77 f fd ["_law_box_here", "_law_other", "_law_state", "_law_letter"] (spNext K) := by
  refine F.ok scNext (fun vs H Q E h => ?_) (fun cdv A outer s H vs Q E hr h => ?_)
  · obtain ⟨_, _, _, _, _, _, _, rfl, _⟩ := h
    rfl
  · obtain ⟨x, tv, L, y, q1, q2, st, rfl, hB, two, hS, so, ly, q⟩ := h
    have nd := scNext.nd
    have hrC : Room (3 * 25 + 1) _ := hr.mono (by decide)
    have hr1 : Room 1 _ := hr.mono (by decide)
    refine ⟨_, pss_cons (ps_par (i := 4) (j := 5) rfl nd rfl rfl (by decide) rfl rfl (pa_cons (pe_call C hrC rfl mC kC bC .nil pass0 (pa_cons (pv 0) (pa_cons (pe_ix ix_tup (pv 2) pe_int (fun _ _ => rfl)) (pa_cons (pv 3) pa_nil))))
        (pa_cons (pe_call C hrC rfl mC kC bC .nil pass0 (pa_cons (pv 1) (pa_cons (pe_ix ix_tup (pv 2) pe_int (fun _ _ => rfl)) (pa_cons (pv 3) pa_nil)))) pa_nil)) (by rfl))
      (pss_one (ps_ret (pe_tup (pa_cons (pe_ix ix_tup (pv 4) pe_int (fun _ _ => rfl)) (pa_cons (pe_ix ix_tup (pv 5) pe_int (fun _ _ => rfl)) (pa_cons
        (pe_call G hr1 rfl mG kG bG .nil pass0 (pa_cons (pe_ix ix_tup (pv 2) pe_int (fun _ _ => rfl)) (pa_cons (pe_ix ix_tup (pv 4) pe_int (fun _ _ => rfl)) (pa_cons (pe_ix ix_tup (pv 5) pe_int (fun _ _ => rfl)) pa_nil)))) pa_nil)))))), ?_⟩
    obtain ⟨a, lag, av, bv, rfl, ha, hlag, hav, hbv⟩ := hS
    obtain ⟨r1, r2, n1, n2⟩ := so
    refine ⟨_, rfl, _, rfl, a, _, 0, .str st.1, rfl, rfl, ha, rfl, _, rfl, ?_⟩
    refine hB.call1 two.ok1 two.sh1 r1 (.inr ly) (fun z => ly.ne z.2) fun H1 a1 b1 sB1 B1 h11 h12 l1 => ?_
    have k1 := hB.tk sB1
    refine ⟨_, rfl, _, rfl, a, _, 1, .str st.2.1, rfl, rfl, k1 _ _ ha, rfl, _, rfl, ?_⟩
    refine B1.call2 two.ok2 two.sh2 r2 (.inr ly) (fun z => ly.ne z.2) fun H3 a3 b3 sB3 B3 h31 h32 l3 => ⟨_, _, rfl, ?_⟩
    have k3' := B1.tk sB3
    have k3 := k1.trans k3'
    have h11 := k3' _ _ h11
    have h12 := h12.mono k3'
    unfold nextU at q
    generalize tw q1 st.1 y = rr1 at *
    generalize tw q2 st.2.1 y = rr2 at *
    refine ⟨_, rfl, a1, _, 1, .str rr1.2, rfl, rfl, h11, rfl, _, rfl, a3, _, 1, .str rr2.2, rfl, rfl, h31, rfl, ?_⟩
    refine ⟨_, rfl, a, _, 2, .ref lag, rfl, rfl, k3 _ _ ha, rfl, _, rfl, a1, _, 0, .ref b1, rfl, rfl, h11, rfl, _, rfl, a3, _, 0, .ref b3, rfl, rfl, h31, rfl, ?_⟩
    refine ⟨lag, av, bv, .ref b1, .ref b3, _, _, _, _, rfl, k3 _ _ hlag, hav.mono k3, hbv.mono k3, h12, h32, by omega, by omega, fun H5 a5 u1 u2 s5 h5 hu1 hu2 => ?_⟩
    refine ⟨sz (by show 3 ≤ 100000; decide), fun t6 ht6 => ?_⟩
    have v6 := same_upd (o := .tup [V.str rr1.2, V.str rr2.2, V.ref a5]) ht6
    have s56 := s5.trans v6
    exact q _ _ ((sB1.trans sB3).trans (Sb.of s56)) (B3.same s56) ⟨t6, a5, u1, u2, rfl, SqT.of upd_same, TK.same v6 _ _ h5, hu1.mono (TK.same v6), hu2.mono (TK.same v6)⟩
end
end K24

namespace K24
open PySem PySem.Spec PyProof.Rows L2
/-! ### states as data -/
def stD (s : St2) : PyData := .tuple [.str s.1, .str s.2.1, .tuple [.tuple (s.2.2.1.map thD), .tuple (s.2.2.2.map thD)]]
def LnAt (K : PySem.W.Frag) (H : Hp) (v : V) (e : En2) : Prop := ∃ a sv, v = .ref a ∧ SqT K H a [sv, .str e.2] ∧ StAt K H sv e.1
theorem LnAt.mono {K : PySem.W.Frag} {H H' : Hp} {v : V} {e : En2} (k : TK K H H') (h : LnAt K H v e) : LnAt K H' v e := by
  obtain ⟨a, sv, e1, h1, h2⟩ := h
  exact ⟨a, sv, e1, k _ _ h1, h2.mono k⟩
def lnD (e : En2) : PyData := .tuple [stD e.1, .str e.2]
section
variable {K : PySem.W.Frag} {H : Hp}
theorem StAt.dp {v : V} {s : St2} (h : StAt K H v s) : Dp K H v (stD s) := by
  obtain ⟨a, lag, av, bv, rfl, h1, h2, h3, h4⟩ := h
  exact .tup h1 (.cons (.str _) (.cons (.str _) (.cons (.tup h2 (.cons h3.dp (.cons h4.dp .nil))) .nil)))
theorem LnAt.dp {v : V} {e : En2} (h : LnAt K H v e) : Dp K H v (lnD e) := by
  obtain ⟨a, sv, rfl, h1, h2⟩ := h
  exact .tup h1 (.cons h2.dp (.cons (.str _) .nil))
theorem lns_dp : ∀ {vs : List V} {q : List En2}, Paired (LnAt K H) vs q → DpAll K H vs (q.map lnD)
  | _, _, .nil => .nil
  | _, _, .cons h t => .cons h.dp (lns_dp t)
theorem sts_dp : ∀ {vs : List V} {q : List En2}, Paired (fun v (e : En2) => StAt K H v e.1) vs q → DpAll K H vs (q.map fun e => stD e.1)
  | _, _, .nil => .nil
  | _, _, .cons h t => .cons (StAt.dp h) (sts_dp t)
theorem st_lay {v : V} {s : St2} (h : StAt K H v s) (g1 : Sm s.1) (g2 : Sm s.2.1) : (stD s).canLay0 = true := by
  obtain ⟨a, lag, av, bv, rfl, h1, h2, h3, h4⟩ := h
  have l1 := shaped_lay h3.shaped
  have l2 := shaped_lay h4.shaped
  have g1 := g1.ok
  have g2 := g2.ok
  simp only [stD, PyData.canLay0, PyData.canLayAll0] at l1 l2 ⊢
  rw [l1, l2, g1, g2]
  rfl
def SmE (e : En2) : Prop := Sm e.1.1 ∧ Sm e.1.2.1 ∧ PyData.strOk e.2 = true
theorem ln_lay {v : V} {e : En2} (h : LnAt K H v e) (g : SmE e) : (lnD e).canLay0 = true := by
  obtain ⟨a, sv, rfl, h1, h2⟩ := h
  have l := st_lay h2 g.1 g.2.1
  simp only [lnD, PyData.canLay0, PyData.canLayAll0]
  rw [l, g.2.2]
  rfl
theorem lns_lay : ∀ {vs : List V} {q : List En2}, Paired (LnAt K H) vs q → (∀ e ∈ q, SmE e) → PyData.canLayAll0 (q.map lnD) = true
  | _, _, .nil, _ => rfl
  | _, _, .cons (b := e) h t, g => by
    have l2 := lns_lay t fun e he => g e (List.mem_cons_of_mem _ he)
    have l1 := ln_lay h (g e List.mem_cons_self)
    rw [List.map_cons]
    simp only [PyData.canLayAll0]
    rw [l1, l2]
    rfl
theorem sts_lay : ∀ {vs : List V} {q : List En2}, Paired (fun v (e : En2) => StAt K H v e.1) vs q → (∀ e ∈ q, SmE e) → PyData.canLayAll0 (q.map fun e => stD e.1) = true
  | _, _, .nil, _ => rfl
  | _, _, .cons (b := e) h t, g => by
    have l2 := sts_lay t fun e he => g e (List.mem_cons_of_mem _ he)
    have ge := g e List.mem_cons_self
    have l1 := st_lay h ge.1 ge.2.1
    rw [List.map_cons]
    simp only [PyData.canLayAll0]
    rw [l1, l2]
    rfl
theorem st_depth (s : St2) : (stD s).depth ≤ 8 := by
  have h1 := ths_depth s.2.2.1
  have h2 := ths_depth s.2.2.2
  simp only [stD, PyData.depth, PyData.depthAll]
  omega
theorem ln_depth (e : En2) : (lnD e).depth ≤ 9 := by
  have h1 := st_depth e.1
  simp only [lnD, PyData.depth, PyData.depthAll]
  omega
theorem lns_depth : ∀ q : List En2, PyData.depthAll (q.map lnD) ≤ 10
  | [] => by simp [PyData.depthAll]
  | e :: q => by
    have h1 := ln_depth e
    have h2 := lns_depth q
    rw [List.map_cons]
    simp only [PyData.depthAll]
    omega
theorem sts_depth : ∀ q : List En2, PyData.depthAll (q.map fun e => stD e.1) ≤ 10
  | [] => by simp [PyData.depthAll]
  | e :: q => by
    have h1 := st_depth e.1
    have h2 := sts_depth q
    rw [List.map_cons]
    simp only [PyData.depthAll]
    omega
theorem lns_sh {vs : List V} {q : List En2} (h : Paired (LnAt K H) vs q) (g : ∀ e ∈ q, SmE e) : SeqAt.shaped (.list (q.map lnD)) = true := by
  have l := lns_lay h g
  have d := lns_depth q
  have d2 : PyData.depth (.list (q.map lnD)) ≤ 64 := by
    simp only [PyData.depth]
    omega
  show (PyData.canLay0 (.list (q.map lnD)) && decide (PyData.depth (.list (q.map lnD)) ≤ 64)) = true
  rw [decide_eq_true d2, Bool.and_true]
  simp only [PyData.canLay0]
  exact l
theorem sts_sh {vs : List V} {q : List En2} (h : Paired (fun v (e : En2) => StAt K H v e.1) vs q) (g : ∀ e ∈ q, SmE e) : SeqAt.shaped (.list (q.map fun e => stD e.1)) = true := by
  have l := sts_lay h g
  have d := sts_depth q
  have d2 : PyData.depth (.list (q.map fun e => stD e.1)) ≤ 64 := by
    simp only [PyData.depth]
    omega
  show (PyData.canLay0 (.list (q.map fun e => stD e.1)) && decide (PyData.depth (.list (q.map fun e => stD e.1)) ≤ 64)) = true
  rw [decide_eq_true d2, Bool.and_true]
  simp only [PyData.canLay0]
  exact l
theorem st_sh {v : V} {s : St2} (h : StAt K H v s) (g1 : Sm s.1) (g2 : Sm s.2.1) : SeqAt.shaped (stD s) = true := by
  have l := st_lay h g1 g2
  have d := st_depth s
  show (PyData.canLay0 (stD s) && decide (PyData.depth (stD s) ≤ 64)) = true
  rw [decide_eq_true (show PyData.depth (stD s) ≤ 64 by omega), Bool.and_true]
  exact l
end
theorem eqv_st (a b : St2) : PyData.eqv (stD a) (stD b) = decide (a = b) := by
  obtain ⟨s, t, l, m⟩ := a
  obtain ⟨s', t', l', m'⟩ := b
  simp only [stD, PyData.eqv, PyData.eqvAll, eqv_ths]
  by_cases h1 : s = s'
  · subst h1
    by_cases h2 : t = t'
    · subst h2
      by_cases h3 : l = l'
      · subst h3
        by_cases h4 : m = m'
        · subst h4
          simp
        · simp [h4]
      · simp [h3]
    · simp [h2]
  · simp [h1]
theorem any_st (q : List En2) (s : St2) : ((q.map fun e => stD e.1).any fun z => PyData.eqv z (stD s)) = decide (s ∈ q.map (·.1)) := by
  induction q with
  | nil => simp
  | cons e q ih =>
    rw [List.map_cons, List.any_cons, ih, eqv_st, List.map_cons]
    by_cases h : e.1 = s
    · simp [h]
    · have h' : ¬ s = e.1 := fun z => h z.symm
      simp [h, h']
end K24

namespace K24
open PySem PySem.Spec PyProof.Rows L2
/-! ### a word, cut behind a letter -/
theorem run_len {L : Str} {T : TT} {Re : Str → Prop} (t : TFew L T Re) : ∀ (xs : List Str) (s : Str), Re s → (∀ y ∈ xs, IsLet L y) → (runW T s xs).1.length ≤ 40 * xs.length
  | [], s, _, _ => Nat.zero_le _
  | y :: ys, s, hs, hy => by
    have ly := hy y List.mem_cons_self
    have h1 := t.few s y hs (.inr ly) (fun z => ly.ne z.2)
    have h2 := run_len t ys _ (t.ok.st s y hs ly).2 fun z hz => hy z (List.mem_cons_of_mem _ hz)
    show ((T s y).1 ++ (runW T (T s y).2 ys).1).length ≤ _
    rw [List.length_append, List.length_cons]
    omega
section
variable (T : TT) (s : Str)
def stC (xs : List Str) : St2 := ((runW T s xs).2, (runW T S0 xs).2, strip (runW T s xs).1 ((T s S0).1 ++ (runW T S0 xs).1))
def stS : St2 := (s, S0, [], (T s S0).1)
theorem stC_nil : stC T s [] = stS T s := by
  show (s, S0, strip [] ((T s S0).1 ++ [])) = _
  rw [strip_nil, List.append_nil]
  rfl
theorem stC_snoc (xs : List Str) (x : Str) : stC T s (xs ++ [x]) = nextU T T (stC T s xs) x := by
  unfold stC nextU
  rw [runW_snoc, runW_snoc, strip_app, List.append_assoc]
theorem stC_ends (xs : List Str) : endsU T T (stC T s xs) = decide ((runW T s (xs ++ [S0])).1 = (T s S0).1 ++ (runW T S0 (xs ++ [S0])).1) := by
  unfold endsU stC
  rw [runW_snoc, runW_snoc]
  refine decide_eq_decide.mpr ?_
  rw [strip_ends, List.append_assoc]
end
section
variable {L : Str} {T : TT} {Re : Str → Prop} {s y : Str}
structure EntC (L : Str) (T : TT) (Re : Str → Prop) (s y : Str) (e : En2) : Prop where
  r1 : Re e.1.1
  r2 : Re e.1.2.1
  l1 : IsLet L e.1.1
  l2 : IsLet L e.1.2.1
  wd : WordOk L e.2
  hd : ∃ l, letsOf e.2 = y :: l
  st : e.1 = stC T s (letsOf e.2)
/-- from where a step can go -/
structure SrcC (L : Str) (T : TT) (Re : Str → Prop) (s y : Str) (e : En2) (x : Str) : Prop where
  r1 : Re e.1.1
  r2 : Re e.1.2.1
  wd : WordOk L e.2
  hd : (∃ l, letsOf e.2 = y :: l) ∨ (letsOf e.2 = [] ∧ x = y)
  st : e.1 = stC T s (letsOf e.2)
theorem EntC.src {e : En2} (h : EntC L T Re s y e) (x : Str) : SrcC L T Re s y e x := ⟨h.r1, h.r2, h.wd, .inl h.hd, h.st⟩
theorem SrcC.child {e : En2} {x : Str} (t : TFew L T Re) (h : SrcC L T Re s y e x) (hx : IsLet L x) : EntC L T Re s y (childU T T e x) := by
  have s1 := t.ok.st e.1.1 x h.r1 hx
  have s2 := t.ok.st e.1.2.1 x h.r2 hx
  obtain ⟨c, hc, rfl⟩ := id hx
  refine ⟨s1.2, s2.2, s1.1, s2.1, word_snoc h.wd hx, ?_, ?_⟩
  · show ∃ l, letsOf (e.2 ++ sg c) = y :: l
    rw [lets_app, lets_sg]
    rcases h.hd with ⟨l, e1⟩ | ⟨e1, e2⟩
    · exact ⟨l ++ [sg c], by rw [e1]; rfl⟩
    · exact ⟨[], by rw [e1, ← e2]; rfl⟩
  · show nextU T T e.1 (sg c) = stC T s (letsOf (e.2 ++ sg c))
    rw [lets_app, lets_sg, stC_snoc, ← h.st]
structure InvQ (L : Str) (T : TT) (Re : Str → Prop) (s y : Str) (q : List En2) : Prop where
  nd : (q.map (·.1)).Nodup
  each : ∀ k e, q[k]? = some e → EntC L T Re s y e ∧ e.2.length ≤ k + 1
theorem InvQ.nil : InvQ L T Re s y [] := ⟨List.nodup_nil, fun k e h => by simp at h⟩
theorem InvQ.step {q : List En2} {e : En2} {x : Str} (t : TFew L T Re) (h : InvQ L T Re s y q) (g : SrcC L T Re s y e x) (hx : IsLet L x) (hl : e.2.length ≤ q.length) : InvQ L T Re s y (stepG T T e q x) := by
  unfold stepG
  split
  · exact h
  · rename_i c
    refine ⟨?_, fun k e' hk => ?_⟩
    · rw [List.map_append]
      refine List.nodup_append.mpr ⟨h.nd, by simp, ?_⟩
      intro a ha b hb
      simp at hb
      subst hb
      intro e2
      subst e2
      exact c ha
    · by_cases lt : k < q.length
      · rw [List.getElem?_append_left lt] at hk
        exact h.each k e' hk
      · have hl2 := (List.getElem?_eq_some_iff.mp hk).1
        rw [List.length_append] at hl2
        have hk2 : k = q.length := by
          simp at hl2
          omega
        subst hk2
        rw [List.getElem?_append_right (Nat.le_refl _)] at hk
        simp at hk
        subst hk
        refine ⟨g.child t hx, ?_⟩
        obtain ⟨c', hc, rfl⟩ := id hx
        show (e.2 ++ sg c').length ≤ _
        rw [app_len, sg_len]
        omega
theorem InvQ.fold {e : En2} (t : TFew L T Re) : ∀ (xs : List Str) {q : List En2}, InvQ L T Re s y q → (∀ x ∈ xs, IsLet L x ∧ SrcC L T Re s y e x) → e.2.length ≤ q.length → InvQ L T Re s y (xs.foldl (stepG T T e) q)
  | [], q, h, _, _ => h
  | x :: xs, q, h, hx, hl => by
    rw [List.foldl_cons]
    obtain ⟨m, h1⟩ := stepG_app (T1 := T) (T2 := T) e q x
    have g := hx x List.mem_cons_self
    refine InvQ.fold t xs (h.step t g.2 g.1 hl) (fun z hz => hx z (List.mem_cons_of_mem _ hz)) ?_
    rw [h1, List.length_append]
    omega
theorem entC_key {e e' : En2} (h : EntC L T Re s y e) (h' : EntC L T Re s y e') (b : endsU T T e.1 = true) (b' : endsU T T e'.1 = true) (k1 : e.1.1 = e'.1.1) (k2 : e.1.2.1 = e'.1.2.1) : e.1 = e'.1 := by
  have b := of_decide_eq_true b
  have b' := of_decide_eq_true b'
  rw [k1, k2] at b
  have s1 : Strp e.1.2.2 := by rw [h.st]; exact strip_strp _ _
  have s2 : Strp e'.1.2.2 := by rw [h'.st]; exact strip_strp _ _
  exact Prod.ext k1 (Prod.ext k2 (lag_det s1 s2 b b'))
/-- of those whose ends agree there are few -/
theorem InvQ.few {q : List En2} (h : InvQ L T Re s y q) (ok : LetOk L) {i : Nat} (hi : i ≤ q.length) (g : ∀ j e, j < i → q[j]? = some e → endsU T T e.1 = true) : i ≤ 64 := by
  have nd : ((q.take i).map fun e : En2 => (e.1.1, e.1.2.1)).Nodup := by
    refine List.nodup_iff_pairwise_ne.mpr (List.pairwise_iff_getElem.mpr fun a b ha hb lt => ?_)
    rw [List.length_map, List.length_take] at ha hb
    rw [List.getElem_map, List.getElem_map, List.getElem_take, List.getElem_take]
    intro e
    have ga : q[a]? = some q[a] := List.getElem?_eq_getElem (by omega)
    have gb : q[b]? = some q[b] := List.getElem?_eq_getElem (by omega)
    have e1 := entC_key (h.each a _ ga).1 (h.each b _ gb).1 (g a _ (by omega) ga) (g b _ (by omega) gb) (congrArg (·.1) e) (congrArg (·.2) e)
    have f1 : (q.map (·.1))[a]? = some q[a].1 := by rw [List.getElem?_map, ga]; rfl
    have f2 : (q.map (·.1))[b]? = some q[a].1 := by rw [List.getElem?_map, gb, e1]; rfl
    have := nd_inj h.nd f1 f2
    omega
  have sub : ∀ x ∈ (q.take i).map (fun e : En2 => (e.1.1, e.1.2.1)), x ∈ (letsOf L).flatMap fun a => (letsOf L).map fun b => (a, b) := by
    intro x hx
    obtain ⟨e, hm, rfl⟩ := List.mem_map.mp hx
    obtain ⟨k, hk⟩ := List.getElem?_of_mem (List.mem_of_mem_take hm)
    have ge := (h.each k e hk).1
    exact List.mem_flatMap.mpr ⟨e.1.1, let_in ge.l1, List.mem_map.mpr ⟨e.1.2.1, let_in ge.l2, rfl⟩⟩
  have h1 := nodup_len _ _ nd sub
  have h2 : ∀ xs : List Str, (xs.flatMap fun a => (letsOf L).map fun b => (a, b)).length = xs.length * L.length := by
    intro xs
    induction xs with
    | nil => simp
    | cons x xs ih =>
      rw [List.flatMap_cons, List.length_append, ih, List.length_map, lets_len, List.length_cons, Nat.succ_mul]
      omega
  rw [h2, List.length_map, List.length_take, lets_len] at h1
  have h3 := let_len ok
  have h4 : L.length * L.length ≤ 8 * 8 := Nat.mul_le_mul h3 h3
  omega
def CutAll (L : Str) (T : TT) (s y : Str) : Prop := ∀ l : List Str, (∀ x ∈ l, IsLet L x) → endsU T T (stC T s (y :: l)) = true
def BadW (L : Str) (T : TT) (s y x : Str) : Prop := WordOk L x ∧ (∃ l, letsOf x = y :: l) ∧ x.length ≤ 100 ∧ endsU T T (stC T s (letsOf x)) = false
def SoughtV (L : Str) (T : TT) (s y : Str) (v : V) : Prop := (v = .non ∧ CutAll L T s y) ∨ ∃ x, v = .str x ∧ BadW L T s y x
theorem bad_not {x : Str} (h : BadW L T s y x) : ¬ CutAll L T s y := fun a => by
  obtain ⟨w, ⟨l, e⟩, _, f⟩ := h
  have := a l fun z hz => word_lets w z (by rw [e]; exact List.mem_cons_of_mem _ hz)
  rw [← e, f] at this
  cases this
def Clo (L : Str) (T : TT) (q : List En2) (i : Nat) : Prop := ∀ j, j < i → ∃ e, q[j]? = some e ∧ endsU T T e.1 = true ∧ ∀ x, IsLet L x → nextU T T e.1 x ∈ q.map (·.1)
theorem Clo.app {q m : List En2} {i : Nat} (h : Clo L T q i) : Clo L T (q ++ m) i := fun j hj => by
  obtain ⟨e, h1, h2, h3⟩ := h j hj
  refine ⟨e, ?_, h2, fun x hx => ?_⟩
  · rw [List.getElem?_append_left (List.getElem?_eq_some_iff.mp h1).1]
    exact h1
  · rw [List.map_append]
    exact List.mem_append_left _ (h3 x hx)
theorem clo_all {q : List En2} (hz : ∃ e, q[0]? = some e ∧ e.1 = stC T s [y]) (h : Clo L T q q.length) : CutAll L T s y := by
  have K : ∀ (n : Nat) (l : List Str), l.length = n → (∀ x ∈ l, IsLet L x) → stC T s (y :: l) ∈ q.map (·.1) := by
    intro n
    induction n with
    | zero =>
      intro l hl _
      rw [List.length_eq_zero_iff.mp hl]
      obtain ⟨e, h1, h2⟩ := hz
      rw [← h2]
      exact List.mem_map.mpr ⟨e, List.mem_of_getElem? h1, rfl⟩
    | succ n ih =>
      intro l hl hx
      have hd := List.dropLast_concat_getLast (l := l) (by intro z; rw [z] at hl; cases hl)
      have hk : l.dropLast.length = n := by
        rw [List.length_dropLast]
        omega
      obtain ⟨l', hy⟩ : ∃ z, z = l.dropLast := ⟨_, rfl⟩
      rw [← hy] at hd hk
      clear hy
      generalize l.getLast _ = c at hd
      subst hd
      have m := ih l' hk fun x hx' => hx x (by simp [hx'])
      obtain ⟨e, he, e1⟩ := List.mem_map.mp m
      obtain ⟨j, hj⟩ := List.getElem?_of_mem he
      obtain ⟨e', h1, _, h3⟩ := h j (List.getElem?_eq_some_iff.mp hj).1
      rw [hj] at h1
      cases h1
      have := h3 c (hx c (by simp))
      have e1 : e.1 = stC T s (y :: l') := e1
      rw [e1, ← stC_snoc] at this
      exact this
  intro l hl
  obtain ⟨e, he, e1⟩ := List.mem_map.mp (K _ l rfl hl)
  obtain ⟨j, hj⟩ := List.getElem?_of_mem he
  obtain ⟨e', h1, h2, _⟩ := h j (List.getElem?_eq_some_iff.mp hj).1
  rw [hj] at h1
  cases h1
  have e1 : e.1 = stC T s (y :: l) := e1
  rw [← e1]
  exact h2
theorem fold_has {e : En2} : ∀ (xs : List Str) (q : List En2) (x : Str), x ∈ xs → nextU T T e.1 x ∈ (xs.foldl (stepG T T e) q).map (·.1)
  | z :: xs, q, x, hx => by
    rw [List.foldl_cons]
    rcases List.mem_cons.mp hx with e1 | m
    · subst e1
      obtain ⟨m, h1⟩ := foldG_app (T1 := T) (T2 := T) e xs (stepG T T e q x)
      rw [h1, List.map_append]
      refine List.mem_append_left _ ?_
      unfold stepG
      by_cases c : nextU T T e.1 x ∈ q.map (·.1)
      · rw [if_pos c]
        exact c
      · rw [if_neg c, List.map_append]
        exact List.mem_append_right _ (List.mem_singleton.mpr rfl)
    · exact fold_has xs _ x m
theorem entC_lag {e : En2} (t : TFew L T Re) (hs : Re s) (ls : IsLet L s) (h : EntC L T Re s y e) (hl : e.2.length ≤ 100) : e.1.2.2.1.length ≤ 40000 ∧ e.1.2.2.2.length ≤ 40000 := by
  have wl := word_lets h.wd
  have r1 := run_len t (letsOf e.2) s hs wl
  have r2 := run_len t (letsOf e.2) S0 t.ok.z wl
  have f := t.few s S0 hs (.inl rfl) (fun z => ls.ne z.1)
  have sl := strip_len (runW T s (letsOf e.2)).1 ((T s S0).1 ++ (runW T S0 (letsOf e.2)).1)
  rw [List.length_append] at sl
  have ll := lets_len e.2
  rw [h.st]
  show (strip _ _).1.length ≤ _ ∧ (strip _ _).2.length ≤ _
  omega
end
end K24

namespace K24
open PySem PySem.Spec PyProof.Rows L2
/-! ### the law's search, with one box -/
section
variable {K : PySem.W.Frag} {H : Hp} {p r d o : Addr} {L : Str} {qs : List Rule}
theorem BoxW.call {Q : VK} {s y : Str} (h : BoxW K H p r d o L qs []) (ok : ProgOk L qs) (sh : ShortQ L qs) (hs : ReB L qs s) (hy : IsSide L y) (ne : ¬ (s = S0 ∧ y = S0))
    (go : ∀ H' a b, Sb [d, o] H H' → BoxW K H' p r d o L qs [] → SqT K H' a [.ref b, .str (tw qs s y).2] → Ths K H' (.ref b) (tw qs s y).1 → (tw qs s y).1.length ≤ 40 → Q (.ref a) H') : spCome K 25 [.ref p, .str s, .str y] H Q E0 := by
  have rem0 : remS qs [] < 25 := by
    have h1 := rem_le (qs := qs) (S := [])
    have h2 := ok.few
    omega
  refine ⟨p, r, d, o, L, qs, [], s, y, rfl, h, ok, reb_side ok hs, hy, Needs.nil S0 (fOf qs) _ _, rem0, by decide, fun H' v sb W tr => ?_⟩
  obtain ⟨a, b, rfl, h1, h2, h3⟩ := come_short ok sh hs hy ne tr
  exact go H' a b sb W h1 h2 h3
def OffB (p r d o z : Addr) : Prop := z ≠ p ∧ z ≠ r ∧ z ≠ d ∧ z ≠ o
theorem BoxW.fresh (h : BoxW K H p r d o L qs []) {z : Addr} (e : H z = none) : OffB p r d o z := by
  obtain ⟨hB, ⟨kvs, hr, _⟩, _, ⟨done, hd, _⟩, ⟨ps, ho, _⟩, _, _⟩ := h
  exact ⟨(ne_of_none hB e).symm, (ne_of_none hr e).symm, (ne_of_none hd e).symm, (ne_of_none ho e).symm⟩
theorem OffB.l {z : Addr} (h : OffB p r d o z) : z ∉ [d, o] := fun m => by
  rcases List.mem_cons.mp m with e | m
  · exact h.2.2.1 e
  · exact h.2.2.2 (List.mem_singleton.mp m)
theorem BoxW.off {z : Addr} {u : HO} (h : BoxW K H p r d o L qs []) (k : TK K H (upd H z u)) (f : OffB p r d o z) : BoxW K (upd H z u) p r d o L qs [] := h.side2 k f.1 f.2.1 f.2.2.1 f.2.2.2
end
def spEnds1 (K : PySem.W.Frag) : Sp := fun vs H Q _ => ∃ (p r d o : Addr) (tv : V) (L : Str) (qs : List Rule) (s : St2), vs = [.ref p, .ref p, tv] ∧ BoxW K H p r d o L qs [] ∧ ProgOk L qs ∧ ShortQ L qs ∧ StAt K H tv s ∧ StOk L qs qs s ∧ IsLet L s.1 ∧ IsLet L s.2.1 ∧
  ∀ H', Sb [d, o] H H' → BoxW K H' p r d o L qs [] → Q (.bl (endsU (tw qs) (tw qs) s)) H'
def spNext1 (K : PySem.W.Frag) : Sp := fun vs H Q _ => ∃ (p r d o : Addr) (tv : V) (L y : Str) (qs : List Rule) (s : St2), vs = [.ref p, .ref p, tv, .str y] ∧ BoxW K H p r d o L qs [] ∧ ProgOk L qs ∧ ShortQ L qs ∧ StAt K H tv s ∧ StOk L qs qs s ∧ IsLet L y ∧
  ∀ H' v, Sb [d, o] H H' → BoxW K H' p r d o L qs [] → StAt K H' v (nextU (tw qs) (tw qs) s y) → Q v H'
def spParted1 (K : PySem.W.Frag) : Sp := fun vs H Q _ => ∃ (p r d o : Addr) (sv : V) (L s y : Str) (qs : List Rule), vs = [.str L, .ref p, .ref p, sv, .str y] ∧ BoxW K H p r d o L qs [] ∧ ProgOk L qs ∧ ShortQ L qs ∧ ReB L qs s ∧ IsLet L s ∧ IsLet L y ∧ StAt K H sv (stC (tw qs) s [y]) ∧
  ∀ H' u, Sb [d, o] H H' → BoxW K H' p r d o L qs [] → SoughtV L (tw qs) s y u → Q u H'
theorem invQ_sm {L : Str} {qs : List Rule} {s y : Str} {q : List En2} (ok : ProgOk L qs) (g : InvQ L (tw qs) (ReB L qs) s y q) : ∀ e ∈ q, SmE e := fun e he => by
  obtain ⟨k, hk⟩ := List.getElem?_of_mem he
  have h := (g.each k e hk).1
  exact ⟨(IsSide.sm ok.lets (.inr h.l1)), (IsSide.sm ok.lets (.inr h.l2)), word_strOk ok.lets h.wd⟩
theorem let_nil {x y : Str} {l : List Str} (h : letsOf x = y :: l) : x ≠ S0 ∧ 1 ≤ x.length := by
  have := lets_len x
  rw [h, List.length_cons] at this
  refine ⟨fun z => ?_, by omega⟩
  rw [z] at this
  have : (S0 : Str).length = 0 := rfl
  omega
section
variable {P : Program} {w : World} {K : PySem.W.Frag} {mg : Str → Option Value} {base : Heap}
theorem ok_ends1 {f c : Addr} {fd cd : FuncData} (F : Fun K "_law_ends" "_law_ends" sEnds f fd)
    (C : FnOk P w K mg base CX0 (3 * 25 + 1) c cd ["_law_box_here", "_law_left", "_law_right_here"] (spCome K 25)) (kC : PySem.W.keepIn K (.ref c) = true) (mC : mg "_law_come" = some (.ref c)) (bC : Binds K cd ["_law_box_here", "_law_left", "_law_right_here"] []) :
    FnOk P w K mg base CX0 77 f fd ["_law_box_here", "_law_other", "_law_state"] (spEnds1 K) := by
  refine F.ok scEnds (fun vs H Q E h => ?_) (fun cdv A outer s H vs Q E hr h => ?_)
  · obtain ⟨_, _, _, _, _, _, _, _, rfl, _⟩ := h
    rfl
  · obtain ⟨p, r, d, o, tv, L, qs, st, rfl, hB, ok, sh, hS, so, lx1, lx2, q⟩ := h
    have nd := scEnds.nd
    have hrC : Room (3 * 25 + 1) _ := hr.mono (by decide)
    refine ⟨_, pss_one (ps_ret (pe_cmpR (op_eqD (hu64 hr))
      (pe_op op_catA (pe_ix ix_tup (pe_ix ix_tup (pv 2) pe_int (fun _ _ => rfl)) pe_int (fun _ _ => rfl)) (pe_ix ix_tup (pe_call C hrC rfl mC kC bC .nil pass0 (pa_cons (pv 0) (pa_cons (pe_ix ix_tup (pv 2) pe_int (fun _ _ => rfl)) (pa_cons pe_str pa_nil)))) pe_int (fun _ _ => rfl)))
      (pe_op op_catA (pe_ix ix_tup (pe_ix ix_tup (pv 2) pe_int (fun _ _ => rfl)) pe_int (fun _ _ => rfl)) (pe_ix ix_tup (pe_call C hrC rfl mC kC bC .nil pass0 (pa_cons (pv 1) (pa_cons (pe_ix ix_tup (pv 2) pe_int (fun _ _ => rfl)) (pa_cons pe_str pa_nil)))) pe_int (fun _ _ => rfl))) (nomark _))), ?_⟩
    obtain ⟨a, lag, av, bv, rfl, ha, hlag, hav, hbv⟩ := hS
    obtain ⟨r1, r2, n1, n2⟩ := so
    refine ⟨_, rfl, a, _, 2, .ref lag, rfl, rfl, ha, rfl, lag, _, 0, av, rfl, rfl, hlag, rfl, _, rfl, _, rfl, a, _, 0, .str st.1, rfl, rfl, ha, rfl, ?_⟩
    refine hB.call ok sh r1 (.inl rfl) (fun z => lx1.ne z.1) fun H1 a1 b1 sB1 B1 h11 h12 l1 => ?_
    have k1 := hB.tk sB1
    refine ⟨a1, _, 0, .ref b1, rfl, rfl, h11, rfl, ?_⟩
    refine catThs (hav.mono k1) h12 (by omega) fun H2 c2 s2 h2 => ?_
    have B2 := B1.same s2
    have k2 := k1.trans (TK.same s2)
    have ha2 := k2 _ _ ha
    refine ⟨_, rfl, a, _, 2, .ref lag, rfl, rfl, ha2, rfl, lag, _, 1, bv, rfl, rfl, k2 _ _ hlag, rfl, _, rfl, _, rfl, a, _, 1, .str st.2.1, rfl, rfl, ha2, rfl, ?_⟩
    refine B2.call ok sh r2 (.inl rfl) (fun z => lx2.ne z.1) fun H3 a3 b3 sB3 B3 h31 h32 l3 => ?_
    have k3 := k2.trans (B2.tk sB3)
    refine ⟨a3, _, 0, .ref b3, rfl, rfl, h31, rfl, ?_⟩
    refine catThs (hbv.mono k3) h32 (by omega) fun H4 c4 s4 h4 => ?_
    have h24 := (h2.mono (B2.tk sB3)).mono (TK.same (K := K) s4)
    refine ⟨_, _, h24.dp, h4.dp, h24.shaped, h4.shaped, ?_⟩
    rw [eqv_tup]
    exact q H4 (((sB1.trans (Sb.of s2)).trans sB3).trans (Sb.of s4)) (B3.same s4)
theorem ok_next1 {f c g : Addr} {fd cd gd : FuncData} (F : Fun K "_law_next" "_law_next" sNext f fd)
    (C : FnOk P w K mg base CX0 (3 * 25 + 1) c cd ["_law_box_here", "_law_left", "_law_right_here"] (spCome K 25)) (kC : PySem.W.keepIn K (.ref c) = true) (mC : mg "_law_come" = some (.ref c)) (bC : Binds K cd ["_law_box_here", "_law_left", "_law_right_here"] [])
    (G : FnOk P w K mg base CX0 1 g gd ["_law_lag_here", "_law_one", "_law_other"] (spLag K)) (kG : PySem.W.keepIn K (.ref g) = true) (mG : mg "_law_lag" = some (.ref g)) (bG : Binds K gd ["_law_lag_here", "_law_one", "_law_other"] []) :
    FnOk P w K mg base CX0 77 f fd ["_law_box_here", "_law_other", "_law_state", "_law_letter"] (spNext1 K) := by
  refine F.ok scNext (fun vs H Q E h => ?_) (fun cdv A outer s H vs Q E hr h => ?_)
  · obtain ⟨_, _, _, _, _, _, _, _, _, rfl, _⟩ := h
    rfl
  · obtain ⟨p, r, d, o, tv, L, y, qs, st, rfl, hB, ok, sh, hS, so, ly, q⟩ := h
    have nd := scNext.nd
    have hrC : Room (3 * 25 + 1) _ := hr.mono (by decide)
    have hr1 : Room 1 _ := hr.mono (by decide)
    refine ⟨_, pss_cons (ps_par (i := 4) (j := 5) rfl nd rfl rfl (by decide) rfl rfl (pa_cons (pe_call C hrC rfl mC kC bC .nil pass0 (pa_cons (pv 0) (pa_cons (pe_ix ix_tup (pv 2) pe_int (fun _ _ => rfl)) (pa_cons (pv 3) pa_nil))))
        (pa_cons (pe_call C hrC rfl mC kC bC .nil pass0 (pa_cons (pv 1) (pa_cons (pe_ix ix_tup (pv 2) pe_int (fun _ _ => rfl)) (pa_cons (pv 3) pa_nil)))) pa_nil)) (by rfl))
      (pss_one (ps_ret (pe_tup (pa_cons (pe_ix ix_tup (pv 4) pe_int (fun _ _ => rfl)) (pa_cons (pe_ix ix_tup (pv 5) pe_int (fun _ _ => rfl)) (pa_cons
        (pe_call G hr1 rfl mG kG bG .nil pass0 (pa_cons (pe_ix ix_tup (pv 2) pe_int (fun _ _ => rfl)) (pa_cons (pe_ix ix_tup (pv 4) pe_int (fun _ _ => rfl)) (pa_cons (pe_ix ix_tup (pv 5) pe_int (fun _ _ => rfl)) pa_nil)))) pa_nil)))))), ?_⟩
    obtain ⟨a, lag, av, bv, rfl, ha, hlag, hav, hbv⟩ := hS
    obtain ⟨r1, r2, n1, n2⟩ := so
    refine ⟨_, rfl, _, rfl, a, _, 0, .str st.1, rfl, rfl, ha, rfl, _, rfl, ?_⟩
    refine hB.call ok sh r1 (.inr ly) (fun z => ly.ne z.2) fun H1 a1 b1 sB1 B1 h11 h12 l1 => ?_
    have k1 := hB.tk sB1
    refine ⟨_, rfl, _, rfl, a, _, 1, .str st.2.1, rfl, rfl, k1 _ _ ha, rfl, _, rfl, ?_⟩
    refine B1.call ok sh r2 (.inr ly) (fun z => ly.ne z.2) fun H3 a3 b3 sB3 B3 h31 h32 l3 => ⟨_, _, rfl, ?_⟩
    have k3' := B1.tk sB3
    have k3 := k1.trans k3'
    have h11 := k3' _ _ h11
    have h12 := h12.mono k3'
    unfold nextU at q
    generalize tw qs st.1 y = rr1 at *
    generalize tw qs st.2.1 y = rr2 at *
    refine ⟨_, rfl, a1, _, 1, .str rr1.2, rfl, rfl, h11, rfl, _, rfl, a3, _, 1, .str rr2.2, rfl, rfl, h31, rfl, ?_⟩
    refine ⟨_, rfl, a, _, 2, .ref lag, rfl, rfl, k3 _ _ ha, rfl, _, rfl, a1, _, 0, .ref b1, rfl, rfl, h11, rfl, _, rfl, a3, _, 0, .ref b3, rfl, rfl, h31, rfl, ?_⟩
    refine ⟨lag, av, bv, .ref b1, .ref b3, _, _, _, _, rfl, k3 _ _ hlag, hav.mono k3, hbv.mono k3, h12, h32, by omega, by omega, fun H5 a5 u1 u2 s5 h5 hu1 hu2 => ?_⟩
    refine ⟨sz (by show 3 ≤ 100000; decide), fun t6 ht6 => ?_⟩
    have v6 := same_upd (o := .tup [V.str rr1.2, V.str rr2.2, V.ref a5]) ht6
    have s56 := s5.trans v6
    exact q _ _ ((sB1.trans sB3).trans (Sb.of s56)) (B3.same s56) ⟨t6, a5, u1, u2, rfl, SqT.of upd_same, TK.same v6 _ _ h5, hu1.mono (TK.same v6), hu2.mono (TK.same v6)⟩
theorem scParted1 : FnScope ["_law_letters", "_law_box_here", "_law_other", "_law_state", "_law_word_here", "_law_line", "_law_seen", "_law_here", "_law_text", "_law_letter", "_law_there"] ["_law_letters", "_law_box_here", "_law_other", "_law_state", "_law_word_here"] (defScope sParted) := ⟨rfl, rfl, rfl, by decide +kernel, rfl, by decide +kernel, by decide +kernel⟩
theorem ok_parted1 {f e n : Addr} {fd ed nd' : FuncData} (F : Fun K "_law_parted" "_law_parted" sParted f fd)
    (E : FnOk P w K mg base CX0 77 e ed ["_law_box_here", "_law_other", "_law_state"] (spEnds1 K)) (kE : PySem.W.keepIn K (.ref e) = true) (mE : mg "_law_ends" = some (.ref e)) (bE : Binds K ed ["_law_box_here", "_law_other", "_law_state"] [])
    (N : FnOk P w K mg base CX0 77 n nd' ["_law_box_here", "_law_other", "_law_state", "_law_letter"] (spNext1 K)) (kN : PySem.W.keepIn K (.ref n) = true) (mN : mg "_law_next" = some (.ref n)) (bN : Binds K nd' ["_law_box_here", "_law_other", "_law_state", "_law_letter"] []) :
    FnOk P w K mg base CX0 78 f fd ["_law_letters", "_law_box_here", "_law_other", "_law_state", "_law_word_here"] (spParted1 K) := by
  refine F.ok scParted1 (fun vs H Q E h => ?_) (fun cdv A outer s H vs Q E' hr h => ?_)
  · obtain ⟨_, _, _, _, _, _, _, _, _, rfl, _⟩ := h
    rfl
  · obtain ⟨p, r, d, o, sv, L, ss0, y, qs, rfl, hB, ok, sh, hre, hls0, hy, hS, q⟩ := h
    have nd := scParted1.nd
    refine ⟨_, pss_cons (ps_par (i := 5) (j := 6) rfl nd rfl rfl (by decide) rfl rfl (pa_cons (pe_lst (pa_cons (pe_tup (pa_cons (pv 3) (pa_cons (pv 4) pa_nil))) pa_nil)) (pa_cons (pe_lst (pa_cons (pv 3) pa_nil)) pa_nil)) (by rfl))
      (pss_cons (ps_while PassesOwn.never (pt_cmpR (op_neD (hu64 hr)) (pv 5) (pe_lst pa_nil) (nomark _))
        (pss_cons (ps_asg (pe_bm PySem.F.plainAttrs_list PySem.F.slot_list_pop PySem.F.type_list_pop mt_popAt (pv 5) (pa_cons pe_int pa_nil)) (pg_tup (by rfl) (pgs_cons (pg_name (i := 7) nd rfl (.inl rfl)) (pgs_cons (pg_name (i := 8) nd rfl (.inl rfl)) pgs_nil))))
        (pss_cons (ps_if (PW.pt (pw_and (pt_cmpR op_ne (pv 8) pe_str (nomark _)) (pw_and1 (pt_not (pt_val (pe_call E hr rfl mE kE bE .nil pass0 (pa_cons (pv 1) (pa_cons (pv 2) (pa_cons (pv 7) pa_nil)))))))))
          (pss_one (ps_ret (pv 8))) pss_nil)
        (pss_one (ps_for PassesOwn.never rfl (pi_str (pv 0)) (pg_name (i := 9) nd rfl (.inl rfl))
          (pss_cons (ps_set (i := 10) nd rfl (.inl rfl) (pe_call N hr rfl mN kN bN .nil pass0 (pa_cons (pv 1) (pa_cons (pv 2) (pa_cons (pv 7) (pa_cons (pv 9) pa_nil))))))
          (pss_one (ps_if (pt_cmpR (op_notInD (hu65 hr)) (pv 10) (pv 6) (by rfl))
            (pss_cons (ps_expr (pe_bm PySem.F.plainAttrs_list PySem.F.slot_list_append PySem.F.type_list_append mt_append (pv 6) (pa_cons (pv 10) pa_nil)))
            (pss_one (ps_expr (pe_bm PySem.F.plainAttrs_list PySem.F.slot_list_append PySem.F.type_list_append mt_append (pv 5) (pa_cons (pe_tup (pa_cons (pv 10) (pa_cons (pe_op op_add_str (pv 8) (pv 9)) pa_nil))) pa_nil))))) pss_nil))))))))
      (pss_one (ps_ret pe_non))), ?_⟩
    have t1 := tw_few ok sh
    have hls := fun x hx => lets_is (L := L) x hx
    have z0 : EntC L (tw qs) (ReB L qs) ss0 y (stC (tw qs) ss0 [y], y) := by
      have g : SrcC L (tw qs) (ReB L qs) ss0 y (stS (tw qs) ss0, S0) y := ⟨hre, t1.ok.z, (fun c hc => nomatch hc), .inr ⟨rfl, rfl⟩, (stC_nil _ _).symm⟩
      have := g.child t1 hy
      have e1 : childU (tw qs) (tw qs) (stS (tw qs) ss0, S0) y = (stC (tw qs) ss0 [y], y) := by
        have e2 : stC (tw qs) ss0 [y] = nextU (tw qs) (tw qs) (stS (tw qs) ss0) y := by
          rw [← stC_nil, ← stC_snoc]
          rfl
        have e3 : S0 ++ y = y := by
          obtain ⟨c⟩ := y
          show (⟨#[] ++ c⟩ : Str) = _
          simp
        show (nextU (tw qs) (tw qs) (stS (tw qs) ss0) y, S0 ++ y) = _
        rw [e2, e3]
      rw [e1] at this
      exact this
    have inv0 : InvQ L (tw qs) (ReB L qs) ss0 y [(stC (tw qs) ss0 [y], y)] := ⟨by simp, fun k e h => by
      cases k with
      | zero =>
        cases h
        exact ⟨z0, by rw [hy.len]; exact Nat.le_refl _⟩
      | succ k => simp at h⟩
    refine ⟨_, rfl, _, rfl, sz (by show 2 ≤ 100000; decide), fun a0 ha0 => ⟨sz (by show 1 ≤ 100000; decide), fun ln hln => ⟨_, rfl, sz (by show 1 ≤ 100000; decide), fun sn hsn => ⟨_, _, rfl, ?_⟩⟩⟩⟩
    have u1 := same_upd (o := .tup [sv, V.str y]) ha0
    have u2 := same_upd (o := .lst [V.ref a0]) hln
    have u3 := same_upd (o := .lst [sv]) hsn
    have hln0 : H ln = none := u1.free hln
    have hsn0 : H sn = none := (u1.trans u2).free hsn
    have nls : ln ≠ sn := ne_of_none upd_same hsn
    have uu := (u1.trans u2).trans u3
    have eln : (upd (upd (upd H a0 (.tup [sv, V.str y])) ln (.lst [V.ref a0])) sn (.lst [sv])) ln = some (.lst [V.ref a0]) := u3 _ _ upd_same
    have esn : (upd (upd (upd H a0 (.tup [sv, V.str y])) ln (.lst [V.ref a0])) sn (.lst [sv])) sn = some (.lst [sv]) := upd_same
    have ea0 : SqT K (upd (upd (upd H a0 (.tup [sv, V.str y])) ln (.lst [V.ref a0])) sn (.lst [sv])) a0 [sv, V.str y] := SqT.of ((u2.trans u3) _ _ upd_same)
    have B0 := hB.same uu
    have hS0 := hS.mono (TK.same (K := K) uu)
    have offL := hB.fresh hln0
    have offS := hB.fresh hsn0
    clear u1 u2 u3 ha0 hln hsn
    generalize (upd (upd (upd H a0 (.tup [sv, V.str y])) ln (.lst [V.ref a0])) sn (.lst [sv])) = H0 at uu eln esn ea0 B0 hS0
    refine ⟨fun m' σ H' => ∃ (i : Nat) (Rq : List En2) (x7 x8 x9 x10 : Option V) (es ss : List V), m' = 100 - i ∧ σ = [some (.str L), some (.ref p), some (.ref p), some sv, some (.str y), some (.ref ln), some (.ref sn), x7, x8, x9, x10] ∧ Sb [d, o] H H' ∧ BoxW K H' p r d o L qs [] ∧
      H' ln = some (.lst es) ∧ Paired (LnAt K H') es (Rq.drop i) ∧ H' sn = some (.lst ss) ∧ Paired (fun v (e : En2) => StAt K H' v e.1) ss Rq ∧ InvQ L (tw qs) (ReB L qs) ss0 y Rq ∧ (∃ e, Rq[0]? = some e ∧ e.1 = stC (tw qs) ss0 [y]) ∧ i ≤ Rq.length ∧ Clo L (tw qs) Rq i ∧ Rq.length ≤ 1 + 8 * i,
      ⟨100, 0, [(stC (tw qs) ss0 [y], y)], none, none, none, none, [.ref a0], [sv], rfl, rfl, Sb.of uu, B0, eln, .cons ⟨a0, sv, rfl, ea0, hS0⟩ .nil, esn, .cons hS0 .nil, inv0, ⟨_, rfl, rfl⟩, Nat.zero_le _, fun j h => absurd h (Nat.not_lt_zero j), Nat.le_refl _⟩, ?_⟩
    clear eln esn ea0 B0 hS0 uu inv0 z0
    rintro m' σ H1 ⟨i, Rq, x7, x8, x9, x10, es, ss, rfl, rfl, sb1, B1, ln1, pe1, sn1, ps1, inv, hz, iq, clo, ql⟩
    have i64 : i ≤ 64 := inv.few ok.lets iq fun j e hj he => by
      obtain ⟨e', h1, h2, _⟩ := clo j hj
      rw [he] at h1
      cases h1
      exact h2
    have smR := invQ_sm ok inv
    refine ⟨_, rfl, sz (by show 0 ≤ 100000; decide), fun e0 he0 => ?_⟩
    have se := same_upd (o := .lst []) he0
    have peE := Paired.mapP pe1 fun _ _ z => LnAt.mono (TK.same (K := K) se) z
    have psE := Paired.mapP ps1 fun _ _ z => StAt.mono (TK.same (K := K) se) z
    refine ⟨.list ((Rq.drop i).map lnD), .list [], .lst (SqL.of (se _ _ ln1)) (lns_dp peE), .lst (SqL.of upd_same) .nil, lns_sh peE (fun e he => smR e (List.mem_of_mem_drop he)), by decide +kernel, ?_⟩
    have sbE := sb1.trans (Sb.of se)
    have BE := B1.same se
    have lnE := se _ _ ln1
    have snE := se _ _ sn1
    generalize (upd H1 e0 (.lst [])) = H2 at sbE BE lnE snE peE psE
    clear se pe1 ps1 ln1 sn1 B1 sb1
    by_cases lt : i < Rq.length
    · obtain ⟨⟨s0, w0⟩, hsw⟩ : ∃ e, Rq[i]? = some e := ⟨_, List.getElem?_eq_getElem lt⟩
      have dr : Rq.drop i = (s0, w0) :: Rq.drop (i + 1) := by
        obtain ⟨h1, h2⟩ := List.getElem?_eq_some_iff.mp hsw
        rw [List.drop_eq_getElem_cons h1, h2]
      rw [dr] at peE ⊢
      have ne : (!PyData.eqv (.list (List.map lnD ((s0, w0) :: Rq.drop (i + 1)))) (.list [])) = true := rfl
      refine ⟨true, by rw [ne], iteT ?_⟩
      obtain ⟨x0, es', rfl, hx, pe'⟩ : ∃ x0 es', es = x0 :: es' ∧ LnAt K H2 x0 (s0, w0) ∧ Paired (LnAt K H2) es' (Rq.drop (i + 1)) := by
        cases peE with
        | cons h t => exact ⟨_, _, rfl, h, t⟩
      obtain ⟨c0, cv, rfl, hc0, hcv⟩ := hx
      have hc0 : SqT K H2 c0 [cv, .str w0] := hc0
      have hcv : StAt K H2 cv s0 := hcv
      obtain ⟨ent, wl⟩ := inv.each i _ hsw
      have wl : w0.length ≤ i + 1 := wl
      obtain ⟨lw, hlw⟩ := ent.hd
      have w0n := let_nil hlw
      have lags := entC_lag t1 hre hls0 ent (by show w0.length ≤ 100; omega)
      have so : StOk L qs qs s0 := ⟨ent.r1, ent.r2, lags.1, lags.2⟩
      refine ⟨fun σ' H' => ∃ (Rq' : List En2) (x7 x8 x9 x10 : Option V) (es ss : List V), σ' = [some (.str L), some (.ref p), some (.ref p), some sv, some (.str y), some (.ref ln), some (.ref sn), x7, x8, x9, x10] ∧ Sb [d, o] H H' ∧ BoxW K H' p r d o L qs [] ∧
        H' ln = some (.lst es) ∧ Paired (LnAt K H') es (Rq'.drop (i + 1)) ∧ H' sn = some (.lst ss) ∧ Paired (fun v (e : En2) => StAt K H' v e.1) ss Rq' ∧ InvQ L (tw qs) (ReB L qs) ss0 y Rq' ∧ (∃ e, Rq'[0]? = some e ∧ e.1 = stC (tw qs) ss0 [y]) ∧ i + 1 ≤ Rq'.length ∧ Clo L (tw qs) Rq' (i + 1) ∧ Rq'.length ≤ 1 + 8 * (i + 1), ?_, ?_⟩
      · rintro σ' H' ⟨Rq', y7, y8, y9, y10, es', ss', rfl, sb, Bk, e1, e2, e3, e4, i5, i6, i7, i8, i9⟩
        exact ⟨100 - (i + 1), by omega, i + 1, Rq', y7, y8, y9, y10, es', ss', rfl, rfl, sb, Bk, e1, e2, e3, e4, i5, i6, i7, i8, i9⟩
      -- line.pop(0)
      refine ⟨_, rfl, .inl ⟨rfl, _, SqL.of lnE⟩, ln, _, 0, 0, .ref c0, rfl, rfl, lnE, by decide, by decide, seq0 (Nat.succ_pos _), rfl, ?_⟩
      have tkP : TK K H2 (upd H2 ln (.lst es')) := TK.upd lnE True.intro
      have BP := BE.off tkP offL
      have sbP : Sb [d, o] H (upd H2 ln (.lst es')) := sbE.updNew hln0
      have snP : (upd H2 ln (.lst es')) sn = some (.lst ss) := by
        rw [upd_ne nls.symm]
        exact snE
      have lnP : (upd H2 ln (.lst es')) ln = some (.lst es') := upd_same
      have hc0 := tkP _ _ hc0
      have hcv := hcv.mono tkP
      have peP := Paired.mapP pe' fun _ _ z => LnAt.mono tkP z
      have psP := Paired.mapP psE fun _ _ z => StAt.mono tkP z
      rw [show ((V.ref c0 :: es').eraseIdx 0) = es' from rfl]
      clear pe' psE BE sbE lnE snE peE
      generalize (upd H2 ln (.lst es')) = H3 at BP sbP snP lnP hc0 hcv peP psP
      refine ⟨c0, _, rfl, hc0, rfl, _, _, rfl, _, _, rfl, rfl, _, rfl, rfl, _, rfl, ?_⟩
      rw [decide_eq_false (show ¬ V.str w0 = V.str "" from fun y => w0n.1 (V.str.inj y))]
      refine iteT ⟨_, rfl, _, rfl, _, rfl, p, r, d, o, cv, L, qs, s0, rfl, BP, ok, sh, hcv, so, ent.l1, ent.l2, fun H4 sb4 B4 => ⟨_, rfl, ?_⟩⟩
      have sb34 := sbP.trans sb4
      have k4 := BP.tk sb4
      have ln4 := sb4 _ _ lnP offL.l
      have sn4 := sb4 _ _ snP offS.l
      have pe4 := Paired.mapP peP fun _ _ z => LnAt.mono k4 z
      have ps4 := Paired.mapP psP fun _ _ z => StAt.mono k4 z
      have cv4 := hcv.mono k4
      clear sbP BP lnP snP peP psP hcv hc0 k4 sb4
      cases gl : endsU (tw qs) (tw qs) s0 with
      | false =>
        refine iteT ⟨_, rfl, ?_⟩
        refine q _ _ sb34 B4 (.inr ⟨w0, rfl, ent.wd, ⟨lw, hlw⟩, by omega, ?_⟩)
        have := ent.st
        have e1 : s0 = stC (tw qs) ss0 (letsOf w0) := this
        rw [← e1]
        exact gl
      | true =>
        have srcs : ∀ x ∈ letsOf L, IsLet L x ∧ SrcC L (tw qs) (ReB L qs) ss0 y (s0, w0) x := fun x hx => ⟨hls x hx, ent.src x⟩
        refine iteF ⟨_, rfl, L, rfl,
          for_its (x := L) (fun k σ' H' => ∃ (y9 y10 : Option V) (es ss : List V), σ' = [some (.str L), some (.ref p), some (.ref p), some sv, some (.str y), some (.ref ln), some (.ref sn), some cv, some (.str w0), y9, y10] ∧ Sb [d, o] H H' ∧ BoxW K H' p r d o L qs [] ∧ StAt K H' cv s0 ∧
            H' ln = some (.lst es) ∧ Paired (LnAt K H') es ((((letsOf L).take k).foldl (stepG (tw qs) (tw qs) (s0, w0)) Rq).drop (i + 1)) ∧ H' sn = some (.lst ss) ∧ Paired (fun v (e : En2) => StAt K H' v e.1) ss (((letsOf L).take k).foldl (stepG (tw qs) (tw qs) (s0, w0)) Rq))
          ⟨x9, x10, es', ss, rfl, sb34, B4, cv4, ln4, pe4, sn4, ps4⟩ ?_ ?_⟩
        · rintro k c σ2 H5 hc ⟨y9, y10, es5, ss5, rfl, sb5, B5, cv5, ln5, pe5, sn5, ps5⟩
          have hcl : (letsOf L)[k]? = some (sg c) := by
            unfold letsOf
            rw [List.getElem?_map, Array.getElem?_toList, hc]
            rfl
          have mc : IsLet L (sg c) := hls _ (List.mem_of_getElem? hcl)
          have tkf : ((letsOf L).take (k + 1)).foldl (stepG (tw qs) (tw qs) (s0, w0)) Rq = stepG (tw qs) (tw qs) (s0, w0) (((letsOf L).take k).foldl (stepG (tw qs) (tw qs) (s0, w0)) Rq) (sg c) := by
            rw [take_snoc hcl, List.foldl_append]
            rfl
          have gk := InvQ.fold t1 ((letsOf L).take k) inv (fun x hx => srcs x (List.mem_of_mem_take hx)) (by show w0.length ≤ _; omega)
          obtain ⟨more, em⟩ := foldG_app (T1 := tw qs) (T2 := tw qs) (s0, w0) ((letsOf L).take k) Rq
          have fl := foldG_len (T1 := tw qs) (T2 := tw qs) (s0, w0) ((letsOf L).take k) Rq
          rw [tkf]
          have tk8 : ((letsOf L).take k).length ≤ 8 := by
            rw [List.length_take, lets_len]
            have := let_len ok.lets
            omega
          generalize ((letsOf L).take k).foldl (stepG (tw qs) (tw qs) (s0, w0)) Rq = q5 at pe5 ps5 gk em fl
          have iq : i + 1 ≤ q5.length := by
            rw [em, List.length_append]
            omega
          have sm5 := invQ_sm ok gk
          refine ⟨_, rfl, _, rfl, _, rfl, _, rfl, p, r, d, o, cv, L, sg c, qs, s0, rfl, B5, ok, sh, cv5, so, mc, fun H6 r6 sb6 B6 hr6 => ?_⟩
          have k6 := B5.tk sb6
          have ln6 := sb6 _ _ ln5 offL.l
          have sn6 := sb6 _ _ sn5 offS.l
          have pe6 := Paired.mapP pe5 fun _ _ z => LnAt.mono k6 z
          have ps6 := Paired.mapP ps5 fun _ _ z => StAt.mono k6 z
          have cv6 := cv5.mono k6
          have sb56 := sb5.trans sb6
          clear sb5 B5 cv5 ln5 pe5 sn5 ps5 sb6 k6
          have l1 := (t1.ok.st s0.1 (sg c) ent.r1 mc)
          have l2 := (t1.ok.st s0.2.1 (sg c) ent.r2 mc)
          have sm1 : Sm (nextU (tw qs) (tw qs) s0 (sg c)).1 := IsSide.sm ok.lets (.inr l1.1)
          have sm2 : Sm (nextU (tw qs) (tw qs) s0 (sg c)).2.1 := IsSide.sm ok.lets (.inr l2.1)
          refine ⟨_, rfl, _, rfl, stD (nextU (tw qs) (tw qs) s0 (sg c)), q5.map fun (e : En2) => stD e.1, hr6.dp, .lst (SqL.of sn6) (sts_dp ps6), st_sh hr6 sm1 sm2, sts_sh ps6 sm5, _, rfl, ?_⟩
          rw [any_st]
          by_cases hm' : nextU (tw qs) (tw qs) s0 (sg c) ∈ q5.map (·.1)
          · have st : stepG (tw qs) (tw qs) (s0, w0) q5 (sg c) = q5 := by
              unfold stepG
              rw [if_pos hm']
            rw [decide_eq_true hm', st]
            exact iteF ⟨_, _, es5, ss5, rfl, sb56, B6, cv6, ln6, pe6, sn6, ps6⟩
          · have st : stepG (tw qs) (tw qs) (s0, w0) q5 (sg c) = q5 ++ [childU (tw qs) (tw qs) (s0, w0) (sg c)] := by
              unfold stepG
              rw [if_neg hm']
            rw [decide_eq_false hm', st]
            have el : es5.length ≤ 800 := by
              have := Paired.length pe6
              rw [List.length_drop] at this
              omega
            have sl' : ss5.length ≤ 800 := by
              have := Paired.length ps6
              omega
            refine iteT ⟨_, rfl, .inl ⟨rfl, _, SqL.of sn6⟩, _, rfl, sn, _, _, rfl, rfl, sn6, szl (by omega), ?_⟩
            have tkA : TK K H6 (upd H6 sn (.lst (ss5 ++ [r6]))) := TK.upd sn6 True.intro
            have BA := B6.off tkA offS
            have sbA := sb56.updNew (u := .lst (ss5 ++ [r6])) hsn0
            have lnA : (upd H6 sn (.lst (ss5 ++ [r6]))) ln = some (.lst es5) := by
              rw [upd_ne nls]
              exact ln6
            have snA : (upd H6 sn (.lst (ss5 ++ [r6]))) sn = some (.lst (ss5 ++ [r6])) := upd_same
            have peA := Paired.mapP pe6 fun _ _ z => LnAt.mono tkA z
            have hrA := hr6.mono tkA
            have psA : Paired (fun v (e : En2) => StAt K (upd H6 sn (.lst (ss5 ++ [r6]))) v e.1) (ss5 ++ [r6]) (q5 ++ [childU (tw qs) (tw qs) (s0, w0) (sg c)]) :=
              Paired.app (Paired.mapP ps6 fun _ _ z => StAt.mono tkA z) (.cons hrA .nil)
            have cvA := cv6.mono tkA
            clear tkA ps6 pe6 ln6 sn6 cv6 hr6 sb56 B6
            generalize (upd H6 sn (.lst (ss5 ++ [r6]))) = HA at BA sbA lnA snA peA psA cvA hrA
            refine ⟨_, rfl, .inl ⟨rfl, _, SqL.of lnA⟩, _, rfl, _, rfl, _, rfl, w0, sg c, rfl, rfl, sz (by rw [sg_len]; omega), sz (by show 2 ≤ 100000; decide), fun t4 ht4 => ?_⟩
            have v4 := same_upd (o := .tup [r6, V.str (w0 ++ sg c)]) ht4
            have e4 : SqT K (upd HA t4 (.tup [r6, V.str (w0 ++ sg c)])) t4 [r6, V.str (w0 ++ sg c)] := SqT.of upd_same
            have lnD := v4 _ _ lnA
            refine ⟨ln, _, _, rfl, rfl, lnD, szl (by omega), ?_⟩
            have tkF : TK K (upd HA t4 (.tup [r6, V.str (w0 ++ sg c)])) (upd (upd HA t4 (.tup [r6, V.str (w0 ++ sg c)])) ln (.lst (es5 ++ [V.ref t4]))) := TK.upd lnD True.intro
            have tkAF := (TK.same (K := K) v4).trans tkF
            refine ⟨_, _, es5 ++ [.ref t4], ss5 ++ [r6], rfl, (sbA.trans (Sb.of v4)).updNew hln0, (BA.same v4).off tkF offL, cvA.mono tkAF, upd_same, ?_, ?_, Paired.mapP psA fun _ _ z => StAt.mono tkAF z⟩
            · rw [drop_snoc iq]
              exact Paired.app (Paired.mapP peA fun _ _ z => LnAt.mono tkAF z) (.cons ⟨t4, r6, rfl, tkF _ _ e4, hrA.mono tkAF⟩ .nil)
            · rw [upd_ne nls.symm]
              exact v4 _ _ snA
        · rintro σ2 H5 ⟨y9, y10, es5, ss5, rfl, sb5, B5, cv5, ln5, pe5, sn5, ps5⟩
          have e : (letsOf L).take L.cps.size = letsOf L := List.take_of_length_le (by rw [lets_len]; exact Nat.le_refl _)
          rw [e] at pe5 ps5
          have gk := InvQ.fold t1 (letsOf L) inv srcs (by show w0.length ≤ _; omega)
          obtain ⟨more, em⟩ := foldG_app (T1 := tw qs) (T2 := tw qs) (s0, w0) (letsOf L) Rq
          have fl := foldG_len (T1 := tw qs) (T2 := tw qs) (s0, w0) (letsOf L) Rq
          have hl8 := let_len ok.lets
          rw [lets_len] at fl
          refine ⟨_, _, _, _, _, es5, ss5, rfl, sb5, B5, ln5, pe5, sn5, ps5, gk, ?_, ?_, fun j hj => ?_, by omega⟩
          · obtain ⟨e, h1, h2⟩ := hz
            exact ⟨e, by rw [em, List.getElem?_append_left (List.getElem?_eq_some_iff.mp h1).1]; exact h1, h2⟩
          · rw [em, List.length_append]
            omega
          · by_cases ji : j < i
            · have := Clo.app (m := more) clo j ji
              rw [← em] at this
              exact this
            · have : j = i := by omega
              subst this
              refine ⟨(s0, w0), ?_, gl, fun x hx => fold_has _ _ x (let_in hx)⟩
              rw [em, List.getElem?_append_left lt]
              exact hsw
    · have dr : Rq.drop i = [] := List.drop_of_length_le (by omega)
      rw [dr]
      have ne : (!PyData.eqv (.list (List.map lnD [])) (.list [])) = false := rfl
      refine ⟨false, by rw [ne], iteF ?_⟩
      have e : i = Rq.length := by omega
      rw [e] at clo
      exact q _ .non sbE BE (.inl ⟨rfl, clo_all hz clo⟩)
end
end K24

namespace K24
open PySem PySem.Spec PyProof.Rows L2
theorem stC_one (T : TT) (b y : Str) : stC T b [y] = ((T b y).2, (T S0 y).2, strip (T b y).1 ((T b S0).1 ++ (T S0 y).1)) := by
  show ((T b y).2, (T S0 y).2, strip ((T b y).1 ++ []) ((T b S0).1 ++ ((T S0 y).1 ++ []))) = _
  rw [List.append_nil, List.append_nil]
def CutP (L : Str) (qs : List Rule) (x y : Str) : Prop := ∀ s, ReB L qs s → CutAll L (tw qs) (tw qs s x).2 y
open Classical in
noncomputable def canB (L : Str) (qs : List Rule) (x y : Str) : Bool := decide (CutP L qs x y)
theorem canB_true {L : Str} {qs : List Rule} {x y : Str} (h : CutP L qs x y) : canB L qs x y = true := by
  unfold canB
  exact @decide_eq_true _ (Classical.propDecidable _) h
theorem canB_false {L : Str} {qs : List Rule} {x y : Str} (h : ¬ CutP L qs x y) : canB L qs x y = false := by
  unfold canB
  exact @decide_eq_false _ (Classical.propDecidable _) h
theorem reb_at {L : Str} {qs : List Rule} {n : Nat} (h : StopB (nx qs) (letsOf L) n) {s : Str} (hs : ReB L qs s) : s ∈ (rowsB (nx qs) (letsOf L) n).map (·.1) := by
  obtain ⟨i, h1, h2⟩ := hs
  rw [h.one h1]
  exact h2
def spBehindL (K : PySem.W.Frag) : Sp := fun vs H Q _ => ∃ (p r d o : Addr) (L s x : Str) (qs : List Rule), vs = [.ref p, .str s, .str x] ∧ BoxW K H p r d o L qs [] ∧ ProgOk L qs ∧ ShortQ L qs ∧ ReB L qs s ∧ IsLet L x ∧
  ∀ H', Sb [d, o] H H' → BoxW K H' p r d o L qs [] → Q (.str (tw qs s x).2) H'
def spCanCut (K : PySem.W.Frag) : Sp := fun vs H Q _ => ∃ (v : V) (L x y : Str) (qs : List Rule), vs = [v, .str x, .str y] ∧ ProgAt K H v L qs ∧ ProgOk L qs ∧ ShortQ L qs ∧ IsLet L x ∧ IsLet L y ∧
  ∀ H', Same H H' → Q (.bl (canB L qs x y)) H'
section
variable {P : Program} {w : World} {K : PySem.W.Frag} {mg : Str → Option Value} {base : Heap}
theorem scBehindL : FnScope ["_law_box_here", "_law_standing", "_law_letter"] ["_law_box_here", "_law_standing", "_law_letter"] (defScope sBehindL) := ⟨rfl, rfl, rfl, by decide +kernel, rfl, by decide +kernel, by decide +kernel⟩
theorem ok_behindL {f c : Addr} {fd cd : FuncData} (F : Fun K "_law_behind" "_law_behind" sBehindL f fd)
    (C : FnOk P w K mg base CX0 (3 * 25 + 1) c cd ["_law_box_here", "_law_left", "_law_right_here"] (spCome K 25)) (kC : PySem.W.keepIn K (.ref c) = true) (mC : mg "_law_come" = some (.ref c)) (bC : Binds K cd ["_law_box_here", "_law_left", "_law_right_here"] []) :
    FnOk P w K mg base CX0 77 f fd ["_law_box_here", "_law_standing", "_law_letter"] (spBehindL K) := by
  refine F.ok scBehindL (fun vs H Q E h => ?_) (fun cdv A outer s H vs Q E hr h => ?_)
  · obtain ⟨_, _, _, _, _, _, _, _, rfl, _⟩ := h
    rfl
  · obtain ⟨p, r, d, o, L, st, x, qs, rfl, hB, ok, sh, hs, hx, q⟩ := h
    have nd := scBehindL.nd
    have hrC : Room (3 * 25 + 1) _ := hr.mono (by decide)
    refine ⟨_, pss_one (ps_ret (pe_ix ix_tup (pe_call C hrC rfl mC kC bC .nil pass0 (pa_cons (pv 0) (pa_cons (pv 1) (pa_cons (pv 2) pa_nil)))) pe_int (fun _ _ => rfl))), ?_⟩
    refine ⟨_, rfl, _, rfl, _, rfl, hB.call ok sh hs (.inr hx) (fun z => hx.ne z.2) fun H1 a b sb B1 h1 h2 _ => ?_⟩
    exact ⟨a, _, 1, .str (tw qs st x).2, rfl, rfl, h1, rfl, q H1 sb B1⟩
theorem scCanCut : FnScope ["_law_pairs_here", "_law_first", "_law_second", "_law_box_here", "_law_words", "_law_standing", "_law_here", "_law_joint", "_law_anew", "_law_state"] ["_law_pairs_here", "_law_first", "_law_second"] (defScope sCanCut) := ⟨rfl, rfl, rfl, by decide +kernel, rfl, by decide +kernel, by decide +kernel⟩
theorem ok_canCut {f b g h c l pt : Addr} {fd bd gd hd cd ld ptd : FuncData} (F : Fun K "_law_can_cut" "_law_can_cut" sCanCut f fd)
    (B : FnOk P w K mg base CX0 1 b bd ["_law_pairs_here"] (spBox K)) (kB : PySem.W.keepIn K (.ref b) = true) (mB : mg "_law_box" = some (.ref b)) (bB : Binds K bd ["_law_pairs_here"] [])
    (G : FnOk P w K mg base CX0 77 g gd ["_law_pairs_here", "_law_box_here"] (spLeads K)) (kG : PySem.W.keepIn K (.ref g) = true) (mG : mg "_law_leads" = some (.ref g)) (bG : Binds K gd ["_law_pairs_here", "_law_box_here"] [])
    (Bh : FnOk P w K mg base CX0 77 h hd ["_law_box_here", "_law_standing", "_law_letter"] (spBehindL K)) (kH : PySem.W.keepIn K (.ref h) = true) (mH : mg "_law_behind" = some (.ref h)) (bH : Binds K hd ["_law_box_here", "_law_standing", "_law_letter"] [])
    (C : FnOk P w K mg base CX0 (3 * 25 + 1) c cd ["_law_box_here", "_law_left", "_law_right_here"] (spCome K 25)) (kC : PySem.W.keepIn K (.ref c) = true) (mC : mg "_law_come" = some (.ref c)) (bC : Binds K cd ["_law_box_here", "_law_left", "_law_right_here"] [])
    (Lg : FnOk P w K mg base CX0 1 l ld ["_law_lag_here", "_law_one", "_law_other"] (spLag K)) (kL : PySem.W.keepIn K (.ref l) = true) (mL : mg "_law_lag" = some (.ref l)) (bL : Binds K ld ["_law_lag_here", "_law_one", "_law_other"] [])
    (Pt : FnOk P w K mg base CX0 78 pt ptd ["_law_letters", "_law_box_here", "_law_other", "_law_state", "_law_word_here"] (spParted1 K)) (kP : PySem.W.keepIn K (.ref pt) = true) (mP : mg "_law_parted" = some (.ref pt)) (bP : Binds K ptd ["_law_letters", "_law_box_here", "_law_other", "_law_state", "_law_word_here"] []) :
    FnOk P w K mg base CX0 79 f fd ["_law_pairs_here", "_law_first", "_law_second"] (spCanCut K) := by
  refine F.ok scCanCut (fun vs H Q E h => ?_) (fun cdv A outer s H vs Q E hr h => ?_)
  · obtain ⟨_, _, _, _, _, rfl, _⟩ := h
    rfl
  · obtain ⟨v, L, x, y, qs, rfl, hP, ok, sh, hx, hy, q⟩ := h
    have nd := scCanCut.nd
    have hr1 : Room 1 _ := hr.mono (by decide)
    have hr77 : Room 77 _ := hr.mono (by decide)
    have hrC : Room (3 * 25 + 1) _ := hr.mono (by decide)
    refine ⟨_, pss_cons (ps_set (i := 3) nd rfl (.inl rfl) (pe_call B hr1 rfl mB kB bB .nil pass0 (pa_cons (pv 0) pa_nil)))
      (pss_cons (ps_set (i := 4) nd rfl (.inl rfl) (pe_call G hr77 rfl mG kG bG .nil pass0 (pa_cons (pv 0) (pa_cons (pv 3) pa_nil))))
      (pss_cons (ps_for PassesOwn.never rfl (pi_keysK (pv 4)) (pg_name (i := 5) nd rfl (.inl rfl))
        (pss_cons (ps_set (i := 6) nd rfl (.inl rfl) (pe_call Bh hr77 rfl mH kH bH .nil pass0 (pa_cons (pv 3) (pa_cons (pv 5) (pa_cons (pv 1) pa_nil)))))
        (pss_cons (ps_par (i := 7) (j := 8) rfl nd rfl rfl (by decide) rfl rfl (pa_cons (pe_call C hrC rfl mC kC bC .nil pass0 (pa_cons (pv 3) (pa_cons (pv 6) (pa_cons (pv 2) pa_nil)))) (pa_cons (pe_call C hrC rfl mC kC bC .nil pass0 (pa_cons (pv 3) (pa_cons pe_str (pa_cons (pv 2) pa_nil)))) pa_nil)) (by rfl))
        (pss_cons (ps_set (i := 9) nd rfl (.inl rfl) (pe_tup (pa_cons (pe_ix ix_tup (pv 7) pe_int (fun _ _ => rfl)) (pa_cons (pe_ix ix_tup (pv 8) pe_int (fun _ _ => rfl)) (pa_cons
          (pe_call Lg hr1 rfl mL kL bL .nil pass0 (pa_cons (pe_tup (pa_cons (pe_tup pa_nil) (pa_cons (pe_tup pa_nil) pa_nil))) (pa_cons (pe_ix ix_tup (pv 7) pe_int (fun _ _ => rfl)) (pa_cons
            (pe_op op_catA (pe_ix ix_tup (pe_call C hrC rfl mC kC bC .nil pass0 (pa_cons (pv 3) (pa_cons (pv 6) (pa_cons pe_str pa_nil)))) pe_int (fun _ _ => rfl)) (pe_ix ix_tup (pv 8) pe_int (fun _ _ => rfl))) pa_nil)))) pa_nil)))))
        (pss_one (ps_if (pt_cmpR op_notN (pe_call Pt hr rfl mP kP bP .nil pass0 (pa_cons (pe_ix ix_tup (pv 0) pe_int (fun _ _ => rfl)) (pa_cons (pv 3) (pa_cons (pv 3) (pa_cons (pv 9) (pa_cons (pv 2) pa_nil)))))) pe_non (nomark _))
          (pss_one (ps_ret pe_bl)) pss_nil))))))
      (pss_one (ps_ret pe_bl)))), ?_⟩
    have tk := tw_ok ok sh
    have hls := fun x hx => lets_is (L := L) x hx
    obtain ⟨pa, pb, rfl, hpa, hpb⟩ := id hP
    refine ⟨_, rfl, .ref pa, L, qs, rfl, hP, ok, fun HB p r d o s0 np ndn no hB hD hdn ho hrd => ?_⟩
    have WB : BoxW K HB p r d o L qs [] := ⟨hB, hD, hrd, ⟨[], hdn, Dom.nil, fun a b v e => nomatch e⟩, ⟨[], ho, .nil⟩, fun s hs => (nomatch hs), Nat.zero_le _⟩
    have back : ∀ {H'}, Sb [d, o] HB H' → Same H H' := fun {H'} sb b' o' e => sb b' o' (s0 b' o' e) (by
      intro m
      rcases List.mem_cons.mp m with z | m
      · rw [z, ndn] at e
        cases e
      · rw [List.mem_singleton.mp m, no] at e
        cases e)
    clear hB hD hdn ho hrd np
    refine ⟨_, rfl, _, rfl, .ref pa, p, r, d, o, L, qs, rfl, hP.mono (TK.same s0), WB, ok, fun H1 wf n sb1 W1 hf0 ef1 hS => ?_⟩
    have g := good_rows (qs := qs) (ls := letsOf L) ok hls n
    have reb : ∀ s, ReB L qs s → s ∈ (rowsB (nx qs) (letsOf L) n).map (·.1) := fun s hs => reb_at hS hs
    have rebi : ∀ s, s ∈ (rowsB (nx qs) (letsOf L) n).map (·.1) → ReB L qs s := fun s hs => ⟨n, hS, hs⟩
    generalize rowsB (nx qs) (letsOf L) n = ws at ef1 g reb rebi
    have off := WB.fresh hf0
    refine ⟨_, rfl, wf, _, rfl, ef1, fun od => ?_⟩
    have tk3 : TK K H1 (upd H1 wf (.frz od (.dK (kvB ws)))) := TK.upd ef1 True.intro
    have W3 := W1.off tk3 off
    have sb3 : Sb [d, o] HB (upd H1 wf (.frz od (.dK (kvB ws)))) := sb1.updNew hf0
    have ef3 : (upd H1 wf (.frz od (.dK (kvB ws)))) wf = some (.frz od (.dK (kvB ws))) := upd_same
    generalize (upd H1 wf (.frz od (.dK (kvB ws)))) = H3 at W3 sb3 ef3
    refine ⟨wf, od, rfl, .inl ⟨kvB ws, ef3, for_keys (dk := wf) (od := od) (kvs := kvB ws) (fun k σ H' => ∃ (x5 x6 x7 x8 x9 : Option V), σ = [some (.ref pa), some (.str x), some (.str y), some (.ref p), some (.ref wf), x5, x6, x7, x8, x9] ∧ Sb [d, o] HB H' ∧ BoxW K H' p r d o L qs [] ∧
        H' wf = some (.frz od (.dK (kvB ws))) ∧ ∀ s ∈ (ws.take k).map (·.1), CutAll L (tw qs) (tw qs s x).2 y)
      ⟨none, none, none, none, none, rfl, sb3, W3, ef3, fun s h => by cases h⟩ (fun i σ H' ⟨_, _, _, _, _, _, _, _, z, _⟩ => z) ?_ ?_⟩⟩
    · rintro k ky vy σ H4 hky ⟨x5, x6, x7, x8, x9, rfl, sb4, W4, ef4, al⟩
      obtain ⟨s5, wd, hswd⟩ : ∃ s5 wd, ws[k]? = some (s5, wd) := by
        have lt := (List.getElem?_eq_some_iff.mp hky).1
        unfold kvB at lt
        rw [List.length_map] at lt
        exact ⟨_, _, List.getElem?_eq_getElem lt⟩
      have eky : ky = .inr s5 := by
        unfold kvB at hky
        rw [List.getElem?_map, hswd] at hky
        have := Option.some.inj hky
        exact (Prod.ext_iff.mp this).1.symm
      subst eky
      have re5 : ReB L qs s5 := rebi s5 (List.mem_map.mpr ⟨_, List.mem_of_getElem? hswd, rfl⟩)
      have b5 := tk.st s5 x re5 hx
      refine ⟨_, rfl, _, rfl, _, rfl, p, r, d, o, L, s5, x, qs, rfl, W4, ok, sh, re5, hx, fun H5 sb5 W5 => ?_⟩
      have fin : (¬ CutAll L (tw qs) (tw qs s5 x).2 y) → canB L qs x y = false := fun n => canB_false fun c => n (c s5 re5)
      have eal : CutAll L (tw qs) (tw qs s5 x).2 y → ∀ s ∈ (ws.take (k + 1)).map (·.1), CutAll L (tw qs) (tw qs s x).2 y := fun c s hs => by
        rw [take_snoc hswd, List.map_append] at hs
        rcases List.mem_append.mp hs with m | m
        · exact al s m
        · rw [List.mem_singleton.mp m]
          exact c
      generalize (tw qs s5 x).2 = b at b5 fin eal
      refine ⟨_, rfl, _, rfl, _, rfl, W5.call ok sh b5.2 (.inr hy) (fun z => hy.ne z.2) fun H6 a6 c6 sb6 W6 h61 h62 l6 => ?_⟩
      refine ⟨_, rfl, _, rfl, W6.call ok sh tk.z (.inr hy) (fun z => hy.ne z.2) fun H7 a7 c7 sb7 W7 h71 h72 l7 => ⟨_, _, rfl, ?_⟩⟩
      have k7 := W6.tk sb7
      have h61 := k7 _ _ h61
      have h62 := h62.mono k7
      refine ⟨_, rfl, a6, _, 1, .str (tw qs b y).2, rfl, rfl, h61, rfl, _, rfl, a7, _, 1, .str (tw qs S0 y).2, rfl, rfl, h71, rfl, ?_⟩
      refine ⟨sz (by show 0 ≤ 100000; decide), fun e1 g1 => ⟨sz (by show 0 ≤ 100000; decide), fun e2 g2 => ⟨sz (by show 2 ≤ 100000; decide), fun e3 g3 => ?_⟩⟩⟩
      have u1 := same_upd (o := .tup []) g1
      have u2 := same_upd (o := .tup []) g2
      have u3 := same_upd (o := .tup [V.ref e1, V.ref e2]) g3
      have u23 := u2.trans u3
      have u13 := u1.trans u23
      have el : SqT K (upd (upd (upd H7 e1 (.tup [])) e2 (.tup [])) e3 (.tup [V.ref e1, V.ref e2])) e3 [.ref e1, .ref e2] := SqT.of upd_same
      have t1' : Ths K (upd (upd (upd H7 e1 (.tup [])) e2 (.tup [])) e3 (.tup [V.ref e1, V.ref e2])) (.ref e1) [] := ⟨e1, [], rfl, SqT.of (u23 _ _ upd_same), .nil⟩
      have t2' : Ths K (upd (upd (upd H7 e1 (.tup [])) e2 (.tup [])) e3 (.tup [V.ref e1, V.ref e2])) (.ref e2) [] := ⟨e2, [], rfl, SqT.of (u3 _ _ upd_same), .nil⟩
      have h61 := TK.same (K := K) u13 _ _ h61
      have h62 := h62.mono (TK.same (K := K) u13)
      have h71 := TK.same (K := K) u13 _ _ h71
      have h72 := h72.mono (TK.same (K := K) u13)
      have W8 := W7.same u13
      have sb8 := (((sb4.trans sb5).trans sb6).trans sb7).trans (Sb.of u13)
      have ef8 := u13 _ _ (sb7 _ _ (sb6 _ _ (sb5 _ _ ef4 off.l) off.l) off.l)
      clear u1 u2 u3 u23 u13 g1 g2 g3 k7 W7 W6 W5 sb6 sb7 sb5
      generalize (upd (upd (upd H7 e1 (.tup [])) e2 (.tup [])) e3 (.tup [V.ref e1, V.ref e2])) = H8 at el t1' t2' h61 h62 h71 h72 W8 sb8 ef8
      refine ⟨_, rfl, a6, _, 0, .ref c6, rfl, rfl, h61, rfl, _, rfl, _, rfl, W8.call ok sh b5.2 (.inl rfl) (fun z => b5.1.ne z.1) fun H9 a9 c9 sb9 W9 h91 h92 l9 => ?_⟩
      have k9 := W8.tk sb9
      refine ⟨a9, _, 0, .ref c9, rfl, rfl, h91, rfl, _, rfl, a7, _, 0, .ref c7, rfl, rfl, k9 _ _ h71, rfl, ?_⟩
      refine catThs h92 (h72.mono k9) (by omega) fun H10 c10 s10 h10 => ?_
      have k10 := k9.trans (TK.same (K := K) s10)
      refine ⟨e3, .ref e1, .ref e2, .ref c6, c10, [], [], _, _, rfl, k10 _ _ el, t1'.mono k10, t2'.mono k10, h62.mono k10, h10, by show 0 + _ ≤ _; omega, by rw [List.length_append]; show 0 + _ ≤ _; omega, fun H11 a11 v1 v2 s11 h11 hv1 hv2 => ?_⟩
      refine ⟨sz (by show 3 ≤ 100000; decide), fun t12 g12 => ?_⟩
      have u12 := same_upd (o := .tup [V.str (tw qs b y).2, V.str (tw qs S0 y).2, V.ref a11]) g12
      have W12 := ((W9.same s10).same s11).same u12
      have sb12 := ((sb8.trans sb9).trans (Sb.of s10)).trans (Sb.of (s11.trans u12))
      have st12 : StAt K (upd H11 t12 (.tup [V.str (tw qs b y).2, V.str (tw qs S0 y).2, V.ref a11])) (.ref t12) (stC (tw qs) b [y]) := by
        rw [stC_one]
        exact ⟨t12, a11, v1, v2, rfl, SqT.of upd_same, TK.same u12 _ _ h11, hv1.mono (TK.same u12), hv2.mono (TK.same u12)⟩
      have ef12 := u12 _ _ (s11 _ _ (s10 _ _ (sb9 _ _ ef8 off.l)))
      have hpa12 := TK.same (K := K) (back sb12) _ _ hpa
      refine ⟨_, rfl, pa, _, 0, .str L, rfl, rfl, hpa12, rfl, _, rfl, _, rfl, _, rfl, _, rfl, ?_⟩
      refine ⟨p, r, d, o, .ref t12, L, b, y, qs, rfl, W12, ok, sh, b5.2, b5.1, hy, st12, fun H13 u13 sb13 W13 sv => ?_⟩
      rcases sv with ⟨rfl, ca⟩ | ⟨x13, rfl, bad⟩
      · refine ⟨rfl, _, rfl, iteF ?_⟩
        exact ⟨_, _, _, _, _, rfl, sb12.trans sb13, W13, sb13 _ _ ef12 off.l, eal ca⟩
      · refine ⟨rfl, _, rfl, ?_⟩
        rw [decide_eq_false (show ¬ V.str x13 = V.non from fun z => nomatch z)]
        refine iteT ?_
        have := q H13 (back (sb12.trans sb13))
        rw [fin (bad_not bad)] at this
        exact this
    · rintro σ H4 ⟨x5, x6, x7, x8, x9, rfl, sb4, W4, ef4, al⟩
      have := q H4 (back sb4)
      rw [canB_true (fun s hs => al s (by
        have e : ws.take (kvB ws).length = ws := List.take_of_length_le (by unfold kvB; rw [List.length_map]; exact Nat.le_refl _)
        rw [e]
        exact reb s hs))] at this
      exact this
end
end K24

namespace K24
open PySem PySem.Spec PyProof.Rows L2
/-! ### the class that cuts -/
def flC (m b wd kd : Addr) : List (Str × V) := putF "known" (.ref kd) (putF "words" (.ref wd) (putF "both" (.ref b) (putF "met" (.ref m) [])))
section
variable (m b wd kd : Addr)
theorem fc_known : (flC m b wd kd).lookup ("known" : Str) = some (.ref kd) := by
  unfold flC
  rw [lookup_putF, if_pos rfl]
theorem fc_words : (flC m b wd kd).lookup ("words" : Str) = some (.ref wd) := by
  unfold flC
  rw [lookup_putF, if_neg (by decide +kernel), lookup_putF, if_pos rfl]
theorem fc_both : (flC m b wd kd).lookup ("both" : Str) = some (.ref b) := by
  unfold flC
  rw [lookup_putF, if_neg (by decide +kernel), lookup_putF, if_neg (by decide +kernel), lookup_putF, if_pos rfl]
theorem fc_met : (flC m b wd kd).lookup ("met" : Str) = some (.ref m) := by
  unfold flC
  rw [lookup_putF, if_neg (by decide +kernel), lookup_putF, if_neg (by decide +kernel), lookup_putF, if_neg (by decide +kernel), lookup_putF, if_pos rfl]
theorem fc_no {x : Str} (h1 : ¬ x = "known") (h2 : ¬ x = "words") (h3 : ¬ x = "both") (h4 : ¬ x = "met") : (flC m b wd kd).lookup x = none := by
  unfold flC
  rw [lookup_putF, if_neg h1, lookup_putF, if_neg h2, lookup_putF, if_neg h3, lookup_putF, if_neg h4]
  rfl
end
structure ClsC (K : PySem.W.Frag) (C : Addr) : Prop where
  cl : Cls K C
  fM : NoAttr K C "met"
  fB : NoAttr K C "both"
  fW : NoAttr K C "words"
  fK : NoAttr K C "known"
/-- all standings that words lead to, with a word each -/
structure WordsOk (L : Str) (qs : List Rule) (ws : WD) : Prop where
  g : GoodB L qs ws
  re : ∀ s, ReB L qs s ↔ s ∈ ws.map (·.1)
def KnownAt (H : Hp) (L : Str) (qs : List Rule) (kd : Addr) : Prop := ∃ kvs, H kd = some (.dT kvs) ∧ Dom L kvs ∧ ∀ a b v, valV kvs (kp a b) = some v → SoughtV L (tw qs) a b v
structure CutAt (K : PySem.W.Frag) (CC CB : Addr) (H : Hp) (p kd : Addr) (L : Str) (qs : List Rule) : Prop where
  ex : ∃ (dx m b wd dxb : Addr) (od : Obj) (ws : WD), H p = some (.ins CC dx (flC m b wd kd)) ∧ MetAt K H L qs m ∧ H b = some (.ins CB dxb (flB L m m)) ∧ H wd = some (.frz od (.dK (kvB ws))) ∧ WordsOk L qs ws ∧ m ≠ kd ∧ KnownAt H L qs kd
theorem CutAt.same {K : PySem.W.Frag} {CC CB : Addr} {H H' : Hp} {p kd : Addr} {L : Str} {qs : List Rule} (s : Same H H') (h : CutAt K CC CB H p kd L qs) : CutAt K CC CB H' p kd L qs := by
  obtain ⟨dx, m, b, wd, dxb, od, ws, h1, h2, h3, h4, h5, h6, ⟨kvs, h7, h8, h9⟩⟩ := h.ex
  exact ⟨⟨dx, m, b, wd, dxb, od, ws, s _ _ h1, h2.same s, s _ _ h3, s _ _ h4, h5, h6, ⟨kvs, s _ _ h7, h8, h9⟩⟩⟩
theorem CutAt.put {K : PySem.W.Frag} {CC CB : Addr} {H : Hp} {p kd : Addr} {L : Str} {qs : List Rule} (h : CutAt K CC CB H p kd L qs) {kvs' : List (List L2.Key × V)} (d : Dom L kvs') (g : ∀ a b v, valV kvs' (kp a b) = some v → SoughtV L (tw qs) a b v) :
    CutAt K CC CB (upd H kd (.dT kvs')) p kd L qs := by
  obtain ⟨dx, m, b, wd, dxb, od, ws, h1, ⟨i, kvm, h21, h22, h23⟩, h3, h4, h5, h6, ⟨kvs, h7, h8, h9⟩⟩ := h.ex
  have k : TK K H (upd H kd (.dT kvs')) := TK.upd h7 True.intro
  have n1 : p ≠ kd := ne_of h1 h7 (fun z => nomatch z)
  have n3 : b ≠ kd := ne_of h3 h7 (fun z => nomatch z)
  have n4 : wd ≠ kd := ne_of h4 h7 (fun z => nomatch z)
  exact ⟨⟨dx, m, b, wd, dxb, od, ws, by rw [upd_ne n1]; exact h1, ⟨i, kvm, h21, by rw [upd_ne h6]; exact h22, h23.mono k⟩, by rw [upd_ne n3]; exact h3, by rw [upd_ne n4]; exact h4, h5, h6, ⟨kvs', upd_same, d, g⟩⟩⟩
theorem CutAt.tk {K : PySem.W.Frag} {CC CB : Addr} {H H' : Hp} {p kd : Addr} {L : Str} {qs : List Rule} (h : CutAt K CC CB H p kd L qs) (s : Sb [kd] H H') : TK K H H' := by
  obtain ⟨_, _, _, _, _, _, _, _, _, _, _, _, _, ⟨kvs, h7, _⟩⟩ := h.ex
  exact Sb.tk s fun c hc => by
    rw [List.mem_singleton.mp hc]
    exact ⟨_, h7, True.intro⟩
/-- runs and hands -/
theorem goes_run {L : Str} {qs : List Rule} (ok : ProgOk L qs) (sh : ShortQ L qs) : ∀ (xs : List Str) (a : Str) (r : Tg × Str), ReB L qs a → (∀ x ∈ xs, IsLet L x) → GoesAll S0 (fOf qs) a xs r → runW (tw qs) a xs = r
  | [], a, r, _, _, h => by
    obtain ⟨n, h⟩ := h
    have h : some (([] : Tg), a) = some r := h
    exact Option.some.inj h
  | x :: xs, a, r, ha, hx, h => by
    obtain ⟨n, h⟩ := h
    have lx := hx x List.mem_cons_self
    obtain ⟨q, g, e, _⟩ := short_goes ok sh ha (.inr lx) (fun z => lx.ne z.2)
    have st := (tw_ok ok sh).st a x ha lx
    rw [e] at st
    unfold evs at h
    cases h1 : ev S0 (fOf qs) n a x with
    | none =>
      rw [h1] at h
      cases h
    | some q1 =>
      have e1 := Goes.one S0 (fOf qs) ⟨n, h1⟩ g
      subst e1
      rw [h1] at h
      cases h2 : evs (ev S0 (fOf qs) n) q1.2 xs with
      | none =>
        simp [h2] at h
      | some q2 =>
        have ih := goes_run ok sh xs q1.2 q2 st.2 (fun z hz => hx z (List.mem_cons_of_mem _ hz)) ⟨n, h2⟩
        show ((tw qs a x).1 ++ (runW (tw qs) (tw qs a x).2 xs).1, (runW (tw qs) (tw qs a x).2 xs).2) = r
        rw [e, ih]
        simp [h2] at h
        exact h
structure EndsOk (L : Str) (qs : List Rule) (x : Str) (E : WD) : Prop where
  nd : (E.map (·.1)).Nodup
  each : ∀ b u, (b, u) ∈ E → IsLet L b ∧ ReB L qs b ∧ WordOk L u ∧ (∃ l, letsOf u = l ++ [x]) ∧ u.length ≤ 20 ∧ (runW (tw qs) S0 (letsOf u)).2 = b
  all : ∀ s, ReB L qs s → (tw qs s x).2 ∈ E.map (·.1)
theorem EndsOk.len {L : Str} {qs : List Rule} {x : Str} {E : WD} (ok : ProgOk L qs) (h : (E.map (·.1)).Nodup) (hl : ∀ b u, (b, u) ∈ E → IsLet L b) : E.length ≤ 8 := by
  have := nodup_len _ (letsOf L) h fun b hb => by
    obtain ⟨⟨b', u⟩, hm, rfl⟩ := List.mem_map.mp hb
    exact let_in (hl b' u hm)
  rw [List.length_map, lets_len] at this
  have := let_len ok.lets
  omega
def spBInitX (K : PySem.W.Frag) (C : Addr) : Sp := fun vs H Q _ => ∃ (p dx m1 m2 : Addr) (L : Str), vs = [.ref p, .str L, .ref m1, .ref m2] ∧ H p = some (.ins C dx []) ∧ m1 ≠ p ∧ m2 ≠ p ∧
  ∀ H', (∀ b o, H b = some o → b ≠ p → H' b = some o) → TK K H H' → H' p = some (.ins C dx (flB L m1 m2)) → Q .non H'
def spCInit (K : PySem.W.Frag) (CC CB : Addr) : Sp := fun vs H Q _ => ∃ (p dx m : Addr) (v : V) (L : Str) (qs : List Rule), vs = [.ref p, v, .ref m] ∧ H p = some (.ins CC dx []) ∧ ProgAt K H v L qs ∧ ProgOk L qs ∧ ShortQ L qs ∧ MetAt K H L qs m ∧
  ∀ H' kd, (∀ b o, H b = some o → b ≠ p → H' b = some o) → H kd = none → CutAt K CC CB H' p kd L qs → Q .non H'
def spEnding (K : PySem.W.Frag) (CC CB : Addr) : Sp := fun vs H Q _ => ∃ (p kd : Addr) (L x : Str) (qs : List Rule), vs = [.ref p, .str x] ∧ CutAt K CC CB H p kd L qs ∧ ProgOk L qs ∧ ShortQ L qs ∧ IsLet L x ∧
  ∀ H' f E, Same H H' → H f = none → H' f = some (.dK (kvB E)) → EndsOk L qs x E → Q (.ref f) H'
section
variable {P : Program} {w : World} {K : PySem.W.Frag} {mg : Str → Option Value} {base : Heap}
theorem ok_bInitX {f C : Addr} {fd : FuncData} (F : Fun K "__init__" "Both.__init__" sBInit f fd) (TC : ClsB K C) : FnOk P w K mg base CX0 1 f fd ["self", "letters", "met_one", "met_other"] (spBInitX K C) := by
  refine F.ok scBInit (fun vs H Q E h => ?_) (fun cdv A outer s H vs Q E hr h => ?_)
  · obtain ⟨_, _, _, _, _, rfl, _⟩ := h
    rfl
  · obtain ⟨p, dx, m1, m2, L, rfl, hp, n1, n2, q⟩ := h
    refine ⟨_, pss_cons (ps_fld (pv 0) (pv 1) rfl) (pss_cons (ps_fld (pv 0) (pv 2) rfl) (pss_one (ps_fld (pv 0) (pv 3) rfl))), ?_⟩
    refine ⟨_, rfl, _, rfl, p, C, dx, [], rfl, hp, TC.cl, TC.fL, (by show 0 < 1000; decide), ?_⟩
    refine ⟨_, rfl, _, rfl, p, C, dx, _, rfl, upd_same, TC.cl, TC.f1, (by show 1 < 1000; decide), ?_⟩
    refine ⟨_, rfl, _, rfl, p, C, dx, _, rfl, upd_same, TC.cl, TC.f2, (by show 2 < 1000; decide), ?_⟩
    have k1 : TK K H (upd H p (.ins C dx (putF "letters" (.str L) []))) := TK.upd hp True.intro
    have k2 : TK K _ (upd (upd H p (.ins C dx (putF "letters" (.str L) []))) p (.ins C dx (putF "met_one" (.ref m1) (putF "letters" (.str L) [])))) := TK.upd upd_same True.intro
    have k3 : TK K _ (upd (upd (upd H p (.ins C dx (putF "letters" (.str L) []))) p (.ins C dx (putF "met_one" (.ref m1) (putF "letters" (.str L) [])))) p (.ins C dx (flB L m1 m2))) := TK.upd upd_same True.intro
    exact q _ (fun b o e n => by
      rw [upd_ne n, upd_ne n, upd_ne n]
      exact e) ((k1.trans k2).trans k3) upd_same
theorem scCInit : FnScope ["self", "calm", "met"] ["self", "calm", "met"] (defScope sCInit) := ⟨rfl, rfl, rfl, by decide +kernel, rfl, by decide +kernel, by decide +kernel⟩
theorem ok_cInit {f CC CB CP ib ip wt : Addr} {fd ibd ipd wtd : FuncData} (F : Fun K "__init__" "Cutter.__init__" sCInit f fd) (TCC : ClsC K CC) (TCP : ClsT K CP)
    (MB : Mk K CB ib) (mCB : mg "Both" = some (.ref CB)) (IB : FnOk P w K mg base CX0 1 ib ibd ["self", "letters", "met_one", "met_other"] (spBInitX K CB)) (bIB : Binds K ibd ["self", "letters", "met_one", "met_other"] [])
    (MP : Mk K CP ip) (mCP : mg "PairWork" = some (.ref CP)) (IP : FnOk P w K mg base CX0 1 ip ipd ["self", "pairs"] (spPInit K CP)) (bIP : Binds K ipd ["self", "pairs"] [])
    (Wt : FnOk P w K mg base CX0 77 wt wtd ["work"] (spStand K CP)) (kW : PySem.W.keepIn K (.ref wt) = true) (mW : mg "words_to_standings" = some (.ref wt)) (bW : Binds K wtd ["work"] []) :
    FnOk P w K mg base CX0 78 f fd ["self", "calm", "met"] (spCInit K CC CB) := by
  refine F.ok scCInit (fun vs H Q E h => ?_) (fun cdv A outer s H vs Q E hr h => ?_)
  · obtain ⟨_, _, _, _, _, _, rfl, _⟩ := h
    rfl
  · obtain ⟨p, dx, m, v, L, qs, rfl, hp, hP, ok, sh, hM, q⟩ := h
    have nd := scCInit.nd
    have hr2 : Room 2 _ := hr.mono (by decide)
    refine ⟨_, pss_cons (ps_fld (pv 0) (pv 2) rfl)
      (pss_cons (ps_fld (pv 0) (pe_make MB IB hr2 rfl mCB bIB .nil pass0 (pa_cons (pe_ix ix_tup (pv 1) pe_int (fun _ _ => rfl)) (pa_cons (pv 2) (pa_cons (pv 2) pa_nil)))) rfl)
      (pss_cons (ps_fld (pv 0) (pe_heldK (pe_call Wt hr rfl mW kW bW .nil pass0 (pa_cons (pe_make MP IP hr2 rfl mCP bIP .nil pass0 (pa_cons (pv 1) pa_nil)) pa_nil))) rfl)
      (pss_one (ps_fld (pv 0) pe_dnewT rfl)))), ?_⟩
    obtain ⟨pa, pb, rfl, hpa, hpb⟩ := id hP
    obtain ⟨im, kvm, stm, hm, hkm⟩ := hM
    have nmp : m ≠ p := ne_of hm hp (fun z => nomatch z)
    -- met
    refine ⟨_, rfl, _, rfl, p, CC, dx, [], rfl, hp, TCC.cl, TCC.fM, (by show 0 < 1000; decide), ?_⟩
    have k1 : TK K H (upd H p (.ins CC dx (putF "met" (.ref m) []))) := TK.upd hp True.intro
    have keep1 : ∀ b o, H b = some o → b ≠ p → (upd H p (.ins CC dx (putF "met" (.ref m) []))) b = some o := fun b o e n => by
      rw [upd_ne n]
      exact e
    have hp1 : (upd H p (.ins CC dx (putF "met" (.ref m) []))) p = some (.ins CC dx (putF "met" (.ref m) [])) := upd_same
    generalize (upd H p (.ins CC dx (putF "met" (.ref m) []))) = H1 at k1 keep1 hp1
    -- both
    refine ⟨_, rfl, pa, _, 0, .str L, rfl, rfl, k1 _ _ hpa, rfl, _, rfl, _, rfl, fun b dxb nb ndb nex => ?_⟩
    have s2 : Same H1 (upd (upd H1 dxb (.own b)) b (.ins CB dxb [])) := fun c o e => by
      rw [upd_ne (ne_of_none e nb), upd_ne (ne_of_none e ndb)]
      exact e
    have nbm : m ≠ b := ne_of_none (keep1 _ _ hm nmp) nb
    refine ⟨b, dxb, m, m, L, rfl, upd_same, nbm, nbm, fun H3 keep3 k3 hb3 => ⟨rfl, ?_⟩⟩
    have s3 : Same H1 H3 := fun c o e => keep3 c o (s2 c o e) (ne_of_none e nb)
    have k13 := (k1.trans (TK.same s2)).trans k3
    have hp3 := s3 _ _ hp1
    have npb : b ≠ p := ne_of hb3 hp3 (fun z => by injection z with _ _ z; exact absurd (congrArg (fun l => l.lookup ("met" : Str)) z) (by
      show (flB L m m).lookup _ ≠ (putF "met" (.ref m) []).lookup _
      rw [lookup_putF, if_pos rfl]
      unfold flB
      rw [lookup_putF, if_neg (by decide +kernel), lookup_putF, if_neg (by decide +kernel), lookup_putF, if_neg (by decide +kernel)]
      exact fun z => nomatch z))
    refine ⟨_, rfl, p, CC, dx, _, rfl, hp3, TCC.cl, TCC.fB, (by show 1 < 1000; decide), ?_⟩
    have k4 : TK K H3 (upd H3 p (.ins CC dx (putF "both" (.ref b) (putF "met" (.ref m) [])))) := TK.upd hp3 True.intro
    have k14 := k13.trans k4
    have keep4 : ∀ c o, H c = some o → c ≠ p → (upd H3 p (.ins CC dx (putF "both" (.ref b) (putF "met" (.ref m) [])))) c = some o := fun c o e n => by
      rw [upd_ne n]
      exact s3 _ _ (keep1 c o e n)
    have hb4 : (upd H3 p (.ins CC dx (putF "both" (.ref b) (putF "met" (.ref m) [])))) b = some (.ins CB dxb (flB L m m)) := by
      rw [upd_ne npb]
      exact hb3
    have hp4 : (upd H3 p (.ins CC dx (putF "both" (.ref b) (putF "met" (.ref m) [])))) p = some (.ins CC dx (putF "both" (.ref b) (putF "met" (.ref m) []))) := upd_same
    clear k4 hb3 hp3 k13 s3 keep3 k3 s2 k1 keep1 hp1
    generalize (upd H3 p (.ins CC dx (putF "both" (.ref b) (putF "met" (.ref m) [])))) = H4 at k14 keep4 hb4 hp4
    -- words
    refine ⟨_, rfl, fun pw dw npw ndw nex => ?_⟩
    have s5 : Same H4 (upd (upd H4 dw (.own pw)) pw (.ins CP dw [])) := fun c o e => by
      rw [upd_ne (ne_of_none e npw), upd_ne (ne_of_none e ndw)]
      exact e
    refine ⟨pw, dw, .ref pa, L, qs, rfl, upd_same, (hP.mono k14).mono (TK.same s5), ok, fun H6 dd dn ds keep6 fn fs W => ⟨rfl, ?_⟩⟩
    have s6 : Same H4 H6 := fun c o e => keep6 c o (s5 c o e) (ne_of_none e npw)
    have fn0 : H4 dn = none := s5.free fn
    have fs0 : H4 ds = none := s5.free fs
    refine ⟨pw, dd, dn, ds, L, qs, rfl, W, ok, fun H7 wd n sb7 W7 hwd0 ewd hmin hstop => ⟨wd, _, rfl, ewd, fun od => ?_⟩⟩
    have hS : StopB (nx qs) (letsOf L) n := ⟨hmin, hstop⟩
    have s7 : Same H4 H7 := fun c o e => sb7 c o (s6 c o e) (by
      intro m
      rcases List.mem_cons.mp m with z | m
      · rw [z, fn0] at e
        cases e
      · rw [List.mem_singleton.mp m, fs0] at e
        cases e)
    have wdH4 : H4 wd = none := s6.free hwd0
    have s8 : Same H4 (upd H7 wd (.frz od (.dK (kvB (rowsB (nx qs) (letsOf L) n))))) := fun c o e => by
      rw [upd_ne (ne_of_none e wdH4)]
      exact s7 c o e
    have hwd8 : (upd H7 wd (.frz od (.dK (kvB (rowsB (nx qs) (letsOf L) n))))) wd = some (.frz od (.dK (kvB (rowsB (nx qs) (letsOf L) n)))) := upd_same
    have wok : WordsOk L qs (rowsB (nx qs) (letsOf L) n) := ⟨good_rows (qs := qs) (ls := letsOf L) ok lets_is n, fun s => ⟨reb_at hS, fun h => ⟨n, hS, h⟩⟩⟩
    clear sb7 W7 W hwd0 ewd hmin hstop hS s7 s6 s5 keep6
    generalize (upd H7 wd (.frz od (.dK (kvB (rowsB (nx qs) (letsOf L) n))))) = H8 at s8 hwd8
    generalize rowsB (nx qs) (letsOf L) n = ws at hwd8 wok
    have hp8 := s8 _ _ hp4
    have npw' : wd ≠ p := ne_of hwd8 hp8 (fun z => nomatch z)
    refine ⟨_, rfl, p, CC, dx, _, rfl, hp8, TCC.cl, TCC.fW, (by show 2 < 1000; decide), ?_⟩
    have k9 : TK K H8 (upd H8 p (.ins CC dx (putF "words" (.ref wd) (putF "both" (.ref b) (putF "met" (.ref m) []))))) := TK.upd hp8 True.intro
    have k19 := (k14.trans (TK.same s8)).trans k9
    have keep9 : ∀ c o, H c = some o → c ≠ p → (upd H8 p (.ins CC dx (putF "words" (.ref wd) (putF "both" (.ref b) (putF "met" (.ref m) []))))) c = some o := fun c o e n => by
      rw [upd_ne n]
      exact s8 _ _ (keep4 c o e n)
    have hb9 : (upd H8 p (.ins CC dx (putF "words" (.ref wd) (putF "both" (.ref b) (putF "met" (.ref m) []))))) b = some (.ins CB dxb (flB L m m)) := by
      rw [upd_ne npb]
      exact s8 _ _ hb4
    have hwd9 : (upd H8 p (.ins CC dx (putF "words" (.ref wd) (putF "both" (.ref b) (putF "met" (.ref m) []))))) wd = some (.frz od (.dK (kvB ws))) := by
      rw [upd_ne npw']
      exact hwd8
    have hp9 : (upd H8 p (.ins CC dx (putF "words" (.ref wd) (putF "both" (.ref b) (putF "met" (.ref m) []))))) p = some (.ins CC dx (putF "words" (.ref wd) (putF "both" (.ref b) (putF "met" (.ref m) [])))) := upd_same
    clear k9 hp8 hwd8 s8 hb4 hp4 k14 keep4
    generalize (upd H8 p (.ins CC dx (putF "words" (.ref wd) (putF "both" (.ref b) (putF "met" (.ref m) []))))) = H9 at k19 keep9 hb9 hwd9 hp9
    -- known
    refine fun kd hkd => ?_
    have s10 := same_upd (o := .dT []) hkd
    have hp10 := s10 _ _ hp9
    have nkp : kd ≠ p := (ne_of_none hp9 hkd).symm
    refine ⟨_, rfl, p, CC, dx, _, rfl, hp10, TCC.cl, TCC.fK, (by show 3 < 1000; decide), ?_⟩
    have k11 : TK K (upd H9 kd (.dT [])) (upd (upd H9 kd (.dT [])) p (.ins CC dx (flC m b wd kd))) := TK.upd hp10 True.intro
    have fin : ∀ c o, H9 c = some o → c ≠ p → (upd (upd H9 kd (.dT [])) p (.ins CC dx (flC m b wd kd))) c = some o := fun c o e n => by
      rw [upd_ne n]
      exact s10 c o e
    have kd0 : H kd = none := by
      cases e : H kd with
      | none => rfl
      | some o =>
        have := keep9 _ _ e nkp
        rw [hkd] at this
        cases this
    refine q _ kd (fun c o e n => fin c o (keep9 c o e n) n) kd0 ⟨⟨dx, m, b, wd, dxb, od, ws, upd_same, ⟨im, kvm, stm, fin _ _ (keep9 _ _ hm nmp) nmp, hkm.mono ((k19.trans (TK.same s10)).trans k11)⟩, fin _ _ hb9 npb, fin _ _ hwd9 npw', wok, ?_, ⟨[], ?_, Dom.nil, fun a b v e => nomatch e⟩⟩⟩
    · exact ne_of_none (keep9 _ _ hm nmp) hkd
    · rw [upd_ne nkp]
      exact upd_same
theorem scEnding : FnScope ["self", "letter", "found", "standing", "behind"] ["self", "letter"] (defScope sEnding) := ⟨rfl, rfl, rfl, by decide +kernel, rfl, by decide +kernel, by decide +kernel⟩
theorem ok_ending {f CC CB : Addr} {fd : FuncData} (F : Fun K "words_ending" "Cutter.words_ending" sEnding f fd) (TC : ClsC K CC) : FnOk P w K mg base CX0 1 f fd ["self", "letter"] (spEnding K CC CB) := by
  refine F.ok scEnding (fun vs H Q E h => ?_) (fun cdv A outer s H vs Q E hr h => ?_)
  · obtain ⟨_, _, _, _, _, rfl, _⟩ := h
    rfl
  · obtain ⟨p, kd, L, x, qs, rfl, hC, ok, sh, hx, q⟩ := h
    have nd := scEnding.nd
    have hu := hu_of hr
    have tk := tw_ok ok sh
    refine ⟨_, pss_cons (ps_set (i := 2) nd rfl (.inl rfl) pe_dnewK)
      (pss_cons (ps_for PassesOwn.never rfl (pi_keys (pe_fld (pv 0) rfl)) (pg_name (i := 3) nd rfl (.inl rfl))
        (pss_cons (ps_set (i := 4) nd rfl (.inl rfl) (pe_ix ix_tup (pe_dget hu (pe_fld (pv 0) rfl) (pe_tup (pa_cons (pv 3) (pa_cons (pv 1) pa_nil))) (fun _ _ => rfl)) pe_int (fun _ _ => rfl)))
        (pss_one (ps_if (pt_cmp (pc_dnotin hu (pv 4) (pv 2)))
          (pss_one (ps_dput hu (pv 2) (pv 4) (pe_op op_add_str (pe_dget hu (pe_fld (pv 0) rfl) (pv 3) (fun _ _ => rfl)) (pv 1)) rfl)) pss_nil))))
      (pss_one (ps_ret (pv 2)))), ?_⟩
    obtain ⟨dx, m, b, wd, dxb, od, ws, hp, hM, hb, hw, wok, nmk, hK⟩ := hC.ex
    refine fun fa hfa => ?_
    have s1 := same_upd (o := .dK []) hfa
    have wsl := good_len ok wok.g
    refine ⟨_, rfl, p, CC, dx, _, _, rfl, s1 _ _ hp, TC.cl, TC.fW, fc_words m b wd kd, wd, od, rfl, .inl ⟨kvB ws, s1 _ _ hw, for_keys (dk := wd) (od := od) (kvs := kvB ws) (fun k σ H' => ∃ (x3 x4 : Option V) (E : WD), σ = [some (.ref p), some (.str x), some (.ref fa), x3, x4] ∧ Same H H' ∧
        H' fa = some (.dK (kvB E)) ∧ (E.map (·.1)).Nodup ∧ (∀ b u, (b, u) ∈ E → IsLet L b ∧ ReB L qs b ∧ WordOk L u ∧ (∃ l, letsOf u = l ++ [x]) ∧ u.length ≤ 20 ∧ (runW (tw qs) S0 (letsOf u)).2 = b) ∧ ∀ s ∈ (ws.take k).map (·.1), (tw qs s x).2 ∈ E.map (·.1))
      ⟨none, none, [], rfl, s1, upd_same, List.nodup_nil, (fun b u h => nomatch h), (fun s h => by simp at h)⟩ (fun i σ H' ⟨_, _, _, _, s', _⟩ => s' _ _ hw) ?_ ?_⟩⟩
    · rintro k ky vy σ H2 hky ⟨x3, x4, E, rfl, s2, hfa2, nE, eE, aE⟩
      obtain ⟨s5, u5, hsw⟩ : ∃ s5 u5, ws[k]? = some (s5, u5) := by
        have lt := (List.getElem?_eq_some_iff.mp hky).1
        unfold kvB at lt
        rw [List.length_map] at lt
        exact ⟨_, _, List.getElem?_eq_getElem lt⟩
      have eky : ky = .inr s5 := by
        unfold kvB at hky
        rw [List.getElem?_map, hsw] at hky
        have := Option.some.inj hky
        exact (Prod.ext_iff.mp this).1.symm
      subst eky
      have kl := (List.getElem?_eq_some_iff.mp hsw).1
      have re5 : ReB L qs s5 := (wok.re s5).mpr (List.mem_map.mpr ⟨_, List.mem_of_getElem? hsw, rfl⟩)
      obtain ⟨_, w5, wl5, _, ⟨th5, g5⟩⟩ := wok.g.each k s5 u5 hsw
      have run5 : (runW (tw qs) S0 (letsOf u5)).2 = s5 := by
        rw [goes_run ok sh (letsOf u5) S0 (th5, s5) tk.z (word_lets w5) g5]
      have b5 := tk.st s5 x re5 hx
      have eEl := EndsOk.len (L := L) (qs := qs) (x := x) ok nE fun b u h => (eE b u h).1
      refine ⟨_, rfl, p, CC, dx, _, _, rfl, s2 _ _ hp, TC.cl, TC.fM, fc_met m b wd kd, _, rfl, _, rfl, sz (by show 2 ≤ 100000; decide), fun t1 ht1 => ?_⟩
      have v1 := same_upd (o := .tup [kV (.inr s5 : L2.Key), V.str x]) ht1
      obtain ⟨a1, to1, gt1, hs1, _, _⟩ := ((hM.same s2).same v1).get ok sh (s := s5) (x := x) re5 (.inr hx) (fun z => hx.ne z.2) (t := t1) upd_same
      have s3 := s2.trans v1
      have hfa3 := v1 _ _ hfa2
      refine ⟨m, _, rfl, gt1, a1, _, 2, .str (tw qs s5 x).2, rfl, rfl, hs1, rfl, ?_⟩
      clear gt1 hs1
      generalize (upd H2 t1 (.tup [kV (.inr s5 : L2.Key), V.str x])) = H3 at v1 s3 hfa3
      have all' : ∀ {E' : WD}, (∀ z, z ∈ E.map (·.1) → z ∈ E'.map (·.1)) → (tw qs s5 x).2 ∈ E'.map (·.1) → ∀ s ∈ (ws.take (k + 1)).map (·.1), (tw qs s x).2 ∈ E'.map (·.1) := fun {E'} h1 h2 s hs => by
        rw [take_snoc hsw, List.map_append] at hs
        rcases List.mem_append.mp hs with mm | mm
        · exact h1 _ (aE s mm)
        · rw [List.mem_singleton.mp mm]
          exact h2
      refine ⟨_, rfl, _, rfl, fa, _, rfl, DGet.k (k := .inr (tw qs s5 x).2) hfa3, ?_⟩
      by_cases hm : (tw qs s5 x).2 ∈ E.map (·.1)
      · obtain ⟨v0, hv0⟩ := kvB_some nE hm
        rw [hv0]
        exact ⟨_, rfl, iteF ⟨_, _, E, rfl, s3, hfa3, nE, eE, all' (fun _ z => z) hm⟩⟩
      · rw [kvB_none hm]
        refine ⟨_, rfl, iteT ⟨_, rfl, p, CC, dx, _, _, rfl, s3 _ _ hp, TC.cl, TC.fW, fc_words m b wd kd, _, rfl, wd, .str u5, rfl, ?_, _, rfl, u5, x, rfl, rfl, sz (by rw [hx.len]; omega), _, rfl, _, rfl, fa, _, rfl, .inl ⟨kvB E, .inr (tw qs s5 x).2, hfa3, rfl, szl (by unfold kvB; rw [List.length_map]; omega), rfl⟩, ?_⟩⟩
        · rw [← kvB_at wok.g.nd hsw]
          exact .inl ⟨kvB ws, .inr s5, .inr ⟨od, s3 _ _ hw⟩, rfl, rfl⟩
        · rw [putK_new _ (kvB_none hm)]
          refine ⟨_, _, E ++ [((tw qs s5 x).2, u5 ++ x)], rfl, fun c o e => ?_, ?_, ?_, fun b u h => ?_, all' (fun z hz => by rw [List.map_append]; exact List.mem_append_left _ hz) (by rw [List.map_append]; exact List.mem_append_right _ (List.mem_singleton.mpr rfl))⟩
          · rw [upd_ne (ne_of_none e hfa)]
            exact s3 c o e
          · rw [upd_same]
            unfold kvB
            rw [List.map_append]
            rfl
          · rw [List.map_append]
            refine List.nodup_append.mpr ⟨nE, by simp, fun a ha c hc => ?_⟩
            simp at hc
            subst hc
            intro e2
            subst e2
            exact hm ha
          · rcases List.mem_append.mp h with mm | mm
            · exact eE b u mm
            · have e := List.mem_singleton.mp mm
              cases e
              obtain ⟨cx, hcx, ex⟩ := id hx
              have le : letsOf (u5 ++ x) = letsOf u5 ++ [x] := by
                rw [lets_app, ex, lets_sg]
              refine ⟨b5.1, b5.2, word_snoc w5 hx, ⟨letsOf u5, le⟩, by rw [app_len, hx.len]; omega, ?_⟩
              rw [le, runW_snoc, run5]
    · rintro σ H2 ⟨x3, x4, E, rfl, s2, hfa2, nE, eE, aE⟩
      refine ⟨_, rfl, q H2 fa E s2 hfa hfa2 ⟨nE, eE, fun s hs => aE s ?_⟩⟩
      have e : ws.take (kvB ws).length = ws := List.take_of_length_le (by unfold kvB; rw [List.length_map]; exact Nat.le_refl _)
      rw [e]
      exact (wok.re s).mp hs
end
end K24

namespace K24
open PySem PySem.Spec PyProof.Rows L2
/-! ### the program's search -/
def kvU (q : List En2) : List (List L2.Key × V) := q.map fun e => (kp e.1.1 e.1.2.1, .bl true)
theorem kvU_none : ∀ {q : List En2} {a b : Str}, (∀ e ∈ q, ¬ (e.1.1 = a ∧ e.1.2.1 = b)) → valV (kvU q) (kp a b) = none
  | [], _, _, _ => rfl
  | e :: q, a, b, h => by
    have n1 : ¬ kp e.1.1 e.1.2.1 = kp a b := fun z => h e List.mem_cons_self (kp_inj z)
    show valV ((kp e.1.1 e.1.2.1, .bl true) :: kvU q) _ = none
    rw [valV_neg n1]
    exact kvU_none fun x hx => h x (List.mem_cons_of_mem _ hx)
theorem kvU_some : ∀ {q : List En2} {a b : Str} {e : En2}, e ∈ q → e.1.1 = a → e.1.2.1 = b → valV (kvU q) (kp a b) = some (.bl true)
  | [], _, _, _, h, _, _ => nomatch h
  | x :: q, a, b, e, h, h1, h2 => by
    by_cases z : kp x.1.1 x.1.2.1 = kp a b
    · exact valV_pos z
    · show valV ((kp x.1.1 x.1.2.1, .bl true) :: kvU q) _ = _
      rw [valV_neg z]
      rcases List.mem_cons.mp h with e1 | m
      · exact absurd (by rw [← e1, h1, h2]) z
      · exact kvU_some m h1 h2
structure PrQ (L : Str) (T : TT) (Re : Str → Prop) (s y : Str) (n : Nat) (q : List En2) : Prop where
  inv : InvQ L T Re s y q
  good : ∀ e ∈ q, endsU T T e.1 = true
  z : n = 0 → q = []
  su : ∀ i, n = i + 1 → (∃ e, q[0]? = some e ∧ e.1 = stC T s [y]) ∧ Clo L T q i
  le : n ≤ q.length + 1
theorem PrQ.few {L : Str} {T : TT} {Re : Str → Prop} {s y : Str} {n : Nat} {q : List En2} (h : PrQ L T Re s y n q) (ok : LetOk L) : q.length ≤ 64 :=
  h.inv.few ok (Nat.le_refl _) fun j e _ he => h.good e (List.mem_of_getElem? he)
def spSought (K : PySem.W.Frag) (CC CB : Addr) : Sp := fun vs H Q _ => ∃ (p kd : Addr) (L s y : Str) (qs : List Rule), vs = [.ref p, .str s, .str y] ∧ CutAt K CC CB H p kd L qs ∧ ProgOk L qs ∧ ShortQ L qs ∧ ReB L qs s ∧ IsLet L s ∧ IsLet L y ∧
  ∀ H' v, Same H H' → SoughtV L (tw qs) s y v → Q v H'
section
variable {P : Program} {w : World} {K : PySem.W.Frag} {mg : Str → Option Value} {base : Heap}
theorem scSought : FnScope ["self", "standing", "letter", "start", "queue", "seen", "at", "triple", "word", "more", "behind"] ["self", "standing", "letter"] (defScope sSought) := ⟨rfl, rfl, rfl, by decide +kernel, rfl, by decide +kernel, by decide +kernel⟩
theorem ok_sought {f b e CC CB : Addr} {fd bd ed : FuncData} (F : Fun K "sought_word" "Cutter.sought_word" sSought f fd) (T : Txt K mg) (TC : ClsC K CC) (TB : ClsB K CB)
    (B : FnOk P w K mg base CX0 2 b bd ["self", "triple", "letter"] (spBBehind K CB)) (mB : Meth K CB "behind" b) (bB : Binds K bd ["self", "triple", "letter"] [])
    (D : FnOk P w K mg base CX0 1 e ed ["self", "triple"] (spBEnds K CB)) (mD : Meth K CB "do_ends_agree" e) (bD : Binds K ed ["self", "triple"] []) :
    FnOk P w K mg base CX0 4 f fd ["self", "standing", "letter"] (spSought K CC CB) := by
  refine F.ok scSought (fun vs H Q E h => ?_) (fun cdv A outer s H vs Q E hr h => ?_)
  · obtain ⟨_, _, _, _, _, _, rfl, _⟩ := h
    rfl
  · obtain ⟨p, kd, L, st, y, qs, rfl, hC, ok, sh, hre, hls0, hy, q⟩ := h
    have nd := scSought.nd
    have hu := hu_of hr
    have hr2 : Room 2 _ := hr.mono (by decide)
    have hr1 : Room 1 _ := hr.mono (by decide)
    refine ⟨_, pss_cons (ps_set (i := 3) nd rfl (.inl rfl) (pe_tup (pa_cons (pv 1) (pa_cons pe_str (pa_cons (pe_tup (pa_cons (pe_tup pa_nil) (pa_cons (pe_ix ix_tup (pe_dget hu (pe_fld (pv 0) rfl) (pe_tup (pa_cons (pv 1) (pa_cons pe_str pa_nil))) (fun _ _ => rfl)) pe_int (fun _ _ => rfl)) pa_nil))) pa_nil)))))
      (pss_cons (ps_set (i := 4) nd rfl (.inl rfl) (pe_lst (pa_cons (pe_tup (pa_cons (pv 3) (pa_cons pe_str pa_nil))) pa_nil)))
      (pss_cons (ps_set (i := 5) nd rfl (.inl rfl) pe_dnewT)
      (pss_cons (ps_set (i := 6) nd rfl (.inl rfl) pe_int)
      (pss_cons (ps_while PassesOwn.never (pt_cmpR op_lt (pv 6) (pe_callB call_len_seq (by rfl) T.len PySem.boot_len (pa_cons (pv 4) pa_nil)) (nomark _))
        (pss_cons (ps_asg (pe_ix ix_list (pv 4) (pv 6) (fun _ _ => rfl)) (pg_tup (by rfl) (pgs_cons (pg_name (i := 7) nd rfl (.inl rfl)) (pgs_cons (pg_name (i := 8) nd rfl (.inl rfl)) pgs_nil))))
        (pss_cons (ps_aug (i := 6) nd rfl (.inl rfl) pe_int ip_add)
        (pss_one (ps_for PassesOwn.never rfl (pi_str (pe_ifExp (pt_truth (pv 8) (fun _ => rfl)) (pe_fld (pe_fld (pv 0) rfl) rfl) (pv 2))) (pg_name (i := 9) nd rfl (.inl rfl))
          (pss_cons (ps_set (i := 10) nd rfl (.inl rfl) (pe_meth (pe_fld (pv 0) rfl) TB.cl mB B hr2 bB .nil pass0 (pa_cons (pv 7) (pa_cons (pv 9) pa_nil))))
          (pss_cons (ps_if (pt_not (pt_val (pe_meth (pe_fld (pv 0) rfl) TB.cl mD D hr1 bD .nil pass0 (pa_cons (pv 10) pa_nil))))
            (pss_one (ps_ret (pe_op op_add_str (pv 8) (pv 9)))) pss_nil)
          (pss_one (ps_if (pt_cmp (pc_dnotin hu (pe_slice (show SlR _ (rSlT K) from sl_tup) (pv 10) po_none (po_some pe_int)) (pv 5)))
            (pss_cons (ps_dput hu (pv 5) (pe_slice (show SlR _ (rSlT K) from sl_tup) (pv 10) po_none (po_some pe_int)) pe_bl rfl)
            (pss_one (ps_expr (pe_bm PySem.F.plainAttrs_list PySem.F.slot_list_append PySem.F.type_list_append mt_append (pv 4) (pa_cons (pe_tup (pa_cons (pv 10) (pa_cons (pe_op op_add_str (pv 8) (pv 9)) pa_nil))) pa_nil))))) pss_nil)))))))))
      (pss_one (ps_ret pe_non)))))), ?_⟩
    have t1 := tw_few ok sh
    have hls := fun x hx => lets_is (L := L) x hx
    obtain ⟨dx, m, b', wd, dxb, od, ws, hp, hM, hb, hw, wok, nmk, hK⟩ := hC.ex
    -- the start
    refine ⟨_, rfl, sz (by show 0 ≤ 100000; decide), fun e0 g0 => ?_⟩
    have v0 := same_upd (o := .tup []) g0
    refine ⟨_, rfl, p, CC, dx, _, _, rfl, v0 _ _ hp, TC.cl, TC.fM, fc_met m b' wd kd, _, rfl, sz (by show 2 ≤ 100000; decide), fun e1 g1 => ?_⟩
    have v1 := same_upd (o := .tup [V.str st, V.str ""]) g1
    obtain ⟨a1, to1, gt1, hs1, hth1, hl1⟩ := ((hM.same v0).same v1).get ok sh (s := st) (x := S0) hre (.inl rfl) (fun z => hls0.ne z.1) (t := e1) upd_same
    refine ⟨m, _, rfl, gt1, a1, _, 1, to1, rfl, rfl, hs1, rfl, sz (by show 2 ≤ 100000; decide), fun e2 g2 => ⟨sz (by show 3 ≤ 100000; decide), fun e3 g3 => ?_⟩⟩
    have v2 := same_upd (o := .tup [V.ref e0, to1]) g2
    have v3 := same_upd (o := .tup [V.str st, V.str "", V.ref e2]) g3
    refine ⟨_, rfl, sz (by show 2 ≤ 100000; decide), fun e4 g4 => ⟨sz (by show 1 ≤ 100000; decide), fun qd hqd => ?_⟩⟩
    have v4 := same_upd (o := .tup [V.ref e3, V.str ""]) g4
    have v5 := same_upd (o := .lst [V.ref e4]) hqd
    refine fun sd hsd => ?_
    have v6 := same_upd (o := .dT []) hsd
    have v23 := v2.trans v3
    have v45 := v4.trans v5
    have v26 := (v23.trans v45).trans v6
    have v06 := (v0.trans v1).trans v26
    have hqd0 : H qd = none := (((v0.trans v1).trans v23).trans v4).free hqd
    have hsd0 : H sd = none := (((v0.trans v1).trans v23).trans v45).free hsd
    have nqs : qd ≠ sd := ne_of_none upd_same hsd
    have stS0 : StAt K (upd (upd (upd (upd (upd (upd (upd H e0 (.tup [])) e1 (.tup [V.str st, V.str ""])) e2 (.tup [V.ref e0, to1])) e3 (.tup [V.str st, V.str "", V.ref e2])) e4 (.tup [V.ref e3, V.str ""])) qd (.lst [V.ref e4])) sd (.dT [])) (.ref e3) (stS (tw qs) st) :=
      ⟨e3, e2, .ref e0, to1, rfl, SqT.of ((v45.trans v6) _ _ upd_same), SqT.of (((v3.trans v45).trans v6) _ _ upd_same), ⟨e0, [], rfl, SqT.of ((v1.trans v26) _ _ upd_same), .nil⟩, hth1.mono (TK.same v26)⟩
    have ln0 : LnAt K (upd (upd (upd (upd (upd (upd (upd H e0 (.tup [])) e1 (.tup [V.str st, V.str ""])) e2 (.tup [V.ref e0, to1])) e3 (.tup [V.str st, V.str "", V.ref e2])) e4 (.tup [V.ref e3, V.str ""])) qd (.lst [V.ref e4])) sd (.dT [])) (.ref e4) (stS (tw qs) st, S0) :=
      ⟨e4, .ref e3, rfl, SqT.of ((v5.trans v6) _ _ upd_same), stS0⟩
    have hq0 : (upd (upd (upd (upd (upd (upd (upd H e0 (.tup [])) e1 (.tup [V.str st, V.str ""])) e2 (.tup [V.ref e0, to1])) e3 (.tup [V.str st, V.str "", V.ref e2])) e4 (.tup [V.ref e3, V.str ""])) qd (.lst [V.ref e4])) sd (.dT [])) qd = some (.lst [V.ref e4]) := v6 _ _ upd_same
    have hs0 : (upd (upd (upd (upd (upd (upd (upd H e0 (.tup [])) e1 (.tup [V.str st, V.str ""])) e2 (.tup [V.ref e0, to1])) e3 (.tup [V.str st, V.str "", V.ref e2])) e4 (.tup [V.ref e3, V.str ""])) qd (.lst [V.ref e4])) sd (.dT [])) sd = some (.dT []) := upd_same
    clear v0 v1 v2 v3 v4 v5 v6 v23 v45 v26 g0 g1 g2 g3 g4 hqd hsd gt1 hs1 hth1 hl1 stS0
    generalize (upd (upd (upd (upd (upd (upd (upd H e0 (.tup [])) e1 (.tup [V.str st, V.str ""])) e2 (.tup [V.ref e0, to1])) e3 (.tup [V.str st, V.str "", V.ref e2])) e4 (.tup [V.ref e3, V.str ""])) qd (.lst [V.ref e4])) sd (.dT [])) = H0 at v06 ln0 hq0 hs0
    refine ⟨fun m' σ H' => ∃ (n : Nat) (Rq : List En2) (x7 x8 x9 x10 : Option V) (es : List V), m' = 100 - n ∧ σ = [some (.ref p), some (.str st), some (.str y), some (.ref e3), some (.ref qd), some (.ref sd), some (.int n), x7, x8, x9, x10] ∧ Same H H' ∧ H' qd = some (.lst es) ∧ Paired (LnAt K H') es ((stS (tw qs) st, S0) :: Rq) ∧
      H' sd = some (.dT (kvU Rq)) ∧ PrQ L (tw qs) (ReB L qs) st y n Rq,
      ⟨100, 0, [], none, none, none, none, [.ref e4], rfl, rfl, v06, hq0, .cons ln0 .nil, hs0, InvQ.nil, (fun e h => nomatch h), (fun _ => rfl), (fun i h => nomatch h), Nat.zero_le _⟩, ?_⟩
    clear v06 ln0 hq0 hs0
    rintro m' σ H1 ⟨n, Rq, x7, x8, x9, x10, es, rfl, rfl, s1, q1, pe1, d1, pr⟩
    have r64 := pr.few ok.lets
    have el : es.length = Rq.length + 1 := Paired.length pe1
    refine ⟨_, rfl, _, rfl, qd, _, rfl, .inl (SqL.of q1), _, _, rfl, rfl, _, rfl, ?_⟩
    by_cases lt : n < Rq.length + 1
    · rw [decide_eq_true (show ((n : Nat) : Int) < ((es.length : Nat) : Int) by omega)]
      refine iteT ?_
      obtain ⟨⟨s0, w0⟩, hsw⟩ : ∃ e, ((stS (tw qs) st, S0) :: Rq)[n]? = some e := ⟨_, List.getElem?_eq_getElem (by rw [List.length_cons]; exact lt)⟩
      obtain ⟨v0, hv0⟩ : ∃ v, es[n]? = some v := ⟨_, List.getElem?_eq_getElem (by omega)⟩
      obtain ⟨en, hen, hln⟩ := Paired.at1 pe1 hv0
      rw [hsw] at hen
      cases hen
      obtain ⟨c0, cv, rfl, hc0, hcv⟩ := hln
      have hc0 : SqT K H1 c0 [cv, .str w0] := hc0
      have hcv : StAt K H1 cv s0 := hcv
      -- which letters, and what comes of them
      obtain ⟨X, hX, hXl, hw0, lagA, lagB, rA, rB, iterX, done⟩ : ∃ X : Str, (∀ x ∈ letsOf X, IsLet L x ∧ SrcC L (tw qs) (ReB L qs) st y (s0, w0) x) ∧ X.length ≤ 8 ∧ w0.length ≤ Rq.length ∧ s0.2.2.1.length ≤ 40000 ∧ s0.2.2.2.length ≤ 40000 ∧ ReB L qs s0.1 ∧ ReB L qs s0.2.1 ∧
          (∀ (σ : L2.St) (k : VK), σ[0]? = some (some (.ref p)) → σ[2]? = some (some (.str y)) → σ[8]? = some (some (.str w0)) → k (.str X) H1 →
            tIf (fun σ H Q => tVar 8 σ H fun x H' => ∃ k, TruV K x H' k ∧ Q k H') (tFld K (tFld K (tVar 0) "both") "letters") (tVar 2) σ H1 k) ∧
          (∀ Rq', Rq' = (letsOf X).foldl (stepG (tw qs) (tw qs) (s0, w0)) Rq → (∀ e ∈ Rq', endsU (tw qs) (tw qs) e.1 = true) → PrQ L (tw qs) (ReB L qs) st y (n + 1) Rq') := by
        cases n with
        | zero =>
          have e0 := pr.z rfl
          subst e0
          cases hsw
          have src : SrcC L (tw qs) (ReB L qs) st y (stS (tw qs) st, S0) y := ⟨hre, t1.ok.z, (fun c hc => nomatch hc), .inr ⟨rfl, rfl⟩, (stC_nil _ _).symm⟩
          have ly : letsOf y = [y] := by
            obtain ⟨c, _, rfl⟩ := hy
            exact lets_sg c
          have few := t1.few st S0 hre (.inl rfl) (fun z => hls0.ne z.1)
          refine ⟨y, fun x hx => ?_, by rw [hy.len]; decide, Nat.zero_le _, Nat.zero_le _, by show (tw qs st S0).1.length ≤ _; omega, hre, t1.ok.z, fun σ k h0 h2 h8 hk => ⟨_, h8, false, ⟨sz (by show 0 ≤ 100000; decide), rfl⟩, iteF ⟨_, h2, hk⟩⟩, fun Rq' e gd => ?_⟩
          · rw [ly] at hx
            rw [List.mem_singleton.mp hx]
            exact ⟨hy, src⟩
          · have eR : Rq' = [(stC (tw qs) st [y], S0 ++ y)] := by
              rw [e, ly]
              show stepG (tw qs) (tw qs) (stS (tw qs) st, S0) [] y = _
              unfold stepG
              rw [if_neg (by simp)]
              show [] ++ [(nextU (tw qs) (tw qs) (stS (tw qs) st) y, S0 ++ y)] = _
              rw [← stC_nil, ← stC_snoc]
              rfl
            have inv : InvQ L (tw qs) (ReB L qs) st y Rq' := by
              rw [e]
              exact InvQ.fold t1 (letsOf y) InvQ.nil (fun x hx => by
                rw [ly] at hx
                rw [List.mem_singleton.mp hx]
                exact ⟨hy, src⟩) (Nat.zero_le _)
            refine ⟨inv, gd, fun z => (nomatch z), fun i hi => ⟨⟨_, by rw [eR]; rfl, rfl⟩, ?_⟩, by rw [eR]; exact Nat.le_add_left _ _⟩
            have : i = 0 := by omega
            subst this
            exact fun j hj => absurd hj (Nat.not_lt_zero j)
        | succ i =>
          have hsw' : Rq[i]? = some (s0, w0) := by simpa using hsw
          have il := (List.getElem?_eq_some_iff.mp hsw').1
          obtain ⟨ent, wl⟩ := pr.inv.each i _ hsw'
          have wl : w0.length ≤ i + 1 := wl
          obtain ⟨lw, hlw⟩ := ent.hd
          have w0n := let_nil hlw
          have lags := entC_lag t1 hre hls0 ent (by show w0.length ≤ 100; omega)
          obtain ⟨hz, clo⟩ := pr.su i rfl
          refine ⟨L, fun x hx => ⟨hls x hx, ent.src x⟩, let_len ok.lets, by omega, lags.1, lags.2, ent.r1, ent.r2, fun σ k h0 h2 h8 hk => ⟨_, h8, true, ⟨sz (by omega), ?_⟩, iteT ⟨_, h0, p, CC, dx, _, _, rfl, s1 _ _ hp, TC.cl, TC.fB, fc_both m b' wd kd, b', CB, dxb, _, _, rfl, s1 _ _ hb, TB.cl, TB.fL, fb_letters L m m, hk⟩⟩, fun Rq' e gd => ?_⟩
          · have h1 : w0.length ≠ 0 := Nat.ne_of_gt w0n.2
            have : ((w0.length : Nat) : Int) ≠ 0 := fun z => h1 (Int.ofNat.inj z)
            simpa using this
          · obtain ⟨more, em⟩ := foldG_app (T1 := tw qs) (T2 := tw qs) (s0, w0) (letsOf L) Rq
            rw [← e] at em
            have inv : InvQ L (tw qs) (ReB L qs) st y Rq' := by
              rw [e]
              exact InvQ.fold t1 (letsOf L) pr.inv (fun x hx => ⟨hls x hx, ent.src x⟩) (by show w0.length ≤ _; omega)
            refine ⟨inv, gd, fun z => (nomatch z), fun i' hi => ⟨?_, fun j hj => ?_⟩, by rw [em, List.length_append]; omega⟩
            · obtain ⟨e', h1, h2⟩ := hz
              exact ⟨e', by rw [em, List.getElem?_append_left (List.getElem?_eq_some_iff.mp h1).1]; exact h1, h2⟩
            · by_cases ji : j < i
              · have := Clo.app (m := more) clo j ji
                rw [← em] at this
                exact this
              · have : j = i := by omega
                subst this
                refine ⟨(s0, w0), by rw [em, List.getElem?_append_left il]; exact hsw', pr.good _ (List.mem_of_getElem? hsw'), fun x hx => ?_⟩
                rw [e]
                exact fold_has _ _ x (let_in hx)
      refine ⟨fun σ' H' => ∃ (Rq' : List En2) (x7 x8 x9 x10 : Option V) (es : List V), σ' = [some (.ref p), some (.str st), some (.str y), some (.ref e3), some (.ref qd), some (.ref sd), some (.int ((n + 1 : Nat))), x7, x8, x9, x10] ∧ Same H H' ∧ H' qd = some (.lst es) ∧ Paired (LnAt K H') es ((stS (tw qs) st, S0) :: Rq') ∧
        H' sd = some (.dT (kvU Rq')) ∧ PrQ L (tw qs) (ReB L qs) st y (n + 1) Rq', ?_, ?_⟩
      · rintro σ' H' ⟨Rq', y7, y8, y9, y10, es', rfl, sb, e1, e2, e3', e4'⟩
        have := e4'.le
        have l64 := e4'.few ok.lets
        exact ⟨100 - (n + 1), by omega, n + 1, Rq', y7, y8, y9, y10, es', rfl, rfl, sb, e1, e2, e3', e4'⟩
      have hnl : n ≤ 65 := by omega
      refine ⟨_, rfl, _, rfl, qd, es, (n : Nat), .ref c0, rfl, rfl, SqL.of q1, atI_nat hv0, c0, _, rfl, hc0, rfl, _, _, rfl, _, _, rfl, rfl, ?_⟩
      refine ⟨_, rfl, _, _, rfl, rfl, ?_⟩
      refine iterX _ _ rfl rfl rfl ⟨X, rfl,
        for_its (x := X) (fun k σ' H' => ∃ (y9 y10 : Option V) (es : List V), σ' = [some (.ref p), some (.str st), some (.str y), some (.ref e3), some (.ref qd), some (.ref sd), some (.int ((n + 1 : Nat))), some cv, some (.str w0), y9, y10] ∧ Same H H' ∧ StAt K H' cv s0 ∧ H' qd = some (.lst es) ∧
          Paired (LnAt K H') es ((stS (tw qs) st, S0) :: ((letsOf X).take k).foldl (stepG (tw qs) (tw qs) (s0, w0)) Rq) ∧ H' sd = some (.dT (kvU (((letsOf X).take k).foldl (stepG (tw qs) (tw qs) (s0, w0)) Rq))) ∧
          (∀ e ∈ ((letsOf X).take k).foldl (stepG (tw qs) (tw qs) (s0, w0)) Rq, endsU (tw qs) (tw qs) e.1 = true))
        ⟨x9, x10, es, rfl, s1, hcv, q1, pe1, d1, pr.good⟩ ?_ ?_⟩
      · rintro k c σ2 H2 hc ⟨y9, y10, es2, rfl, s2, cv2, q2, pe2, d2, gd2⟩
        have hcl : (letsOf X)[k]? = some (sg c) := by
          unfold letsOf
          rw [List.getElem?_map, Array.getElem?_toList, hc]
          rfl
        obtain ⟨mc, src⟩ := hX _ (List.mem_of_getElem? hcl)
        have tkf : ((letsOf X).take (k + 1)).foldl (stepG (tw qs) (tw qs) (s0, w0)) Rq = stepG (tw qs) (tw qs) (s0, w0) (((letsOf X).take k).foldl (stepG (tw qs) (tw qs) (s0, w0)) Rq) (sg c) := by
          rw [take_snoc hcl, List.foldl_append]
          rfl
        have gk := InvQ.fold t1 ((letsOf X).take k) pr.inv (fun x hx => hX x (List.mem_of_mem_take hx)) (by show w0.length ≤ _; omega)
        obtain ⟨more, em⟩ := foldG_app (T1 := tw qs) (T2 := tw qs) (s0, w0) ((letsOf X).take k) Rq
        rw [tkf]
        generalize ((letsOf X).take k).foldl (stepG (tw qs) (tw qs) (s0, w0)) Rq = q5 at pe2 d2 gd2 gk em
        have l5 : q5.length ≤ 64 := gk.few ok.lets (Nat.le_refl _) fun j e _ he => gd2 e (List.mem_of_getElem? he)
        have e2l : es2.length = q5.length + 1 := Paired.length pe2
        have wq : w0.length ≤ q5.length := by
          rw [em, List.length_append]
          omega
        have gc := gk.step t1 src mc (by show w0.length ≤ _; omega)
        have chE := src.child t1 mc
        have l1 := (t1.ok.st s0.1 (sg c) rA mc)
        have l2 := (t1.ok.st s0.2.1 (sg c) rB mc)
        have fno : ∀ {x : Str}, ¬ x = "met_other" → ¬ x = "met_one" → ¬ x = "letters" → (flB L m m).lookup x = none := fun h1 h2 h3 => fb_no L m m h1 h2 h3
        have bAt : ∀ {H'}, Same H H' → BothAt K CB H' b' L qs qs := fun {H'} s' => ⟨⟨dxb, m, m, s' _ _ hb, hM.same s', hM.same s'⟩⟩
        refine ⟨_, rfl, p, CC, dx, _, _, rfl, s2 _ _ hp, TC.cl, TC.fB, fc_both m b' wd kd, b', dxb, _, rfl, s2 _ _ hb, fno (by decide +kernel) (by decide +kernel) (by decide +kernel), _, rfl, _, rfl, ?_⟩
        refine ⟨b', cv, L, sg c, qs, qs, s0, rfl, bAt s2, ok, ok, sh, sh, cv2, rA, rB, mc, by omega, by omega, fun H4 r4 s4 hst4 => ?_⟩
        have f1 := t1.few s0.1 (sg c) rA (.inr mc) (fun z => mc.ne z.2)
        have f2 := t1.few s0.2.1 (sg c) rB (.inr mc) (fun z => mc.ne z.2)
        have sl := strip_len (s0.2.2.1 ++ (tw qs s0.1 (sg c)).1) (s0.2.2.2 ++ (tw qs s0.2.1 (sg c)).1)
        rw [List.length_append, List.length_append] at sl
        have s24 := s2.trans s4
        have q4 := s4 _ _ q2
        have d4 := s4 _ _ d2
        have pe4 := Paired.mapP pe2 fun _ _ z => LnAt.mono (TK.same (K := K) s4) z
        have cv4 := cv2.mono (TK.same (K := K) s4)
        -- do the ends agree
        refine ⟨_, rfl, p, CC, dx, _, _, rfl, s24 _ _ hp, TC.cl, TC.fB, fc_both m b' wd kd, b', dxb, _, rfl, s24 _ _ hb, fno (by decide +kernel) (by decide +kernel) (by decide +kernel), _, rfl, ?_⟩
        refine ⟨b', r4, L, qs, qs, nextU (tw qs) (tw qs) s0 (sg c), rfl, bAt s24, ok, ok, sh, sh, hst4, l1.2, l2.2, l1.1, l2.1, by show (strip _ _).1.length ≤ _; omega, by show (strip _ _).2.length ≤ _; omega, fun H5 s5 => ⟨_, rfl, ?_⟩⟩
        have q5' := s5 _ _ q4
        have d5 := s5 _ _ d4
        have pe5 := Paired.mapP pe4 fun _ _ z => LnAt.mono (TK.same (K := K) s5) z
        have cv5 := cv4.mono (TK.same (K := K) s5)
        have s25 := s24.trans s5
        have hst5 := hst4.mono (TK.same (K := K) s5)
        cases en : endsU (tw qs) (tw qs) (nextU (tw qs) (tw qs) s0 (sg c)) with
        | false =>
          refine iteT ⟨_, rfl, _, rfl, w0, sg c, rfl, rfl, sz (by rw [sg_len]; omega), ?_⟩
          refine q H5 _ s25 (.inr ⟨w0 ++ sg c, rfl, chE.wd, chE.hd, by rw [app_len, sg_len]; omega, ?_⟩)
          have := chE.st
          have e1 : nextU (tw qs) (tw qs) s0 (sg c) = stC (tw qs) st (letsOf (w0 ++ sg c)) := this
          rw [← e1]
          exact en
        | true =>
          obtain ⟨a6, lag6, av6, bv6, rfl, ha6, hlag6, hav6, hbv6⟩ := id hst5
          have ha6 : SqT K H5 a6 [.str (tw qs s0.1 (sg c)).2, .str (tw qs s0.2.1 (sg c)).2, .ref lag6] := ha6
          refine iteF ⟨_, rfl, 2, rfl, a6, _, rfl, ha6, by show ¬ (HT.sIx 3 0 none = 0 ∧ HT.sIx 3 3 (some 2) = 3); decide, fun t2 ht2 => ?_⟩
          have v2 := same_upd (o := .tup (cutV [V.str (tw qs s0.1 (sg c)).2, V.str (tw qs s0.2.1 (sg c)).2, V.ref lag6] none (some 2))) ht2
          refine ⟨_, rfl, sd, _, rfl, DGet.t (k := kp (tw qs s0.1 (sg c)).2 (tw qs s0.2.1 (sg c)).2) (v2 _ _ d5) upd_same, ?_⟩
          have q6 := v2 _ _ q5'
          have d6 := v2 _ _ d5
          have pe6 := Paired.mapP pe5 fun _ _ z => LnAt.mono (TK.same (K := K) v2) z
          have cv6 := cv5.mono (TK.same (K := K) v2)
          have s26 := s25.trans v2
          have hst6 := hst5.mono (TK.same (K := K) v2)
          have ha66 := TK.same (K := K) v2 _ _ ha6
          clear v2 ht2
          generalize (upd H5 t2 (.tup (cutV [V.str (tw qs s0.1 (sg c)).2, V.str (tw qs s0.2.1 (sg c)).2, V.ref lag6] none (some 2)))) = H6 at q6 d6 pe6 cv6 s26 hst6 ha66
          by_cases hm : nextU (tw qs) (tw qs) s0 (sg c) ∈ q5.map (·.1)
          · obtain ⟨e2, he2, k2⟩ := List.mem_map.mp hm
            have kv : valV (kvU q5) (kp (tw qs s0.1 (sg c)).2 (tw qs s0.2.1 (sg c)).2) = some (.bl true) := kvU_some he2 (congrArg (·.1) k2) (congrArg (·.2.1) k2)
            rw [kv]
            have stp : stepG (tw qs) (tw qs) (s0, w0) q5 (sg c) = q5 := by
              unfold stepG
              rw [if_pos hm]
            rw [stp]
            exact ⟨_, rfl, iteF ⟨_, _, es2, rfl, s26, cv6, q6, pe6, d6, gd2⟩⟩
          · have stp : stepG (tw qs) (tw qs) (s0, w0) q5 (sg c) = q5 ++ [childU (tw qs) (tw qs) (s0, w0) (sg c)] := by
              unfold stepG
              rw [if_neg hm]
            have kn : valV (kvU q5) (kp (tw qs s0.1 (sg c)).2 (tw qs s0.2.1 (sg c)).2) = none := kvU_none fun e2 he2 kk => hm (by
              obtain ⟨j, hj⟩ := List.getElem?_of_mem he2
              have ge := (gk.each j e2 hj).1
              have := entC_key chE ge en (gd2 e2 he2) kk.1.symm kk.2.symm
              exact List.mem_map.mpr ⟨e2, he2, this.symm⟩)
            rw [kn, stp]
            refine ⟨_, rfl, iteT ⟨_, rfl, _, rfl, 2, rfl, a6, _, rfl, ha66, by show ¬ (HT.sIx 3 0 none = 0 ∧ HT.sIx 3 3 (some 2) = 3); decide, fun t3 ht3 => ?_⟩⟩
            have v3 := same_upd (o := .tup (cutV [V.str (tw qs s0.1 (sg c)).2, V.str (tw qs s0.2.1 (sg c)).2, V.ref lag6] none (some 2))) ht3
            have kl : (kvU q5).length = q5.length := List.length_map _
            refine ⟨sd, _, rfl, DPut.t (k := kp (tw qs s0.1 (sg c)).2 (tw qs s0.2.1 (sg c)).2) (v3 _ _ d6) upd_same (szl (by omega)), ?_⟩
            have q7 := v3 _ _ q6
            have d7 := v3 _ _ d6
            have pe7 := Paired.mapP pe6 fun _ _ z => LnAt.mono (TK.same (K := K) v3) z
            have cv7 := cv6.mono (TK.same (K := K) v3)
            have s27 := s26.trans v3
            have hst7 := hst6.mono (TK.same (K := K) v3)
            clear v3 ht3
            generalize (upd H6 t3 (.tup (cutV [V.str (tw qs s0.1 (sg c)).2, V.str (tw qs s0.2.1 (sg c)).2, V.ref lag6] none (some 2)))) = H7 at q7 d7 pe7 cv7 s27 hst7
            rw [putK_new _ kn]
            have kA : TK K H7 (upd H7 sd (.dT (kvU q5 ++ [(kp (tw qs s0.1 (sg c)).2 (tw qs s0.2.1 (sg c)).2, .bl true)]))) := TK.upd d7 True.intro
            have sA : Same H (upd H7 sd (.dT (kvU q5 ++ [(kp (tw qs s0.1 (sg c)).2 (tw qs s0.2.1 (sg c)).2, .bl true)]))) := fun b o e => by
              rw [upd_ne (ne_of_none e hsd0)]
              exact s27 b o e
            have qA : (upd H7 sd (.dT (kvU q5 ++ [(kp (tw qs s0.1 (sg c)).2 (tw qs s0.2.1 (sg c)).2, .bl true)]))) qd = some (.lst es2) := by rw [upd_ne nqs]; exact q7
            have dA : (upd H7 sd (.dT (kvU q5 ++ [(kp (tw qs s0.1 (sg c)).2 (tw qs s0.2.1 (sg c)).2, .bl true)]))) sd = some (.dT (kvU (q5 ++ [childU (tw qs) (tw qs) (s0, w0) (sg c)]))) := by
              rw [upd_same]
              unfold kvU
              rw [List.map_append]
              rfl
            have peA := Paired.mapP pe7 fun _ _ z => LnAt.mono kA z
            have hstA := hst7.mono kA
            have cvA := cv7.mono kA
            generalize (upd H7 sd (.dT (kvU q5 ++ [(kp (tw qs s0.1 (sg c)).2 (tw qs s0.2.1 (sg c)).2, .bl true)]))) = HA at sA qA dA peA hstA cvA
            refine ⟨_, rfl, .inl ⟨rfl, _, SqL.of qA⟩, _, rfl, _, rfl, _, rfl, w0, sg c, rfl, rfl, sz (by rw [sg_len]; omega), sz (by show 2 ≤ 100000; decide), fun t4 ht4 => ?_⟩
            have v4 := same_upd (o := .tup [V.ref a6, V.str (w0 ++ sg c)]) ht4
            have e4' : SqT K (upd HA t4 (.tup [V.ref a6, V.str (w0 ++ sg c)])) t4 [V.ref a6, V.str (w0 ++ sg c)] := SqT.of upd_same
            have qB := v4 _ _ qA
            refine ⟨qd, _, _, rfl, rfl, qB, szl (by omega), ?_⟩
            have tkF : TK K (upd HA t4 (.tup [V.ref a6, V.str (w0 ++ sg c)])) (upd (upd HA t4 (.tup [V.ref a6, V.str (w0 ++ sg c)])) qd (.lst (es2 ++ [V.ref t4]))) := TK.upd qB True.intro
            have tkAF := (TK.same (K := K) v4).trans tkF
            refine ⟨_, _, es2 ++ [.ref t4], rfl, fun b o e => ?_, cvA.mono tkAF, upd_same, ?_, ?_, fun e he => ?_⟩
            · rw [upd_ne (ne_of_none e hqd0)]
              exact (sA.trans v4) b o e
            · exact Paired.app (Paired.mapP peA fun _ _ z => LnAt.mono tkAF z) (.cons ⟨t4, .ref a6, rfl, tkF _ _ e4', hstA.mono tkAF⟩ .nil)
            · rw [upd_ne nqs.symm]
              exact v4 _ _ dA
            · rcases List.mem_append.mp he with mm | mm
              · exact gd2 e mm
              · rw [List.mem_singleton.mp mm]
                exact en
      · rintro σ2 H2 ⟨y9, y10, es2, rfl, s2, cv2, q2, pe2, d2, gd2⟩
        have e : (letsOf X).take X.cps.size = letsOf X := List.take_of_length_le (by rw [lets_len]; exact Nat.le_refl _)
        rw [e] at pe2 d2 gd2
        exact ⟨_, _, _, _, _, es2, rfl, s2, q2, pe2, d2, done _ rfl gd2⟩
    · rw [decide_eq_false (show ¬ ((n : Nat) : Int) < ((es.length : Nat) : Int) by omega)]
      refine iteF ?_
      have nl := pr.le
      obtain ⟨hz, clo⟩ := pr.su Rq.length (by omega)
      exact q H1 .non s1 (.inl ⟨rfl, clo_all hz clo⟩)
end
end K24

namespace K24
open PySem PySem.Spec PyProof.Rows L2
def spParting (K : PySem.W.Frag) (CC CB : Addr) : Sp := fun vs H Q _ => ∃ (p kd : Addr) (L s y : Str) (qs : List Rule), vs = [.ref p, .str s, .str y] ∧ CutAt K CC CB H p kd L qs ∧ ProgOk L qs ∧ ShortQ L qs ∧ ReB L qs s ∧ IsLet L s ∧ IsLet L y ∧
  ∀ H' v, Sb [kd] H H' → CutAt K CC CB H' p kd L qs → SoughtV L (tw qs) s y v → Q v H'
def UncutV (K : PySem.W.Frag) (H : Hp) (L : Str) (qs : List Rule) (x y : Str) (v : V) : Prop := (v = .non ∧ CutP L qs x y) ∨ ∃ t u w b, v = .ref t ∧ SqT K H t [.str u, .str w] ∧ IsLet L b ∧ ReB L qs b ∧ WordOk L u ∧ (∃ l, letsOf u = l ++ [x]) ∧ u.length ≤ 20 ∧ (runW (tw qs) S0 (letsOf u)).2 = b ∧ BadW L (tw qs) b y w
theorem UncutV.mono {K : PySem.W.Frag} {H H' : Hp} {L : Str} {qs : List Rule} {x y : Str} {v : V} (k : TK K H H') (h : UncutV K H L qs x y v) : UncutV K H' L qs x y v := by
  rcases h with h | ⟨t, u, w, b, h1, h2, h3⟩
  · exact .inl h
  · exact .inr ⟨t, u, w, b, h1, k _ _ h2, h3⟩
theorem uncut_not {K : PySem.W.Frag} {H : Hp} {L : Str} {qs : List Rule} {x y : Str} {v : V} (ok : ProgOk L qs) (sh : ShortQ L qs) (h : UncutV K H L qs x y v) (n : ¬ v = .non) : ¬ CutP L qs x y := by
  rcases h with ⟨h, _⟩ | ⟨t, u, w, b, h1, h2, h3, h4, h5, ⟨l, h6⟩, _, h7, h8⟩
  · exact absurd h n
  · intro c
    have tk := tw_ok ok sh
    have wl := word_lets h5
    rw [h6] at wl h7
    have re := run_re tk l (fun z hz => wl z (List.mem_append_left _ hz)) S0 tk.z
    have := c _ re
    rw [runW_snoc] at h7
    have h7 : (tw qs (runW (tw qs) S0 l).2 x).2 = b := h7
    rw [h7] at this
    exact bad_not h8 this
def spUncut (K : PySem.W.Frag) (CC CB : Addr) : Sp := fun vs H Q _ => ∃ (p kd : Addr) (L x y : Str) (qs : List Rule), vs = [.ref p, .str x, .str y] ∧ CutAt K CC CB H p kd L qs ∧ ProgOk L qs ∧ ShortQ L qs ∧ IsLet L x ∧ IsLet L y ∧
  ∀ H' v, Sb [kd] H H' → CutAt K CC CB H' p kd L qs → UncutV K H' L qs x y v → Q v H'
def spNeedLetter (K : PySem.W.Frag) : Sp := fun vs H Q _ => ∃ (v : V) (L x : Str) (qs : List Rule), vs = [v, .str x] ∧ ProgAt K H v L qs ∧ ProgOk L qs ∧ IsLet L x ∧ Q .non H
def spUncutWords (K : PySem.W.Frag) : Sp := fun vs H Q _ => ∃ (v : V) (L x y : Str) (qs : List Rule), vs = [v, .str x, .str y] ∧ ProgAt K H v L qs ∧ ProgOk L qs ∧ ShortQ L qs ∧ IsLet L x ∧ IsLet L y ∧ ∀ H' u, Same H H' → UncutV K H' L qs x y u → Q u H'
section
variable {P : Program} {w : World} {K : PySem.W.Frag} {mg : Str → Option Value} {base : Heap}
theorem scParting : FnScope ["self", "standing", "letter"] ["self", "standing", "letter"] (defScope sParting) := ⟨rfl, rfl, rfl, by decide +kernel, rfl, by decide +kernel, by decide +kernel⟩
theorem ok_parting {f g CC CB : Addr} {fd gd : FuncData} (F : Fun K "parting_word" "Cutter.parting_word" sParting f fd) (TC : ClsC K CC)
    (S : FnOk P w K mg base CX0 4 g gd ["self", "standing", "letter"] (spSought K CC CB)) (mS : Meth K CC "sought_word" g) (bS : Binds K gd ["self", "standing", "letter"] []) :
    FnOk P w K mg base CX0 5 f fd ["self", "standing", "letter"] (spParting K CC CB) := by
  refine F.ok scParting (fun vs H Q E h => ?_) (fun cdv A outer s H vs Q E hr h => ?_)
  · obtain ⟨_, _, _, _, _, _, rfl, _⟩ := h
    rfl
  · obtain ⟨p, kd, L, st, y, qs, rfl, hC, ok, sh, hre, hls0, hy, q⟩ := h
    have nd := scParting.nd
    have hu := hu_of hr
    refine ⟨_, pss_cons (ps_if (pt_cmp (pc_dnotin hu (pe_tup (pa_cons (pv 1) (pa_cons (pv 2) pa_nil))) (pe_fld (pv 0) rfl)))
        (pss_one (ps_dput hu (pe_fld (pv 0) rfl) (pe_tup (pa_cons (pv 1) (pa_cons (pv 2) pa_nil))) (pe_meth (pv 0) TC.cl mS S hr bS .nil pass0 (pa_cons (pv 1) (pa_cons (pv 2) pa_nil))) rfl)) pss_nil)
      (pss_one (ps_ret (pe_dget hu (pe_fld (pv 0) rfl) (pe_tup (pa_cons (pv 1) (pa_cons (pv 2) pa_nil))) (fun _ _ => rfl)))), ?_⟩
    obtain ⟨dx, m, b, wd, dxb, od, ws, hp, hM, hb, hw, wok, nmk, ⟨kvs, hk, dom, kok⟩⟩ := hC.ex
    have sS : IsSide L st := .inr hls0
    have sY : IsSide L y := .inr hy
    have look : ∀ {H1 : Hp} {v : V} {kvs1 : List (List L2.Key × V)} (σ : L2.St) (Q1 : VK), σ[0]? = some (some (.ref p)) → σ[1]? = some (some (.str st)) → σ[2]? = some (some (.str y)) → (∃ fs, H1 p = some (.ins CC dx fs) ∧ fs.lookup ("known" : Str) = some (.ref kd)) → H1 kd = some (.dT kvs1) → valV kvs1 (kp st y) = some v →
        (∀ H2, Same H1 H2 → Q1 v H2) → tDGet (tFld K (tVar 0) "known") (tTup (tCons (tVar 1) (tCons (tVar 2) tNil))) σ H1 Q1 := fun {H1 v kvs1} σ Q1 h0 h1 h2 hp1 hk1 hv go => by
      obtain ⟨fs, hp1, hf⟩ := hp1
      refine ⟨_, h0, p, CC, dx, fs, _, rfl, hp1, TC.cl, TC.fK, hf, _, h1, _, h2, sz (by show 2 ≤ 100000; decide), fun t ht => ?_⟩
      have v1 := same_upd (o := .tup [V.str st, V.str y]) ht
      have := DGet.t (k := kp st y) (v1 _ _ hk1) (b := t) upd_same
      rw [hv] at this
      exact ⟨kd, v, rfl, this, go _ v1⟩
    refine ⟨_, rfl, _, rfl, sz (by show 2 ≤ 100000; decide), fun t1 ht1 => ?_⟩
    have v1 := same_upd (o := .tup [V.str st, V.str y]) ht1
    refine ⟨_, rfl, p, CC, dx, _, _, rfl, v1 _ _ hp, TC.cl, TC.fK, fc_known m b wd kd, kd, _, rfl, DGet.t (k := kp st y) (v1 _ _ hk) upd_same, ?_⟩
    have hC1 := hC.same v1
    cases e : valV kvs (kp st y) with
    | some u =>
      refine ⟨_, rfl, iteF ?_⟩
      refine look _ _ rfl rfl rfl ⟨_, v1 _ _ hp, fc_known m b wd kd⟩ (v1 _ _ hk) e fun H2 s2 => ?_
      exact q H2 u (Sb.of (v1.trans s2)) (hC1.same s2) (kok _ _ _ e)
    | none =>
      refine ⟨_, rfl, iteT ?_⟩
      refine ⟨_, rfl, p, dx, _, rfl, v1 _ _ hp, fc_no m b wd kd (by decide +kernel) (by decide +kernel) (by decide +kernel) (by decide +kernel), _, rfl, _, rfl, p, kd, L, st, y, qs, rfl, hC1, ok, sh, hre, hls0, hy, fun H3 v3 s3 sv => ?_⟩
      have s13 := v1.trans s3
      have hp3 := s13 _ _ hp
      have hk3 := s13 _ _ hk
      refine ⟨_, rfl, p, CC, dx, _, _, rfl, hp3, TC.cl, TC.fK, fc_known m b wd kd, _, rfl, _, rfl, sz (by show 2 ≤ 100000; decide), fun t4 ht4 => ?_⟩
      have v4 := same_upd (o := .tup [V.str st, V.str y]) ht4
      have l81 := dom.len ok.lets
      refine ⟨kd, _, rfl, DPut.t (k := kp st y) (v4 _ _ hk3) upd_same (szl (by omega)), ?_⟩
      have hC4 := (hC1.same s3).same v4
      have kok' : ∀ a b v, valV (putK kvs (kp st y) v3) (kp a b) = some v → SoughtV L (tw qs) a b v := fun a b' v hv => by
        rw [valV_put] at hv
        by_cases z : kp a b' = kp st y
        · rw [if_pos z] at hv
          obtain ⟨z1, z2⟩ := kp_inj z
          subst z1
          subst z2
          cases hv
          exact sv
        · rw [if_neg z] at hv
          exact kok _ _ _ hv
      have hC5 := hC4.put (dom.put v3 sS sY) kok'
      have hp5 : (upd (upd H3 t4 (.tup [V.str st, V.str y])) kd (.dT (putK kvs (kp st y) v3))) p = some (.ins CC dx (flC m b wd kd)) := by
        rw [upd_ne (ne_of hp hk (fun z => nomatch z))]
        exact v4 _ _ hp3
      have gv : valV (putK kvs (kp st y) v3) (kp st y) = some v3 := by
        rw [valV_put, if_pos rfl]
      have sb5 : Sb [kd] H (upd (upd H3 t4 (.tup [V.str st, V.str y])) kd (.dT (putK kvs (kp st y) v3))) := (Sb.of (s13.trans v4)).trans (Sb.upd (by simp))
      refine look _ _ rfl rfl rfl ⟨_, hp5, fc_known m b wd kd⟩ upd_same gv fun H6 s6 => ?_
      exact q H6 v3 (sb5.trans (Sb.of s6)) (hC5.same s6) sv
theorem scUncut : FnScope ["self", "first", "second", "best", "ending", "standing", "word", "length"] ["self", "first", "second"] (defScope sUncut) := ⟨rfl, rfl, rfl, by decide +kernel, rfl, by decide +kernel, by decide +kernel⟩
theorem ok_uncut {f g h CC CB : Addr} {fd gd hd : FuncData} (F : Fun K "uncut" "Cutter.uncut" sUncut f fd) (T : Txt K mg) (TC : ClsC K CC)
    (G : FnOk P w K mg base CX0 1 g gd ["self", "letter"] (spEnding K CC CB)) (mG : Meth K CC "words_ending" g) (bG : Binds K gd ["self", "letter"] [])
    (Pw : FnOk P w K mg base CX0 5 h hd ["self", "standing", "letter"] (spParting K CC CB)) (mP : Meth K CC "parting_word" h) (bP : Binds K hd ["self", "standing", "letter"] []) :
    FnOk P w K mg base CX0 6 f fd ["self", "first", "second"] (spUncut K CC CB) := by
  refine F.ok scUncut (fun vs H Q E h => ?_) (fun cdv A outer s H vs Q E' hr h => ?_)
  · obtain ⟨_, _, _, _, _, _, rfl, _⟩ := h
    rfl
  · obtain ⟨p, kd, L, x, y, qs, rfl, hC, ok, sh, hx, hy, q⟩ := h
    have nd := scUncut.nd
    have hu := hu_of hr
    have hr1 : Room 1 _ := hr.mono (by decide)
    refine ⟨_, pss_cons (ps_set (i := 3) nd rfl (.inl rfl) pe_non)
      (pss_cons (ps_set (i := 4) nd rfl (.inl rfl) (pe_meth (pv 0) TC.cl mG G hr1 bG .nil pass0 (pa_cons (pv 1) pa_nil)))
      (pss_cons (ps_for PassesOwn.never rfl (pi_keysK (pv 4)) (pg_name (i := 5) nd rfl (.inl rfl))
        (pss_cons (ps_set (i := 6) nd rfl (.inl rfl) (pe_meth (pv 0) TC.cl mP Pw hr bP .nil pass0 (pa_cons (pv 5) (pa_cons (pv 2) pa_nil))))
        (pss_one (ps_if (pt_cmpR op_notN (pv 6) pe_non (nomark _))
          (pss_cons (ps_set (i := 7) nd rfl (.inl rfl) (pe_callB call_len_str (by rfl) T.len PySem.boot_len (pa_cons (pe_op op_add_str (pe_dget hu (pv 4) (pv 5) (fun _ _ => rfl)) (pv 6)) pa_nil)))
          (pss_one (ps_if (PW.pt (pw_or (pt_cmpR op_isN (pv 3) pe_non (nomark _)) (pw_or1 (pt_cmpR op_lt (pv 7) (pe_callB call_len_str (by rfl) T.len PySem.boot_len (pa_cons (pe_op op_add_str (pe_ix ix_tup (pv 3) pe_int (fun _ _ => rfl)) (pe_ix ix_tup (pv 3) pe_int (fun _ _ => rfl))) pa_nil)) (nomark _)))))
            (pss_one (ps_set (i := 3) nd rfl (.inl rfl) (pe_tup (pa_cons (pe_dget hu (pv 4) (pv 5) (fun _ _ => rfl)) (pa_cons (pv 6) pa_nil))))) pss_nil))) pss_nil))))
      (pss_one (ps_ret (pv 3))))), ?_⟩
    obtain ⟨dx, m, b, wd, dxb, od, ws, hp, hM, hb, hw, wok, nmk, ⟨kvs, hk, dom, kok⟩⟩ := hC.ex
    have fno : ∀ {z : Str}, ¬ z = "known" → ¬ z = "words" → ¬ z = "both" → ¬ z = "met" → (flC m b wd kd).lookup z = none := fun h1 h2 h3 h4 => fc_no m b wd kd h1 h2 h3 h4
    have npk : p ≠ kd := ne_of hp hk (fun z => nomatch z)
    refine ⟨_, rfl, p, dx, _, rfl, hp, fno (by decide +kernel) (by decide +kernel) (by decide +kernel) (by decide +kernel), _, rfl, p, kd, L, x, qs, rfl, hC, ok, sh, hx, fun H1 fa E s1 hf0 hfa ends => ?_⟩
    have El := EndsOk.len (L := L) (qs := qs) (x := x) ok ends.nd fun b u h => (ends.each b u h).1
    have nfk : fa ≠ kd := (ne_of_none hk hf0).symm
    refine ⟨_, rfl, fa, _, rfl, hfa, fun of => ?_⟩
    have kF : TK K H1 (upd H1 fa (.frz of (.dK (kvB E)))) := TK.upd hfa True.intro
    have sF : Same H (upd H1 fa (.frz of (.dK (kvB E)))) := fun c o e => by
      rw [upd_ne (ne_of_none e hf0)]
      exact s1 c o e
    have hfF : (upd H1 fa (.frz of (.dK (kvB E)))) fa = some (.frz of (.dK (kvB E))) := upd_same
    have hCF := hC.same sF
    generalize (upd H1 fa (.frz of (.dK (kvB E)))) = H2 at sF hfF hCF
    clear hC kF hfa s1
    refine ⟨fa, of, rfl, .inl ⟨kvB E, hfF, for_keys (dk := fa) (od := of) (kvs := kvB E) (fun k σ H' => ∃ (bv : V) (x5 x6 x7 : Option V), σ = [some (.ref p), some (.str x), some (.str y), some bv, some (.ref fa), x5, x6, x7] ∧ Sb [kd] H H' ∧ CutAt K CC CB H' p kd L qs ∧
        H' fa = some (.frz of (.dK (kvB E))) ∧ ((bv = .non ∧ ∀ z ∈ (E.take k).map (·.1), CutAll L (tw qs) z y) ∨ (¬ bv = .non ∧ UncutV K H' L qs x y bv)))
      ⟨.non, none, none, none, rfl, Sb.of sF, hCF, hfF, .inl ⟨rfl, fun z hz => by simp at hz⟩⟩ (fun i σ H' ⟨_, _, _, _, _, _, _, z, _⟩ => z) ?_ ?_⟩⟩
    · rintro k ky vy σ H3 hky ⟨bv, x5, x6, x7, rfl, sb3, hC3, hf3, inv⟩
      obtain ⟨z5, u5, hsw⟩ : ∃ z5 u5, E[k]? = some (z5, u5) := by
        have lt := (List.getElem?_eq_some_iff.mp hky).1
        unfold kvB at lt
        rw [List.length_map] at lt
        exact ⟨_, _, List.getElem?_eq_getElem lt⟩
      have eky : ky = .inr z5 := by
        unfold kvB at hky
        rw [List.getElem?_map, hsw] at hky
        have := Option.some.inj hky
        exact (Prod.ext_iff.mp this).1.symm
      subst eky
      obtain ⟨e1, e2, e3, e4, e5, e6⟩ := ends.each z5 u5 (List.mem_of_getElem? hsw)
      have hp3 : ∃ fs, H3 p = some (.ins CC dx fs) ∧ fs.lookup ("parting_word" : Str) = none := ⟨_, sb3 _ _ hp (by simpa using npk), fno (by decide +kernel) (by decide +kernel) (by decide +kernel) (by decide +kernel)⟩
      obtain ⟨fs3, hp3, hfs3⟩ := hp3
      refine ⟨_, rfl, p, dx, _, rfl, hp3, hfs3, _, rfl, _, rfl, p, kd, L, z5, y, qs, rfl, hC3, ok, sh, e2, e1, hy, fun H4 v4 sb4 hC4 sv => ?_⟩
      have k4 := hC3.tk sb4
      have hf4 := sb4 _ _ hf3 (by simpa using nfk)
      have sb34 := sb3.trans sb4
      have inv4 : (bv = .non ∧ ∀ z ∈ (E.take k).map (·.1), CutAll L (tw qs) z y) ∨ (¬ bv = .non ∧ UncutV K H4 L qs x y bv) := by
        rcases inv with h | ⟨h1, h2⟩
        · exact .inl h
        · exact .inr ⟨h1, h2.mono k4⟩
      refine ⟨_, rfl, rfl, _, rfl, ?_⟩
      rcases sv with ⟨rfl, ca⟩ | ⟨w4, rfl, bad⟩
      · refine iteF ⟨bv, _, _, _, rfl, sb34, hC4, hf4, ?_⟩
        rcases inv4 with ⟨h1, h2⟩ | h
        · refine .inl ⟨h1, fun z hz => ?_⟩
          rw [take_snoc hsw, List.map_append] at hz
          rcases List.mem_append.mp hz with mm | mm
          · exact h2 z mm
          · rw [List.mem_singleton.mp mm]
            exact ca
        · exact .inr h
      · rw [decide_eq_false (show ¬ V.str w4 = V.non from fun z => nomatch z)]
        obtain ⟨b1, b2', b3, b4⟩ := id bad
        have gd : DGet H4 fa (.str z5) (some (.str u5)) := by
          rw [← kvB_at ends.nd hsw]
          exact .inl ⟨kvB E, .inr z5, .inr ⟨of, hf4⟩, rfl, rfl⟩
        have al : (u5 ++ w4).length = u5.length + w4.length := app_len _ _
        have new : ∀ t, H4 t = none → UncutV K (upd H4 t (.tup [V.str u5, V.str w4])) L qs x y (.ref t) := fun t ht => .inr ⟨t, u5, w4, z5, rfl, SqT.of upd_same, e1, e2, e3, e4, e5, e6, bad⟩
        refine iteT ⟨_, rfl, _, rfl, fa, .str u5, rfl, gd, _, rfl, u5, w4, rfl, rfl, sz (by omega), u5 ++ w4, rfl, sz (by omega), ?_⟩
        refine ⟨_, rfl, rfl, _, rfl, ?_⟩
        have set : ∀ t, H4 t = none → Sb [kd] H (upd H4 t (.tup [V.str u5, V.str w4])) ∧ CutAt K CC CB (upd H4 t (.tup [V.str u5, V.str w4])) p kd L qs ∧ (upd H4 t (.tup [V.str u5, V.str w4])) fa = some (.frz of (.dK (kvB E))) := fun t ht => by
          have v := same_upd (o := .tup [V.str u5, V.str w4]) ht
          exact ⟨sb34.trans (Sb.of v), hC4.same v, v _ _ hf4⟩
        rcases inv4 with ⟨rfl, _⟩ | ⟨h1, h2⟩
        · refine iteT (iteT ⟨_, rfl, _, rfl, fa, .str u5, rfl, gd, _, rfl, sz (by show 2 ≤ 100000; decide), fun t ht => ?_⟩)
          obtain ⟨f1, f2, f3⟩ := set t ht
          exact ⟨.ref t, _, _, _, rfl, f1, f2, f3, .inr ⟨(fun z => nomatch z), new t ht⟩⟩
        · rcases h2 with ⟨h2, _⟩ | ⟨t0, u0, w0, b0, rfl, h3, h4, h5, h6, h7, h8, h9, h10⟩
          · exact absurd h2 h1
          · obtain ⟨_, _, w100, _⟩ := id h10
            have al0 : (u0 ++ w0).length = u0.length + w0.length := app_len _ _
            refine iteF ⟨_, rfl, _, rfl, t0, _, 0, .str u0, rfl, rfl, h3, rfl, _, rfl, t0, _, 1, .str w0, rfl, rfl, h3, rfl, u0, w0, rfl, rfl, sz (by omega), u0 ++ w0, rfl, sz (by omega), _, _, rfl, rfl, _, rfl, ?_⟩
            by_cases lt : ((u5 ++ w4).length : Int) < ((u0 ++ w0).length : Int)
            · rw [decide_eq_true lt]
              refine iteT ⟨_, rfl, _, rfl, fa, .str u5, rfl, gd, _, rfl, sz (by show 2 ≤ 100000; decide), fun t ht => ?_⟩
              obtain ⟨f1, f2, f3⟩ := set t ht
              exact ⟨.ref t, _, _, _, rfl, f1, f2, f3, .inr ⟨(fun z => nomatch z), new t ht⟩⟩
            · rw [decide_eq_false lt]
              exact iteF ⟨.ref t0, _, _, _, rfl, sb34, hC4, hf4, .inr ⟨fun z => (nomatch z), .inr ⟨t0, u0, w0, b0, rfl, h3, h4, h5, h6, h7, h8, h9, h10⟩⟩⟩
    · rintro σ H3 ⟨bv, x5, x6, x7, rfl, sb3, hC3, hf3, inv⟩
      refine ⟨_, rfl, q H3 bv sb3 hC3 ?_⟩
      rcases inv with ⟨h1, h2⟩ | ⟨_, h2⟩
      · refine .inl ⟨h1, fun s hs => h2 _ ?_⟩
        have e : E.take (kvB E).length = E := List.take_of_length_le (by unfold kvB; rw [List.length_map]; exact Nat.le_refl _)
        rw [e]
        exact ends.all s hs
      · exact h2
theorem scNeedLetter : FnScope ["calm", "value"] ["calm", "value"] (defScope sNeedLetter) := ⟨rfl, rfl, rfl, by decide +kernel, rfl, by decide +kernel, by decide +kernel⟩
theorem ok_needLetter {f g : Addr} {fd gd : FuncData} (F : Fun K "need_letter" "need_letter" sNeedLetter f fd)
    (G : FnOk P w K mg base CX0 1 g gd ["value", "letters"] spLetterOf) (kG : PySem.W.keepIn K (.ref g) = true) (mG : mg "is_letter_of" = some (.ref g)) (bG : Binds K gd ["value", "letters"] []) :
    FnOk P w K mg base CX0 2 f fd ["calm", "value"] (spNeedLetter K) := by
  refine F.ok scNeedLetter (fun vs H Q E h => ?_) (fun cdv A outer s H vs Q E hr h => ?_)
  · obtain ⟨_, _, _, _, rfl, _⟩ := h
    rfl
  · obtain ⟨v, L, x, qs, rfl, hP, ok, hx, q⟩ := h
    refine ⟨_, pss_one (ps_if (pt_not (pt_val (pe_call G hr rfl mG kG bG .nil pass0 (pa_cons (pv 1) (pa_cons (pe_ix ix_tup (pv 0) pe_int (fun _ _ => rfl)) pa_nil))))) (pss_one ps_never) pss_nil), ?_⟩
    obtain ⟨pa, pb, rfl, hpa, hpb⟩ := id hP
    exact ⟨_, rfl, _, rfl, pa, _, 0, .str L, rfl, rfl, hpa, rfl, x, L, rfl, hx, ok.lets.few, _, rfl, iteF q⟩
theorem scUncutWords : FnScope ["calm", "first", "second", "met"] ["calm", "first", "second"] (defScope sUncutWords) := ⟨rfl, rfl, rfl, by decide +kernel, rfl, by decide +kernel, by decide +kernel⟩
theorem ok_uncutWords {f n l i u CC CB : Addr} {fd nd' ld id' ud : FuncData} (F : Fun K "uncut_words" "uncut_words" sUncutWords f fd) (TC : ClsC K CC) (M : Mk K CC i) (mC : mg "Cutter" = some (.ref CC))
    (N : FnOk P w K mg base CX0 80 n nd' ["value"] (spNeedS K)) (kN : PySem.W.keepIn K (.ref n) = true) (mN : mg "need_short" = some (.ref n)) (bN : Binds K nd' ["value"] [])
    (Lt : FnOk P w K mg base CX0 2 l ld ["calm", "value"] (spNeedLetter K)) (kL : PySem.W.keepIn K (.ref l) = true) (mL : mg "need_letter" = some (.ref l)) (bL : Binds K ld ["calm", "value"] [])
    (I : FnOk P w K mg base CX0 78 i id' ["self", "calm", "met"] (spCInit K CC CB)) (bI : Binds K id' ["self", "calm", "met"] [])
    (U : FnOk P w K mg base CX0 6 u ud ["self", "first", "second"] (spUncut K CC CB)) (mU : Meth K CC "uncut" u) (bU : Binds K ud ["self", "first", "second"] []) :
    FnOk P w K mg base CX0 81 f fd ["calm", "first", "second"] (spUncutWords K) := by
  refine F.ok scUncutWords (fun vs H Q E h => ?_) (fun cdv A outer s H vs Q E hr h => ?_)
  · obtain ⟨_, _, _, _, _, rfl, _⟩ := h
    rfl
  · obtain ⟨v, L, x, y, qs, rfl, hP, ok, sh, hx, hy, q⟩ := h
    have nd := scUncutWords.nd
    have hr2 : Room 2 _ := hr.mono (by decide)
    have hr6 : Room 6 _ := hr.mono (by decide)
    have hr79 : Room 79 _ := hr.mono (by decide)
    refine ⟨_, pss_cons (ps_set (i := 3) nd rfl (.inl rfl) (pe_call N hr rfl mN kN bN .nil pass0 (pa_cons (pv 0) pa_nil)))
      (pss_cons (ps_expr (pe_call Lt hr2 rfl mL kL bL .nil pass0 (pa_cons (pv 0) (pa_cons (pv 1) pa_nil))))
      (pss_cons (ps_expr (pe_call Lt hr2 rfl mL kL bL .nil pass0 (pa_cons (pv 0) (pa_cons (pv 2) pa_nil))))
      (pss_one (ps_ret (pe_meth (pe_make M I hr79 rfl mC bI .nil pass0 (pa_cons (pv 0) (pa_cons (pv 3) pa_nil))) TC.cl mU U hr6 bU .nil pass0 (pa_cons (pv 1) (pa_cons (pv 2) pa_nil))))))), ?_⟩
    refine ⟨_, rfl, v, L, qs, rfl, hP, ok, sh, fun H1 m1 i1 kvs1 s1 _ st1 hm1 hk1 => ?_⟩
    have hP1 := hP.mono (TK.same (K := K) s1)
    refine ⟨_, rfl, _, rfl, v, L, x, qs, rfl, hP1, ok, hx, ?_⟩
    refine ⟨_, rfl, _, rfl, v, L, y, qs, rfl, hP1, ok, hy, ?_⟩
    refine ⟨_, rfl, _, rfl, fun p dx np ndx nex => ?_⟩
    have s0 : Same H1 (upd (upd H1 dx (.own p)) p (.ins CC dx [])) := fun b o e => by
      rw [upd_ne (ne_of_none e np), upd_ne (ne_of_none e ndx)]
      exact e
    have me : MetAt K H1 L qs m1 := ⟨i1, kvs1, st1, hm1, hk1⟩
    refine ⟨p, dx, m1, v, L, qs, rfl, upd_same, hP1.mono (TK.same s0), ok, sh, me.same s0, fun H2 kd keep kd0 hC => ⟨rfl, ?_⟩⟩
    have s2 : Same H1 H2 := fun b o e => keep b o (s0 b o e) (ne_of_none e np)
    obtain ⟨dx2, m2, b2, wd2, dxb2, od2, ws2, hp2, _⟩ := hC.ex
    refine ⟨p, dx2, _, rfl, hp2, fc_no m2 b2 wd2 kd (by decide +kernel) (by decide +kernel) (by decide +kernel) (by decide +kernel), _, rfl, _, rfl, p, kd, L, x, y, qs, rfl, hC, ok, sh, hx, hy, fun H3 u3 sb3 _ uv => ?_⟩
    refine q H3 u3 (fun b o e => sb3 b o (s2 _ _ (s1 _ _ e)) fun mm => ?_) uv
    have e1 := s0 _ _ (s1 _ _ e)
    rw [List.mem_singleton.mp mm, kd0] at e1
    cases e1
end
end K24

namespace K24
open PySem PySem.Spec PyProof.Rows L2
def PrsAt (K : PySem.W.Frag) (H : Hp) (ps : List Addr) (S : List (Str × Str)) : Prop := Paired (fun (p : Addr) (s : Str × Str) => SqT K H p [.str s.1, .str s.2]) ps S
theorem PrsAt.mono {K : PySem.W.Frag} {H H' : Hp} {ps : List Addr} {S : List (Str × Str)} (k : TK K H H') (h : PrsAt K H ps S) : PrsAt K H' ps S := Paired.mapP h fun _ _ z => k _ _ z
def rowP (L x : Str) : List (Str × Str) := (letsOf L).map fun y => (x, y)
def allP (L : Str) : List (Str × Str) := (letsOf L).flatMap (rowP L)
noncomputable def cutL (L : Str) (qs : List Rule) : List (Str × Str) := (allP L).filter fun s => canB L qs s.1 s.2
theorem allP_let {L : Str} {s : Str × Str} (h : s ∈ allP L) : IsLet L s.1 ∧ IsLet L s.2 := by
  obtain ⟨x, hx, h2⟩ := List.mem_flatMap.mp h
  obtain ⟨y, hy, rfl⟩ := List.mem_map.mp h2
  exact ⟨lets_is x hx, lets_is y hy⟩
theorem allP_len (L : Str) (l8 : L.length ≤ 8) : (allP L).length ≤ 64 := by
  have h2 : ∀ xs : List Str, (xs.flatMap (rowP L)).length = xs.length * L.length := by
    intro xs
    induction xs with
    | nil => simp
    | cons x xs ih =>
      rw [List.flatMap_cons, List.length_append, ih, rowP, List.length_map, lets_len, List.length_cons, Nat.succ_mul]
      omega
  rw [allP, h2, lets_len]
  have := Nat.mul_le_mul l8 l8
  omega
def spCutPairs (K : PySem.W.Frag) : Sp := fun vs H Q _ => ∃ (v : V) (L : Str) (qs : List Rule), vs = [v] ∧ ProgAt K H v L qs ∧ ProgOk L qs ∧ ShortQ L qs ∧ ∀ H' l ps, Same H H' → H' l = some (.lst (ps.map V.ref)) → PrsAt K H' ps (cutL L qs) → Q (.ref l) H'
section
variable {P : Program} {w : World} {K : PySem.W.Frag} {mg : Str → Option Value} {base : Heap}
theorem scCutPairs : FnScope ["calm", "cutter", "pairs", "first", "second", "pair"] ["calm"] (defScope sCutPairs) := ⟨rfl, rfl, rfl, by decide +kernel, rfl, by decide +kernel, by decide +kernel⟩
theorem ok_cutPairs {f n i u CC CB : Addr} {fd nd' id' ud : FuncData} (F : Fun K "cut_pairs" "cut_pairs" sCutPairs f fd) (TC : ClsC K CC) (M : Mk K CC i) (mC : mg "Cutter" = some (.ref CC))
    (N : FnOk P w K mg base CX0 80 n nd' ["value"] (spNeedS K)) (kN : PySem.W.keepIn K (.ref n) = true) (mN : mg "need_short" = some (.ref n)) (bN : Binds K nd' ["value"] [])
    (I : FnOk P w K mg base CX0 78 i id' ["self", "calm", "met"] (spCInit K CC CB)) (bI : Binds K id' ["self", "calm", "met"] [])
    (U : FnOk P w K mg base CX0 6 u ud ["self", "first", "second"] (spUncut K CC CB)) (mU : Meth K CC "uncut" u) (bU : Binds K ud ["self", "first", "second"] []) :
    FnOk P w K mg base CX0 81 f fd ["calm"] (spCutPairs K) := by
  refine F.ok scCutPairs (fun vs H Q E h => ?_) (fun cdv A outer s H vs Q E hr h => ?_)
  · obtain ⟨_, _, _, rfl, _⟩ := h
    rfl
  · obtain ⟨v, L, qs, rfl, hP, ok, sh, q⟩ := h
    have nd := scCutPairs.nd
    have hr6 : Room 6 _ := hr.mono (by decide)
    have hr79 : Room 79 _ := hr.mono (by decide)
    refine ⟨_, pss_cons (ps_set (i := 1) nd rfl (.inr rfl) (pe_make M I hr79 rfl mC bI .nil pass0 (pa_cons (pv 0) (pa_cons (pe_call N hr rfl mN kN bN .nil pass0 (pa_cons (pv 0) pa_nil)) pa_nil))))
      (pss_cons (ps_setLc2 (i := 2) (own := [("first", 3), ("second", 4)]) (vs1 := [4]) (wi1 := iStr (tOp (rIxT K) (tVar 0) (tC (.int 0)))) (g := gName 3) (g1 := gName 4) (tt := tYes) (tt1 := tYes) rfl nd rfl rfl (sw_true rfl rfl rfl (by decide +kernel)) (pi_str (pe_ix ix_tup (pv 0) pe_int (fun _ _ => rfl)))
          (blkOk_by (own := [("first", 3), ("second", 4)]) (N := ["calm", "cutter", "pairs", "first", "second", "pair"]) (sc := defScope sCutPairs) (by decide +kernel)) (by decide)
          (fun _ _ _ _ _ => pg_name (i := 3) nd rfl (Or.inl rfl)) (fun _ _ _ _ _ => pts_nil)
          (fun _ _ _ _ _ => pi_str (pe_ix (show IxR _ (rIxT K) from ix_tup) (pv 0) pe_int (fun _ _ => rfl)))
          (fun _ _ _ _ _ => pg_name (i := 4) nd rfl (Or.inl rfl)) (fun _ _ _ _ _ => pts_nil)
          (fun _ _ _ _ _ => pe_tup (pa_cons (pv 3) (pa_cons (pv 4) pa_nil))))
      (pss_one (ps_ret
        (pe_lc (own := [("pair", 5)]) (g := gName 5) rfl nd (pi_list (pv 2))
          (blkOk_by (own := [("pair", 5)]) (N := ["calm", "cutter", "pairs", "first", "second", "pair"]) (sc := defScope sCutPairs) (by decide +kernel))
          (fun _ _ _ _ _ => pg_name (i := 5) nd rfl (Or.inl rfl))
          (fun _ _ _ _ _ => pts_one (pt_cmpR op_isN (pe_meth (pv 1) TC.cl mU U hr6 bU .nil pass0 (pa_cons (pe_ix (show IxR _ (rIxT K) from ix_tup) (pv 5) pe_int (fun _ _ => rfl)) (pa_cons (pe_ix (show IxR _ (rIxT K) from ix_tup) (pv 5) pe_int (fun _ _ => rfl)) pa_nil))) pe_non (nomark _)))
          (fun _ _ _ _ _ => pv 5))))), ?_⟩
    obtain ⟨pa, pb, rfl, hpa, hpb⟩ := id hP
    have l8 := let_len ok.lets
    -- the cutter
    refine ⟨_, rfl, _, rfl, .ref pa, L, qs, rfl, hP, ok, sh, fun H1 m1 i1 kvs1 s1 _ st1 hm1 hk1 => ?_⟩
    have hP1 := hP.mono (TK.same (K := K) s1)
    refine fun p dx np ndx nex => ?_
    have s0 : Same H1 (upd (upd H1 dx (.own p)) p (.ins CC dx [])) := fun b o e => by
      rw [upd_ne (ne_of_none e np), upd_ne (ne_of_none e ndx)]
      exact e
    have me : MetAt K H1 L qs m1 := ⟨i1, kvs1, st1, hm1, hk1⟩
    refine ⟨p, dx, m1, .ref pa, L, qs, rfl, upd_same, hP1.mono (TK.same s0), ok, sh, me.same s0, fun H2 kd keep kd0 hC => ⟨rfl, ?_⟩⟩
    have s2 : Same H1 H2 := fun b o e => keep b o (s0 b o e) (ne_of_none e np)
    have s12 := s1.trans s2
    have kdH : H kd = none := (s1.trans s0).free kd0
    have hpa2 := TK.same (K := K) s12 _ _ hpa
    clear s0 me keep kd0 np ndx
    -- all pairs
    have Ls : L.cps.size ≤ 8 := l8
    have lL := lets_len L
    refine ⟨_, rfl, pa, _, 0, .str L, rfl, rfl, hpa2, rfl, L, rfl, fun D hD => ?_⟩
    have tkE : ∀ k, k < L.cps.size → ∃ c, L.cps[k]? = some c ∧ (letsOf L)[k]? = some (sg c) := fun k hk => by
      refine ⟨L.cps[k], Array.getElem?_eq_getElem hk, ?_⟩
      unfold letsOf
      rw [List.getElem?_map, Array.getElem?_toList, Array.getElem?_eq_getElem hk]
      rfl
    refine ⟨fun i m H' => m = L.cps.size - i ∧ i ≤ L.cps.size ∧ Same H2 H' ∧ ∃ ps : List Addr, H' D = some (.lst (ps.map V.ref)) ∧ PrsAt K H' ps (((letsOf L).take i).flatMap (rowP L)), ⟨_, rfl, Nat.zero_le _, same_upd hD, [], upd_same, .nil⟩, ?_⟩
    rintro i m H3 ⟨rfl, hi, s3, ps, hD3, pp3⟩
    by_cases lt : i < L.cps.size
    · refine .inr ⟨lt, fun H' => Same H2 H' ∧ ∃ ps : List Addr, H' D = some (.lst (ps.map V.ref)) ∧ PrsAt K H' ps (((letsOf L).take (i + 1)).flatMap (rowP L)), fun H' nx => ⟨L.cps.size - (i + 1), by omega, rfl, lt, nx⟩, fun z H4 yy => ?_⟩
      obtain ⟨rfl, c, hc, rfl⟩ := yy
      have hcl : (letsOf L)[i]? = some (sg c) := by
        unfold letsOf
        rw [List.getElem?_map, Array.getElem?_toList, hc]
        rfl
      have el3 : ps.length ≤ i * L.length := by
        have := Paired.length pp3
        have h2 : ∀ xs : List Str, (xs.flatMap (rowP L)).length = xs.length * L.length := by
          intro xs
          induction xs with
          | nil => simp
          | cons x xs ih =>
            rw [List.flatMap_cons, List.length_append, ih, rowP, List.length_map, lets_len, List.length_cons, Nat.succ_mul]
            omega
        rw [h2, List.length_take] at this
        have h3 : min i (letsOf L).length * L.length ≤ i * L.length := Nat.mul_le_mul_right _ (Nat.min_le_left _ _)
        omega
      have m64 : i * L.length ≤ 8 * 8 := Nat.mul_le_mul (by omega) l8
      refine ⟨rfl, _, rfl, pa, _, 0, .str L, rfl, rfl, TK.same s3 _ _ hpa2, rfl, L, rfl, ?_⟩
      refine ⟨fun j k H' => k = L.cps.size - j ∧ j ≤ L.cps.size ∧ Same H2 H' ∧ ∃ ps' : List Addr, H' D = some (.lst (ps'.map V.ref)) ∧ PrsAt K H' ps' (((letsOf L).take i).flatMap (rowP L) ++ (rowP L (sg c)).take j) ∧ ps'.length = ps.length + j,
        ⟨_, rfl, Nat.zero_le _, s3, ps, hD3, by rw [List.take_zero, List.append_nil]; exact pp3, rfl⟩, ?_⟩
      rintro j k H5 ⟨rfl, hj, s5, ps5, hD5, pp5, pl5⟩
      by_cases lj : j < L.cps.size
      · refine .inr ⟨lj, fun H' => Same H2 H' ∧ ∃ ps' : List Addr, H' D = some (.lst (ps'.map V.ref)) ∧ PrsAt K H' ps' (((letsOf L).take i).flatMap (rowP L) ++ (rowP L (sg c)).take (j + 1)) ∧ ps'.length = ps.length + (j + 1), fun H' nx => ⟨L.cps.size - (j + 1), by omega, rfl, lj, nx⟩, fun z H6 yz => ?_⟩
        obtain ⟨rfl, c2, hc2, rfl⟩ := yz
        have hcl2 : (rowP L (sg c))[j]? = some (sg c, sg c2) := by
          unfold rowP letsOf
          rw [List.getElem?_map, List.getElem?_map, Array.getElem?_toList, hc2]
          rfl
        refine ⟨rfl, _, rfl, _, rfl, sz (by show 2 ≤ 100000; decide), fun t ht => ?_⟩
        have v := same_upd (o := .tup [V.str (sg c), V.str (sg c2)]) ht
        have hD6 := v _ _ hD5
        have kE : TK K (upd H6 t (.tup [V.str (sg c), V.str (sg c2)])) (upd (upd H6 t (.tup [V.str (sg c), V.str (sg c2)])) D (.lst (ps5.map V.ref ++ [V.ref t]))) := TK.upd hD6 True.intro
        refine ⟨_, hD6, by rw [List.length_map]; exact szl (by omega), fun b' o e => ?_, ps5 ++ [t], ?_, ?_, ?_⟩
        · rw [upd_ne (ne_of_none e hD)]
          exact (s5.trans v) b' o e
        · rw [upd_same, List.map_append]
          rfl
        · rw [take_snoc hcl2, ← List.append_assoc]
          exact Paired.app (Paired.mapP pp5 fun _ _ z => kE _ _ (TK.same v _ _ z)) (.cons (kE _ _ (SqT.of upd_same)) .nil)
        · rw [List.length_append, pl5]
          rfl
      · have ej : j = L.cps.size := by omega
        subst ej
        have er : (rowP L (sg c)).take L.cps.size = rowP L (sg c) := List.take_of_length_le (by unfold rowP; rw [List.length_map, lets_len]; exact Nat.le_refl _)
        rw [er] at pp5
        refine .inl ⟨Nat.le_refl _, s5, ps5, hD5, ?_⟩
        rw [take_snoc hcl, List.flatMap_append]
        have : ([sg c] : List Str).flatMap (rowP L) = rowP L (sg c) := by simp
        rw [this]
        exact pp5
    · have ei : i = L.cps.size := by omega
      subst ei
      have er : (letsOf L).take L.cps.size = letsOf L := List.take_of_length_le (by rw [lets_len]; exact Nat.le_refl _)
      rw [er] at pp3
      have pp3 : PrsAt K H3 ps (allP L) := pp3
      have pl : ps.length = (allP L).length := Paired.length pp3
      have l64 := allP_len L l8
      refine .inl ⟨Nat.le_refl _, ?_⟩
      -- those that can be cut
      have hC3 := hC.same s3
      refine ⟨_, rfl, D, rfl, ⟨_, SqL.of hD3⟩, fun E5 hE => ?_⟩
      have nEk : E5 ≠ kd := by
        obtain ⟨_, _, _, _, _, _, _, _, _, _, _, _, _, ⟨kvs, h7, _⟩⟩ := hC3.ex
        exact (ne_of_none h7 hE).symm
      have nDk : D ≠ kd := by
        obtain ⟨_, _, _, _, _, _, _, _, _, _, _, _, _, ⟨kvs, h7, _⟩⟩ := hC.ex
        exact (ne_of_none h7 hD).symm
      refine lc_list (K := K) (a := D) (xs := ps.map V.ref) (fun k H' => Sb [kd] H3 H' ∧ CutAt K CC CB H' p kd L qs ∧ ∃ rs : List Addr, H' E5 = some (.lst (rs.map V.ref)) ∧ PrsAt K H' rs (((allP L).take k).filter fun s => canB L qs s.1 s.2))
        ⟨Sb.of (same_upd hE), hC3.same (same_upd hE), [], upd_same, .nil⟩ (fun k H' _ x => SqL.of (x.1 _ _ hD3 (by simpa using nDk))) ?_ ?_
      · rintro k x H4 hk ⟨sb4, hC4, rs, hE4, pr4⟩
        obtain ⟨a, hak, rfl⟩ : ∃ a, ps[k]? = some a ∧ x = V.ref a := by
          rw [List.getElem?_map] at hk
          obtain ⟨y, h1, h2⟩ := Option.map_eq_some_iff.mp hk
          exact ⟨y, h1, h2.symm⟩
        obtain ⟨⟨x1, x2⟩, hxq, hax⟩ := Paired.at1 pp3 hak
        have hax4 : SqT K H4 a [.str x1, .str x2] := hC3.tk sb4 _ _ hax
        obtain ⟨lx1, lx2⟩ := allP_let (List.mem_of_getElem? hxq)
        obtain ⟨dx2, m2, b2', wd2, dxb2, od2, ws2, hp2, _⟩ := hC4.ex
        refine ⟨rfl, _, rfl, p, dx2, _, rfl, hp2, fc_no m2 b2' wd2 kd (by decide +kernel) (by decide +kernel) (by decide +kernel) (by decide +kernel), _, rfl, a, _, 0, .str x1, rfl, rfl, hax4, rfl, _, rfl, a, _, 1, .str x2, rfl, rfl, hax4, rfl, p, kd, L, x1, x2, qs, rfl, hC4, ok, sh, lx1, lx2, fun H5 u5 sb5 hC5 uv => ?_⟩
        have k5 := hC4.tk sb5
        have hE5 := sb5 _ _ hE4 (by simpa using nEk)
        have pr5 := Paired.mapP pr4 fun _ _ z => k5 _ _ z
        have ax5 := k5 _ _ hax4
        refine ⟨rfl, _, rfl, ?_⟩
        by_cases c : u5 = .non
        · rw [decide_eq_true c]
          have cp : canB L qs x1 x2 = true := by
            rcases uv with ⟨_, h⟩ | ⟨t, u, w', b', h1, _⟩
            · exact canB_true h
            · rw [c] at h1
              cases h1
          have rl : rs.length ≤ 64 := by
            have := Paired.length pr4
            have h2 := List.length_filter_le (fun s : Str × Str => canB L qs s.1 s.2) ((allP L).take k)
            rw [List.length_take] at h2
            omega
          have kE : TK K H5 (upd H5 E5 (.lst (rs.map V.ref ++ [V.ref a]))) := TK.upd hE5 True.intro
          have sbE : Sb [kd] H3 (upd H5 E5 (.lst (rs.map V.ref ++ [V.ref a]))) := (sb4.trans sb5).updNew hE
          have hCE : CutAt K CC CB (upd H5 E5 (.lst (rs.map V.ref ++ [V.ref a]))) p kd L qs := by
            obtain ⟨dx3, m3, b3, wd3, dxb3, od3, ws3, g1, ⟨im, kvm, g21, g22, g23⟩, g3, g4, g5, g6, ⟨kvs, g7, g8, g9⟩⟩ := hC5.ex
            exact ⟨⟨dx3, m3, b3, wd3, dxb3, od3, ws3, by rw [upd_ne (ne_of g1 hE5 (fun z => nomatch z))]; exact g1, ⟨im, kvm, g21, by rw [upd_ne (ne_of g22 hE5 (fun z => nomatch z))]; exact g22, g23.mono kE⟩, by rw [upd_ne (ne_of g3 hE5 (fun z => nomatch z))]; exact g3,
              by rw [upd_ne (ne_of g4 hE5 (fun z => nomatch z))]; exact g4, g5, g6, ⟨kvs, by rw [upd_ne nEk.symm]; exact g7, g8, g9⟩⟩⟩
          refine iteT ⟨_, rfl, _, hE5, by rw [List.length_map]; exact szl (by omega), sbE, hCE, rs ++ [a], by rw [upd_same, List.map_append]; rfl, ?_⟩
          rw [take_snoc hxq, List.filter_append, List.filter_cons_of_pos (by exact cp)]
          exact Paired.app (Paired.mapP pr5 fun _ _ z => kE _ _ z) (.cons (kE _ _ ax5) .nil)
        · rw [decide_eq_false c]
          have cp : canB L qs x1 x2 = false := canB_false (uncut_not ok sh uv c)
          refine iteF ⟨sb4.trans sb5, hC5, rs, hE5, ?_⟩
          rw [take_snoc hxq, List.filter_append, List.filter_cons_of_neg (by rw [cp]; exact Bool.false_ne_true)]
          show PrsAt K H5 rs (_ ++ [])
          rw [List.append_nil]
          exact pr5
      · rintro H4 ⟨sb4, hC4, rs, hE4, pr4⟩
        rw [List.length_map, pl, List.take_length] at pr4
        refine q H4 E5 rs (fun b o e => sb4 b o (s3 _ _ (s12 _ _ e)) fun mm => ?_) hE4 pr4
        rw [List.mem_singleton.mp mm, kdH] at e
        cases e
end
end K24

namespace K24
open PySem PySem.Spec PyProof.Rows L2
theorem shape_len {L : Str} {qs : List Rule} (ok : ProgOk L qs) (sh : ShortQ L qs) {x : Str} (h : WordOk L x) (h1 : 1 ≤ x.length) : (shapeW qs x).length ≤ 40 * x.length + 40 := by
  have t := tw_few ok sh
  have l1 := run_len t (letsOf x) S0 t.ok.z (word_lets h)
  have ll := lets_len x
  have nn : letsOf x ≠ [] := fun e => by
    rw [e, List.length_nil] at ll
    omega
  have re := run_re t.ok (letsOf x) (word_lets h) S0 t.ok.z
  have le := run_let t.ok (letsOf x) nn (word_lets h) S0 t.ok.z
  have l2 := t.few _ S0 re (.inl rfl) (fun z => le.ne z.1)
  unfold shapeW
  rw [runW_snoc]
  show ((runW (tw qs) S0 (letsOf x)).1 ++ (tw qs (runW (tw qs) S0 (letsOf x)).2 S0).1).length ≤ _
  rw [List.length_append]
  omega
/-- a cut changes nothing, by the shapes of the whole and of both -/
theorem cut_shape {qs : List Rule} {u w b : Str} (h : (runW (tw qs) S0 (letsOf u)).2 = b) : endsU (tw qs) (tw qs) (stC (tw qs) b (letsOf w)) = decide (shapeW qs (u ++ w) = shapeW qs u ++ shapeW qs w) := by
  rw [stC_ends]
  refine decide_eq_decide.mpr ?_
  unfold shapeW
  rw [lets_app, List.append_assoc, runW_app (letsOf u) (letsOf w ++ [S0]) S0, h, runW_snoc (letsOf u), h, List.append_assoc, List.append_cancel_left_eq]
theorem lets_split {u : Str} {l : List Str} {m : List Str} (h : letsOf u = l ++ m) : ∃ l1 l2, u.cps.toList = l1 ++ l2 ∧ l1.map sg = l ∧ l2.map sg = m := by
  unfold letsOf at h
  obtain ⟨l1, l2, h1, h2, h3⟩ := List.map_eq_append_iff.mp h
  exact ⟨l1, l2, h1, h2, h3⟩
theorem cutS_last {u x : Str} {l : List Str} (h : letsOf u = l ++ [x]) : cutS u (some (-1)) none = x := by
  obtain ⟨l1, l2, h1, h2, h3⟩ := lets_split h
  obtain ⟨c, rfl⟩ : ∃ c, l2 = [c] := by
    cases l2 with
    | nil => cases h3
    | cons c l3 =>
      cases l3 with
      | nil => exact ⟨c, rfl⟩
      | cons d l4 => exact absurd (congrArg List.length h3) (by simp)
  have ex : sg c = x := by simpa using h3
  have len : u.length = l1.length + 1 := by
    rw [strLen u, h1, List.length_append]
    rfl
  unfold cutS
  have e1 : HT.sIx u.length 0 (some (-1)) = l1.length := by
    show (if (-1 : Int) < 0 then ((-1 : Int) + (u.length : Int)).toNat else min (-1 : Int).toNat u.length) = _
    rw [if_pos (by decide), len]
    omega
  rw [e1, HT.sIx_none, len, h1, List.drop_left]
  have e2 : l1.length + 1 - l1.length = 1 := by omega
  rw [e2, ← ex]
  rfl
theorem cutS_first {w y : Str} {l : List Str} (h : letsOf w = y :: l) : cutS w none (some 1) = y := by
  obtain ⟨l1, l2, h1, h2, h3⟩ := lets_split (l := [y]) (m := l) h
  obtain ⟨c, rfl⟩ : ∃ c, l1 = [c] := by
    cases l1 with
    | nil => cases h2
    | cons c l3 =>
      cases l3 with
      | nil => exact ⟨c, rfl⟩
      | cons d l4 => exact absurd (congrArg List.length h2) (by simp)
  have ex : sg c = y := by simpa using h2
  have len : w.length = l2.length + 1 := by
    rw [strLen w, h1, List.length_append]
    show 1 + _ = _
    omega
  unfold cutS
  have e1 : HT.sIx w.length w.length (some (1 : Int)) = 1 := by
    show (if (1 : Int) < 0 then ((1 : Int) + (w.length : Int)).toNat else min (1 : Int).toNat w.length) = _
    rw [if_neg (by decide), len]
    show min 1 (l2.length + 1) = 1
    omega
  rw [e1, HT.sIx_none, h1, ← ex]
  rfl
theorem cutS_ok {L x : Str} (h : WordOk L x) : WordOk L (cutS x (some 1) none) := fun c hc => by
  unfold cutS at hc
  rw [List.toList_toArray] at hc
  exact h c (List.mem_of_mem_drop (List.mem_of_mem_take hc))
theorem eqv_keys (S : List (Str × Str)) : PyData.eqvAll (S.map keyD) (S.map keyD) = true := by
  induction S with
  | nil => rfl
  | cons s S ih =>
    rw [List.map_cons, PyData.eqvAll, eqv_keyD, ih, decide_eq_true rfl]
    rfl
theorem cutL_rows (L : Str) (qs : List Rule) : cutL L qs = (letsOf L).flatMap fun x => (rowP L x).filter fun s => canB L qs s.1 s.2 := by
  unfold cutL allP
  induction letsOf L with
  | nil => rfl
  | cons x xs ih => rw [List.flatMap_cons, List.flatMap_cons, List.filter_append, ih]
theorem cutL_mem {L : Str} {qs : List Rule} {x y : Str} (hx : IsLet L x) (hy : IsLet L y) : ((x, y) ∈ cutL L qs) ↔ canB L qs x y = true := by
  unfold cutL
  rw [List.mem_filter]
  constructor
  · intro h
    exact h.2
  · intro h
    exact ⟨List.mem_flatMap.mpr ⟨x, let_in hx, List.mem_map.mpr ⟨y, let_in hy, rfl⟩⟩, h⟩
def spIsUncut (K : PySem.W.Frag) : Sp := fun vs H Q _ => ∃ (v : V) (t : Addr) (L u w : Str) (qs : List Rule), vs = [v, .ref t] ∧ ProgAt K H v L qs ∧ ProgOk L qs ∧ ShortQ L qs ∧ SqT K H t [.str u, .str w] ∧ WordOk L u ∧ WordOk L w ∧ 1 ≤ u.length ∧ 1 ≤ w.length ∧ u.length ≤ 150 ∧ w.length ≤ 150 ∧
  ∀ H', Same H H' → Q (.bl (!decide (shapeW qs (u ++ w) = shapeW qs u ++ shapeW qs w))) H'
def spRight (K : PySem.W.Frag) : Sp := fun vs H Q _ => ∃ (c : Addr) (v : V) (L : Str) (qs : List Rule), vs = [.ref c, v] ∧ CupAt H c ∧ ProgAt K H v L qs ∧ ProgOk L qs ∧ ShortQ L qs ∧ ∀ H', Sb [c] H H' → CupAt H' c → Q (.bl true) H'
theorem word_app {L u w : Str} (h : WordOk L u) (h' : WordOk L w) : WordOk L (u ++ w) := fun c hc => by
  have e : (u ++ w).cps.toList = u.cps.toList ++ w.cps.toList := by
    show (u.cps ++ w.cps).toList = _
    simp
  rw [e] at hc
  rcases List.mem_append.mp hc with m | m
  · exact h c m
  · exact h' c m
section
variable {P : Program} {w : World} {K : PySem.W.Frag} {mg : Str → Option Value} {base : Heap}
theorem scIsUncut : FnScope ["_law_pairs_here", "_law_words"] ["_law_pairs_here", "_law_words"] (defScope sIsUncut) := ⟨rfl, rfl, rfl, by decide +kernel, rfl, by decide +kernel, by decide +kernel⟩
theorem ok_isUncut {f c : Addr} {fd cd : FuncData} (F : Fun K "_law_is_uncut" "_law_is_uncut" sIsUncut f fd)
    (C : FnOk P w K mg base CX0 77 c cd ["_law_pairs_here", "_law_word_here"] (spWhole K)) (kC : PySem.W.keepIn K (.ref c) = true) (mC : mg "_law_whole" = some (.ref c)) (bC : Binds K cd ["_law_pairs_here", "_law_word_here"] []) :
    FnOk P w K mg base CX0 78 f fd ["_law_pairs_here", "_law_words"] (spIsUncut K) := by
  refine F.ok scIsUncut (fun vs H Q E h => ?_) (fun cdv A outer s H vs Q E hr h => ?_)
  · obtain ⟨_, _, _, _, _, _, rfl, _⟩ := h
    rfl
  · obtain ⟨v, t, L, u, w', qs, rfl, hP, ok, sh, ht, wu, ww, u1, w1, u2, w2, q⟩ := h
    have nd := scIsUncut.nd
    refine ⟨_, pss_one (ps_ret (pe_cmpR (op_neD (hu64 hr))
      (pe_call C hr rfl mC kC bC .nil pass0 (pa_cons (pv 0) (pa_cons (pe_op op_add_str (pe_ix ix_tup (pv 1) pe_int (fun _ _ => rfl)) (pe_ix ix_tup (pv 1) pe_int (fun _ _ => rfl))) pa_nil)))
      (pe_op op_catA (pe_call C hr rfl mC kC bC .nil pass0 (pa_cons (pv 0) (pa_cons (pe_ix ix_tup (pv 1) pe_int (fun _ _ => rfl)) pa_nil))) (pe_call C hr rfl mC kC bC .nil pass0 (pa_cons (pv 0) (pa_cons (pe_ix ix_tup (pv 1) pe_int (fun _ _ => rfl)) pa_nil)))) (nomark _))), ?_⟩
    have al : (u ++ w').length = u.length + w'.length := app_len _ _
    have l1 := shape_len ok sh wu u1
    have l2 := shape_len ok sh ww w1
    refine ⟨_, rfl, _, rfl, t, _, 0, .str u, rfl, rfl, ht, rfl, _, rfl, t, _, 1, .str w', rfl, rfl, ht, rfl, u, w', rfl, rfl, sz (by omega), ?_⟩
    refine ⟨v, u ++ w', L, qs, rfl, hP, ok, sh, word_app wu ww, by omega, by omega, fun H1 r1 s1 h1 => ?_⟩
    refine ⟨_, rfl, _, rfl, t, _, 0, .str u, rfl, rfl, TK.same s1 _ _ ht, rfl, v, u, L, qs, rfl, hP.mono (TK.same s1), ok, sh, wu, u1, by omega, fun H2 r2 s2 h2 => ?_⟩
    have s12 := s1.trans s2
    refine ⟨_, rfl, _, rfl, t, _, 1, .str w', rfl, rfl, TK.same s12 _ _ ht, rfl, v, w', L, qs, rfl, hP.mono (TK.same s12), ok, sh, ww, w1, by omega, fun H3 r3 s3 h3 => ?_⟩
    refine catThs (h2.mono (TK.same s3)) h3 (by omega) fun H4 r4 s4 h4 => ?_
    have h14 := h1.mono (TK.same (K := K) ((s2.trans s3).trans s4))
    refine ⟨_, _, h14.dp, h4.dp, h14.shaped, h4.shaped, ?_⟩
    rw [eqv_tup]
    exact q H4 ((s12.trans s3).trans s4)
end
end K24

namespace K24
open PySem PySem.Spec PyProof.Rows L2
section
variable {P : Program} {w : World} {K : PySem.W.Frag} {mg : Str → Option Value} {base : Heap}
theorem scRight : FnScope ["_law_cup_here", "_law_pairs_here", "_law_told_here", "_law_due", "_law_one", "_law_two", "_law_turn", "_law_words", "_law_front", "_law_tail", "_law_word_here", "_law_sign"] ["_law_cup_here", "_law_pairs_here"] (defScope sRight) := ⟨rfl, rfl, rfl, by decide +kernel, rfl, by decide +kernel, by decide +kernel⟩
theorem ok_right {f n u cc s2 iu wd : Addr} {fd nd' ud ccd sd iud wdd : FuncData} (F : Fun K "_law_right" "_law_right" sRight f fd) (T : Txt K mg)
    (N : FnOk P w K mg base CX0 81 n nd' ["calm"] (spCutPairs K)) (kN : PySem.W.keepIn K (.ref n) = true) (mN : mg "cut_pairs" = some (.ref n)) (bN : Binds K nd' ["calm"] [])
    (Cc : FnOk P w K mg base CX0 79 cc ccd ["_law_pairs_here", "_law_first", "_law_second"] (spCanCut K)) (kC : PySem.W.keepIn K (.ref cc) = true) (mC : mg "_law_can_cut" = some (.ref cc)) (bC : Binds K ccd ["_law_pairs_here", "_law_first", "_law_second"] [])
    (S : FnOk P w K mg base CX0 2 s2 sd ["_law_cup_here", "_law_things"] (spSome K)) (kS : PySem.W.keepIn K (.ref s2) = true) (mS : mg "_law_some" = some (.ref s2)) (bS : Binds K sd ["_law_cup_here", "_law_things"] [])
    (U : FnOk P w K mg base CX0 81 u ud ["calm", "first", "second"] (spUncutWords K)) (kU : PySem.W.keepIn K (.ref u) = true) (mU : mg "uncut_words" = some (.ref u)) (bU : Binds K ud ["calm", "first", "second"] [])
    (Iu : FnOk P w K mg base CX0 78 iu iud ["_law_pairs_here", "_law_words"] (spIsUncut K)) (kI : PySem.W.keepIn K (.ref iu) = true) (mI : mg "_law_is_uncut" = some (.ref iu)) (bI : Binds K iud ["_law_pairs_here", "_law_words"] [])
    (Wd : FnOk P w K mg base CX0 3 wd wdd ["_law_cup_here", "_law_letters", "_law_many"] (spWord K)) (kW : PySem.W.keepIn K (.ref wd) = true) (mW : mg "_law_word" = some (.ref wd)) (bW : Binds K wdd ["_law_cup_here", "_law_letters", "_law_many"] []) :
    FnOk P w K mg base CX0 82 f fd ["_law_cup_here", "_law_pairs_here"] (spRight K) := by
  refine F.ok scRight (fun vs H Q E h => ?_) (fun cdv A outer s H vs Q E hr h => ?_)
  · obtain ⟨_, _, _, _, rfl, _⟩ := h
    rfl
  · obtain ⟨c, v, L, qs, rfl, hc, hP, ok, sh, q⟩ := h
    have nd := scRight.nd
    have hr2 : Room 2 _ := hr.mono (by decide)
    have hr3 : Room 3 _ := hr.mono (by decide)
    have hr78 : Room 78 _ := hr.mono (by decide)
    have hr79 : Room 79 _ := hr.mono (by decide)
    refine ⟨_, pss_cons (ps_set (i := 2) nd rfl (.inl rfl) (pe_call N hr rfl mN kN bN .nil pass0 (pa_cons (pv 1) pa_nil)))
      (pss_cons (ps_set (i := 3) nd rfl (.inl rfl) (pe_lst pa_nil))
      (pss_cons (ps_for PassesOwn.never rfl (pi_str (pe_ix ix_tup (pv 1) pe_int (fun _ _ => rfl))) (pg_name (i := 4) nd rfl (.inr rfl))
        (pss_one (ps_set (i := 3) nd rfl (.inl rfl) (pe_op op_cat (pv 3)
          (pe_lc (own := [("_law_two", 5)]) (g := gName 5) rfl nd (pi_str (pe_ix ix_tup (pv 1) pe_int (fun _ _ => rfl)))
            (blkOk_by (own := [("_law_two", 5)]) (N := ["_law_cup_here", "_law_pairs_here", "_law_told_here", "_law_due", "_law_one", "_law_two", "_law_turn", "_law_words", "_law_front", "_law_tail", "_law_word_here", "_law_sign"]) (sc := defScope sRight) (by decide +kernel))
            (fun _ _ _ _ _ => pg_name (i := 5) nd rfl (Or.inl rfl))
            (fun _ _ _ _ _ => pts_one (pt_val (pe_call Cc hr79 rfl mC kC bC .nil pass0 (pa_cons (pv 1) (pa_cons (pv 4) (pa_cons (pv 5) pa_nil))))))
            (fun _ _ _ _ _ => pe_tup (pa_cons (pv 4) (pa_cons (pv 5) pa_nil))))))))
      (pss_cons (ps_if (pt_cmpR (op_neD (hu64 hr)) (pv 2) (pv 3) (nomark _)) (pss_one (ps_ret pe_bl)) pss_nil)
      (pss_cons (ps_for PassesOwn.never rfl (pi_range1 rfl T.range (pa_cons pe_int pa_nil)) (pg_name (i := 6) nd rfl (.inl rfl))
        (pss_cons (ps_asg (pe_tup (pa_cons (pe_call S hr2 rfl mS kS bS .nil pass0 (pa_cons (pv 0) (pa_cons (pe_callTy (call_list_text rfl) (by rfl) T.list (by decide +kernel) (pa_cons (pe_ix ix_tup (pv 1) pe_int (fun _ _ => rfl)) pa_nil)) pa_nil)))
            (pa_cons (pe_call S hr2 rfl mS kS bS .nil pass0 (pa_cons (pv 0) (pa_cons (pe_callTy (call_list_text rfl) (by rfl) T.list (by decide +kernel) (pa_cons (pe_ix ix_tup (pv 1) pe_int (fun _ _ => rfl)) pa_nil)) pa_nil))) pa_nil)))
          (pg_tup (by rfl) (pgs_cons (pg_name (i := 4) nd rfl (.inr rfl)) (pgs_cons (pg_name (i := 5) nd rfl (.inl rfl)) pgs_nil))))
        (pss_cons (ps_set (i := 7) nd rfl (.inl rfl) (pe_call U hr rfl mU kU bU .nil pass0 (pa_cons (pv 1) (pa_cons (pv 4) (pa_cons (pv 5) pa_nil)))))
        (pss_cons (ps_if (pt_cmpR op_ne (pe_cmpR op_isN (pv 7) pe_non (nomark _)) (pe_cmpR (op_inD (hu65 hr)) (pe_tup (pa_cons (pv 4) (pa_cons (pv 5) pa_nil))) (pv 3) (by rfl)) (nomark _)) (pss_one (ps_ret pe_bl)) pss_nil)
        (pss_one (ps_if (pt_cmpR op_notN (pv 7) pe_non (nomark _))
          (pss_cons (ps_if (PW.pt (pw_or (pt_not (pt_val (pe_callB call_isi (by rfl) T.isi (by decide +kernel) (pa_cons (pv 7) (pa_cons (pe_bltn (v := .ty "tuple") (by rfl) T.tuple (by decide +kernel) rfl) pa_nil)))))
              (pw_or (pt_cmpR op_ne (pe_callB call_len_seq (by rfl) T.len PySem.boot_len (pa_cons (pv 7) pa_nil)) pe_int (nomark _))
              (pw_or1 (pt_cmpR (op_neD (hu64 hr))
                (pe_lc (own := [("_law_word_here", 10)]) (g := gName 10) rfl nd (pi_tup (pv 7))
                  (blkOk_by (own := [("_law_word_here", 10)]) (N := ["_law_cup_here", "_law_pairs_here", "_law_told_here", "_law_due", "_law_one", "_law_two", "_law_turn", "_law_words", "_law_front", "_law_tail", "_law_word_here", "_law_sign"]) (sc := defScope sRight) (by decide +kernel))
                  (fun _ _ _ _ _ => pg_name (i := 10) nd rfl (Or.inl rfl))
                  (fun _ _ _ _ _ => pts_one (pt_not (pt_val (pe_callB (show CallR _ _ (rIsi K) from call_isi) (by rfl) T.isi (by decide +kernel) (pa_cons (pv 10) (pa_cons (pe_bltn (v := .ty "str") (by rfl) T.str (by decide +kernel) rfl) pa_nil))))))
                  (fun _ _ _ _ _ => pe_int)) (pe_lst pa_nil) (nomark _)))))) (pss_one (ps_ret pe_bl)) pss_nil)
          (pss_cons (ps_if (PW.pt (pw_or (pt_cmpR op_ne (pe_slice sl_str (pe_ix ix_tup (pv 7) pe_int (fun _ _ => rfl)) (po_some (pe_un un_neg pe_int)) po_none) (pv 4) (nomark _))
              (pw_or (pt_cmpR op_ne (pe_slice sl_str (pe_ix ix_tup (pv 7) pe_int (fun _ _ => rfl)) po_none (po_some pe_int)) (pv 5) (nomark _))
              (pw_or1 (pt_cmpR (op_neD (hu64 hr))
                (pe_lc (own := [("_law_sign", 11)]) (g := gName 11) rfl nd (pi_str (pe_op op_add_str (pe_ix ix_tup (pv 7) pe_int (fun _ _ => rfl)) (pe_ix ix_tup (pv 7) pe_int (fun _ _ => rfl))))
                  (blkOk_by (own := [("_law_sign", 11)]) (N := ["_law_cup_here", "_law_pairs_here", "_law_told_here", "_law_due", "_law_one", "_law_two", "_law_turn", "_law_words", "_law_front", "_law_tail", "_law_word_here", "_law_sign"]) (sc := defScope sRight) (by decide +kernel))
                  (fun _ _ _ _ _ => pg_name (i := 11) nd rfl (Or.inl rfl))
                  (fun _ _ _ _ _ => pts_one (pt_cmpR op_notIn_sign (pv 11) (pe_ix (show IxR _ (rIxT K) from ix_tup) (pv 1) pe_int (fun _ _ => rfl)) (by rfl)))
                  (fun _ _ _ _ _ => pe_int)) (pe_lst pa_nil) (nomark _)))))) (pss_one (ps_ret pe_bl)) pss_nil)
          (pss_one (ps_if (pt_not (pt_val (pe_call Iu hr78 rfl mI kI bI .nil pass0 (pa_cons (pv 1) (pa_cons (pv 7) pa_nil))))) (pss_one (ps_ret pe_bl)) pss_nil))))
          (pss_cons (ps_par (i := 8) (j := 9) rfl nd rfl rfl (by decide) rfl rfl
              (pa_cons (pe_op op_add_str (pe_slice sl_str (pe_call Wd hr3 rfl mW kW bW .nil pass0 (pa_cons (pv 0) (pa_cons (pe_ix ix_tup (pv 1) pe_int (fun _ _ => rfl)) (pa_cons pe_int pa_nil)))) (po_some pe_int) po_none) (pv 4))
              (pa_cons (pe_op op_add_str (pv 5) (pe_slice sl_str (pe_call Wd hr3 rfl mW kW bW .nil pass0 (pa_cons (pv 0) (pa_cons (pe_ix ix_tup (pv 1) pe_int (fun _ _ => rfl)) (pa_cons pe_int pa_nil)))) (po_some pe_int) po_none)) pa_nil)) (by rfl))
          (pss_one (ps_if (pt_val (pe_call Iu hr78 rfl mI kI bI .nil pass0 (pa_cons (pv 1) (pa_cons (pe_tup (pa_cons (pv 8) (pa_cons (pv 9) pa_nil))) pa_nil)))) (pss_one (ps_ret pe_bl)) pss_nil)))))))))
      (pss_one (ps_ret pe_bl)))))), ?_⟩
    obtain ⟨pa, pb, rfl, hpa, hpb⟩ := id hP
    have l8 := let_len ok.lets
    have l1 := ok.lets.some
    have lL := lets_len L
    have sL := strLen L
    have Ls : L.cps.size ≤ 8 := l8
    have smC : ∀ s ∈ cutL L qs, SmP s := fun s hs => by
      obtain ⟨h1, h2⟩ := allP_let (List.mem_filter.mp hs).1
      exact ⟨IsSide.sm ok.lets (.inr h1), IsSide.sm ok.lets (.inr h2)⟩
    have cutLen : (cutL L qs).length ≤ 64 := Nat.le_trans (List.length_filter_le _ _) (allP_len L l8)
    have notC : ∀ {H' : Hp} {z : Addr}, CupAt H' c → H' z = none → z ≠ c := fun {H' z} hc' e z2 => by
      obtain ⟨xs, h⟩ := cup_lst hc'
      rw [← z2, e] at h
      cases h
    -- cut_pairs, and what is due
    refine ⟨_, rfl, .ref pa, L, qs, rfl, hP, ok, sh, fun H1 la ps1 s1 hl1 pp1 => ⟨sz (by show 0 ≤ 100000; decide), fun d0 hd0 => ?_⟩⟩
    have u0 := same_upd (o := .lst []) hd0
    have nd0 : d0 ≠ c := notC (hc.same s1) hd0
    have s10 := s1.trans u0
    have hl10 := u0 _ _ hl1
    have pp10 := PrsAt.mono (TK.same (K := K) u0) pp1
    have hd00 : (upd H1 d0 (.lst [])) d0 = some (.lst []) := upd_same
    generalize (upd H1 d0 (.lst [])) = H0 at s10 hl10 pp10 hd00
    have hc0 := hc.same s10
    have hP0 := hP.mono (TK.same (K := K) s10)
    have hpa0 := TK.same (K := K) s10 _ _ hpa
    refine ⟨_, rfl, pa, _, 0, .str L, rfl, rfl, hpa0, rfl, L, rfl,
      for_its (x := L) (fun k σ H' => ∃ (da : Addr) (ds : List Addr) (x4 x5 : Option V), σ = [some (.ref c), some (.ref pa), some (.ref la), some (.ref da), x4, x5, none, none, none, none, none, none] ∧ Same H0 H' ∧ da ≠ c ∧ H' da = some (.lst (ds.map V.ref)) ∧
        PrsAt K H' ds (((letsOf L).take k).flatMap fun x => (rowP L x).filter fun s => canB L qs s.1 s.2))
      ⟨d0, [], none, none, rfl, Same.refl _, nd0, hd00, .nil⟩ ?_ ?_⟩
    · rintro k ch σ H2 hch ⟨da, ds, x4, x5, rfl, s2, ndc, hda, ppd⟩
      have hcl : (letsOf L)[k]? = some (sg ch) := by
        unfold letsOf
        rw [List.getElem?_map, Array.getElem?_toList, hch]
        rfl
      have mc : IsLet L (sg ch) := lets_is _ (List.mem_of_getElem? hcl)
      have dl : ds.length ≤ 64 := by
        have e1 := Paired.length ppd
        have sub : (((letsOf L).take k).flatMap fun x => (rowP L x).filter fun s => canB L qs s.1 s.2).length ≤ (cutL L qs).length := by
          rw [cutL_rows]
          conv => rhs; rw [← List.take_append_drop k (letsOf L), List.flatMap_append, List.length_append]
          exact Nat.le_add_right _ _
        omega
      refine ⟨_, rfl, _, rfl, pa, _, 0, .str L, rfl, rfl, TK.same s2 _ _ hpa0, rfl, L, rfl, fun D hD => ?_⟩
      refine ⟨fun j m H' => m = L.cps.size - j ∧ j ≤ L.cps.size ∧ Same H2 H' ∧ ∃ rs : List Addr, H' D = some (.lst (rs.map V.ref)) ∧ PrsAt K H' rs (((rowP L (sg ch)).take j).filter fun s => canB L qs s.1 s.2) ∧ rs.length ≤ j, ⟨_, rfl, Nat.zero_le _, same_upd hD, [], upd_same, .nil, Nat.le_refl _⟩, ?_⟩
      rintro j m H3 ⟨rfl, hj, s3, rs, hD3, pr3, rl3⟩
      by_cases lt : j < L.cps.size
      · refine .inr ⟨lt, fun H' => Same H2 H' ∧ ∃ rs : List Addr, H' D = some (.lst (rs.map V.ref)) ∧ PrsAt K H' rs (((rowP L (sg ch)).take (j + 1)).filter fun s => canB L qs s.1 s.2) ∧ rs.length ≤ j + 1, fun H' nx => ⟨L.cps.size - (j + 1), by omega, rfl, lt, nx⟩, fun z H4 yz => ?_⟩
        obtain ⟨rfl, c2, hc2, rfl⟩ := yz
        have hcl2 : (rowP L (sg ch))[j]? = some (sg ch, sg c2) := by
          unfold rowP letsOf
          rw [List.getElem?_map, List.getElem?_map, Array.getElem?_toList, hc2]
          rfl
        have mc2 : IsLet L (sg c2) := (allP_let (L := L) (s := (sg ch, sg c2)) (List.mem_flatMap.mpr ⟨sg ch, let_in mc, List.mem_of_getElem? hcl2⟩)).2
        refine ⟨rfl, _, rfl, _, rfl, _, rfl, .ref pa, L, sg ch, sg c2, qs, rfl, hP0.mono (TK.same (s2.trans s3)), ok, sh, mc, mc2, fun H5 s5 => ⟨_, rfl, ?_⟩⟩
        have hD5 := s5 _ _ hD3
        have pr5 := PrsAt.mono (TK.same (K := K) s5) pr3
        cases cb : canB L qs (sg ch) (sg c2) with
        | false =>
          refine iteF ⟨s3.trans s5, rs, hD5, ?_, by omega⟩
          rw [take_snoc hcl2, List.filter_append, List.filter_cons_of_neg (by rw [cb]; exact Bool.false_ne_true)]
          show PrsAt K H5 rs (_ ++ [])
          rw [List.append_nil]
          exact pr5
        | true =>
          refine iteT ⟨_, rfl, _, rfl, sz (by show 2 ≤ 100000; decide), fun t ht => ?_⟩
          have v := same_upd (o := .tup [V.str (sg ch), V.str (sg c2)]) ht
          have hD6 := v _ _ hD5
          have kE : TK K (upd H5 t (.tup [V.str (sg ch), V.str (sg c2)])) (upd (upd H5 t (.tup [V.str (sg ch), V.str (sg c2)])) D (.lst (rs.map V.ref ++ [V.ref t]))) := TK.upd hD6 True.intro
          refine ⟨_, hD6, by rw [List.length_map]; exact szl (by omega), fun b' o e => ?_, rs ++ [t], ?_, ?_, by rw [List.length_append]; show rs.length + 1 ≤ _; omega⟩
          · rw [upd_ne (ne_of_none e hD)]
            exact ((s3.trans s5).trans v) b' o e
          · rw [upd_same, List.map_append]
            rfl
          · rw [take_snoc hcl2, List.filter_append, List.filter_cons_of_pos (by exact cb)]
            exact Paired.app (Paired.mapP pr5 fun _ _ z => kE _ _ (TK.same v _ _ z)) (.cons (kE _ _ (SqT.of upd_same)) .nil)
      · have ej : j = L.cps.size := by omega
        subst ej
        have er : (rowP L (sg ch)).take L.cps.size = rowP L (sg ch) := List.take_of_length_le (by unfold rowP; rw [List.length_map, lets_len]; exact Nat.le_refl _)
        rw [er] at pr3
        refine .inl ⟨Nat.le_refl _, da, D, _, _, rfl, rfl, s3 _ _ hda, hD3, by rw [List.length_map, List.length_map]; exact sz (by omega), fun p5 hp5 => ?_⟩
        have v5 := same_upd (o := .lst (ds.map V.ref ++ rs.map V.ref)) hp5
        have s05 := (s2.trans s3).trans v5
        refine ⟨p5, ds ++ rs, _, _, rfl, s05, notC (hc0.same (s2.trans s3)) hp5, by rw [upd_same, List.map_append], ?_⟩
        rw [take_snoc hcl, List.flatMap_append]
        have e1 : ([sg ch] : List Str).flatMap (fun x => (rowP L x).filter fun s => canB L qs s.1 s.2) = (rowP L (sg ch)).filter fun s => canB L qs s.1 s.2 := by simp
        rw [e1]
        exact Paired.app (PrsAt.mono (TK.same (s3.trans v5)) ppd) (PrsAt.mono (TK.same v5) pr3)
    · rintro σ H2 ⟨da, ds, x4, x5, rfl, s2, ndc, hda, ppd⟩
      have er : (letsOf L).take L.cps.size = letsOf L := List.take_of_length_le (by rw [lets_len]; exact Nat.le_refl _)
      rw [er, ← cutL_rows] at ppd
      have hl2 := s2 _ _ hl10
      have pp2 := PrsAt.mono (TK.same (K := K) s2) pp10
      have ee : (!PyData.eqv (.list ((cutL L qs).map keyD)) (.list ((cutL L qs).map keyD))) = false := by
        show (!PyData.eqvAll _ _) = false
        rw [eqv_keys]
        rfl
      refine ⟨_, rfl, _, rfl, .list ((cutL L qs).map keyD), .list ((cutL L qs).map keyD), .lst (SqL.of hl2) (DpKeys pp2), .lst (SqL.of hda) (DpKeys ppd), sh_keys smC, sh_keys smC, false, by rw [ee], iteF ?_⟩
      have s02 := s10.trans s2
      have hc2 := hc.same s02
      clear hl2 pp2 hl10 pp10 hl1 pp1 s1 hd00 u0 hP0 hpa0 hc0
      -- three turns
      refine ⟨3, rfl, by decide, by decide, for_range (lo := 0) (n := 3) (fun i σ H' => ∃ (x4 x5 x6 x7 x8 x9 x10 x11 : Option V), σ = [some (.ref c), some (.ref pa), some (.ref la), some (.ref da), x4, x5, x6, x7, x8, x9, x10, x11] ∧ Sb [c] H H' ∧ CupAt H' c ∧
          H' da = some (.lst (ds.map V.ref)) ∧ PrsAt K H' ds (cutL L qs))
        ⟨_, _, _, _, _, _, _, _, rfl, Sb.of s02, hc2, hda, ppd⟩ ?_ ?_⟩
      · rintro i σ H3 hi ⟨x4, x5, x6, x7, x8, x9, x10, x11, rfl, sb3, hc3, hda3, ppd3⟩
        clear hda ppd s02 hc2 s2 s10 hi
        have k3 := cup_tk (K := K) hc sb3
        -- one, two
        refine ⟨_, rfl, _, rfl, pa, _, 0, .str L, rfl, rfl, k3 _ _ hpa, rfl, L, rfl, sz (by omega), fun a1 g1 => ?_⟩
        have u1 := same_upd (o := .lst (signs L)) g1
        refine ⟨c, a1, signs L, rfl, hc3.same u1, notC hc3 g1, upd_same, by rw [signs_len]; omega, by rw [signs_len]; omega, fun H4 v4 sb4 hc4 hv4 => ?_⟩
        obtain ⟨z1, hz1, rfl⟩ := sign_let hv4
        have sb34 := (sb3.trans (Sb.of u1)).trans sb4
        have hda4 := sb4 _ _ (u1 _ _ hda3) (by simpa using ndc)
        have ppd4 := PrsAt.mono ((TK.same (K := K) u1).trans (cup_tk (K := K) (hc3.same u1) sb4)) ppd3
        have k4 := cup_tk (K := K) hc sb34
        refine ⟨_, rfl, _, rfl, pa, _, 0, .str L, rfl, rfl, k4 _ _ hpa, rfl, L, rfl, sz (by omega), fun a2 g2 => ?_⟩
        have u2 := same_upd (o := .lst (signs L)) g2
        refine ⟨c, a2, signs L, rfl, hc4.same u2, notC hc4 g2, upd_same, by rw [signs_len]; omega, by rw [signs_len]; omega, fun H5 v5 sb5 hc5 hv5 => ?_⟩
        obtain ⟨z2, hz2, rfl⟩ := sign_let hv5
        have sb35 := (sb34.trans (Sb.of u2)).trans sb5
        have hda5 := sb5 _ _ (u2 _ _ hda4) (by simpa using ndc)
        have ppd5 := PrsAt.mono ((TK.same (K := K) u2).trans (cup_tk (K := K) (hc4.same u2) sb5)) ppd4
        refine ⟨sz (by show 2 ≤ 100000; decide), fun t0 g0 => ⟨t0, _, rfl, SqT.of upd_same, rfl, _, _, rfl, _, _, rfl, rfl, ?_⟩⟩
        have u0 := same_upd (o := .tup [V.str (sg z1), V.str (sg z2)]) g0
        have sb6 := sb35.trans (Sb.of u0)
        have hc6 := hc5.same u0
        have hda6 := u0 _ _ hda5
        have ppd6 := PrsAt.mono (TK.same (K := K) u0) ppd5
        clear u0 u1 u2 g0 g1 g2 sb3 sb4 sb5 sb34 sb35 hc3 hc4 hc5 hda3 hda4 hda5 ppd3 ppd4 ppd5 k3 k4 hv4 hv5
        generalize (upd H5 t0 (.tup [V.str (sg z1), V.str (sg z2)])) = H6 at sb6 hc6 hda6 ppd6
        have m1 : IsLet L (sg z1) := ⟨z1, hz1, rfl⟩
        have m2 : IsLet L (sg z2) := ⟨z2, hz2, rfl⟩
        have k6 := cup_tk (K := K) hc sb6
        -- words
        refine ⟨_, rfl, _, rfl, _, rfl, .ref pa, L, sg z1, sg z2, qs, rfl, hP.mono k6, ok, sh, m1, m2, fun H7 uv s7 huv => ?_⟩
        have sb7 := sb6.trans (Sb.of s7)
        have hc7 := hc6.same s7
        have hda7 := s7 _ _ hda6
        have ppd7 := PrsAt.mono (TK.same (K := K) s7) ppd6
        refine ⟨_, rfl, rfl, _, rfl, _, rfl, sz (by show 2 ≤ 100000; decide), fun t2 g2 => ?_⟩
        have u2 := same_upd (o := .tup [V.str (sg z1), V.str (sg z2)]) g2
        have et2 : SqT K (upd H7 t2 (.tup [V.str (sg z1), V.str (sg z2)])) t2 [.str (sg z1), .str (sg z2)] := SqT.of upd_same
        have sb8 := sb7.trans (Sb.of u2)
        have hc8 := hc7.same u2
        have hda8 := u2 _ _ hda7
        have ppd8 := PrsAt.mono (TK.same (K := K) u2) ppd7
        have huv8 := huv.mono (TK.same (K := K) u2)
        clear u2 g2 sb7 hc7 hda7 ppd7 s7 sb6 hc6 hda6 ppd6 k6
        generalize (upd H7 t2 (.tup [V.str (sg z1), V.str (sg z2)])) = H8 at et2 sb8 hc8 hda8 ppd8 huv8
        refine ⟨_, rfl, keyD (sg z1, sg z2), (cutL L qs).map keyD, .tup et2 (.cons (.str _) (.cons (.str _) .nil)), .lst (SqL.of hda8) (DpKeys ppd8), sh_key ⟨IsSide.sm ok.lets (.inr m1), IsSide.sm ok.lets (.inr m2)⟩, sh_keys smC, rfl, _, rfl, ?_⟩
        rw [any_keys]
        have key : decide (uv = .non) = decide ((sg z1, sg z2) ∈ cutL L qs) := by
          refine decide_eq_decide.mpr ?_
          rw [cutL_mem m1 m2]
          constructor
          · intro e
            rcases huv with ⟨_, h⟩ | ⟨t, u, w', b', h1, _⟩
            · exact canB_true h
            · rw [e] at h1
              cases h1
          · intro h
            by_cases e : uv = .non
            · exact e
            · exfalso
              rw [canB_false (uncut_not ok sh huv e)] at h
              cases h
        rw [key, decide_eq_true (show V.bl (decide ((sg z1, sg z2) ∈ cutL L qs)) = V.bl (decide ((sg z1, sg z2) ∈ cutL L qs)) from rfl)]
        refine iteF ?_
        have k8 := cup_tk (K := K) hc sb8
        have hpa8 := k8 _ _ hpa
        have hP8 := hP.mono k8
        clear huv key et2
        rcases huv8 with ⟨rfl, cp⟩ | ⟨t, u, w', b', rfl, ht, lb, rb, wu, ⟨lu, hlu⟩, u20, run, bad⟩
        · -- all words may be cut here
          refine ⟨_, rfl, rfl, _, rfl, iteF ?_⟩
          refine ⟨_, rfl, _, rfl, pa, _, 0, .str L, rfl, rfl, hpa8, rfl, c, L, 3, rfl, hc8, ok.lets, by decide, by decide, fun H9 xw sb9 hc9 xok x1 x12 => ⟨1, rfl, ?_⟩⟩
          dsimp only [tNoPart]
          have k9 := cup_tk (K := K) hc8 sb9
          have xl := cutS_length xw (some 1) none
          have xwk := cutS_ok xok
          obtain ⟨x', ex⟩ : ∃ x', x' = cutS xw (some 1) none := ⟨_, rfl⟩
          rw [← ex] at xl xwk
          refine ⟨xw, rfl, sz (by omega), _, rfl, x', sg z1, by rw [ex], rfl, sz (by rw [sg_len]; omega), ?_⟩
          refine ⟨_, rfl, _, rfl, _, rfl, pa, _, 0, .str L, rfl, rfl, k9 _ _ hpa8, rfl, c, L, 3, rfl, hc9, ok.lets, by decide, by decide, fun H10 yw sb10 hc10 yok y1 y12 => ⟨1, rfl, ?_⟩⟩
          dsimp only [tNoPart]
          have k10 := k9.trans (cup_tk (K := K) hc9 sb10)
          have yl := cutS_length yw (some 1) none
          have ywk := cutS_ok yok
          obtain ⟨y', ey⟩ : ∃ y', y' = cutS yw (some 1) none := ⟨_, rfl⟩
          rw [← ey] at yl ywk
          refine ⟨yw, rfl, sz (by omega), sg z2, y', rfl, by rw [ey], sz (by rw [sg_len]; omega), _, _, rfl, ?_⟩
          refine ⟨_, rfl, _, rfl, _, rfl, sz (by show 2 ≤ 100000; decide), fun t11 g11 => ?_⟩
          have u11 := same_upd (o := .tup [V.str (x' ++ sg z1), V.str (sg z2 ++ y')]) g11
          have al : (x' ++ sg z1).length = x'.length + 1 := app_len _ _
          have al2 : (sg z2 ++ y').length = 1 + y'.length := app_len _ _
          have wok2 : WordOk L (sg z2) := fun d hd => by
            have : d = z2 := by simpa [sg] using hd
            rw [this]
            exact hz2
          refine ⟨.ref pa, t11, L, x' ++ sg z1, sg z2 ++ y', qs, rfl, (hP8.mono k10).mono (TK.same u11), ok, sh, SqT.of upd_same, word_snoc xwk m1, word_app wok2 ywk, by omega, by omega, by omega, by omega, fun H12 s12 => ⟨_, rfl, ?_⟩⟩
          have tk := tw_ok ok sh
          have re := run_re tk (letsOf x') (word_lets xwk) S0 tk.z
          have rx : (runW (tw qs) S0 (letsOf (x' ++ sg z1))).2 = (tw qs (runW (tw qs) S0 (letsOf x')).2 (sg z1)).2 := by
            rw [lets_app, lets_sg, runW_snoc]
          have cs := cut_shape (qs := qs) (w := sg z2 ++ y') rx
          rw [lets_app (sg z2), lets_sg] at cs
          have ca := cp _ re (letsOf y') (word_lets ywk)
          have ca : endsU (tw qs) (tw qs) (stC (tw qs) (tw qs (runW (tw qs) S0 (letsOf x')).2 (sg z1)).2 ([sg z2] ++ letsOf y')) = true := ca
          rw [ca] at cs
          rw [← cs]
          refine iteF ⟨_, _, _, _, _, _, _, _, rfl, ?_, ?_, ?_, ?_⟩
          · exact ((sb8.trans sb9).trans sb10).trans (Sb.of (u11.trans s12))
          · exact hc10.same (u11.trans s12)
          · exact (u11.trans s12) _ _ (sb10 _ _ (sb9 _ _ hda8 (by simpa using ndc)) (by simpa using ndc))
          · exact PrsAt.mono (k10.trans (TK.same (u11.trans s12))) ppd8
        · -- two words that show that not
          obtain ⟨ww, ⟨lw, hlw⟩, w100, bad'⟩ := bad
          have u1 : 1 ≤ u.length := by
            have := lets_len u
            rw [hlu, List.length_append] at this
            simp at this
            omega
          have w1 := (let_nil hlw).2
          refine ⟨_, rfl, rfl, _, rfl, ?_⟩
          rw [decide_eq_false (show ¬ V.ref t = V.non from fun z => nomatch z)]
          refine iteT ⟨_, rfl, _, _, .type "tuple", .type "tuple", true, rfl, .ty _, tyT ht, kit_ty (by decide +kernel), true, rfl, iteF ?_⟩
          refine ⟨_, rfl, t, _, rfl, .inr ht, rfl, _, rfl, ?_⟩
          rw [decide_eq_true (show V.int (([V.str u, V.str w'] : List V).length : Nat) = V.int 2 from rfl)]
          refine iteF ⟨_, rfl, t, rfl, ⟨_, ht⟩, fun D hD => ?_⟩
          refine lc_tup (K := K) (a := t) (xs := [.str u, .str w']) (fun i H' => Same H8 H' ∧ H' D = some (.lst [])) ⟨same_upd hD, upd_same⟩ (fun i H' _ x => TK.same x.1 _ _ ht) ?_ ?_
          · rintro i x H9 hi ⟨s9, hD9⟩
            obtain ⟨xs, rfl⟩ : ∃ xs, x = .str xs := by
              match i, hi with
              | 0, hi => exact ⟨u, (Option.some.inj hi).symm⟩
              | 1, hi => exact ⟨w', (Option.some.inj hi).symm⟩
            exact ⟨rfl, _, rfl, _, _, .type "str", .type "str", true, rfl, .ty _, .base (.str _), kit_ty (by decide +kernel), true, rfl, iteF ⟨s9, hD9⟩⟩
          rintro H9 ⟨s9, hD9⟩
          refine ⟨sz (by show 0 ≤ 100000; decide), fun e0 g0 => ?_⟩
          have v0 := same_upd (o := .lst []) g0
          refine ⟨.list [], .list [], .lst (SqL.of (v0 _ _ hD9)) .nil, .lst (SqL.of upd_same) .nil, by decide +kernel, by decide +kernel, false, rfl, iteF ?_⟩
          have s90 := s9.trans v0
          have ht9 := TK.same (K := K) s90 _ _ ht
          clear v0 g0 hD hD9 s9
          generalize (upd H9 e0 (.lst [])) = H10 at s90 ht9
          -- the ends of the words
          refine ⟨_, rfl, t, _, 0, .str u, rfl, rfl, ht9, rfl, 1, rfl, -1, rfl, ?_⟩
          dsimp only [tNoPart]
          refine ⟨u, rfl, sz (by omega), _, rfl, rfl, _, rfl, ?_⟩
          rw [cutS_last hlu, decide_eq_true (show V.str (sg z1) = V.str (sg z1) from rfl)]
          refine iteF ⟨_, rfl, t, _, 1, .str w', rfl, rfl, ht9, rfl, 1, rfl, w', rfl, sz (by omega), _, rfl, rfl, _, rfl, ?_⟩
          rw [cutS_first hlw, decide_eq_true (show V.str (sg z2) = V.str (sg z2) from rfl)]
          refine iteF ⟨_, rfl, t, _, 0, .str u, rfl, rfl, ht9, rfl, _, rfl, t, _, 1, .str w', rfl, rfl, ht9, rfl, u, w', rfl, rfl, sz (by omega), u ++ w', rfl, fun D hD => ?_⟩
          have wuw := word_app wu ww
          refine ⟨fun k m H' => m = (u ++ w').cps.size - k ∧ k ≤ (u ++ w').cps.size ∧ Same H10 H' ∧ H' D = some (.lst []), ⟨_, rfl, Nat.zero_le _, same_upd hD, upd_same⟩, ?_⟩
          rintro k m H11 ⟨rfl, hk, s11, hD11⟩
          by_cases lt : k < (u ++ w').cps.size
          · refine .inr ⟨lt, fun H' => Same H10 H' ∧ H' D = some (.lst []), fun H' nx => ⟨(u ++ w').cps.size - (k + 1), by omega, rfl, lt, nx⟩, fun z H12 yz => ?_⟩
            obtain ⟨rfl, ch, hch, rfl⟩ := yz
            have mch : ch ∈ L.cps.toList := by
              rw [← Array.getElem?_toList] at hch
              exact wuw ch (List.mem_of_getElem? hch)
            refine ⟨rfl, _, rfl, _, rfl, pa, _, 0, .str L, rfl, rfl, TK.same (s90.trans s11) _ _ hpa8, rfl, ch, L, rfl, rfl, _, rfl, ?_⟩
            rw [decide_eq_true mch]
            exact iteF ⟨s11, hD11⟩
          · have ek : k = (u ++ w').cps.size := by omega
            subst ek
            refine .inl ⟨Nat.le_refl _, sz (by show 0 ≤ 100000; decide), fun e0 g0 => ?_⟩
            have v0 := same_upd (o := .lst []) g0
            refine ⟨.list [], .list [], .lst (SqL.of (v0 _ _ hD11)) .nil, .lst (SqL.of upd_same) .nil, by decide +kernel, by decide +kernel, false, rfl, iteF ?_⟩
            have s12 := (s90.trans s11).trans v0
            generalize (upd H11 e0 (.lst [])) = H12 at s12
            refine ⟨_, rfl, _, rfl, .ref pa, t, L, u, w', qs, rfl, hP8.mono (TK.same s12), ok, sh, TK.same s12 _ _ ht, wu, ww, u1, w1, by omega, by omega, fun H13 s13 => ⟨_, rfl, ?_⟩⟩
            have cs := cut_shape (qs := qs) (w := w') run
            rw [bad'] at cs
            rw [← cs]
            have s813 := s12.trans s13
            exact iteF ⟨_, _, _, _, _, _, _, _, rfl, sb8.trans (Sb.of s813), hc8.same s813, s813 _ _ hda8, PrsAt.mono (TK.same s813) ppd8⟩
      · rintro σ H3 ⟨x4, x5, x6, x7, x8, x9, x10, x11, rfl, sb3, hc3, hda3, ppd3⟩
        exact q H3 sb3 hc3
end
end K24

namespace K24
open PySem PySem.Spec PyProof.Rows L2
/-! ### programs that are written out -/
def tE (qs : List Rule) : TT := fun a b => (ev S0 (fOf qs) 12 a b).getD ([], S0)
def knownE (L : Str) (qs : List Rule) : Bool := (S0 :: letsOf L).all fun a => (S0 :: letsOf L).all fun b => match ev S0 (fOf qs) 12 a b with
  | some r => decide (r.1.length ≤ 40)
  | none => false
theorem known_at {L : Str} {qs : List Rule} (k : knownE L qs = true) {a b : Str} (ha : IsSide L a) (hb : IsSide L b) : ∃ r, ot qs a b = some r ∧ tE qs a b = r ∧ r.1.length ≤ 40 := by
  have h := List.all_eq_true.mp (List.all_eq_true.mp k a (side_in ha)) b (side_in hb)
  cases e : ev S0 (fOf qs) 12 a b with
  | none =>
    rw [e] at h
    cases h
  | some r =>
    rw [e] at h
    exact ⟨r, ot_goes ⟨12, e⟩, by unfold tE; rw [e]; rfl, of_decide_eq_true h⟩
theorem short_known {L : Str} {qs : List Rule} (ok : ProgOk L qs) (k : knownE L qs = true) : ShortQ L qs := by
  intro i _
  have sides : ∀ p ∈ psB L qs i, IsSide L p.1 ∧ IsSide L p.2 := fun p hp => by
    obtain ⟨⟨s, wd⟩, hm, h2⟩ := List.mem_flatMap.mp hp
    obtain ⟨x, hx, rfl⟩ := List.mem_map.mp h2
    obtain ⟨j, hj⟩ := List.getElem?_of_mem hm
    refine ⟨((good_rows (qs := qs) (ls := letsOf L) ok lets_is i).each j s wd hj).1, ?_⟩
    have hx := (side_all.mp hx).1
    rcases List.mem_cons.mp hx with e | m
    · exact .inl e
    · exact .inr (lets_is _ m)
  refine ⟨fun ⟨p, hp, e⟩ => ?_, List.any_eq_false.mpr fun p hp => ?_⟩
  · obtain ⟨h1, h2⟩ := sides p hp
    obtain ⟨r, e1, _⟩ := known_at k h1 h2
    rw [e1] at e
    cases e
  · obtain ⟨h1, h2⟩ := sides p hp
    obtain ⟨r, e1, _, l⟩ := known_at k h1 h2
    unfold longB
    rw [e1]
    simp
    exact l
theorem tw_tE {L : Str} {qs : List Rule} (k : knownE L qs = true) {a b : Str} (ha : IsSide L a) (hb : IsSide L b) : tw qs a b = tE qs a b := by
  obtain ⟨r, e1, e2, _⟩ := known_at k ha hb
  rw [e2]
  unfold tw
  rw [e1]
  rfl

theorem run_tE {L : Str} {qs : List Rule} (ok : ProgOk L qs) (sh : ShortQ L qs) (k : knownE L qs = true) : ∀ (xs : List Str), (∀ y ∈ xs, IsLet L y) → ∀ s, ReB L qs s → runW (tw qs) s xs = runW (tE qs) s xs
  | [], _, _, _ => rfl
  | y :: ys, hy, s, hs => by
    have ly := hy y List.mem_cons_self
    have st := (tw_ok ok sh).st s y hs ly
    have ih := run_tE ok sh k ys (fun z hz => hy z (List.mem_cons_of_mem _ hz)) _ st.2
    have e := tw_tE k (reb_side ok hs) (.inr ly)
    show ((tw qs s y).1 ++ (runW (tw qs) (tw qs s y).2 ys).1, (runW (tw qs) (tw qs s y).2 ys).2) = ((tE qs s y).1 ++ (runW (tE qs) (tE qs s y).2 ys).1, (runW (tE qs) (tE qs s y).2 ys).2)
    rw [ih, e]
theorem ends_tE {L : Str} {qs : List Rule} (ok : ProgOk L qs) (sh : ShortQ L qs) (k : knownE L qs = true) {s : Str} (hs : ReB L qs s) {xs : List Str} (hx : ∀ y ∈ xs, IsLet L y) :
    endsU (tw qs) (tw qs) (stC (tw qs) s xs) = endsU (tE qs) (tE qs) (stC (tE qs) s xs) := by
  have tk := tw_ok ok sh
  have r1 := run_tE ok sh k xs hx s hs
  have r2 := run_tE ok sh k xs hx S0 tk.z
  have q1 := reb_side ok (run_re tk xs hx s hs)
  have q2 := reb_side ok (run_re tk xs hx S0 tk.z)
  have e := tw_tE k (reb_side ok hs) (.inl rfl)
  unfold endsU stC
  dsimp only
  rw [tw_tE k q1 (.inl rfl), tw_tE k q2 (.inl rfl), e, r1, r2]
def growS (T : TT) (ls : List Str) : Nat → List St2 → List St2
  | 0, q => q
  | n + 1, q => growS T ls n (q.foldl (fun r e => ls.foldl (fun r x => if nextU T T e x ∈ r then r else r ++ [nextU T T e x]) r) q)
def closedB (T : TT) (ls : List Str) (q : List St2) : Bool := q.all fun e => endsU T T e && ls.all fun x => decide (nextU T T e x ∈ q)
theorem closed_run {T : TT} {ls : List Str} {q : List St2} (h : closedB T ls q = true) : ∀ (l xs : List Str) (b : Str), (∀ x ∈ l, x ∈ ls) → stC T b xs ∈ q → endsU T T (stC T b (xs ++ l)) = true
  | [], xs, b, _, m => by
    rw [List.append_nil]
    exact (Bool.and_eq_true_iff.mp (List.all_eq_true.mp h _ m)).1
  | x :: l, xs, b, hx, m => by
    have e : xs ++ x :: l = (xs ++ [x]) ++ l := by simp
    rw [e]
    refine closed_run h l (xs ++ [x]) b (fun z hz => hx z (List.mem_cons_of_mem _ hz)) ?_
    rw [stC_snoc]
    exact of_decide_eq_true (List.all_eq_true.mp (Bool.and_eq_true_iff.mp (List.all_eq_true.mp h _ m)).2 x (hx x List.mem_cons_self))
def yesB (T : TT) (ls : List Str) (n : Nat) (x y : Str) : Bool := (S0 :: ls).all fun s => decide (stC T (T s x).2 [y] ∈ growS T ls n [stC T (T s x).2 [y]]) && closedB T ls (growS T ls n [stC T (T s x).2 [y]])
theorem can_yes {L : Str} {qs : List Rule} (ok : ProgOk L qs) (sh : ShortQ L qs) (k : knownE L qs = true) {n : Nat} {x y : Str} (hx : IsLet L x) (hy : IsLet L y) (h : yesB (tE qs) (letsOf L) n x y = true) : canB L qs x y = true := by
  refine canB_true fun s hs l hl => ?_
  have st := (tw_ok ok sh).st s x hs hx
  rw [ends_tE ok sh k st.2 (fun z hz => by
    rcases List.mem_cons.mp hz with e | m
    · rw [e]
      exact hy
    · exact hl z m)]
  rw [tw_tE k (reb_side ok hs) (.inr hx)]
  have g := Bool.and_eq_true_iff.mp (List.all_eq_true.mp h s (side_in (reb_side ok hs)))
  exact closed_run g.2 l [y] _ (fun z hz => let_in (hl z hz)) (of_decide_eq_true g.1)
theorem can_no {L : Str} {qs : List Rule} (ok : ProgOk L qs) (sh : ShortQ L qs) (k : knownE L qs = true) {x y : Str} (hx : IsLet L x) (hy : IsLet L y) (h : endsU (tE qs) (tE qs) (stC (tE qs) (tE qs S0 x).2 [y]) = false) : canB L qs x y = false := by
  refine canB_false fun c => ?_
  have z := (tw_ok ok sh).z
  have st := (tw_ok ok sh).st S0 x z hx
  have e := c S0 z [] (fun _ m => nomatch m)
  rw [ends_tE ok sh k st.2 (fun z hz => by
    rw [List.mem_singleton.mp hz]
    exact hy), tw_tE k (.inl rfl) (.inr hx), h] at e
  cases e
def cutE (T : TT) (L : Str) (n : Nat) : List (Str × Str) := (allP L).filter fun p => yesB T (letsOf L) n p.1 p.2
def sureB (T : TT) (L : Str) (n : Nat) : Bool := (allP L).all fun p => yesB T (letsOf L) n p.1 p.2 || !endsU T T (stC T (T S0 p.1).2 [p.2])
theorem cut_known {L : Str} {qs : List Rule} (ok : ProgOk L qs) (sh : ShortQ L qs) (k : knownE L qs = true) {n : Nat} (h : sureB (tE qs) L n = true) : cutL L qs = cutE (tE qs) L n := by
  unfold cutL cutE
  refine List.filter_congr fun p hp => ?_
  obtain ⟨h1, h2⟩ := allP_let hp
  cases y : yesB (tE qs) (letsOf L) n p.1 p.2 with
  | true => exact can_yes ok sh k h1 h2 y
  | false =>
    have g := List.all_eq_true.mp h p hp
    rw [y, Bool.false_or] at g
    exact can_no ok sh k h1 h2 (by simpa using g)
def kernQ : List Rule := [("a", "b", .kern 1)]
def sameQ : List Rule := [("a", "b", .kern 1), ("a", "", .kern 1)]
def idleQ : List Rule := [("a", "b", .put "a" false true 1)]
def edgeQ : List Rule := [("", "b", .kern 4)]
theorem kernOk : ProgOk "ab" kernQ := progB_ok (by decide +kernel)
theorem sameOk : ProgOk "ab" sameQ := progB_ok (by decide +kernel)
theorem idleOk : ProgOk "ab" idleQ := progB_ok (by decide +kernel)
theorem edgeOk : ProgOk "ab" edgeQ := progB_ok (by decide +kernel)
theorem kernK : knownE "ab" kernQ = true := by decide +kernel
theorem sameK : knownE "ab" sameQ = true := by decide +kernel
theorem idleK : knownE "ab" idleQ = true := by decide +kernel
theorem edgeK : knownE "ab" edgeQ = true := by decide +kernel
def kernC : List (Str × Str) := [("a", "a"), ("b", "a"), ("b", "b")]
def sameC : List (Str × Str) := [("a", "b"), ("b", "a"), ("b", "b")]
def idleC : List (Str × Str) := [("a", "a"), ("a", "b"), ("b", "a"), ("b", "b")]
def edgeC : List (Str × Str) := [("a", "a"), ("b", "a")]
theorem kernL : cutL "ab" kernQ = kernC := (cut_known (n := 4) kernOk (short_known kernOk kernK) kernK (by decide +kernel)).trans (by decide +kernel)
theorem sameL : cutL "ab" sameQ = sameC := (cut_known (n := 4) sameOk (short_known sameOk sameK) sameK (by decide +kernel)).trans (by decide +kernel)
theorem idleL : cutL "ab" idleQ = idleC := (cut_known (n := 4) idleOk (short_known idleOk idleK) idleK (by decide +kernel)).trans (by decide +kernel)
theorem edgeL : cutL "ab" edgeQ = edgeC := (cut_known (n := 4) edgeOk (short_known edgeOk edgeK) edgeK (by decide +kernel)).trans (by decide +kernel)
/-! ### rows and programs, as they are written -/
section
variable {K : PySem.W.Frag} {σ : L2.St} {H : Hp} {Q : VK}
def MakesR (K : PySem.W.Frag) (σ : L2.St) (H : Hp) (te : TE) (q : Rule) : Prop := ∀ H1 (R : VK), Same H H1 → (∀ H2 a, Same H1 H2 → RuleAt K H2 (.ref a) q → R (.ref a) H2) → te σ H1 R
def MakesRs (K : PySem.W.Frag) (σ : L2.St) (H : Hp) (te : TE) (qs : List Rule) : Prop := ∀ H1 (R : VK), Same H H1 → (∀ H2 a, Same H1 H2 → RowsAt K H2 (.ref a) qs → R (.ref a) H2) → te σ H1 R
theorem mkKern (x y : Str) (n : Int) : MakesR K σ H (tTup (tCons (tC (.str x)) (tCons (tC (.str y)) (tCons (tTup (tCons (tC (.str "kern")) (tCons (tC (.int n)) tNil))) tNil)))) (x, y, .kern n) := by
  intro H1 R s go
  refine ⟨sz (by show 2 ≤ 100000; decide), fun a1 g1 => ⟨sz (by show 3 ≤ 100000; decide), fun a2 g2 => ?_⟩⟩
  have u1 := same_upd (o := .tup [V.str "kern", V.int n]) g1
  have u2 := same_upd (o := .tup [V.str x, V.str y, V.ref a1]) g2
  exact go _ a2 (u1.trans u2) ⟨a2, a1, rfl, SqT.of upd_same, SqT.of (u2 _ _ upd_same)⟩
theorem mkPut (x y z : Str) (l r : Bool) (on : Nat) : MakesR K σ H (tTup (tCons (tC (.str x)) (tCons (tC (.str y)) (tCons (tTup (tCons (tC (.str "put")) (tCons (tC (.str z)) (tCons (tC (.int (b2 l))) (tCons (tC (.int (b2 r))) (tCons (tC (.int (on : Nat))) tNil)))))) tNil)))) (x, y, .put z l r on) := by
  intro H1 R s go
  refine ⟨sz (by show 5 ≤ 100000; decide), fun a1 g1 => ⟨sz (by show 3 ≤ 100000; decide), fun a2 g2 => ?_⟩⟩
  have u1 := same_upd (o := .tup [V.str "put", V.str z, V.int (b2 l), V.int (b2 r), V.int (on : Nat)]) g1
  have u2 := same_upd (o := .tup [V.str x, V.str y, V.ref a1]) g2
  exact go _ a2 (u1.trans u2) ⟨a2, a1, rfl, SqT.of upd_same, SqT.of (u2 _ _ upd_same)⟩
theorem mk0 : MakesRs K σ H (tTup tNil) [] := by
  intro H1 R s go
  refine ⟨sz (by show 0 ≤ 100000; decide), fun a g => ?_⟩
  exact go _ a (same_upd g) ⟨a, rfl, [], SqT.of upd_same, .nil⟩
theorem mk1 {te : TE} {q : Rule} (h : MakesR K σ H te q) : MakesRs K σ H (tTup (tCons te tNil)) [q] := by
  intro H1 R s go
  refine h H1 _ s fun H2 a s2 ha => ⟨sz (by show 1 ≤ 100000; decide), fun b g => ?_⟩
  have u := same_upd (o := .tup [V.ref a]) g
  exact go _ b (s2.trans u) ⟨b, rfl, _, SqT.of upd_same, .cons (ha.mono (TK.same u)) .nil⟩
theorem mk2 {t1 t2 : TE} {q1 q2 : Rule} (h1 : MakesR K σ H t1 q1) (h2 : MakesR K σ H t2 q2) : MakesRs K σ H (tTup (tCons t1 (tCons t2 tNil))) [q1, q2] := by
  intro H1 R s go
  refine h1 H1 _ s fun H2 a s2 ha => h2 H2 _ (s.trans s2) fun H3 b s3 hb => ⟨sz (by show 2 ≤ 100000; decide), fun c g => ?_⟩
  have u := same_upd (o := .tup [V.ref a, V.ref b]) g
  exact go _ c ((s2.trans s3).trans u) ⟨c, rfl, _, SqT.of upd_same, .cons (ha.mono (TK.same (s3.trans u))) (.cons (hb.mono (TK.same u)) .nil)⟩
theorem mk3 {t1 t2 t3 : TE} {q1 q2 q3 : Rule} (h1 : MakesR K σ H t1 q1) (h2 : MakesR K σ H t2 q2) (h3 : MakesR K σ H t3 q3) : MakesRs K σ H (tTup (tCons t1 (tCons t2 (tCons t3 tNil)))) [q1, q2, q3] := by
  intro H1 R s go
  refine h1 H1 _ s fun H2 a s2 ha => h2 H2 _ (s.trans s2) fun H3 b s3 hb => h3 H3 _ ((s.trans s2).trans s3) fun H4 d s4 hd => ⟨sz (by show 3 ≤ 100000; decide), fun c g => ?_⟩
  have u := same_upd (o := .tup [V.ref a, V.ref b, V.ref d]) g
  exact go _ c (((s2.trans s3).trans s4).trans u) ⟨c, rfl, _, SqT.of upd_same, .cons (ha.mono (TK.same ((s3.trans s4).trans u))) (.cons (hb.mono (TK.same (s4.trans u))) (.cons (hd.mono (TK.same u)) .nil))⟩
theorem mkVar {i : Nat} {a : Addr} {qs : List Rule} (h : σ[i]? = some (some (.ref a))) (r : RowsAt K H (.ref a) qs) : MakesRs K σ H (tVar i) qs := fun H1 R s go => ⟨_, h, go H1 a (Same.refl _) (r.mono (TK.same s))⟩
theorem mkCat {t1 t2 : TE} {q1 q2 : List Rule} (h1 : MakesRs K σ H t1 q1) (h2 : MakesRs K σ H t2 q2) (l : q1.length + q2.length ≤ 1000) : MakesRs K σ H (tOp (rCatA K) t1 t2) (q1 ++ q2) := by
  intro H1 R s go
  refine h1 H1 _ s fun H2 a s2 ha => h2 H2 _ (s.trans s2) fun H3 b s3 hb => ?_
  refine catRows (ha.mono (TK.same s3)) hb l fun H4 r s4 h4 => ?_
  obtain ⟨c, rfl, h5⟩ := h4
  exact go H4 c ((s2.trans s3).trans s4) ⟨c, rfl, h5⟩
def MakesP (K : PySem.W.Frag) (σ : L2.St) (H : Hp) (te : TE) (L : Str) (qs : List Rule) : Prop := ∀ H1 (R : VK), Same H H1 → (∀ H2 a, Same H1 H2 → ProgAt K H2 (.ref a) L qs → R (.ref a) H2) → te σ H1 R
theorem mkProg {te : TE} {L : Str} {qs : List Rule} (h : MakesRs K σ H te qs) : MakesP K σ H (tTup (tCons (tC (.str L)) (tCons te tNil))) L qs := by
  intro H1 R s go
  refine h H1 _ s fun H2 a s2 ha => ⟨sz (by show 2 ≤ 100000; decide), fun b g => ?_⟩
  have u := same_upd (o := .tup [V.str L, V.ref a]) g
  obtain ⟨a', e, hr⟩ := ha
  cases e
  exact go _ b (s2.trans u) ⟨b, a, rfl, SqT.of upd_same, hr.mono (TK.same u)⟩
theorem mkPVar {i : Nat} {v : V} {L : Str} {qs : List Rule} (h : σ[i]? = some (some v)) (r : ProgAt K H v L qs) : MakesP K σ H (tVar i) L qs := fun H1 R s go => by
  obtain ⟨a, b, rfl, h1, h2⟩ := r.mono (TK.same (K := K) s)
  exact ⟨_, h, go H1 a (Same.refl _) ⟨a, b, rfl, h1, h2⟩⟩
end
end K24

namespace K24
open PySem PySem.Spec PyProof.Rows L2
def spLaw (K : PySem.W.Frag) : Sp := fun vs H Q _ => ∃ (a : Addr) (ns : List Int), vs = [.ref a] ∧ SqL K H a (ns.map V.int) ∧ ns.length ≤ 63 ∧ ∀ H', Q (.bl true) H'
theorem tTest_op {r : R2} {ta tb : TE} {σ : L2.St} {H : Hp} {Q : Bool → Hp → Prop} : tTest (tOp r ta tb) σ H Q = ta σ H fun x H1 => tb σ H1 fun y H2 => r x y H2 fun v H' => ∃ k, v = .bl k ∧ Q k H' := rfl
def tPairs : List (Str × Str) → TA
  | [] => tNil
  | p :: ps => tCons (tTup (tCons (tC (.str p.1)) (tCons (tC (.str p.2)) tNil))) (tPairs ps)
section
variable {K : PySem.W.Frag} {σ : L2.St}
theorem pairsA : ∀ (S : List (Str × Str)) (H : Hp) (R : List V → Hp → Prop), (∀ H' ps, Same H H' → PrsAt K H' ps S → R (ps.map V.ref) H') → tPairs S σ H R
  | [], H, R, go => go H [] (Same.refl _) .nil
  | p :: S, H, R, go => by
    refine ⟨sz (by show 2 ≤ 100000; decide), fun a g => ?_⟩
    have u := same_upd (o := .tup [V.str p.1, V.str p.2]) g
    exact pairsA S _ _ fun H' ps s h => go H' (a :: ps) (u.trans s) (.cons (TK.same (K := K) s _ _ (SqT.of upd_same)) h)
theorem cutL_sm {L : Str} {qs : List Rule} (ok : ProgOk L qs) : ∀ s ∈ cutL L qs, SmP s := fun s hs => by
  obtain ⟨h1, h2⟩ := allP_let (List.mem_filter.mp hs).1
  exact ⟨IsSide.sm ok.lets (.inr h1), IsSide.sm ok.lets (.inr h2)⟩
theorem cutLst {te : TE} {L : Str} {qs : List Rule} {S : List (Str × Str)} {H : Hp} {R : V → V → VK → Hp → Prop} {Q : VK} (m : MakesP K σ H te L qs) (ok : ProgOk L qs) (sh : ShortQ L qs) (e : cutL L qs = S) (l : S.length ≤ 8)
    (go : ∀ H' a b, Same H H' → Dp K H' (.ref a) (.list (S.map keyD)) → Dp K H' (.ref b) (.list (S.map keyD)) → SeqAt.shaped (.list (S.map keyD)) = true → R (.ref a) (.ref b) Q H') :
    tCall (spCutPairs K) [] E0 (tCons te tNil) σ H fun x H1 => tLst (tPairs S) σ H1 fun y H2 => R x y Q H2 := by
  refine m H _ (Same.refl _) fun H1 a s1 h1 => ⟨.ref a, L, qs, rfl, h1, ok, sh, fun H2 b ps s2 hb pp => ?_⟩
  refine pairsA (K := K) S H2 _ fun H3 ps' s3 pp' => ⟨?_, fun d hd => ?_⟩
  · rw [List.length_map, Paired.length pp']
    exact sz (by omega)
  · have u := same_upd (o := .lst (ps'.map V.ref)) hd
    have s := s3.trans u
    rw [e] at pp
    have sm := cutL_sm ok (qs := qs)
    rw [e] at sm
    exact go _ b d ((s1.trans s2).trans s) (.lst (SqL.of (s _ _ hb)) (DpKeys (PrsAt.mono (TK.same s) pp))) (.lst (SqL.of upd_same) (DpKeys (PrsAt.mono (TK.same u) pp'))) (sh_keys sm)
theorem eqv_self (S : List (Str × Str)) : PyData.eqv (.list (S.map keyD)) (.list (S.map keyD)) = true := by
  show PyData.eqvAll _ _ = true
  exact eqv_keys S
theorem cutNe {te : TE} {L : Str} {qs : List Rule} {S : List (Str × Str)} {H : Hp} {Q : VK} (m : MakesP K σ H te L qs) (ok : ProgOk L qs) (sh : ShortQ L qs) (e : cutL L qs = S) (l : S.length ≤ 8)
    (go : ∀ H', Same H H' → Q (.bl false) H') : tCall (spCutPairs K) [] E0 (tCons te tNil) σ H fun x H1 => tLst (tPairs S) σ H1 fun y H2 => rNeD K x y H2 Q := by
  refine cutLst (R := fun x y Q H => rNeD K x y H Q) m ok sh e l fun H' a b s h1 h2 h3 => ⟨_, _, h1, h2, h3, h3, ?_⟩
  rw [eqv_self]
  exact go H' s
theorem cutEq {te : TE} {L : Str} {qs : List Rule} {S : List (Str × Str)} {H : Hp} {Q : VK} (m : MakesP K σ H te L qs) (ok : ProgOk L qs) (sh : ShortQ L qs) (e : cutL L qs = S) (l : S.length ≤ 8)
    (go : ∀ H', Same H H' → Q (.bl true) H') : tOp (rEqD K) (tCall (spCutPairs K) [] E0 (tCons te tNil)) (tLst (tPairs S)) σ H Q := by
  refine cutLst (R := fun x y Q H => rEqD K x y H Q) m ok sh e l fun H' a b s h1 h2 h3 => ⟨_, _, h1, h2, h3, h3, ?_⟩
  rw [eqv_self]
  exact go H' s
end
section
variable {P : Program} {w : World} {K : PySem.W.Frag} {mg : Str → Option Value} {base : Heap}
theorem scLaw : FnScope ["_law_script", "_law_cup_here", "_law_turn", "_law_kern", "_law_same", "_law_idle", "_law_edge"] ["_law_script"] (defScope sLaw) := ⟨rfl, rfl, rfl, by decide +kernel, rfl, by decide +kernel, by decide +kernel⟩
theorem ok_law {f c g p cp r u : Addr} {fd cd gd pd cpd rd ud : FuncData} (F : Fun K "law" "law" sLaw f fd) (T : Txt K mg)
    (C : FnOk P w K mg base CX0 1 c cd ["_law_script"] (spCup K)) (kC : PySem.W.keepIn K (.ref c) = true) (mC : mg "_law_cup" = some (.ref c)) (bC : Binds K cd ["_law_script"] [])
    (G : FnOk P w K mg base CX0 1 g gd ["_law_cup_here", "_law_many"] spRoll) (kG : PySem.W.keepIn K (.ref g) = true) (mG : mg "_law_roll" = some (.ref g)) (bG : Binds K gd ["_law_cup_here", "_law_many"] [])
    (Pr : FnOk P w K mg base CX0 80 p pd ["_law_cup_here", "_law_many", "_law_rows"] (spShort K)) (kP : PySem.W.keepIn K (.ref p) = true) (mP : mg "_law_short" = some (.ref p)) (bP : Binds K pd ["_law_cup_here", "_law_many", "_law_rows"] [])
    (N : FnOk P w K mg base CX0 81 cp cpd ["calm"] (spCutPairs K)) (kN : PySem.W.keepIn K (.ref cp) = true) (mN : mg "cut_pairs" = some (.ref cp)) (bN : Binds K cpd ["calm"] [])
    (R : FnOk P w K mg base CX0 82 r rd ["_law_cup_here", "_law_pairs_here"] (spRight K)) (kR : PySem.W.keepIn K (.ref r) = true) (mR : mg "_law_right" = some (.ref r)) (bR : Binds K rd ["_law_cup_here", "_law_pairs_here"] [])
    (U : FnOk P w K mg base CX0 81 u ud ["calm", "first", "second"] (spUncutWords K)) (kU : PySem.W.keepIn K (.ref u) = true) (mU : mg "uncut_words" = some (.ref u)) (bU : Binds K ud ["calm", "first", "second"] []) :
    FnOk P w K mg base CX0 83 f fd ["_law_script"] (spLaw K) := by
  refine F.ok scLaw (fun vs H Q E h => ?_) (fun cdv A outer s H vs Q E hr h => ?_)
  · obtain ⟨_, _, rfl, _⟩ := h
    rfl
  · obtain ⟨a, ns, rfl, hS, hl, q⟩ := h
    have nd := scLaw.nd
    have h1 : Room 1 _ := hr.mono (by decide)
    have h80 : Room 80 _ := hr.mono (by decide)
    have h81 : Room 81 _ := hr.mono (by decide)
    refine ⟨_, pss_cons (ps_set (i := 1) nd rfl (.inl rfl) (pe_call C h1 rfl mC kC bC .nil pass0 (pa_cons (pv 0) pa_nil)))
      (pss_cons (ps_for PassesOwn.never rfl (pi_range1 rfl T.range (pa_cons pe_int pa_nil)) (pg_name (i := 2) nd rfl (.inl rfl))
        (pss_one (ps_if (pt_not (pt_val (pe_call R hr rfl mR kR bR .nil pass0 (pa_cons (pv 1) (pa_cons
            (pe_call Pr h80 rfl mP kP bP .nil pass0 (pa_cons (pv 1) (pa_cons (pe_op op_add pe_int (pe_call G h1 rfl mG kG bG .nil pass0 (pa_cons (pv 1) (pa_cons pe_int pa_nil)))) (pa_cons (pe_op op_add pe_int (pe_op op_mul pe_int (pv 2))) pa_nil)))) pa_nil)))))
          (pss_one (ps_ret pe_bl)) pss_nil)))
      (pss_cons (ps_set (i := 3) nd rfl (.inl rfl) (pe_tup (pa_cons pe_str (pa_cons (pe_tup (pa_cons (pe_tup (pa_cons pe_str (pa_cons pe_str (pa_cons (pe_tup (pa_cons pe_str (pa_cons pe_int pa_nil))) pa_nil)))) pa_nil)) pa_nil))))
      (pss_cons (ps_if (PW.pt (pw_or (pt_cmpR (op_neD (hu64 hr)) (pe_call N h81 rfl mN kN bN .nil pass0 (pa_cons (pv 3) pa_nil))
            (pe_lst (pa_cons (pe_tup (pa_cons pe_str (pa_cons pe_str pa_nil))) (pa_cons (pe_tup (pa_cons pe_str (pa_cons pe_str pa_nil))) (pa_cons (pe_tup (pa_cons pe_str (pa_cons pe_str pa_nil))) pa_nil)))) (nomark _))
          (pw_or1 (pt_cmpR op_notN (pe_call U h81 rfl mU kU bU .nil pass0 (pa_cons (pv 3) (pa_cons pe_str (pa_cons pe_str pa_nil)))) pe_non (nomark _))))) (pss_one (ps_ret pe_bl)) pss_nil)
      (pss_cons (ps_set (i := 4) nd rfl (.inl rfl) (pe_tup (pa_cons pe_str (pa_cons (pe_tup (pa_cons (pe_tup (pa_cons pe_str (pa_cons pe_str (pa_cons (pe_tup (pa_cons pe_str (pa_cons pe_int pa_nil))) pa_nil))))
          (pa_cons (pe_tup (pa_cons pe_str (pa_cons pe_str (pa_cons (pe_tup (pa_cons pe_str (pa_cons pe_int pa_nil))) pa_nil)))) pa_nil))) pa_nil))))
      (pss_cons (ps_set (i := 5) nd rfl (.inl rfl) (pe_tup (pa_cons pe_str (pa_cons (pe_tup (pa_cons (pe_tup (pa_cons pe_str (pa_cons pe_str (pa_cons (pe_tup (pa_cons pe_str (pa_cons pe_str (pa_cons pe_int (pa_cons pe_int (pa_cons pe_int pa_nil)))))) pa_nil)))) pa_nil)) pa_nil))))
      (pss_cons (ps_if (PW.pt (pw_or (pt_cmpR (op_neD (hu64 hr)) (pe_call N h81 rfl mN kN bN .nil pass0 (pa_cons (pv 4) pa_nil))
            (pe_lst (pa_cons (pe_tup (pa_cons pe_str (pa_cons pe_str pa_nil))) (pa_cons (pe_tup (pa_cons pe_str (pa_cons pe_str pa_nil))) (pa_cons (pe_tup (pa_cons pe_str (pa_cons pe_str pa_nil))) pa_nil)))) (nomark _))
          (pw_or1 (pt_cmpR (op_neD (hu64 hr)) (pe_call N h81 rfl mN kN bN .nil pass0 (pa_cons (pv 5) pa_nil))
            (pe_lst (pa_cons (pe_tup (pa_cons pe_str (pa_cons pe_str pa_nil))) (pa_cons (pe_tup (pa_cons pe_str (pa_cons pe_str pa_nil))) (pa_cons (pe_tup (pa_cons pe_str (pa_cons pe_str pa_nil))) (pa_cons (pe_tup (pa_cons pe_str (pa_cons pe_str pa_nil))) pa_nil))))) (nomark _))))) (pss_one (ps_ret pe_bl)) pss_nil)
      (pss_cons (ps_set (i := 6) nd rfl (.inl rfl) (pe_tup (pa_cons pe_str (pa_cons (pe_tup (pa_cons (pe_tup (pa_cons pe_str (pa_cons pe_str (pa_cons (pe_tup (pa_cons pe_str (pa_cons pe_int pa_nil))) pa_nil)))) pa_nil)) pa_nil))))
      (pss_one (ps_ret (pe_and (pe_cmpR (op_eqD (hu64 hr)) (pe_call N h81 rfl mN kN bN .nil pass0 (pa_cons (pv 6) pa_nil))
            (pe_lst (pa_cons (pe_tup (pa_cons pe_str (pa_cons pe_str pa_nil))) (pa_cons (pe_tup (pa_cons pe_str (pa_cons pe_str pa_nil))) pa_nil))) (nomark _))
          (pe_and (pe_call R hr rfl mR kR bR .nil pass0 (pa_cons (pv 1) (pa_cons (pv 6) pa_nil)))
          (pe_one (pe_call R hr rfl mR kR bR .nil pass0 (pa_cons (pv 1) (pa_cons (pv 4) pa_nil))))))))))))))), ?_⟩
    refine ⟨_, rfl, a, ns, rfl, hS, hl, fun H1 c0 s1 hn1 hc1 => ?_⟩
    refine ⟨3, rfl, by decide, by decide, for_range (lo := 0) (n := 3) (fun i σ H' => ∃ (x2 : Option V), σ = [some (.ref a), some (.ref c0), x2, none, none, none, none] ∧ CupAt H' c0)
      ⟨none, rfl, hc1⟩ ?_ ?_⟩
    · rintro i σ H2 hi ⟨x2, rfl, hc2⟩
      refine ⟨_, rfl, _, rfl, _, rfl, c0, 3, rfl, hc2, by decide, by decide, fun H3 r sb3 hc3 r0 r1 => ?_⟩
      have ib : ((i : Nat) : Int) < 3 := by omega
      refine ⟨1, r, rfl, rfl, _, rfl, 4, 0 + (i : Nat), rfl, rfl, .inl ⟨by decide, by omega⟩, 3, _, rfl, rfl, ?_⟩
      refine ⟨c0, 1 + r, _, rfl, hc3, by omega, by omega, by omega, by omega, fun H4 v L qs sb4 hc4 hP ok sh => ?_⟩
      refine ⟨c0, v, L, qs, rfl, hc4, hP, ok, sh, fun H5 sb5 hc5 => ⟨_, rfl, iteF ?_⟩⟩
      exact ⟨_, rfl, hc5⟩
    · rintro σ H2 ⟨x2, rfl, hc2⟩
      clear hc1 hS hl hn1 s1
      have shK := short_known kernOk kernK
      have shS := short_known sameOk sameK
      have shI := short_known idleOk idleK
      have shE := short_known edgeOk edgeK
      -- kern
      dsimp only [tSeq, tAsg]
      refine mkProg (K := K) (H := H2) (L := "ab") (mk1 (mkKern "a" "b" 1)) H2 _ (Same.refl _) fun H3 a3 s3 p3 => ?_
      dsimp only [gName, tSeq, tIfS, tOr, tTest_op]
      refine cutNe (K := K) (S := kernC) (mkPVar rfl p3) kernOk shK kernL (by decide) fun H4 s4 => ⟨false, rfl, iteF ?_⟩
      have p4 := p3.mono (TK.same (K := K) s4)
      refine ⟨_, rfl, .ref a3, "ab", "b", "a", kernQ, rfl, p4, kernOk, shK, ?_, ?_, fun H5 v5 s5 uv => ?_⟩
      · exact ⟨98, by decide +kernel, by decide +kernel⟩
      · exact ⟨97, by decide +kernel, by decide +kernel⟩
      have v5n : v5 = .non := by
        by_cases n : v5 = .non
        · exact n
        · refine absurd ?_ (uncut_not kernOk shK uv n)
          have la : IsLet "ab" "a" := ⟨97, by decide +kernel, by decide +kernel⟩
          have lb : IsLet "ab" "b" := ⟨98, by decide +kernel, by decide +kernel⟩
          have m : (("b" : Str), ("a" : Str)) ∈ cutL "ab" kernQ := by
            rw [kernL]
            decide +kernel
          have := (cutL_mem lb la).mp m
          by_cases cc : CutP "ab" kernQ "b" "a"
          · exact cc
          · rw [canB_false cc] at this
            cases this
      subst v5n
      refine ⟨rfl, _, rfl, iteF ?_⟩
      have hc5 := (hc2.same ((s3.trans s4).trans s5))
      clear p3 p4 s3 s4 s5 uv
      -- same, idle
      dsimp only [tNext, tSeq, tAsg]
      refine mkProg (K := K) (H := H5) (L := "ab") (mk2 (mkKern "a" "b" 1) (mkKern "a" "" 1)) H5 _ (Same.refl _) fun H6 a6 s6 p6 => ?_
      dsimp only [gName, tSeq, tAsg]
      refine mkProg (K := K) (H := H6) (L := "ab") (mk1 (mkPut "a" "b" "a" false true 1)) H6 _ (Same.refl _) fun H7 a7 s7 p7 => ?_
      have p67 := p6.mono (TK.same (K := K) s7)
      dsimp only [gName, tSeq, tIfS, tOr, tTest_op]
      refine cutNe (K := K) (S := sameC) (mkPVar rfl p67) sameOk shS sameL (by decide) fun H8 s8 => ⟨false, rfl, iteF ?_⟩
      refine cutNe (K := K) (S := idleC) (mkPVar rfl (p7.mono (TK.same (K := K) s8))) idleOk shI idleL (by decide) fun H9 s9 => ⟨false, rfl, iteF ?_⟩
      have p69 := p67.mono (TK.same (K := K) (s8.trans s9))
      have hc9 := ((hc5.same (s6.trans s7)).same (s8.trans s9))
      clear p6 p67 p7 s6 s7 s8 s9
      -- edge
      dsimp only [tNext, tSeq, tAsg]
      refine mkProg (K := K) (H := H9) (L := "ab") (mk1 (mkKern "" "b" 4)) H9 _ (Same.refl _) fun H10 a10 s10 p10 => ?_
      have p610 := p69.mono (TK.same (K := K) s10)
      dsimp only [gName, tSeq, tRet, tAndV]
      refine cutEq (K := K) (S := edgeC) (mkPVar rfl p10) edgeOk shE edgeL (by decide) fun H11 s11 => ⟨true, rfl, iteT ?_⟩
      have hc11 := (hc9.same s10).same s11
      refine ⟨_, rfl, _, rfl, c0, .ref a10, "ab", edgeQ, rfl, hc11, p10.mono (TK.same s11), edgeOk, shE, fun H12 sb12 hc12 => ⟨true, rfl, iteT ?_⟩⟩
      refine ⟨_, rfl, _, rfl, c0, .ref a6, "ab", sameQ, rfl, hc12, (p610.mono (TK.same s11)).mono (cup_tk (K := K) hc11 sb12), sameOk, shS, fun H13 sb13 hc13 => ?_⟩
      exact q H13
end
end K24

namespace K24
open PySem PySem.Spec PyProof.Rows L2
/-! ### the whole -/
theorem all_mk {l : PySem.W.OpenLaw} {w : World} {K : PySem.W.Frag} {h : Heap} {mg : Str → Option Value} {fa C B D  f_is f_wi f_as f_to f_jo f_pi f_oc f_wk f_lb f_rs f_ws f_me f_lo f_al f_pu f_de f_si f_ro f_ip f_ne f_tg f_ns f_wo f_bi f_bb f_be f_nl f_ci f_ce f_cp f_cs f_ut f_ct f_uw f_cu f_rl f_sm f_bx f_tl f_ca f_co f_ld f_bh f_lg f_en f_nx f_pt f_cc f_wh f_iu f_wd f_dd f_pp f_el f_il f_ih f_sh f_ri f_la : Addr} (X : K.In h) (G : h.Ns mainGlobals mg) (hfa : mg "law" = some (.ref fa))
    {od_is an_is od_wi an_wi od_as an_as od_to an_to od_jo an_jo od_pi an_pi od_oc an_oc od_wk an_wk od_lb an_lb od_rs an_rs od_ws an_ws od_me an_me od_lo an_lo od_al an_al od_pu an_pu od_de an_de od_si an_si od_ro an_ro od_ip an_ip od_ne an_ne od_tg an_tg od_ns an_ns od_wo an_wo od_bi an_bi od_bb an_bb od_be an_be od_nl an_nl od_ci an_ci od_ce an_ce od_cp an_cp od_cs an_cs od_ut an_ut od_ct an_ct od_uw an_uw od_cu an_cu od_rl an_rl od_sm an_sm od_bx an_bx od_tl an_tl od_ca an_ca od_co an_co od_ld an_ld od_bh an_bh od_lg an_lg od_en an_en od_nx an_nx od_pt an_pt od_cc an_cc od_wh an_wh od_iu an_iu od_wd an_wd od_dd an_dd od_pp an_pp od_el an_el od_il an_il od_ih an_ih od_sh an_sh od_ri an_ri od_la an_la  : Option Addr} {sl_is sl_wi sl_as sl_to sl_jo sl_pi sl_oc sl_wk sl_lb sl_rs sl_ws sl_me sl_lo sl_al sl_pu sl_de sl_si sl_ro sl_ip sl_ne sl_tg sl_ns sl_wo sl_bi sl_bb sl_be sl_nl sl_ci sl_ce sl_cp sl_cs sl_ut sl_ct sl_uw sl_cu sl_rl sl_sm sl_bx sl_tl sl_ca sl_co sl_ld sl_bh sl_lg sl_en sl_nx sl_pt sl_cc sl_wh sl_iu sl_wd sl_dd sl_pp sl_el sl_il sl_ih sl_sh sl_ri sl_la  : Array (Option Value)}
    {oc_is kV_is dc_is pm_is cd_is ct_is oc_wi kV_wi dc_wi pm_wi cd_wi ct_wi oc_as kV_as dc_as pm_as cd_as ct_as oc_to kV_to dc_to pm_to cd_to ct_to oc_jo kV_jo dc_jo pm_jo cd_jo ct_jo oc_pi kV_pi dc_pi pm_pi cd_pi ct_pi oc_oc kV_oc dc_oc pm_oc cd_oc ct_oc oc_wk kV_wk dc_wk pm_wk cd_wk ct_wk oc_lb kV_lb dc_lb pm_lb cd_lb ct_lb oc_rs kV_rs dc_rs pm_rs cd_rs ct_rs oc_ws kV_ws dc_ws pm_ws cd_ws ct_ws oc_me kV_me dc_me pm_me cd_me ct_me oc_lo kV_lo dc_lo pm_lo cd_lo ct_lo oc_al kV_al dc_al pm_al cd_al ct_al oc_pu kV_pu dc_pu pm_pu cd_pu ct_pu oc_de kV_de dc_de pm_de cd_de ct_de oc_si kV_si dc_si pm_si cd_si ct_si oc_ro kV_ro dc_ro pm_ro cd_ro ct_ro oc_ip kV_ip dc_ip pm_ip cd_ip ct_ip oc_ne kV_ne dc_ne pm_ne cd_ne ct_ne oc_tg kV_tg dc_tg pm_tg cd_tg ct_tg oc_ns kV_ns dc_ns pm_ns cd_ns ct_ns oc_wo kV_wo dc_wo pm_wo cd_wo ct_wo oc_bi kV_bi dc_bi pm_bi cd_bi ct_bi oc_bb kV_bb dc_bb pm_bb cd_bb ct_bb oc_be kV_be dc_be pm_be cd_be ct_be oc_nl kV_nl dc_nl pm_nl cd_nl ct_nl oc_ci kV_ci dc_ci pm_ci cd_ci ct_ci oc_ce kV_ce dc_ce pm_ce cd_ce ct_ce oc_cp kV_cp dc_cp pm_cp cd_cp ct_cp oc_cs kV_cs dc_cs pm_cs cd_cs ct_cs oc_ut kV_ut dc_ut pm_ut cd_ut ct_ut oc_ct kV_ct dc_ct pm_ct cd_ct ct_ct oc_uw kV_uw dc_uw pm_uw cd_uw ct_uw oc_cu kV_cu dc_cu pm_cu cd_cu ct_cu oc_rl kV_rl dc_rl pm_rl cd_rl ct_rl oc_sm kV_sm dc_sm pm_sm cd_sm ct_sm oc_bx kV_bx dc_bx pm_bx cd_bx ct_bx oc_tl kV_tl dc_tl pm_tl cd_tl ct_tl oc_ca kV_ca dc_ca pm_ca cd_ca ct_ca oc_co kV_co dc_co pm_co cd_co ct_co oc_ld kV_ld dc_ld pm_ld cd_ld ct_ld oc_bh kV_bh dc_bh pm_bh cd_bh ct_bh oc_lg kV_lg dc_lg pm_lg cd_lg ct_lg oc_en kV_en dc_en pm_en cd_en ct_en oc_nx kV_nx dc_nx pm_nx cd_nx ct_nx oc_pt kV_pt dc_pt pm_pt cd_pt ct_pt oc_cc kV_cc dc_cc pm_cc cd_cc ct_cc oc_wh kV_wh dc_wh pm_wh cd_wh ct_wh oc_iu kV_iu dc_iu pm_iu cd_iu ct_iu oc_wd kV_wd dc_wd pm_wd cd_wd ct_wd oc_dd kV_dd dc_dd pm_dd cd_dd ct_dd oc_pp kV_pp dc_pp pm_pp cd_pp ct_pp oc_el kV_el dc_el pm_el cd_el ct_el oc_il kV_il dc_il pm_il cd_il ct_il oc_ih kV_ih dc_ih pm_ih cd_ih ct_ih oc_sh kV_sh dc_sh pm_sh cd_sh ct_sh oc_ri kV_ri dc_ri pm_ri cd_ri ct_ri oc_la kV_la dc_la pm_la cd_la ct_la : Value}
    {tA tL tR tK tS tG : Tok}
    (a_is : PySem.W.nsIn K mainGlobals "is_integer" = some (some (.ref f_is)))
    (l_is : K.lookup f_is = some ⟨oc_is, od_is, .func (PySem.W.fnOf "is_integer" "is_integer" (defArgs sIsInt) (defBody sIsInt) (defScope sIsInt) .none kV_is dc_is pm_is an_is cd_is ct_is), sl_is⟩)
    (c_is : PySem.W.codeIn K cd_is "is_integer" = true)
    (k_is : PySem.W.keepIn K (.ref f_is) = true)
    (a_wi : PySem.W.nsIn K mainGlobals "is_integer_within" = some (some (.ref f_wi)))
    (l_wi : K.lookup f_wi = some ⟨oc_wi, od_wi, .func (PySem.W.fnOf "is_integer_within" "is_integer_within" (defArgs sWithin) (defBody sWithin) (defScope sWithin) .none kV_wi dc_wi pm_wi an_wi cd_wi ct_wi), sl_wi⟩)
    (c_wi : PySem.W.codeIn K cd_wi "is_integer_within" = true)
    (k_wi : PySem.W.keepIn K (.ref f_wi) = true)
    (a_as : PySem.W.nsIn K mainGlobals "are_ascending" = some (some (.ref f_as)))
    (l_as : K.lookup f_as = some ⟨oc_as, od_as, .func (PySem.W.fnOf "are_ascending" "are_ascending" (defArgs sAsc) (defBody sAsc) (defScope sAsc) .none kV_as dc_as pm_as an_as cd_as ct_as), sl_as⟩)
    (c_as : PySem.W.codeIn K cd_as "are_ascending" = true)
    (k_as : PySem.W.keepIn K (.ref f_as) = true)
    (a_to : PySem.W.nsIn K mainGlobals "told_of" = some (some (.ref f_to)))
    (l_to : K.lookup f_to = some ⟨oc_to, od_to, .func (PySem.W.fnOf "told_of" "told_of" (defArgs sToldOf) (defBody sToldOf) (defScope sToldOf) .none kV_to dc_to pm_to an_to cd_to ct_to), sl_to⟩)
    (c_to : PySem.W.codeIn K cd_to "told_of" = true)
    (k_to : PySem.W.keepIn K (.ref f_to) = true)
    (a_jo : PySem.W.nsIn K mainGlobals "joined" = some (some (.ref f_jo)))
    (l_jo : K.lookup f_jo = some ⟨oc_jo, od_jo, .func (PySem.W.fnOf "joined" "joined" (defArgs sJoined) (defBody sJoined) (defScope sJoined) .none kV_jo dc_jo pm_jo an_jo cd_jo ct_jo), sl_jo⟩)
    (c_jo : PySem.W.codeIn K cd_jo "joined" = true)
    (k_jo : PySem.W.keepIn K (.ref f_jo) = true)
    (a_pi : PySem.W.findIn K (.ref C) "__init__" = some (some (.ref f_pi)))
    (i_pi : PySem.W.isFn K (.ref f_pi) = true)
    (l_pi : K.lookup f_pi = some ⟨oc_pi, od_pi, .func (PySem.W.fnOf "__init__" "PairWork.__init__" (defArgs sPInit) (defBody sPInit) (defScope sPInit) .none kV_pi dc_pi pm_pi an_pi cd_pi ct_pi), sl_pi⟩)
    (c_pi : PySem.W.codeIn K cd_pi "PairWork.__init__" = true)
    (k_pi : PySem.W.keepIn K (.ref f_pi) = true)
    (a_oc : PySem.W.findIn K (.ref C) "outcome" = some (some (.ref f_oc)))
    (i_oc : PySem.W.isFn K (.ref f_oc) = true)
    (l_oc : K.lookup f_oc = some ⟨oc_oc, od_oc, .func (PySem.W.fnOf "outcome" "PairWork.outcome" (defArgs sOutcome) (defBody sOutcome) (defScope sOutcome) .none kV_oc dc_oc pm_oc an_oc cd_oc ct_oc), sl_oc⟩)
    (c_oc : PySem.W.codeIn K cd_oc "PairWork.outcome" = true)
    (k_oc : PySem.W.keepIn K (.ref f_oc) = true)
    (a_wk : PySem.W.findIn K (.ref C) "worked" = some (some (.ref f_wk)))
    (i_wk : PySem.W.isFn K (.ref f_wk) = true)
    (l_wk : K.lookup f_wk = some ⟨oc_wk, od_wk, .func (PySem.W.fnOf "worked" "PairWork.worked" (defArgs sWorked) (defBody sWorked) (defScope sWorked) .none kV_wk dc_wk pm_wk an_wk cd_wk ct_wk), sl_wk⟩)
    (c_wk : PySem.W.codeIn K cd_wk "PairWork.worked" = true)
    (k_wk : PySem.W.keepIn K (.ref f_wk) = true)
    (a_lb : PySem.W.findIn K (.ref C) "left_behind" = some (some (.ref f_lb)))
    (i_lb : PySem.W.isFn K (.ref f_lb) = true)
    (l_lb : K.lookup f_lb = some ⟨oc_lb, od_lb, .func (PySem.W.fnOf "left_behind" "PairWork.left_behind" (defArgs sLeft) (defBody sLeft) (defScope sLeft) .none kV_lb dc_lb pm_lb an_lb cd_lb ct_lb), sl_lb⟩)
    (c_lb : PySem.W.codeIn K cd_lb "PairWork.left_behind" = true)
    (k_lb : PySem.W.keepIn K (.ref f_lb) = true)
    (a_rs : PySem.W.findIn K (.ref C) "right_sides" = some (some (.ref f_rs)))
    (i_rs : PySem.W.isFn K (.ref f_rs) = true)
    (l_rs : K.lookup f_rs = some ⟨oc_rs, od_rs, .func (PySem.W.fnOf "right_sides" "PairWork.right_sides" (defArgs sSides) (defBody sSides) (defScope sSides) .none kV_rs dc_rs pm_rs an_rs cd_rs ct_rs), sl_rs⟩)
    (c_rs : PySem.W.codeIn K cd_rs "PairWork.right_sides" = true)
    (k_rs : PySem.W.keepIn K (.ref f_rs) = true)
    (a_ws : PySem.W.nsIn K mainGlobals "words_to_standings" = some (some (.ref f_ws)))
    (l_ws : K.lookup f_ws = some ⟨oc_ws, od_ws, .func (PySem.W.fnOf "words_to_standings" "words_to_standings" (defArgs sStand) (defBody sStand) (defScope sStand) .none kV_ws dc_ws pm_ws an_ws cd_ws ct_ws), sl_ws⟩)
    (c_ws : PySem.W.codeIn K cd_ws "words_to_standings" = true)
    (k_ws : PySem.W.keepIn K (.ref f_ws) = true)
    (a_me : PySem.W.nsIn K mainGlobals "pairs_that_words_meet" = some (some (.ref f_me)))
    (l_me : K.lookup f_me = some ⟨oc_me, od_me, .func (PySem.W.fnOf "pairs_that_words_meet" "pairs_that_words_meet" (defArgs sMeet) (defBody sMeet) (defScope sMeet) .none kV_me dc_me pm_me an_me cd_me ct_me), sl_me⟩)
    (c_me : PySem.W.codeIn K cd_me "pairs_that_words_meet" = true)
    (k_me : PySem.W.keepIn K (.ref f_me) = true)
    (a_lo : PySem.W.nsIn K mainGlobals "is_letter_of" = some (some (.ref f_lo)))
    (l_lo : K.lookup f_lo = some ⟨oc_lo, od_lo, .func (PySem.W.fnOf "is_letter_of" "is_letter_of" (defArgs sIsLetterOf) (defBody sIsLetterOf) (defScope sIsLetterOf) .none kV_lo dc_lo pm_lo an_lo cd_lo ct_lo), sl_lo⟩)
    (c_lo : PySem.W.codeIn K cd_lo "is_letter_of" = true)
    (k_lo : PySem.W.keepIn K (.ref f_lo) = true)
    (a_al : PySem.W.nsIn K mainGlobals "are_letters" = some (some (.ref f_al)))
    (l_al : K.lookup f_al = some ⟨oc_al, od_al, .func (PySem.W.fnOf "are_letters" "are_letters" (defArgs sAreLetters) (defBody sAreLetters) (defScope sAreLetters) .none kV_al dc_al pm_al an_al cd_al ct_al), sl_al⟩)
    (c_al : PySem.W.codeIn K cd_al "are_letters" = true)
    (k_al : PySem.W.keepIn K (.ref f_al) = true)
    (a_pu : PySem.W.nsIn K mainGlobals "is_put" = some (some (.ref f_pu)))
    (l_pu : K.lookup f_pu = some ⟨oc_pu, od_pu, .func (PySem.W.fnOf "is_put" "is_put" (defArgs sIsPut) (defBody sIsPut) (defScope sIsPut) .none kV_pu dc_pu pm_pu an_pu cd_pu ct_pu), sl_pu⟩)
    (c_pu : PySem.W.codeIn K cd_pu "is_put" = true)
    (k_pu : PySem.W.keepIn K (.ref f_pu) = true)
    (a_de : PySem.W.nsIn K mainGlobals "is_deed_between" = some (some (.ref f_de)))
    (l_de : K.lookup f_de = some ⟨oc_de, od_de, .func (PySem.W.fnOf "is_deed_between" "is_deed_between" (defArgs sIsDeed) (defBody sIsDeed) (defScope sIsDeed) .none kV_de dc_de pm_de an_de cd_de ct_de), sl_de⟩)
    (c_de : PySem.W.codeIn K cd_de "is_deed_between" = true)
    (k_de : PySem.W.keepIn K (.ref f_de) = true)
    (a_si : PySem.W.nsIn K mainGlobals "is_side" = some (some (.ref f_si)))
    (l_si : K.lookup f_si = some ⟨oc_si, od_si, .func (PySem.W.fnOf "is_side" "is_side" (defArgs sIsSide) (defBody sIsSide) (defScope sIsSide) .none kV_si dc_si pm_si an_si cd_si ct_si), sl_si⟩)
    (c_si : PySem.W.codeIn K cd_si "is_side" = true)
    (k_si : PySem.W.keepIn K (.ref f_si) = true)
    (a_ro : PySem.W.nsIn K mainGlobals "is_program_row" = some (some (.ref f_ro)))
    (l_ro : K.lookup f_ro = some ⟨oc_ro, od_ro, .func (PySem.W.fnOf "is_program_row" "is_program_row" (defArgs sIsRow) (defBody sIsRow) (defScope sIsRow) .none kV_ro dc_ro pm_ro an_ro cd_ro ct_ro), sl_ro⟩)
    (c_ro : PySem.W.codeIn K cd_ro "is_program_row" = true)
    (k_ro : PySem.W.keepIn K (.ref f_ro) = true)
    (a_ip : PySem.W.nsIn K mainGlobals "is_pairs" = some (some (.ref f_ip)))
    (l_ip : K.lookup f_ip = some ⟨oc_ip, od_ip, .func (PySem.W.fnOf "is_pairs" "is_pairs" (defArgs sIsPairs) (defBody sIsPairs) (defScope sIsPairs) .none kV_ip dc_ip pm_ip an_ip cd_ip ct_ip), sl_ip⟩)
    (c_ip : PySem.W.codeIn K cd_ip "is_pairs" = true)
    (k_ip : PySem.W.keepIn K (.ref f_ip) = true)
    (a_ne : PySem.W.nsIn K mainGlobals "need_pairs" = some (some (.ref f_ne)))
    (l_ne : K.lookup f_ne = some ⟨oc_ne, od_ne, .func (PySem.W.fnOf "need_pairs" "need_pairs" (defArgs sNeed) (defBody sNeed) (defScope sNeed) .none kV_ne dc_ne pm_ne an_ne cd_ne ct_ne), sl_ne⟩)
    (c_ne : PySem.W.codeIn K cd_ne "need_pairs" = true)
    (k_ne : PySem.W.keepIn K (.ref f_ne) = true)
    (a_tg : PySem.W.nsIn K mainGlobals "is_too_long" = some (some (.ref f_tg)))
    (l_tg : K.lookup f_tg = some ⟨oc_tg, od_tg, .func (PySem.W.fnOf "is_too_long" "is_too_long" (defArgs sTooLong) (defBody sTooLong) (defScope sTooLong) .none kV_tg dc_tg pm_tg an_tg cd_tg ct_tg), sl_tg⟩)
    (c_tg : PySem.W.codeIn K cd_tg "is_too_long" = true)
    (k_tg : PySem.W.keepIn K (.ref f_tg) = true)
    (a_ns : PySem.W.nsIn K mainGlobals "need_short" = some (some (.ref f_ns)))
    (l_ns : K.lookup f_ns = some ⟨oc_ns, od_ns, .func (PySem.W.fnOf "need_short" "need_short" (defArgs sNeedShort) (defBody sNeedShort) (defScope sNeedShort) .none kV_ns dc_ns pm_ns an_ns cd_ns ct_ns), sl_ns⟩)
    (c_ns : PySem.W.codeIn K cd_ns "need_short" = true)
    (k_ns : PySem.W.keepIn K (.ref f_ns) = true)
    (a_wo : PySem.W.nsIn K mainGlobals "without_common" = some (some (.ref f_wo)))
    (l_wo : K.lookup f_wo = some ⟨oc_wo, od_wo, .func (PySem.W.fnOf "without_common" "without_common" (defArgs sWithout) (defBody sWithout) (defScope sWithout) .none kV_wo dc_wo pm_wo an_wo cd_wo ct_wo), sl_wo⟩)
    (c_wo : PySem.W.codeIn K cd_wo "without_common" = true)
    (k_wo : PySem.W.keepIn K (.ref f_wo) = true)
    (a_bi : PySem.W.findIn K (.ref B) "__init__" = some (some (.ref f_bi)))
    (i_bi : PySem.W.isFn K (.ref f_bi) = true)
    (l_bi : K.lookup f_bi = some ⟨oc_bi, od_bi, .func (PySem.W.fnOf "__init__" "Both.__init__" (defArgs sBInit) (defBody sBInit) (defScope sBInit) .none kV_bi dc_bi pm_bi an_bi cd_bi ct_bi), sl_bi⟩)
    (c_bi : PySem.W.codeIn K cd_bi "Both.__init__" = true)
    (k_bi : PySem.W.keepIn K (.ref f_bi) = true)
    (a_bb : PySem.W.findIn K (.ref B) "behind" = some (some (.ref f_bb)))
    (i_bb : PySem.W.isFn K (.ref f_bb) = true)
    (l_bb : K.lookup f_bb = some ⟨oc_bb, od_bb, .func (PySem.W.fnOf "behind" "Both.behind" (defArgs sBBehind) (defBody sBBehind) (defScope sBBehind) .none kV_bb dc_bb pm_bb an_bb cd_bb ct_bb), sl_bb⟩)
    (c_bb : PySem.W.codeIn K cd_bb "Both.behind" = true)
    (k_bb : PySem.W.keepIn K (.ref f_bb) = true)
    (a_be : PySem.W.findIn K (.ref B) "do_ends_agree" = some (some (.ref f_be)))
    (i_be : PySem.W.isFn K (.ref f_be) = true)
    (l_be : K.lookup f_be = some ⟨oc_be, od_be, .func (PySem.W.fnOf "do_ends_agree" "Both.do_ends_agree" (defArgs sBEnds) (defBody sBEnds) (defScope sBEnds) .none kV_be dc_be pm_be an_be cd_be ct_be), sl_be⟩)
    (c_be : PySem.W.codeIn K cd_be "Both.do_ends_agree" = true)
    (k_be : PySem.W.keepIn K (.ref f_be) = true)
    (a_nl : PySem.W.nsIn K mainGlobals "need_letter" = some (some (.ref f_nl)))
    (l_nl : K.lookup f_nl = some ⟨oc_nl, od_nl, .func (PySem.W.fnOf "need_letter" "need_letter" (defArgs sNeedLetter) (defBody sNeedLetter) (defScope sNeedLetter) .none kV_nl dc_nl pm_nl an_nl cd_nl ct_nl), sl_nl⟩)
    (c_nl : PySem.W.codeIn K cd_nl "need_letter" = true)
    (k_nl : PySem.W.keepIn K (.ref f_nl) = true)
    (a_ci : PySem.W.findIn K (.ref D) "__init__" = some (some (.ref f_ci)))
    (i_ci : PySem.W.isFn K (.ref f_ci) = true)
    (l_ci : K.lookup f_ci = some ⟨oc_ci, od_ci, .func (PySem.W.fnOf "__init__" "Cutter.__init__" (defArgs sCInit) (defBody sCInit) (defScope sCInit) .none kV_ci dc_ci pm_ci an_ci cd_ci ct_ci), sl_ci⟩)
    (c_ci : PySem.W.codeIn K cd_ci "Cutter.__init__" = true)
    (k_ci : PySem.W.keepIn K (.ref f_ci) = true)
    (a_ce : PySem.W.findIn K (.ref D) "words_ending" = some (some (.ref f_ce)))
    (i_ce : PySem.W.isFn K (.ref f_ce) = true)
    (l_ce : K.lookup f_ce = some ⟨oc_ce, od_ce, .func (PySem.W.fnOf "words_ending" "Cutter.words_ending" (defArgs sEnding) (defBody sEnding) (defScope sEnding) .none kV_ce dc_ce pm_ce an_ce cd_ce ct_ce), sl_ce⟩)
    (c_ce : PySem.W.codeIn K cd_ce "Cutter.words_ending" = true)
    (k_ce : PySem.W.keepIn K (.ref f_ce) = true)
    (a_cp : PySem.W.findIn K (.ref D) "parting_word" = some (some (.ref f_cp)))
    (i_cp : PySem.W.isFn K (.ref f_cp) = true)
    (l_cp : K.lookup f_cp = some ⟨oc_cp, od_cp, .func (PySem.W.fnOf "parting_word" "Cutter.parting_word" (defArgs sParting) (defBody sParting) (defScope sParting) .none kV_cp dc_cp pm_cp an_cp cd_cp ct_cp), sl_cp⟩)
    (c_cp : PySem.W.codeIn K cd_cp "Cutter.parting_word" = true)
    (k_cp : PySem.W.keepIn K (.ref f_cp) = true)
    (a_cs : PySem.W.findIn K (.ref D) "sought_word" = some (some (.ref f_cs)))
    (i_cs : PySem.W.isFn K (.ref f_cs) = true)
    (l_cs : K.lookup f_cs = some ⟨oc_cs, od_cs, .func (PySem.W.fnOf "sought_word" "Cutter.sought_word" (defArgs sSought) (defBody sSought) (defScope sSought) .none kV_cs dc_cs pm_cs an_cs cd_cs ct_cs), sl_cs⟩)
    (c_cs : PySem.W.codeIn K cd_cs "Cutter.sought_word" = true)
    (k_cs : PySem.W.keepIn K (.ref f_cs) = true)
    (a_ut : PySem.W.findIn K (.ref D) "uncut" = some (some (.ref f_ut)))
    (i_ut : PySem.W.isFn K (.ref f_ut) = true)
    (l_ut : K.lookup f_ut = some ⟨oc_ut, od_ut, .func (PySem.W.fnOf "uncut" "Cutter.uncut" (defArgs sUncut) (defBody sUncut) (defScope sUncut) .none kV_ut dc_ut pm_ut an_ut cd_ut ct_ut), sl_ut⟩)
    (c_ut : PySem.W.codeIn K cd_ut "Cutter.uncut" = true)
    (k_ut : PySem.W.keepIn K (.ref f_ut) = true)
    (a_ct : PySem.W.nsIn K mainGlobals "cut_pairs" = some (some (.ref f_ct)))
    (l_ct : K.lookup f_ct = some ⟨oc_ct, od_ct, .func (PySem.W.fnOf "cut_pairs" "cut_pairs" (defArgs sCutPairs) (defBody sCutPairs) (defScope sCutPairs) .none kV_ct dc_ct pm_ct an_ct cd_ct ct_ct), sl_ct⟩)
    (c_ct : PySem.W.codeIn K cd_ct "cut_pairs" = true)
    (k_ct : PySem.W.keepIn K (.ref f_ct) = true)
    (a_uw : PySem.W.nsIn K mainGlobals "uncut_words" = some (some (.ref f_uw)))
    (l_uw : K.lookup f_uw = some ⟨oc_uw, od_uw, .func (PySem.W.fnOf "uncut_words" "uncut_words" (defArgs sUncutWords) (defBody sUncutWords) (defScope sUncutWords) .none kV_uw dc_uw pm_uw an_uw cd_uw ct_uw), sl_uw⟩)
    (c_uw : PySem.W.codeIn K cd_uw "uncut_words" = true)
    (k_uw : PySem.W.keepIn K (.ref f_uw) = true)
    (a_cu : PySem.W.nsIn K mainGlobals "_law_cup" = some (some (.ref f_cu)))
    (l_cu : K.lookup f_cu = some ⟨oc_cu, od_cu, .func (PySem.W.fnOf "_law_cup" "_law_cup" (defArgs sCup) (defBody sCup) (defScope sCup) .none kV_cu dc_cu pm_cu an_cu cd_cu ct_cu), sl_cu⟩)
    (c_cu : PySem.W.codeIn K cd_cu "_law_cup" = true)
    (k_cu : PySem.W.keepIn K (.ref f_cu) = true)
    (a_rl : PySem.W.nsIn K mainGlobals "_law_roll" = some (some (.ref f_rl)))
    (l_rl : K.lookup f_rl = some ⟨oc_rl, od_rl, .func (PySem.W.fnOf "_law_roll" "_law_roll" (defArgs sRoll) (defBody sRoll) (defScope sRoll) .none kV_rl dc_rl pm_rl an_rl cd_rl ct_rl), sl_rl⟩)
    (c_rl : PySem.W.codeIn K cd_rl "_law_roll" = true)
    (k_rl : PySem.W.keepIn K (.ref f_rl) = true)
    (a_sm : PySem.W.nsIn K mainGlobals "_law_some" = some (some (.ref f_sm)))
    (l_sm : K.lookup f_sm = some ⟨oc_sm, od_sm, .func (PySem.W.fnOf "_law_some" "_law_some" (defArgs sSome) (defBody sSome) (defScope sSome) .none kV_sm dc_sm pm_sm an_sm cd_sm ct_sm), sl_sm⟩)
    (c_sm : PySem.W.codeIn K cd_sm "_law_some" = true)
    (k_sm : PySem.W.keepIn K (.ref f_sm) = true)
    (a_bx : PySem.W.nsIn K mainGlobals "_law_box" = some (some (.ref f_bx)))
    (l_bx : K.lookup f_bx = some ⟨oc_bx, od_bx, .func (PySem.W.fnOf "_law_box" "_law_box" (defArgs sBox) (defBody sBox) (defScope sBox) .none kV_bx dc_bx pm_bx an_bx cd_bx ct_bx), sl_bx⟩)
    (c_bx : PySem.W.codeIn K cd_bx "_law_box" = true)
    (k_bx : PySem.W.keepIn K (.ref f_bx) = true)
    (a_tl : PySem.W.nsIn K mainGlobals "_law_told" = some (some (.ref f_tl)))
    (l_tl : K.lookup f_tl = some ⟨oc_tl, od_tl, .func (PySem.W.fnOf "_law_told" "_law_told" (defArgs sTold) (defBody sTold) (defScope sTold) .none kV_tl dc_tl pm_tl an_tl cd_tl ct_tl), sl_tl⟩)
    (c_tl : PySem.W.codeIn K cd_tl "_law_told" = true)
    (k_tl : PySem.W.keepIn K (.ref f_tl) = true)
    (a_ca : PySem.W.nsIn K mainGlobals "_law_came" = some (some (.ref f_ca)))
    (l_ca : K.lookup f_ca = some ⟨oc_ca, od_ca, .func (PySem.W.fnOf "_law_came" "_law_came" (defArgs sCame) (defBody sCame) (defScope sCame) .none kV_ca dc_ca pm_ca an_ca cd_ca ct_ca), sl_ca⟩)
    (c_ca : PySem.W.codeIn K cd_ca "_law_came" = true)
    (k_ca : PySem.W.keepIn K (.ref f_ca) = true)
    (a_co : PySem.W.nsIn K mainGlobals "_law_come" = some (some (.ref f_co)))
    (l_co : K.lookup f_co = some ⟨oc_co, od_co, .func (PySem.W.fnOf "_law_come" "_law_come" (defArgs sCome) (defBody sCome) (defScope sCome) .none kV_co dc_co pm_co an_co cd_co ct_co), sl_co⟩)
    (c_co : PySem.W.codeIn K cd_co "_law_come" = true)
    (k_co : PySem.W.keepIn K (.ref f_co) = true)
    (a_ld : PySem.W.nsIn K mainGlobals "_law_leads" = some (some (.ref f_ld)))
    (l_ld : K.lookup f_ld = some ⟨oc_ld, od_ld, .func (PySem.W.fnOf "_law_leads" "_law_leads" (defArgs sLeads) (defBody sLeads) (defScope sLeads) .none kV_ld dc_ld pm_ld an_ld cd_ld ct_ld), sl_ld⟩)
    (c_ld : PySem.W.codeIn K cd_ld "_law_leads" = true)
    (k_ld : PySem.W.keepIn K (.ref f_ld) = true)
    (a_bh : PySem.W.nsIn K mainGlobals "_law_behind" = some (some (.ref f_bh)))
    (l_bh : K.lookup f_bh = some ⟨oc_bh, od_bh, .func (PySem.W.fnOf "_law_behind" "_law_behind" (defArgs sBehindL) (defBody sBehindL) (defScope sBehindL) .none kV_bh dc_bh pm_bh an_bh cd_bh ct_bh), sl_bh⟩)
    (c_bh : PySem.W.codeIn K cd_bh "_law_behind" = true)
    (k_bh : PySem.W.keepIn K (.ref f_bh) = true)
    (a_lg : PySem.W.nsIn K mainGlobals "_law_lag" = some (some (.ref f_lg)))
    (l_lg : K.lookup f_lg = some ⟨oc_lg, od_lg, .func (PySem.W.fnOf "_law_lag" "_law_lag" (defArgs sLag) (defBody sLag) (defScope sLag) .none kV_lg dc_lg pm_lg an_lg cd_lg ct_lg), sl_lg⟩)
    (c_lg : PySem.W.codeIn K cd_lg "_law_lag" = true)
    (k_lg : PySem.W.keepIn K (.ref f_lg) = true)
    (a_en : PySem.W.nsIn K mainGlobals "_law_ends" = some (some (.ref f_en)))
    (l_en : K.lookup f_en = some ⟨oc_en, od_en, .func (PySem.W.fnOf "_law_ends" "_law_ends" (defArgs sEnds) (defBody sEnds) (defScope sEnds) .none kV_en dc_en pm_en an_en cd_en ct_en), sl_en⟩)
    (c_en : PySem.W.codeIn K cd_en "_law_ends" = true)
    (k_en : PySem.W.keepIn K (.ref f_en) = true)
    (a_nx : PySem.W.nsIn K mainGlobals "_law_next" = some (some (.ref f_nx)))
    (l_nx : K.lookup f_nx = some ⟨oc_nx, od_nx, .func (PySem.W.fnOf "_law_next" "_law_next" (defArgs sNext) (defBody sNext) (defScope sNext) .none kV_nx dc_nx pm_nx an_nx cd_nx ct_nx), sl_nx⟩)
    (c_nx : PySem.W.codeIn K cd_nx "_law_next" = true)
    (k_nx : PySem.W.keepIn K (.ref f_nx) = true)
    (a_pt : PySem.W.nsIn K mainGlobals "_law_parted" = some (some (.ref f_pt)))
    (l_pt : K.lookup f_pt = some ⟨oc_pt, od_pt, .func (PySem.W.fnOf "_law_parted" "_law_parted" (defArgs sParted) (defBody sParted) (defScope sParted) .none kV_pt dc_pt pm_pt an_pt cd_pt ct_pt), sl_pt⟩)
    (c_pt : PySem.W.codeIn K cd_pt "_law_parted" = true)
    (k_pt : PySem.W.keepIn K (.ref f_pt) = true)
    (a_cc : PySem.W.nsIn K mainGlobals "_law_can_cut" = some (some (.ref f_cc)))
    (l_cc : K.lookup f_cc = some ⟨oc_cc, od_cc, .func (PySem.W.fnOf "_law_can_cut" "_law_can_cut" (defArgs sCanCut) (defBody sCanCut) (defScope sCanCut) .none kV_cc dc_cc pm_cc an_cc cd_cc ct_cc), sl_cc⟩)
    (c_cc : PySem.W.codeIn K cd_cc "_law_can_cut" = true)
    (k_cc : PySem.W.keepIn K (.ref f_cc) = true)
    (a_wh : PySem.W.nsIn K mainGlobals "_law_whole" = some (some (.ref f_wh)))
    (l_wh : K.lookup f_wh = some ⟨oc_wh, od_wh, .func (PySem.W.fnOf "_law_whole" "_law_whole" (defArgs sWhole) (defBody sWhole) (defScope sWhole) .none kV_wh dc_wh pm_wh an_wh cd_wh ct_wh), sl_wh⟩)
    (c_wh : PySem.W.codeIn K cd_wh "_law_whole" = true)
    (k_wh : PySem.W.keepIn K (.ref f_wh) = true)
    (a_iu : PySem.W.nsIn K mainGlobals "_law_is_uncut" = some (some (.ref f_iu)))
    (l_iu : K.lookup f_iu = some ⟨oc_iu, od_iu, .func (PySem.W.fnOf "_law_is_uncut" "_law_is_uncut" (defArgs sIsUncut) (defBody sIsUncut) (defScope sIsUncut) .none kV_iu dc_iu pm_iu an_iu cd_iu ct_iu), sl_iu⟩)
    (c_iu : PySem.W.codeIn K cd_iu "_law_is_uncut" = true)
    (k_iu : PySem.W.keepIn K (.ref f_iu) = true)
    (a_wd : PySem.W.nsIn K mainGlobals "_law_word" = some (some (.ref f_wd)))
    (l_wd : K.lookup f_wd = some ⟨oc_wd, od_wd, .func (PySem.W.fnOf "_law_word" "_law_word" (defArgs sWord) (defBody sWord) (defScope sWord) .none kV_wd dc_wd pm_wd an_wd cd_wd ct_wd), sl_wd⟩)
    (c_wd : PySem.W.codeIn K cd_wd "_law_word" = true)
    (k_wd : PySem.W.keepIn K (.ref f_wd) = true)
    (a_dd : PySem.W.nsIn K mainGlobals "_law_deed" = some (some (.ref f_dd)))
    (l_dd : K.lookup f_dd = some ⟨oc_dd, od_dd, .func (PySem.W.fnOf "_law_deed" "_law_deed" (defArgs sDeed) (defBody sDeed) (defScope sDeed) .none kV_dd dc_dd pm_dd an_dd cd_dd ct_dd), sl_dd⟩)
    (c_dd : PySem.W.codeIn K cd_dd "_law_deed" = true)
    (k_dd : PySem.W.keepIn K (.ref f_dd) = true)
    (a_pp : PySem.W.nsIn K mainGlobals "_law_pairs" = some (some (.ref f_pp)))
    (l_pp : K.lookup f_pp = some ⟨oc_pp, od_pp, .func (PySem.W.fnOf "_law_pairs" "_law_pairs" (defArgs sPairs) (defBody sPairs) (defScope sPairs) .none kV_pp dc_pp pm_pp an_pp cd_pp ct_pp), sl_pp⟩)
    (c_pp : PySem.W.codeIn K cd_pp "_law_pairs" = true)
    (k_pp : PySem.W.keepIn K (.ref f_pp) = true)
    (a_el : PySem.W.nsIn K mainGlobals "_law_endless" = some (some (.ref f_el)))
    (l_el : K.lookup f_el = some ⟨oc_el, od_el, .func (PySem.W.fnOf "_law_endless" "_law_endless" (defArgs sEndless) (defBody sEndless) (defScope sEndless) .none kV_el dc_el pm_el an_el cd_el ct_el), sl_el⟩)
    (c_el : PySem.W.codeIn K cd_el "_law_endless" = true)
    (k_el : PySem.W.keepIn K (.ref f_el) = true)
    (a_il : PySem.W.nsIn K mainGlobals "_law_is_long" = some (some (.ref f_il)))
    (l_il : K.lookup f_il = some ⟨oc_il, od_il, .func (PySem.W.fnOf "_law_is_long" "_law_is_long" (defArgs sIsLong) (defBody sIsLong) (defScope sIsLong) .none kV_il dc_il pm_il an_il cd_il ct_il), sl_il⟩)
    (c_il : PySem.W.codeIn K cd_il "_law_is_long" = true)
    (k_il : PySem.W.keepIn K (.ref f_il) = true)
    (a_ih : PySem.W.nsIn K mainGlobals "_law_is_short" = some (some (.ref f_ih)))
    (l_ih : K.lookup f_ih = some ⟨oc_ih, od_ih, .func (PySem.W.fnOf "_law_is_short" "_law_is_short" (defArgs sIsShort) (defBody sIsShort) (defScope sIsShort) .none kV_ih dc_ih pm_ih an_ih cd_ih ct_ih), sl_ih⟩)
    (c_ih : PySem.W.codeIn K cd_ih "_law_is_short" = true)
    (k_ih : PySem.W.keepIn K (.ref f_ih) = true)
    (a_sh : PySem.W.nsIn K mainGlobals "_law_short" = some (some (.ref f_sh)))
    (l_sh : K.lookup f_sh = some ⟨oc_sh, od_sh, .func (PySem.W.fnOf "_law_short" "_law_short" (defArgs sShort) (defBody sShort) (defScope sShort) .none kV_sh dc_sh pm_sh an_sh cd_sh ct_sh), sl_sh⟩)
    (c_sh : PySem.W.codeIn K cd_sh "_law_short" = true)
    (k_sh : PySem.W.keepIn K (.ref f_sh) = true)
    (a_ri : PySem.W.nsIn K mainGlobals "_law_right" = some (some (.ref f_ri)))
    (l_ri : K.lookup f_ri = some ⟨oc_ri, od_ri, .func (PySem.W.fnOf "_law_right" "_law_right" (defArgs sRight) (defBody sRight) (defScope sRight) .none kV_ri dc_ri pm_ri an_ri cd_ri ct_ri), sl_ri⟩)
    (c_ri : PySem.W.codeIn K cd_ri "_law_right" = true)
    (k_ri : PySem.W.keepIn K (.ref f_ri) = true)
    (a_la : PySem.W.nsIn K mainGlobals "law" = some (some (.ref f_la)))
    (l_la : K.lookup f_la = some ⟨oc_la, od_la, .func (PySem.W.fnOf "law" "law" (defArgs sLaw) (defBody sLaw) (defScope sLaw) .none kV_la dc_la pm_la an_la cd_la ct_la), sl_la⟩)
    (c_la : PySem.W.codeIn K cd_la "law" = true)
    (k_la : PySem.W.keepIn K (.ref f_la) = true)
    (aCC : PySem.W.nsIn K mainGlobals "PairWork" = some (some (.ref C)))
    (pgC : PySem.W.plainGet K C Str.empty = true)
    (hdC : PySem.W.hasDictIn K C = true)
    (poC : PySem.W.plainOver K C = true)
    (saC : PySem.W.findIn K (.ref C) "__setattr__" = some (some (.builtin "object.__setattr__")))
    (mkC : PySem.W.makesIn K C = true)
    (kcC : PySem.W.keepIn K (.ref C) = true)
    (aCB : PySem.W.nsIn K mainGlobals "Both" = some (some (.ref B)))
    (pgB : PySem.W.plainGet K B Str.empty = true)
    (hdB : PySem.W.hasDictIn K B = true)
    (poB : PySem.W.plainOver K B = true)
    (saB : PySem.W.findIn K (.ref B) "__setattr__" = some (some (.builtin "object.__setattr__")))
    (mkB : PySem.W.makesIn K B = true)
    (kcB : PySem.W.keepIn K (.ref B) = true)
    (aCD : PySem.W.nsIn K mainGlobals "Cutter" = some (some (.ref D)))
    (pgD : PySem.W.plainGet K D Str.empty = true)
    (hdD : PySem.W.hasDictIn K D = true)
    (poD : PySem.W.plainOver K D = true)
    (saD : PySem.W.findIn K (.ref D) "__setattr__" = some (some (.builtin "object.__setattr__")))
    (mkD : PySem.W.makesIn K D = true)
    (kcD : PySem.W.keepIn K (.ref D) = true)
    (n_letters : PySem.W.findIn K (.ref C) "letters" = some none)
    (n_deeds : PySem.W.findIn K (.ref C) "deeds" = some none)
    (n_done : PySem.W.findIn K (.ref C) "done" = some none)
    (n_started : PySem.W.findIn K (.ref C) "started" = some none)
    (b_letters : PySem.W.findIn K (.ref B) "letters" = some none)
    (b_met_one : PySem.W.findIn K (.ref B) "met_one" = some none)
    (b_met_other : PySem.W.findIn K (.ref B) "met_other" = some none)
    (d_met : PySem.W.findIn K (.ref D) "met" = some none)
    (d_both : PySem.W.findIn K (.ref D) "both" = some none)
    (d_words : PySem.W.findIn K (.ref D) "words" = some none)
    (d_known : PySem.W.findIn K (.ref D) "known" = some none)
    (z_min : PySem.W.nsIn K mainGlobals "min" = some none)
    (z_any : PySem.W.nsIn K mainGlobals "any" = some none)
    (z_isi : PySem.W.nsIn K mainGlobals "isinstance" = some none)
    (z_int : PySem.W.nsIn K mainGlobals "int" = some none)
    (z_bool : PySem.W.nsIn K mainGlobals "bool" = some none)
    (z_str : PySem.W.nsIn K mainGlobals "str" = some none)
    (z_tuple : PySem.W.nsIn K mainGlobals "tuple" = some none)
    (z_len : PySem.W.nsIn K mainGlobals "len" = some none)
    (z_all : PySem.W.nsIn K mainGlobals "all" = some none)
    (z_range : PySem.W.nsIn K mainGlobals "range" = some none)
    (z_dict : PySem.W.nsIn K mainGlobals "dict" = some none)
    (z_list : PySem.W.nsIn K mainGlobals "list" = some none)
    (z_abs : PySem.W.nsIn K mainGlobals "abs" = some none)
    (z_alpha : PySem.W.nsIn K mainGlobals "ALL_LETTERS" = some (some (.str "abcdefghijklmnopqrstuvwxyz" tA)))
    (z_mostL : PySem.W.nsIn K mainGlobals "MOST_LETTERS" = some (some (.int 8 tL)))
    (z_mostR : PySem.W.nsIn K mainGlobals "MOST_ROWS" = some (some (.int 24 tR)))
    (z_kern : PySem.W.nsIn K mainGlobals "GREATEST_KERN" = some (some (.int 99 tK)))
    (z_longS : PySem.W.nsIn K mainGlobals "LONGEST_SHAPE" = some (some (.int 1000 tS)))
    (z_longT : PySem.W.nsIn K mainGlobals "LONGEST_TOLD" = some (some (.int 40 tG)))
    : ∃ fd : FuncData, (∀ (s : Shared) (v : Value), BindsTo s fd ⟨[v], []⟩ [("_law_script", v)]) ∧ ∀ base : Heap, K.In base → base.Ns mainGlobals mg → FnOk l.prog w K mg base CX0 83 fa fd ["_law_script"] (spLaw K) := by
  have e := hfa.symm.trans (PySem.W.mg_of X G a_la)
  cases e
  have T : Txt K mg :=
    { isi := PySem.W.mg_none_of X G z_isi, int := PySem.W.mg_none_of X G z_int, bool := PySem.W.mg_none_of X G z_bool, str := PySem.W.mg_none_of X G z_str, tuple := PySem.W.mg_none_of X G z_tuple, len := PySem.W.mg_none_of X G z_len, all := PySem.W.mg_none_of X G z_all, range := PySem.W.mg_none_of X G z_range, dict := PySem.W.mg_none_of X G z_dict, list := PySem.W.mg_none_of X G z_list, abs := PySem.W.mg_none_of X G z_abs,
      alpha := ⟨tA, PySem.W.mg_of X G z_alpha⟩, mostL := ⟨tL, PySem.W.mg_of X G z_mostL⟩, mostR := ⟨tR, PySem.W.mg_of X G z_mostR⟩, kern := ⟨tK, PySem.W.mg_of X G z_kern⟩, longS := ⟨tS, PySem.W.mg_of X G z_longS⟩, longT := ⟨tG, PySem.W.mg_of X G z_longT⟩ }
  have TC : ClsT K C := ⟨⟨pgC, hdC, poC, saC⟩, n_letters, n_deeds, n_done, n_started⟩
  have TB : ClsB K B := ⟨⟨pgB, hdB, poB, saB⟩, b_letters, b_met_one, b_met_other⟩
  have TCC : ClsC K D := ⟨⟨pgD, hdD, poD, saD⟩, d_met, d_both, d_words, d_known⟩
  have mC := PySem.W.mg_of X G aCC
  have mB := PySem.W.mg_of X G aCB
  have mD := PySem.W.mg_of X G aCD
  have F_is := fun_mk (st := sIsInt) l_is c_is k_is
  have b_is := F_is.binds (ps := ["value"]) fun _ _ _ _ _ _ us hl => match us, hl with | [_], _ => rfl
  have m_is := PySem.W.mg_of X G a_is
  have F_wi := fun_mk (st := sWithin) l_wi c_wi k_wi
  have b_wi := F_wi.binds (ps := ["value", "low", "high"]) fun _ _ _ _ _ _ us hl => match us, hl with | [_, _, _], _ => rfl
  have m_wi := PySem.W.mg_of X G a_wi
  have F_as := fun_mk (st := sAsc) l_as c_as k_as
  have b_as := F_as.binds (ps := ["row"]) fun _ _ _ _ _ _ us hl => match us, hl with | [_], _ => rfl
  have m_as := PySem.W.mg_of X G a_as
  have F_to := fun_mk (st := sToldOf) l_to c_to k_to
  have b_to := F_to.binds (ps := ["item"]) fun _ _ _ _ _ _ us hl => match us, hl with | [_], _ => rfl
  have m_to := PySem.W.mg_of X G a_to
  have F_jo := fun_mk (st := sJoined) l_jo c_jo k_jo
  have b_jo := F_jo.binds (ps := ["one", "other"]) fun _ _ _ _ _ _ us hl => match us, hl with | [_, _], _ => rfl
  have m_jo := PySem.W.mg_of X G a_jo
  have F_pi := fun_mk (st := sPInit) l_pi c_pi k_pi
  have b_pi := F_pi.binds (ps := ["self", "pairs"]) fun _ _ _ _ _ _ us hl => match us, hl with | [_, _], _ => rfl
  have F_oc := fun_mk (st := sOutcome) l_oc c_oc k_oc
  have b_oc := F_oc.binds (ps := ["self", "left", "right"]) fun _ _ _ _ _ _ us hl => match us, hl with | [_, _, _], _ => rfl
  have M_oc : Meth K C "outcome" f_oc := ⟨a_oc, i_oc, k_oc⟩
  have F_wk := fun_mk (st := sWorked) l_wk c_wk k_wk
  have b_wk := F_wk.binds (ps := ["self", "left", "right"]) fun _ _ _ _ _ _ us hl => match us, hl with | [_, _, _], _ => rfl
  have M_wk : Meth K C "worked" f_wk := ⟨a_wk, i_wk, k_wk⟩
  have F_lb := fun_mk (st := sLeft) l_lb c_lb k_lb
  have b_lb := F_lb.binds (ps := ["self", "items", "standing"]) fun _ _ _ _ _ _ us hl => match us, hl with | [_, _, _], _ => rfl
  have M_lb : Meth K C "left_behind" f_lb := ⟨a_lb, i_lb, k_lb⟩
  have F_rs := fun_mk (st := sSides) l_rs c_rs k_rs
  have b_rs := F_rs.binds (ps := ["self", "standing"]) fun _ _ _ _ _ _ us hl => match us, hl with | [_, _], _ => rfl
  have M_rs : Meth K C "right_sides" f_rs := ⟨a_rs, i_rs, k_rs⟩
  have F_ws := fun_mk (st := sStand) l_ws c_ws k_ws
  have b_ws := F_ws.binds (ps := ["work"]) fun _ _ _ _ _ _ us hl => match us, hl with | [_], _ => rfl
  have m_ws := PySem.W.mg_of X G a_ws
  have F_me := fun_mk (st := sMeet) l_me c_me k_me
  have b_me := F_me.binds (ps := ["pairs"]) fun _ _ _ _ _ _ us hl => match us, hl with | [_], _ => rfl
  have m_me := PySem.W.mg_of X G a_me
  have F_lo := fun_mk (st := sIsLetterOf) l_lo c_lo k_lo
  have b_lo := F_lo.binds (ps := ["value", "letters"]) fun _ _ _ _ _ _ us hl => match us, hl with | [_, _], _ => rfl
  have m_lo := PySem.W.mg_of X G a_lo
  have F_al := fun_mk (st := sAreLetters) l_al c_al k_al
  have b_al := F_al.binds (ps := ["value"]) fun _ _ _ _ _ _ us hl => match us, hl with | [_], _ => rfl
  have m_al := PySem.W.mg_of X G a_al
  have F_pu := fun_mk (st := sIsPut) l_pu c_pu k_pu
  have b_pu := F_pu.binds (ps := ["deed", "letters", "left", "right"]) fun _ _ _ _ _ _ us hl => match us, hl with | [_, _, _, _], _ => rfl
  have m_pu := PySem.W.mg_of X G a_pu
  have F_de := fun_mk (st := sIsDeed) l_de c_de k_de
  have b_de := F_de.binds (ps := ["value", "letters", "left", "right"]) fun _ _ _ _ _ _ us hl => match us, hl with | [_, _, _, _], _ => rfl
  have m_de := PySem.W.mg_of X G a_de
  have F_si := fun_mk (st := sIsSide) l_si c_si k_si
  have b_si := F_si.binds (ps := ["value", "letters"]) fun _ _ _ _ _ _ us hl => match us, hl with | [_, _], _ => rfl
  have m_si := PySem.W.mg_of X G a_si
  have F_ro := fun_mk (st := sIsRow) l_ro c_ro k_ro
  have b_ro := F_ro.binds (ps := ["value", "letters"]) fun _ _ _ _ _ _ us hl => match us, hl with | [_, _], _ => rfl
  have m_ro := PySem.W.mg_of X G a_ro
  have F_ip := fun_mk (st := sIsPairs) l_ip c_ip k_ip
  have b_ip := F_ip.binds (ps := ["value"]) fun _ _ _ _ _ _ us hl => match us, hl with | [_], _ => rfl
  have m_ip := PySem.W.mg_of X G a_ip
  have F_ne := fun_mk (st := sNeed) l_ne c_ne k_ne
  have b_ne := F_ne.binds (ps := ["value"]) fun _ _ _ _ _ _ us hl => match us, hl with | [_], _ => rfl
  have m_ne := PySem.W.mg_of X G a_ne
  have F_tg := fun_mk (st := sTooLong) l_tg c_tg k_tg
  have b_tg := F_tg.binds (ps := ["met"]) fun _ _ _ _ _ _ us hl => match us, hl with | [_], _ => rfl
  have m_tg := PySem.W.mg_of X G a_tg
  have F_ns := fun_mk (st := sNeedShort) l_ns c_ns k_ns
  have b_ns := F_ns.binds (ps := ["value"]) fun _ _ _ _ _ _ us hl => match us, hl with | [_], _ => rfl
  have m_ns := PySem.W.mg_of X G a_ns
  have F_wo := fun_mk (st := sWithout) l_wo c_wo k_wo
  have b_wo := F_wo.binds (ps := ["one", "other"]) fun _ _ _ _ _ _ us hl => match us, hl with | [_, _], _ => rfl
  have m_wo := PySem.W.mg_of X G a_wo
  have F_bi := fun_mk (st := sBInit) l_bi c_bi k_bi
  have b_bi := F_bi.binds (ps := ["self", "letters", "met_one", "met_other"]) fun _ _ _ _ _ _ us hl => match us, hl with | [_, _, _, _], _ => rfl
  have F_bb := fun_mk (st := sBBehind) l_bb c_bb k_bb
  have b_bb := F_bb.binds (ps := ["self", "triple", "letter"]) fun _ _ _ _ _ _ us hl => match us, hl with | [_, _, _], _ => rfl
  have M_bb : Meth K B "behind" f_bb := ⟨a_bb, i_bb, k_bb⟩
  have F_be := fun_mk (st := sBEnds) l_be c_be k_be
  have b_be := F_be.binds (ps := ["self", "triple"]) fun _ _ _ _ _ _ us hl => match us, hl with | [_, _], _ => rfl
  have M_be : Meth K B "do_ends_agree" f_be := ⟨a_be, i_be, k_be⟩
  have F_nl := fun_mk (st := sNeedLetter) l_nl c_nl k_nl
  have b_nl := F_nl.binds (ps := ["calm", "value"]) fun _ _ _ _ _ _ us hl => match us, hl with | [_, _], _ => rfl
  have m_nl := PySem.W.mg_of X G a_nl
  have F_ci := fun_mk (st := sCInit) l_ci c_ci k_ci
  have b_ci := F_ci.binds (ps := ["self", "calm", "met"]) fun _ _ _ _ _ _ us hl => match us, hl with | [_, _, _], _ => rfl
  have F_ce := fun_mk (st := sEnding) l_ce c_ce k_ce
  have b_ce := F_ce.binds (ps := ["self", "letter"]) fun _ _ _ _ _ _ us hl => match us, hl with | [_, _], _ => rfl
  have M_ce : Meth K D "words_ending" f_ce := ⟨a_ce, i_ce, k_ce⟩
  have F_cp := fun_mk (st := sParting) l_cp c_cp k_cp
  have b_cp := F_cp.binds (ps := ["self", "standing", "letter"]) fun _ _ _ _ _ _ us hl => match us, hl with | [_, _, _], _ => rfl
  have M_cp : Meth K D "parting_word" f_cp := ⟨a_cp, i_cp, k_cp⟩
  have F_cs := fun_mk (st := sSought) l_cs c_cs k_cs
  have b_cs := F_cs.binds (ps := ["self", "standing", "letter"]) fun _ _ _ _ _ _ us hl => match us, hl with | [_, _, _], _ => rfl
  have M_cs : Meth K D "sought_word" f_cs := ⟨a_cs, i_cs, k_cs⟩
  have F_ut := fun_mk (st := sUncut) l_ut c_ut k_ut
  have b_ut := F_ut.binds (ps := ["self", "first", "second"]) fun _ _ _ _ _ _ us hl => match us, hl with | [_, _, _], _ => rfl
  have M_ut : Meth K D "uncut" f_ut := ⟨a_ut, i_ut, k_ut⟩
  have F_ct := fun_mk (st := sCutPairs) l_ct c_ct k_ct
  have b_ct := F_ct.binds (ps := ["calm"]) fun _ _ _ _ _ _ us hl => match us, hl with | [_], _ => rfl
  have m_ct := PySem.W.mg_of X G a_ct
  have F_uw := fun_mk (st := sUncutWords) l_uw c_uw k_uw
  have b_uw := F_uw.binds (ps := ["calm", "first", "second"]) fun _ _ _ _ _ _ us hl => match us, hl with | [_, _, _], _ => rfl
  have m_uw := PySem.W.mg_of X G a_uw
  have F_cu := fun_mk (st := sCup) l_cu c_cu k_cu
  have b_cu := F_cu.binds (ps := ["_law_script"]) fun _ _ _ _ _ _ us hl => match us, hl with | [_], _ => rfl
  have m_cu := PySem.W.mg_of X G a_cu
  have F_rl := fun_mk (st := sRoll) l_rl c_rl k_rl
  have b_rl := F_rl.binds (ps := ["_law_cup_here", "_law_many"]) fun _ _ _ _ _ _ us hl => match us, hl with | [_, _], _ => rfl
  have m_rl := PySem.W.mg_of X G a_rl
  have F_sm := fun_mk (st := sSome) l_sm c_sm k_sm
  have b_sm := F_sm.binds (ps := ["_law_cup_here", "_law_things"]) fun _ _ _ _ _ _ us hl => match us, hl with | [_, _], _ => rfl
  have m_sm := PySem.W.mg_of X G a_sm
  have F_bx := fun_mk (st := sBox) l_bx c_bx k_bx
  have b_bx := F_bx.binds (ps := ["_law_pairs_here"]) fun _ _ _ _ _ _ us hl => match us, hl with | [_], _ => rfl
  have m_bx := PySem.W.mg_of X G a_bx
  have F_tl := fun_mk (st := sTold) l_tl c_tl k_tl
  have b_tl := F_tl.binds (ps := ["_law_thing"]) fun _ _ _ _ _ _ us hl => match us, hl with | [_], _ => rfl
  have m_tl := PySem.W.mg_of X G a_tl
  have F_ca := fun_mk (st := sCame) l_ca c_ca k_ca
  have b_ca := F_ca.binds (ps := ["_law_box_here", "_law_left", "_law_right_here", "_law_deed_here"]) fun _ _ _ _ _ _ us hl => match us, hl with | [_, _, _, _], _ => rfl
  have m_ca := PySem.W.mg_of X G a_ca
  have F_co := fun_mk (st := sCome) l_co c_co k_co
  have b_co := F_co.binds (ps := ["_law_box_here", "_law_left", "_law_right_here"]) fun _ _ _ _ _ _ us hl => match us, hl with | [_, _, _], _ => rfl
  have m_co := PySem.W.mg_of X G a_co
  have F_ld := fun_mk (st := sLeads) l_ld c_ld k_ld
  have b_ld := F_ld.binds (ps := ["_law_pairs_here", "_law_box_here"]) fun _ _ _ _ _ _ us hl => match us, hl with | [_, _], _ => rfl
  have m_ld := PySem.W.mg_of X G a_ld
  have F_bh := fun_mk (st := sBehindL) l_bh c_bh k_bh
  have b_bh := F_bh.binds (ps := ["_law_box_here", "_law_standing", "_law_letter"]) fun _ _ _ _ _ _ us hl => match us, hl with | [_, _, _], _ => rfl
  have m_bh := PySem.W.mg_of X G a_bh
  have F_lg := fun_mk (st := sLag) l_lg c_lg k_lg
  have b_lg := F_lg.binds (ps := ["_law_lag_here", "_law_one", "_law_other"]) fun _ _ _ _ _ _ us hl => match us, hl with | [_, _, _], _ => rfl
  have m_lg := PySem.W.mg_of X G a_lg
  have F_en := fun_mk (st := sEnds) l_en c_en k_en
  have b_en := F_en.binds (ps := ["_law_box_here", "_law_other", "_law_state"]) fun _ _ _ _ _ _ us hl => match us, hl with | [_, _, _], _ => rfl
  have m_en := PySem.W.mg_of X G a_en
  have F_nx := fun_mk (st := sNext) l_nx c_nx k_nx
  have b_nx := F_nx.binds (ps := ["_law_box_here", "_law_other", "_law_state", "_law_letter"]) fun _ _ _ _ _ _ us hl => match us, hl with | [_, _, _, _], _ => rfl
  have m_nx := PySem.W.mg_of X G a_nx
  have F_pt := fun_mk (st := sParted) l_pt c_pt k_pt
  have b_pt := F_pt.binds (ps := ["_law_letters", "_law_box_here", "_law_other", "_law_state", "_law_word_here"]) fun _ _ _ _ _ _ us hl => match us, hl with | [_, _, _, _, _], _ => rfl
  have m_pt := PySem.W.mg_of X G a_pt
  have F_cc := fun_mk (st := sCanCut) l_cc c_cc k_cc
  have b_cc := F_cc.binds (ps := ["_law_pairs_here", "_law_first", "_law_second"]) fun _ _ _ _ _ _ us hl => match us, hl with | [_, _, _], _ => rfl
  have m_cc := PySem.W.mg_of X G a_cc
  have F_wh := fun_mk (st := sWhole) l_wh c_wh k_wh
  have b_wh := F_wh.binds (ps := ["_law_pairs_here", "_law_word_here"]) fun _ _ _ _ _ _ us hl => match us, hl with | [_, _], _ => rfl
  have m_wh := PySem.W.mg_of X G a_wh
  have F_iu := fun_mk (st := sIsUncut) l_iu c_iu k_iu
  have b_iu := F_iu.binds (ps := ["_law_pairs_here", "_law_words"]) fun _ _ _ _ _ _ us hl => match us, hl with | [_, _], _ => rfl
  have m_iu := PySem.W.mg_of X G a_iu
  have F_wd := fun_mk (st := sWord) l_wd c_wd k_wd
  have b_wd := F_wd.binds (ps := ["_law_cup_here", "_law_letters", "_law_many"]) fun _ _ _ _ _ _ us hl => match us, hl with | [_, _, _], _ => rfl
  have m_wd := PySem.W.mg_of X G a_wd
  have F_dd := fun_mk (st := sDeed) l_dd c_dd k_dd
  have b_dd := F_dd.binds (ps := ["_law_cup_here", "_law_letters", "_law_left", "_law_right_here"]) fun _ _ _ _ _ _ us hl => match us, hl with | [_, _, _, _], _ => rfl
  have m_dd := PySem.W.mg_of X G a_dd
  have F_pp := fun_mk (st := sPairs) l_pp c_pp k_pp
  have b_pp := F_pp.binds (ps := ["_law_cup_here", "_law_many", "_law_rows"]) fun _ _ _ _ _ _ us hl => match us, hl with | [_, _, _], _ => rfl
  have m_pp := PySem.W.mg_of X G a_pp
  have F_el := fun_mk (st := sEndless) l_el c_el k_el
  have b_el := F_el.binds (ps := ["_law_pairs_here", "_law_box_here"]) fun _ _ _ _ _ _ us hl => match us, hl with | [_, _], _ => rfl
  have m_el := PySem.W.mg_of X G a_el
  have F_il := fun_mk (st := sIsLong) l_il c_il k_il
  have b_il := F_il.binds (ps := ["_law_pairs_here", "_law_box_here"]) fun _ _ _ _ _ _ us hl => match us, hl with | [_, _], _ => rfl
  have m_il := PySem.W.mg_of X G a_il
  have F_ih := fun_mk (st := sIsShort) l_ih c_ih k_ih
  have b_ih := F_ih.binds (ps := ["_law_pairs_here"]) fun _ _ _ _ _ _ us hl => match us, hl with | [_], _ => rfl
  have m_ih := PySem.W.mg_of X G a_ih
  have F_sh := fun_mk (st := sShort) l_sh c_sh k_sh
  have b_sh := F_sh.binds (ps := ["_law_cup_here", "_law_many", "_law_rows"]) fun _ _ _ _ _ _ us hl => match us, hl with | [_, _, _], _ => rfl
  have m_sh := PySem.W.mg_of X G a_sh
  have F_ri := fun_mk (st := sRight) l_ri c_ri k_ri
  have b_ri := F_ri.binds (ps := ["_law_cup_here", "_law_pairs_here"]) fun _ _ _ _ _ _ us hl => match us, hl with | [_, _], _ => rfl
  have m_ri := PySem.W.mg_of X G a_ri
  have F_la := fun_mk (st := sLaw) l_la c_la k_la
  refine ⟨PySem.W.fnOf "law" "law" (defArgs sLaw) (defBody sLaw) (defScope sLaw) .none kV_la dc_la pm_la an_la cd_la ct_la, fun s v => .of_eq rfl, fun base _ _ => ?_⟩
  have zMin := PySem.W.mg_none_of X G z_min
  have zAny := PySem.W.mg_none_of X G z_any
  have O_is := ok_isInt (P := l.prog) (w := w) (base := base) F_is T
  have O_wi := ok_within F_wi T O_is k_is m_is b_is
  have O_as := ok_asc (P := l.prog) (w := w) (base := base) F_as T
  have O_lo := ok_letterOf (P := l.prog) (w := w) (base := base) F_lo T
  have O_al := ok_areLetters F_al T O_as k_as m_as b_as
  have O_si := ok_isSide F_si T O_lo k_lo m_lo b_lo
  have O_pu := ok_isPut F_pu T O_lo k_lo m_lo b_lo O_wi k_wi m_wi b_wi
  have O_de := ok_isDeed F_de T O_pu k_pu m_pu b_pu O_wi k_wi m_wi b_wi
  have O_ro := ok_isRow F_ro T O_de k_de m_de b_de O_si k_si m_si b_si
  have O_ip := ok_isPairs F_ip T O_ro k_ro m_ro b_ro O_al k_al m_al b_al
  have O_ne := ok_need F_ne O_ip k_ip m_ip b_ip
  have O_to := ok_toldOf (P := l.prog) (w := w) (base := base) F_to T
  have O_jo := ok_joined (P := l.prog) (w := w) (base := base) F_jo T
  have O_lb := ok_left F_lb T O_to k_to m_to b_to
  have O_pi := ok_pinit (P := l.prog) (w := w) (mg := mg) (base := base) F_pi TC
  have O_oc := outcome_all TC F_wk M_wk b_wk O_lb M_lb b_lb O_jo k_jo m_jo b_jo F_oc M_oc b_oc 25
  have O_rs := ok_sides (P := l.prog) (w := w) (base := base) F_rs T TC
  have O_ws := ok_stand F_ws T TC O_oc M_oc b_oc
  have O_me := ok_meet F_me TC ⟨mkC, a_pi, i_pi, kcC⟩ mC O_pi b_pi O_oc M_oc b_oc O_ws k_ws m_ws b_ws O_rs M_rs b_rs
  have O_tg := ok_tooLong (P := l.prog) (w := w) (base := base) F_tg T zAny
  have O_ns := ok_needS F_ns T zAny O_ne k_ne m_ne b_ne O_me k_me m_me b_me O_tg k_tg m_tg b_tg
  have O_wo := ok_without (P := l.prog) (w := w) (base := base) F_wo T zMin
  have O_bi := ok_bInitX (P := l.prog) (w := w) (mg := mg) (base := base) F_bi TB
  have O_bb := ok_bBehind F_bb TB O_wo k_wo m_wo b_wo
  have O_be := ok_bEnds (P := l.prog) (w := w) (mg := mg) (base := base) F_be TB
  have O_nl := ok_needLetter F_nl O_lo k_lo m_lo b_lo
  have O_ci := ok_cInit F_ci TCC TC ⟨mkB, a_bi, i_bi, kcB⟩ mB O_bi b_bi ⟨mkC, a_pi, i_pi, kcC⟩ mC O_pi b_pi O_ws k_ws m_ws b_ws
  have O_ce := ok_ending (P := l.prog) (w := w) (mg := mg) (base := base) (CB := B) F_ce TCC
  have O_cs := ok_sought F_cs T TCC TB O_bb M_bb b_bb O_be M_be b_be
  have O_cp := ok_parting F_cp TCC O_cs M_cs b_cs
  have O_ut := ok_uncut F_ut T TCC O_ce M_ce b_ce O_cp M_cp b_cp
  have O_ct := ok_cutPairs F_ct TCC ⟨mkD, a_ci, i_ci, kcD⟩ mD O_ns k_ns m_ns b_ns O_ci b_ci O_ut M_ut b_ut
  have O_uw := ok_uncutWords F_uw TCC ⟨mkD, a_ci, i_ci, kcD⟩ mD O_ns k_ns m_ns b_ns O_nl k_nl m_nl b_nl O_ci b_ci O_ut M_ut b_ut
  have O_cu := ok_cup (P := l.prog) (w := w) (base := base) F_cu T
  have O_rl := ok_roll (P := l.prog) (w := w) (base := base) F_rl T
  have O_sm := ok_some F_sm T O_rl k_rl m_rl b_rl
  have O_tl := ok_told (P := l.prog) (w := w) (mg := mg) (base := base) F_tl
  have O_bx := ok_box (P := l.prog) (w := w) (base := base) F_bx T
  have O_co := come_all F_ca b_ca m_ca O_tl k_tl m_tl b_tl F_co m_co b_co 25
  have O_ld := ok_leads F_ld T O_co k_co m_co b_co
  have O_el := ok_endless F_el T zMin O_co k_co m_co b_co O_ld k_ld m_ld b_ld
  have O_il := ok_isLong F_il T O_co k_co m_co b_co O_ld k_ld m_ld b_ld
  have O_dd := ok_deed F_dd T O_rl k_rl m_rl b_rl O_sm k_sm m_sm b_sm
  have O_pp := ok_pairs F_pp T O_rl k_rl m_rl b_rl O_sm k_sm m_sm b_sm O_dd k_dd m_dd b_dd
  have O_ih := ok_isShort F_ih O_bx k_bx m_bx b_bx O_el k_el m_el b_el O_il k_il m_il b_il
  have O_sh := ok_short F_sh O_pp k_pp m_pp b_pp O_ih k_ih m_ih b_ih
  have O_wh := ok_whole F_wh T O_bx k_bx m_bx b_bx O_co k_co m_co b_co
  have O_bh := ok_behindL F_bh O_co k_co m_co b_co
  have O_en := ok_ends1 F_en O_co k_co m_co b_co
  have O_lg := ok_lag (P := l.prog) (w := w) (mg := mg) (base := base) F_lg
  have O_nx := ok_next1 F_nx O_co k_co m_co b_co O_lg k_lg m_lg b_lg
  have O_pt := ok_parted1 F_pt O_en k_en m_en b_en O_nx k_nx m_nx b_nx
  have O_cc := ok_canCut F_cc O_bx k_bx m_bx b_bx O_ld k_ld m_ld b_ld O_bh k_bh m_bh b_bh O_co k_co m_co b_co O_lg k_lg m_lg b_lg O_pt k_pt m_pt b_pt
  have O_iu := ok_isUncut F_iu O_wh k_wh m_wh b_wh
  have O_wd := ok_word F_wd T O_rl k_rl m_rl b_rl O_sm k_sm m_sm b_sm
  have O_ri := ok_right F_ri T O_ct k_ct m_ct b_ct O_cc k_cc m_cc b_cc O_sm k_sm m_sm b_sm O_uw k_uw m_uw b_uw O_iu k_iu m_iu b_iu O_wd k_wd m_wd b_wd
  exact ok_law F_la T O_cu k_cu m_cu b_cu O_rl k_rl m_rl b_rl O_sh k_sh m_sh b_sh O_ct k_ct m_ct b_ct O_ri k_ri m_ri b_ri O_uw k_uw m_uw b_uw
end K24

open PySem PySem.W PyProof.Rows
set_option maxRecDepth 100000 in
set_option maxHeartbeats 0 in
theorem PySem.Challenge.cw_settlepages_k24_whole_cuts_between_lette_holds : PySem.Challenge.rw_settlepages_k24_whole_cuts_between_lette.Holds := by
  w_on; o_law; k_head; (case hw => w_witness2)
  k_fill
  refine L2.walk_of (l := PySem.Challenge.rw_settlepages_k24_whole_cuts_between_lette) (n := 63) (k := 83) (x := "_law_script") (CX := fun _ => L2.CX0) (sp := fun w => K24.spLaw _) rfl (by decide) rfl ⟨rfl, by decide, by decide⟩ (fun w h Y => PySem.W.kIn_of Y) ?F (fun _ _ a ns hl _ hS => ⟨a, ns, rfl, hS, hl, fun _ => rfl⟩) (fun _ _ _ _ _ h => h)
  case F =>
    intro w mg fa h KX G hmg
    refine' K24.all_mk KX G hmg ?a_is ?l_is ?c_is ?k_is ?a_wi ?l_wi ?c_wi ?k_wi ?a_as ?l_as ?c_as ?k_as ?a_to ?l_to ?c_to ?k_to ?a_jo ?l_jo ?c_jo ?k_jo ?a_pi ?i_pi ?l_pi ?c_pi ?k_pi ?a_oc ?i_oc ?l_oc ?c_oc ?k_oc ?a_wk ?i_wk ?l_wk ?c_wk ?k_wk ?a_lb ?i_lb ?l_lb ?c_lb ?k_lb ?a_rs ?i_rs ?l_rs ?c_rs ?k_rs ?a_ws ?l_ws ?c_ws ?k_ws ?a_me ?l_me ?c_me ?k_me ?a_lo ?l_lo ?c_lo ?k_lo ?a_al ?l_al ?c_al ?k_al ?a_pu ?l_pu ?c_pu ?k_pu ?a_de ?l_de ?c_de ?k_de ?a_si ?l_si ?c_si ?k_si ?a_ro ?l_ro ?c_ro ?k_ro ?a_ip ?l_ip ?c_ip ?k_ip ?a_ne ?l_ne ?c_ne ?k_ne ?a_tg ?l_tg ?c_tg ?k_tg ?a_ns ?l_ns ?c_ns ?k_ns ?a_wo ?l_wo ?c_wo ?k_wo ?a_bi ?i_bi ?l_bi ?c_bi ?k_bi ?a_bb ?i_bb ?l_bb ?c_bb ?k_bb ?a_be ?i_be ?l_be ?c_be ?k_be ?a_nl ?l_nl ?c_nl ?k_nl ?a_ci ?i_ci ?l_ci ?c_ci ?k_ci ?a_ce ?i_ce ?l_ce ?c_ce ?k_ce ?a_cp ?i_cp ?l_cp ?c_cp ?k_cp ?a_cs ?i_cs ?l_cs ?c_cs ?k_cs ?a_ut ?i_ut ?l_ut ?c_ut ?k_ut ?a_ct ?l_ct ?c_ct ?k_ct ?a_uw ?l_uw ?c_uw ?k_uw ?a_cu ?l_cu ?c_cu ?k_cu ?a_rl ?l_rl ?c_rl ?k_rl ?a_sm ?l_sm ?c_sm ?k_sm ?a_bx ?l_bx ?c_bx ?k_bx ?a_tl ?l_tl ?c_tl ?k_tl ?a_ca ?l_ca ?c_ca ?k_ca ?a_co ?l_co ?c_co ?k_co ?a_ld ?l_ld ?c_ld ?k_ld ?a_bh ?l_bh ?c_bh ?k_bh ?a_lg ?l_lg ?c_lg ?k_lg ?a_en ?l_en ?c_en ?k_en ?a_nx ?l_nx ?c_nx ?k_nx ?a_pt ?l_pt ?c_pt ?k_pt ?a_cc ?l_cc ?c_cc ?k_cc ?a_wh ?l_wh ?c_wh ?k_wh ?a_iu ?l_iu ?c_iu ?k_iu ?a_wd ?l_wd ?c_wd ?k_wd ?a_dd ?l_dd ?c_dd ?k_dd ?a_pp ?l_pp ?c_pp ?k_pp ?a_el ?l_el ?c_el ?k_el ?a_il ?l_il ?c_il ?k_il ?a_ih ?l_ih ?c_ih ?k_ih ?a_sh ?l_sh ?c_sh ?k_sh ?a_ri ?l_ri ?c_ri ?k_ri ?a_la ?l_la ?c_la ?k_la ?aCC ?pgC ?hdC ?poC ?saC ?mkC ?kcC ?aCB ?pgB ?hdB ?poB ?saB ?mkB ?kcB ?aCD ?pgD ?hdD ?poD ?saD ?mkD ?kcD ?n_letters ?n_deeds ?n_done ?n_started ?b_letters ?b_met_one ?b_met_other ?d_met ?d_both ?d_words ?d_known ?z_min ?z_any ?z_isi ?z_int ?z_bool ?z_str ?z_tuple ?z_len ?z_all ?z_range ?z_dict ?z_list ?z_abs ?z_alpha ?z_mostL ?z_mostR ?z_kern ?z_longS ?z_longT
    (case aCC => k_is)
    (case aCB => k_is)
    (case aCD => k_is)
    (case a_is => k_is)
    (case l_is => k_is)
    (case c_is => k_is)
    (case k_is => k_is)
    (case a_wi => k_is)
    (case l_wi => k_is)
    (case c_wi => k_is)
    (case k_wi => k_is)
    (case a_as => k_is)
    (case l_as => k_is)
    (case c_as => k_is)
    (case k_as => k_is)
    (case a_to => k_is)
    (case l_to => k_is)
    (case c_to => k_is)
    (case k_to => k_is)
    (case a_jo => k_is)
    (case l_jo => k_is)
    (case c_jo => k_is)
    (case k_jo => k_is)
    (case a_pi => k_is)
    (case i_pi => k_is)
    (case l_pi => k_is)
    (case c_pi => k_is)
    (case k_pi => k_is)
    (case a_oc => k_is)
    (case i_oc => k_is)
    (case l_oc => k_is)
    (case c_oc => k_is)
    (case k_oc => k_is)
    (case a_wk => k_is)
    (case i_wk => k_is)
    (case l_wk => k_is)
    (case c_wk => k_is)
    (case k_wk => k_is)
    (case a_lb => k_is)
    (case i_lb => k_is)
    (case l_lb => k_is)
    (case c_lb => k_is)
    (case k_lb => k_is)
    (case a_rs => k_is)
    (case i_rs => k_is)
    (case l_rs => k_is)
    (case c_rs => k_is)
    (case k_rs => k_is)
    (case a_ws => k_is)
    (case l_ws => k_is)
    (case c_ws => k_is)
    (case k_ws => k_is)
    (case a_me => k_is)
    (case l_me => k_is)
    (case c_me => k_is)
    (case k_me => k_is)
    (case a_lo => k_is)
    (case l_lo => k_is)
    (case c_lo => k_is)
    (case k_lo => k_is)
    (case a_al => k_is)
    (case l_al => k_is)
    (case c_al => k_is)
    (case k_al => k_is)
    (case a_pu => k_is)
    (case l_pu => k_is)
    (case c_pu => k_is)
    (case k_pu => k_is)
    (case a_de => k_is)
    (case l_de => k_is)
    (case c_de => k_is)
    (case k_de => k_is)
    (case a_si => k_is)
    (case l_si => k_is)
    (case c_si => k_is)
    (case k_si => k_is)
    (case a_ro => k_is)
    (case l_ro => k_is)
    (case c_ro => k_is)
    (case k_ro => k_is)
    (case a_ip => k_is)
    (case l_ip => k_is)
    (case c_ip => k_is)
    (case k_ip => k_is)
    (case a_ne => k_is)
    (case l_ne => k_is)
    (case c_ne => k_is)
    (case k_ne => k_is)
    (case a_tg => k_is)
    (case l_tg => k_is)
    (case c_tg => k_is)
    (case k_tg => k_is)
    (case a_ns => k_is)
    (case l_ns => k_is)
    (case c_ns => k_is)
    (case k_ns => k_is)
    (case a_wo => k_is)
    (case l_wo => k_is)
    (case c_wo => k_is)
    (case k_wo => k_is)
    (case a_bi => k_is)
    (case i_bi => k_is)
    (case l_bi => k_is)
    (case c_bi => k_is)
    (case k_bi => k_is)
    (case a_bb => k_is)
    (case i_bb => k_is)
    (case l_bb => k_is)
    (case c_bb => k_is)
    (case k_bb => k_is)
    (case a_be => k_is)
    (case i_be => k_is)
    (case l_be => k_is)
    (case c_be => k_is)
    (case k_be => k_is)
    (case a_nl => k_is)
    (case l_nl => k_is)
    (case c_nl => k_is)
    (case k_nl => k_is)
    (case a_ci => k_is)
    (case i_ci => k_is)
    (case l_ci => k_is)
    (case c_ci => k_is)
    (case k_ci => k_is)
    (case a_ce => k_is)
    (case i_ce => k_is)
    (case l_ce => k_is)
    (case c_ce => k_is)
    (case k_ce => k_is)
    (case a_cp => k_is)
    (case i_cp => k_is)
    (case l_cp => k_is)
    (case c_cp => k_is)
    (case k_cp => k_is)
    (case a_cs => k_is)
    (case i_cs => k_is)
    (case l_cs => k_is)
    (case c_cs => k_is)
    (case k_cs => k_is)
    (case a_ut => k_is)
    (case i_ut => k_is)
    (case l_ut => k_is)
    (case c_ut => k_is)
    (case k_ut => k_is)
    (case a_ct => k_is)
    (case l_ct => k_is)
    (case c_ct => k_is)
    (case k_ct => k_is)
    (case a_uw => k_is)
    (case l_uw => k_is)
    (case c_uw => k_is)
    (case k_uw => k_is)
    (case a_cu => k_is)
    (case l_cu => k_is)
    (case c_cu => k_is)
    (case k_cu => k_is)
    (case a_rl => k_is)
    (case l_rl => k_is)
    (case c_rl => k_is)
    (case k_rl => k_is)
    (case a_sm => k_is)
    (case l_sm => k_is)
    (case c_sm => k_is)
    (case k_sm => k_is)
    (case a_bx => k_is)
    (case l_bx => k_is)
    (case c_bx => k_is)
    (case k_bx => k_is)
    (case a_tl => k_is)
    (case l_tl => k_is)
    (case c_tl => k_is)
    (case k_tl => k_is)
    (case a_ca => k_is)
    (case l_ca => k_is)
    (case c_ca => k_is)
    (case k_ca => k_is)
    (case a_co => k_is)
    (case l_co => k_is)
    (case c_co => k_is)
    (case k_co => k_is)
    (case a_ld => k_is)
    (case l_ld => k_is)
    (case c_ld => k_is)
    (case k_ld => k_is)
    (case a_bh => k_is)
    (case l_bh => k_is)
    (case c_bh => k_is)
    (case k_bh => k_is)
    (case a_lg => k_is)
    (case l_lg => k_is)
    (case c_lg => k_is)
    (case k_lg => k_is)
    (case a_en => k_is)
    (case l_en => k_is)
    (case c_en => k_is)
    (case k_en => k_is)
    (case a_nx => k_is)
    (case l_nx => k_is)
    (case c_nx => k_is)
    (case k_nx => k_is)
    (case a_pt => k_is)
    (case l_pt => k_is)
    (case c_pt => k_is)
    (case k_pt => k_is)
    (case a_cc => k_is)
    (case l_cc => k_is)
    (case c_cc => k_is)
    (case k_cc => k_is)
    (case a_wh => k_is)
    (case l_wh => k_is)
    (case c_wh => k_is)
    (case k_wh => k_is)
    (case a_iu => k_is)
    (case l_iu => k_is)
    (case c_iu => k_is)
    (case k_iu => k_is)
    (case a_wd => k_is)
    (case l_wd => k_is)
    (case c_wd => k_is)
    (case k_wd => k_is)
    (case a_dd => k_is)
    (case l_dd => k_is)
    (case c_dd => k_is)
    (case k_dd => k_is)
    (case a_pp => k_is)
    (case l_pp => k_is)
    (case c_pp => k_is)
    (case k_pp => k_is)
    (case a_el => k_is)
    (case l_el => k_is)
    (case c_el => k_is)
    (case k_el => k_is)
    (case a_il => k_is)
    (case l_il => k_is)
    (case c_il => k_is)
    (case k_il => k_is)
    (case a_ih => k_is)
    (case l_ih => k_is)
    (case c_ih => k_is)
    (case k_ih => k_is)
    (case a_sh => k_is)
    (case l_sh => k_is)
    (case c_sh => k_is)
    (case k_sh => k_is)
    (case a_ri => k_is)
    (case l_ri => k_is)
    (case c_ri => k_is)
    (case k_ri => k_is)
    (case a_la => k_is)
    (case l_la => k_is)
    (case c_la => k_is)
    (case k_la => k_is)
    (case pgC => k_is)
    (case hdC => k_is)
    (case poC => k_is)
    (case saC => k_is)
    (case mkC => k_is)
    (case kcC => k_is)
    (case pgB => k_is)
    (case hdB => k_is)
    (case poB => k_is)
    (case saB => k_is)
    (case mkB => k_is)
    (case kcB => k_is)
    (case pgD => k_is)
    (case hdD => k_is)
    (case poD => k_is)
    (case saD => k_is)
    (case mkD => k_is)
    (case kcD => k_is)
    (case n_letters => k_is)
    (case n_deeds => k_is)
    (case n_done => k_is)
    (case n_started => k_is)
    (case b_letters => k_is)
    (case b_met_one => k_is)
    (case b_met_other => k_is)
    (case d_met => k_is)
    (case d_both => k_is)
    (case d_words => k_is)
    (case d_known => k_is)
    (case z_min => k_is)
    (case z_any => k_is)
    (case z_isi => k_is)
    (case z_int => k_is)
    (case z_bool => k_is)
    (case z_str => k_is)
    (case z_tuple => k_is)
    (case z_len => k_is)
    (case z_all => k_is)
    (case z_range => k_is)
    (case z_dict => k_is)
    (case z_list => k_is)
    (case z_abs => k_is)
    (case z_alpha => k_is)
    (case z_mostL => k_is)
    (case z_mostR => k_is)
    (case z_kern => k_is)
    (case z_longS => k_is)
    (case z_longT => k_is)
