import PyProof.Rows.All
import Wide.All
import OpenK.AllK
import Wide.FinOn
import PyProof.EqAt
import PyProof.EqKinds
import PyProof.TupleCall
import HandS.Base
import HandS.Call
import HandS.List
import HandS.Comp
import HandS.Exc
import HandS.Wide
import HandS.Gcd
import HandS.IsInst
import HandS.Property
import HandS.MakeKw
import HandS.ClsMeth
import HandS.WordsExc
import HandS.Ends
import HandS.Iter
import HandS.Zip
import KE.KOpsOwn
import HandS.SlotsOwn
import HandS.FStr
import HandS.RaiseMore
import KE.KCallOwn
import PyProof.Rows.ReprR
import PyProof.InstNe
import PyProof.FactsAll.enumerate_1
import PyProof.Rows.FactsN_isinstance
import PyProof.Rows.FactsN_divmod
import HandS.Style
import KE.KStateDown
import HandS.Head0
import HandS.Head1
import HandS.Head2
import HandS.Head3
import HandS.HeadEnd
import HandS.HeadHook1
import HandS.HeadHook2
import HandS.Flow
import HandS.Star
import HandS.SetFor
import HandS.Deep
import KE.DataMinMax
import KE.DataFind
import KE.KTupSum
import HandS.SortInts
import KE.SortData
import HandS.Conv
import KE.KMathGC
import PyProof.ReprDict
import HandS.SortRule
import PyProof.MaxThree
import PySem.Challenge.RW_fewcorners_k85_whole_simplicial_words_li
set_option Elab.async false
set_option linter.all false
set_option maxRecDepth 100000
set_option maxHeartbeats 2000000
/-! values as trees; a def's meaning as a plain function over them -/
namespace Pm
open PySem PySem.Spec PyProof.Rows L2

inductive BT where
  | int | bool | str | list | tuple | dict
  deriving DecidableEq, Inhabited
def BT.name : BT → String
  | .int => "int" | .bool => "bool" | .str => "str" | .list => "list" | .tuple => "tuple" | .dict => "dict"
inductive D where
  | non | bl (b : Bool) | int (i : Int) | str (x : Str)
  | lst (xs : List D) | tup (xs : List D) | ro (xs : List D) | rot (xs : List D)
  | ins (c : Nat) (fs : List D)
  | cell (i : Nat)
  | cls (c : Nat) | ty (n : BT)
  | mty
  deriving Inhabited

inductive Cell where
  | lst (xs : List D) | ins (c : Nat) (fs : List D) | dead
  deriving Inhabited

abbrev S := List Cell

/-- what holds for the whole law: the written part, the classes' places, their fields' names -/
structure G where
  K : PySem.W.Frag
  cls : Nat → Addr
  fn : Nat → List Str

mutual
def Rep (g : G) (ca : List Addr) (F : Hp) : D → V → Prop
  | .non, v => v = .non
  | .bl b, v => v = .bl b
  | .int i, v => v = .int i
  | .str x, v => v = .str x
  | .lst ds, v => ∃ a xs, v = .ref a ∧ F a = some (.lst xs) ∧ Reps g ca F ds xs
  | .ro ds, v => ∃ a xs, v = .ref a ∧ SqL g.K F a xs ∧ Reps g ca F ds xs
  | .tup ds, v => ∃ a xs, v = .ref a ∧ F a = some (.tup xs) ∧ Reps g ca F ds xs
  | .rot ds, v => ∃ a xs, v = .ref a ∧ SqT g.K F a xs ∧ Reps g ca F ds xs
  | .ins c ds, v => ∃ a dx xs, v = .ref a ∧ F a = some (.ins (g.cls c) dx ((g.fn c).zip xs)) ∧ ds.length = (g.fn c).length ∧ Reps g ca F ds xs
  | .cell i, v => ∃ a, v = .ref a ∧ ca[i]? = some a
  | .cls c, v => v = .ref (g.cls c)
  | .ty n, v => v = .ty n.name
  | .mty, v => ∃ a, v = .ref a ∧ F a = some (.dK [])
def Reps (g : G) (ca : List Addr) (F : Hp) : List D → List V → Prop
  | [], vs => vs = []
  | d :: ds, vs => ∃ v ws, vs = v :: ws ∧ Rep g ca F d v ∧ Reps g ca F ds ws
end

theorem prefix_get {α : Type} {l m : List α} {i : Nat} {x : α} (h : l <+: m) (e : l[i]? = some x) : m[i]? = some x := by
  obtain ⟨t, rfl⟩ := h
  have hl : i < l.length := (List.getElem?_eq_some_iff.mp e).1
  rw [List.getElem?_append_left hl]
  exact e

theorem same_l {K : PySem.W.Frag} {H H' : Hp} {a : Addr} {xs : List V} (e : ∀ b o, H b = some o → H' b = some o) (h : SqL K H a xs) : SqL K H' a xs := by
  rcases h with (h | ⟨o, h⟩) | h
  · exact .inl (.inl (e _ _ h))
  · exact .inl (.inr ⟨o, e _ _ h⟩)
  · exact .inr h
theorem same_t {K : PySem.W.Frag} {H H' : Hp} {a : Addr} {xs : List V} (e : ∀ b o, H b = some o → H' b = some o) (h : SqT K H a xs) : SqT K H' a xs := by
  rcases h with (h | ⟨o, h⟩) | h
  · exact .inl (.inl (e _ _ h))
  · exact .inl (.inr ⟨o, e _ _ h⟩)
  · exact .inr h

abbrev Sub (H H' : Hp) : Prop := ∀ b o, H b = some o → H' b = some o
theorem Sub.refl (H : Hp) : Sub H H := fun _ _ h => h
theorem Sub.trans {H H1 H2 : Hp} (a : Sub H H1) (b : Sub H1 H2) : Sub H H2 := fun c o h => b c o (a c o h)
theorem Sub.new {H : Hp} {p : Addr} {o : HO} (h : H p = none) : Sub H (upd H p o) := fun a u e => by
  rw [upd_ne (ne_of_none e h)]; exact e
theorem Sub.both {F H : Hp} {p : Addr} {o : HO} (s : Sub F H) : Sub (upd F p o) (upd H p o) := fun a u e => by
  by_cases h : a = p
  · subst h; rw [upd_same] at e ⊢; exact e
  · rw [upd_ne h] at e ⊢; exact s _ _ e
theorem Sub.put {F H : Hp} {p : Addr} {o : HO} (s : Sub F H) (hn : F p = none) : Sub F (upd H p o) := fun a u e => by
  rw [upd_ne (ne_of_none e hn)]; exact s _ _ e
theorem Sub.free {F H : Hp} {p : Addr} (s : Sub F H) (h : H p = none) : F p = none := by
  cases q : F p with
  | none => rfl
  | some o => rw [s _ _ q] at h; cases h

mutual
theorem Rep.mono {g : G} {ca ca' : List Addr} {F F' : Hp} (hc : ca <+: ca') (hF : Sub F F') : ∀ (d : D) (v : V), Rep g ca F d v → Rep g ca' F' d v
  | .non, v, h => by simpa [Rep] using h
  | .bl b, v, h => by simpa [Rep] using h
  | .int i, v, h => by simpa [Rep] using h
  | .str x, v, h => by simpa [Rep] using h
  | .lst ds, v, h => by
    simp only [Rep] at h ⊢
    obtain ⟨a, xs, e, q, r⟩ := h
    exact ⟨a, xs, e, hF _ _ q, Reps.mono hc hF ds xs r⟩
  | .ro ds, v, h => by
    simp only [Rep] at h ⊢
    obtain ⟨a, xs, e, q, r⟩ := h
    exact ⟨a, xs, e, same_l hF q, Reps.mono hc hF ds xs r⟩
  | .tup ds, v, h => by
    simp only [Rep] at h ⊢
    obtain ⟨a, xs, e, q, r⟩ := h
    exact ⟨a, xs, e, hF _ _ q, Reps.mono hc hF ds xs r⟩
  | .rot ds, v, h => by
    simp only [Rep] at h ⊢
    obtain ⟨a, xs, e, q, r⟩ := h
    exact ⟨a, xs, e, same_t hF q, Reps.mono hc hF ds xs r⟩
  | .ins c ds, v, h => by
    simp only [Rep] at h ⊢
    obtain ⟨a, dx, xs, e, q, l, r⟩ := h
    exact ⟨a, dx, xs, e, hF _ _ q, l, Reps.mono hc hF ds xs r⟩
  | .cell i, v, h => by
    simp only [Rep] at h ⊢
    obtain ⟨a, e, q⟩ := h
    exact ⟨a, e, prefix_get hc q⟩
  | .cls c, v, h => by simpa [Rep] using h
  | .ty c, v, h => by simpa [Rep] using h
  | .mty, v, h => by
    simp only [Rep] at h ⊢
    obtain ⟨a, e, q⟩ := h
    exact ⟨a, e, hF _ _ q⟩
theorem Reps.mono {g : G} {ca ca' : List Addr} {F F' : Hp} (hc : ca <+: ca') (hF : Sub F F') : ∀ (ds : List D) (vs : List V), Reps g ca F ds vs → Reps g ca' F' ds vs
  | [], vs, h => by simpa [Reps] using h
  | d :: ds, vs, h => by
    simp only [Reps] at h ⊢
    obtain ⟨v, ws, e, r, rs⟩ := h
    exact ⟨v, ws, e, Rep.mono hc hF d v r, Reps.mono hc hF ds ws rs⟩
end

/-! without cells -/
mutual
def pureD : D → Bool
  | .lst ds => pureL ds
  | .tup ds => pureL ds
  | .ro ds => pureL ds
  | .rot ds => pureL ds
  | .ins _ ds => pureL ds
  | .cell _ => false
  | _ => true
def pureL : List D → Bool
  | [] => true
  | d :: ds => pureD d && pureL ds
end
mutual
theorem Rep.bare {g : G} {ca ca' : List Addr} {F : Hp} : ∀ (d : D) (v : V), pureD d = true → Rep g ca F d v → Rep g ca' F d v
  | .non, v, _, h => by simpa [Rep] using h
  | .bl b, v, _, h => by simpa [Rep] using h
  | .int i, v, _, h => by simpa [Rep] using h
  | .str x, v, _, h => by simpa [Rep] using h
  | .lst ds, v, p, h => by
    simp only [Rep] at h ⊢
    simp only [pureD] at p
    obtain ⟨a, xs, e, q, r⟩ := h
    exact ⟨a, xs, e, q, Reps.bare ds xs p r⟩
  | .tup ds, v, p, h => by
    simp only [Rep] at h ⊢
    simp only [pureD] at p
    obtain ⟨a, xs, e, q, r⟩ := h
    exact ⟨a, xs, e, q, Reps.bare ds xs p r⟩
  | .ro ds, v, p, h => by
    simp only [Rep] at h ⊢
    simp only [pureD] at p
    obtain ⟨a, xs, e, q, r⟩ := h
    exact ⟨a, xs, e, q, Reps.bare ds xs p r⟩
  | .rot ds, v, p, h => by
    simp only [Rep] at h ⊢
    simp only [pureD] at p
    obtain ⟨a, xs, e, q, r⟩ := h
    exact ⟨a, xs, e, q, Reps.bare ds xs p r⟩
  | .ins c ds, v, p, h => by
    simp only [Rep] at h ⊢
    simp only [pureD] at p
    obtain ⟨a, dx, xs, e, q, l, r⟩ := h
    exact ⟨a, dx, xs, e, q, l, Reps.bare ds xs p r⟩
  | .cell i, v, p, h => by simp [pureD] at p
  | .cls c, v, _, h => by simpa [Rep] using h
  | .ty c, v, _, h => by simpa [Rep] using h
  | .mty, v, _, h => by simpa [Rep] using h
theorem Reps.bare {g : G} {ca ca' : List Addr} {F : Hp} : ∀ (ds : List D) (vs : List V), pureL ds = true → Reps g ca F ds vs → Reps g ca' F ds vs
  | [], vs, _, h => by simpa [Reps] using h
  | d :: ds, vs, p, h => by
    simp only [Reps] at h ⊢
    simp only [pureL, Bool.and_eq_true] at p
    obtain ⟨v, ws, e, r, rs⟩ := h
    exact ⟨v, ws, e, Rep.bare d v p.1 r, Reps.bare ds ws p.2 rs⟩
end

theorem Reps.length {g : G} {ca : List Addr} {F : Hp} : ∀ {ds : List D} {vs : List V}, Reps g ca F ds vs → ds.length = vs.length
  | [], vs, h => by simp only [Reps] at h; subst h; rfl
  | d :: ds, vs, h => by
    simp only [Reps] at h
    obtain ⟨v, ws, e, r, rs⟩ := h
    subst e
    simp [Reps.length rs]
theorem Reps.get {g : G} {ca : List Addr} {F : Hp} : ∀ {ds : List D} {vs : List V} {i : Nat} {d : D}, Reps g ca F ds vs → ds[i]? = some d → ∃ v, vs[i]? = some v ∧ Rep g ca F d v
  | [], vs, i, d, h, e => by simp at e
  | d' :: ds, vs, i, d, h, e => by
    simp only [Reps] at h
    obtain ⟨v, ws, e', r, rs⟩ := h
    subst e'
    cases i with
    | zero => simp at e; subst e; exact ⟨v, by simp, r⟩
    | succ i => obtain ⟨u, hu, ru⟩ := Reps.get rs (by simpa using e); exact ⟨u, by simpa using hu, ru⟩
theorem Reps.get' {g : G} {ca : List Addr} {F : Hp} : ∀ {ds : List D} {vs : List V} {i : Nat} {v : V}, Reps g ca F ds vs → vs[i]? = some v → ∃ d, ds[i]? = some d ∧ Rep g ca F d v
  | [], vs, i, v, h, e => by simp only [Reps] at h; subst h; simp at e
  | d' :: ds, vs, i, v, h, e => by
    simp only [Reps] at h
    obtain ⟨v', ws, e', r, rs⟩ := h
    subst e'
    cases i with
    | zero => simp at e; subst e; exact ⟨d', by simp, r⟩
    | succ i => obtain ⟨u, hu, ru⟩ := Reps.get' rs (by simpa using e); exact ⟨u, by simpa using hu, ru⟩
theorem Reps.append {g : G} {ca : List Addr} {F : Hp} : ∀ {ds es : List D} {vs ws : List V}, Reps g ca F ds vs → Reps g ca F es ws → Reps g ca F (ds ++ es) (vs ++ ws)
  | [], es, vs, ws, h, h' => by simp only [Reps] at h; subst h; simpa using h'
  | d :: ds, es, vs, ws, h, h' => by
    simp only [Reps] at h
    obtain ⟨v, us, e, r, rs⟩ := h
    subst e
    simp only [List.cons_append, Reps]
    exact ⟨v, us ++ ws, rfl, r, Reps.append rs h'⟩
theorem Reps.one {g : G} {ca : List Addr} {F : Hp} {d : D} {v : V} (h : Rep g ca F d v) : Reps g ca F [d] [v] := by
  simp only [Reps]; exact ⟨v, [], rfl, h, rfl⟩
theorem Reps.nil {g : G} {ca : List Addr} {F : Hp} : Reps g ca F [] [] := by simp only [Reps]
theorem Reps.cons {g : G} {ca : List Addr} {F : Hp} {d : D} {v : V} {ds : List D} {vs : List V} (h : Rep g ca F d v) (r : Reps g ca F ds vs) : Reps g ca F (d :: ds) (v :: vs) := by
  simp only [Reps]; exact ⟨v, vs, rfl, h, r⟩
theorem Reps.take {g : G} {ca : List Addr} {F : Hp} : ∀ (n : Nat) {ds : List D} {vs : List V}, Reps g ca F ds vs → Reps g ca F (ds.take n) (vs.take n)
  | 0, _, _, _ => by simp only [List.take_zero]; exact .nil
  | n + 1, [], vs, h => by simp only [Reps] at h; subst h; simpa using Reps.nil
  | n + 1, d :: ds, vs, h => by
    simp only [Reps] at h
    obtain ⟨v, us, e, r, rs⟩ := h
    subst e
    simp only [List.take_succ_cons]
    exact .cons r (Reps.take n rs)
theorem Reps.drop {g : G} {ca : List Addr} {F : Hp} : ∀ (n : Nat) {ds : List D} {vs : List V}, Reps g ca F ds vs → Reps g ca F (ds.drop n) (vs.drop n)
  | 0, _, _, h => by simpa using h
  | n + 1, [], vs, h => by simp only [Reps] at h; subst h; simpa using Reps.nil
  | n + 1, d :: ds, vs, h => by
    simp only [Reps] at h
    obtain ⟨v, us, e, r, rs⟩ := h
    subst e
    simpa using Reps.drop n rs
theorem Reps.set {g : G} {ca : List Addr} {F : Hp} {d : D} {v : V} (h : Rep g ca F d v) : ∀ (i : Nat) {ds : List D} {vs : List V}, Reps g ca F ds vs → Reps g ca F (ds.set i d) (vs.set i v)
  | _, [], vs, r => by simp only [Reps] at r; subst r; simpa using Reps.nil
  | 0, d' :: ds, vs, r => by
    simp only [Reps] at r
    obtain ⟨v', us, e, _, rs⟩ := r
    subst e
    exact .cons h rs
  | i + 1, d' :: ds, vs, r => by
    simp only [Reps] at r
    obtain ⟨v', us, e, r', rs⟩ := r
    subst e
    exact .cons r' (Reps.set h i rs)

/-! ### the state -/
def CellOk (g : G) (ca : List Addr) (F H : Hp) (a : Addr) : Cell → Prop
  | .lst ds => ∃ xs, H a = some (.lst xs) ∧ Reps g ca F ds xs
  | .ins c ds => ∃ dx xs, H a = some (.ins (g.cls c) dx (((g.fn c).take ds.length).zip xs)) ∧ Reps g ca F ds xs
  | .dead => True
def Live (s : S) (i : Nat) : Prop := ∃ c, s[i]? = some c ∧ c ≠ .dead
structure Sim (g : G) (ca : List Addr) (F P : Hp) (s : S) (H : Hp) : Prop where
  sub : Sub F H
  fr : Sub P H
  dis : ∀ (a : Addr) (o : HO), P a = some o → F a = none
  len : ca.length = s.length
  nd : ∀ (i j : Nat) (a : Addr), ca[i]? = some a → ca[j]? = some a → Live s i → Live s j → i = j
  out : ∀ (i : Nat) (a : Addr), ca[i]? = some a → Live s i → F a = none ∧ P a = none
  at_ : ∀ (i : Nat) (a : Addr) (c : Cell), ca[i]? = some a → s[i]? = some c → CellOk g ca F H a c
theorem CellOk.mono {g : G} {ca ca' : List Addr} {F F' H H' : Hp} {a : Addr} {c : Cell} (hc : ca <+: ca') (hF : Sub F F') (hH : H' a = H a) (h : CellOk g ca F H a c) : CellOk g ca' F' H' a c := by
  cases c with
  | lst ds => obtain ⟨xs, e, r⟩ := h; exact ⟨xs, hH.trans e, Reps.mono hc hF _ _ r⟩
  | ins c ds => obtain ⟨dx, xs, e, r⟩ := h; exact ⟨dx, xs, hH.trans e, Reps.mono hc hF _ _ r⟩
  | dead => trivial
theorem CellOk.some {g : G} {ca : List Addr} {F H : Hp} {a : Addr} {c : Cell} (h : CellOk g ca F H a c) (hd : c ≠ .dead) : H a ≠ none := by
  cases c with
  | lst ds => obtain ⟨xs, e, r⟩ := h; rw [e]; simp
  | ins c ds => obtain ⟨dx, xs, e, r⟩ := h; rw [e]; simp
  | dead => exact absurd rfl hd

theorem Sim.apart {g : G} {ca : List Addr} {F P H : Hp} {s : S} {p : Addr} (m : Sim g ca F P s H) (hp : H p = none) {i : Nat} {a : Addr} (e : ca[i]? = some a) (l : Live s i) : a ≠ p := by
  obtain ⟨c, q, hd⟩ := l
  rintro rfl
  exact (m.at_ i a c e q).some hd hp
/-- a new tracked thing that never changes -/
theorem Sim.fresh {g : G} {ca : List Addr} {F P H : Hp} {s : S} {p : Addr} (o : HO) (m : Sim g ca F P s H) (hp : H p = none) : Sim g ca (upd F p o) P s (upd H p o) where
  sub := m.sub.both
  fr := m.fr.put (m.fr.free hp)
  dis := fun a u e => by
    have : a ≠ p := ne_of_none e (m.fr.free hp)
    rw [upd_ne this]; exact m.dis a u e
  len := m.len
  nd := m.nd
  out := fun i a e l => by rw [upd_ne (m.apart hp e l)]; exact m.out i a e l
  at_ := fun i a c e q => by
    by_cases hd : c = .dead
    · subst hd; trivial
    · exact (m.at_ i a c e q).mono List.prefix_rfl (Sub.new (m.sub.free hp)) (upd_ne (m.apart hp e ⟨c, q, hd⟩))
/-- a new cell -/
theorem Sim.cell {g : G} {ca : List Addr} {F P H : Hp} {s : S} {p : Addr} {xs : List V} {ds : List D} (m : Sim g ca F P s H) (hp : H p = none) (r : Reps g ca F ds xs) : Sim g (ca ++ [p]) F P (s ++ [.lst ds]) (upd H p (.lst xs)) where
  sub := m.sub.put (m.sub.free hp)
  fr := m.fr.put (m.fr.free hp)
  dis := m.dis
  len := by simp [m.len]
  nd := fun i j a e1 e2 l1 l2 => by
    have hl := m.len
    have dec : ∀ k, (ca ++ [p])[k]? = some a → Live (s ++ [.lst ds]) k → (k < ca.length ∧ ca[k]? = some a ∧ Live s k) ∨ (k = ca.length ∧ a = p) := fun k e l => by
      by_cases hk : k < ca.length
      · refine .inl ⟨hk, by rwa [List.getElem?_append_left hk] at e, ?_⟩
        obtain ⟨c, q, d⟩ := l
        exact ⟨c, by rwa [List.getElem?_append_left (by omega)] at q, d⟩
      · have hk2 : k < (ca ++ [p]).length := (List.getElem?_eq_some_iff.mp e).1
        have : k = ca.length := by simp at hk2; omega
        subst this
        simp at e
        exact .inr ⟨rfl, e.symm⟩
    rcases dec i e1 l1 with ⟨h1, q1, k1⟩ | ⟨h1, q1⟩ <;> rcases dec j e2 l2 with ⟨h2, q2, k2⟩ | ⟨h2, q2⟩
    · exact m.nd i j a q1 q2 k1 k2
    · exact absurd q2 (m.apart hp q1 k1)
    · exact absurd q1 (m.apart hp q2 k2)
    · omega
  out := fun i a e l => by
    by_cases hk : i < ca.length
    · obtain ⟨c, q, d⟩ := l
      rw [List.getElem?_append_left hk] at e
      exact m.out i a e ⟨c, by rwa [List.getElem?_append_left (by have := m.len; omega)] at q, d⟩
    · have hk2 : i < (ca ++ [p]).length := (List.getElem?_eq_some_iff.mp e).1
      have : i = ca.length := by simp at hk2; omega
      subst this
      simp at e
      subst e
      exact ⟨m.sub.free hp, m.fr.free hp⟩
  at_ := fun i a c e q => by
    have hl := m.len
    by_cases hk : i < ca.length
    · rw [List.getElem?_append_left hk] at e
      rw [List.getElem?_append_left (by omega)] at q
      by_cases hd : c = .dead
      · subst hd; trivial
      · exact (m.at_ i a c e q).mono (List.prefix_append _ _) (Sub.refl _) (upd_ne (m.apart hp e ⟨c, q, hd⟩))
    · have hk2 : i < (ca ++ [p]).length := (List.getElem?_eq_some_iff.mp e).1
      have : i = ca.length := by simp at hk2; omega
      subst this
      simp at e
      subst e
      rw [hl] at q
      simp at q
      subst q
      exact ⟨xs, upd_same, Reps.mono (List.prefix_append _ _) (Sub.refl _) _ _ r⟩
/-- a cell's content changes -/
theorem Sim.store {g : G} {ca : List Addr} {F P H : Hp} {s : S} {p : Addr} {i : Nat} {c0 c : Cell} {o : HO} (m : Sim g ca F P s H) (hi : ca[i]? = some p) (h0 : s[i]? = some c0) (hd : c0 ≠ .dead)
    (hc : CellOk g ca F (upd H p o) p c) : Sim g ca F P (s.set i c) (upd H p o) where
  sub := m.sub.put (m.out i p hi ⟨c0, h0, hd⟩).1
  fr := m.fr.put (m.out i p hi ⟨c0, h0, hd⟩).2
  dis := m.dis
  len := by simp [m.len]
  nd := fun j k a e1 e2 l1 l2 => by
    have back : ∀ k, Live (s.set i c) k → Live s k := fun k ⟨c', q, d⟩ => by
      by_cases hk : i = k
      · subst hk; exact ⟨c0, h0, hd⟩
      · rw [List.getElem?_set_ne hk] at q; exact ⟨c', q, d⟩
    exact m.nd j k a e1 e2 (back j l1) (back k l2)
  out := fun j a e ⟨c', q, d⟩ => by
    by_cases hk : i = j
    · subst hk; exact m.out i a e ⟨c0, h0, hd⟩
    · rw [List.getElem?_set_ne hk] at q; exact m.out j a e ⟨c', q, d⟩
  at_ := fun j a c' e q => by
    by_cases hk : i = j
    · subst hk
      rw [hi] at e; cases e
      rw [List.getElem?_set_self (List.getElem?_eq_some_iff.mp h0).1] at q
      cases q
      exact hc
    · rw [List.getElem?_set_ne hk] at q
      by_cases hd' : c' = .dead
      · subst hd'; trivial
      · refine (m.at_ j a c' e q).mono List.prefix_rfl (Sub.refl _) (upd_ne ?_)
        rintro rfl
        exact hk (m.nd i j _ hi e ⟨c0, h0, hd⟩ ⟨c', q, hd'⟩)
/-- a cell is given up: what stands there stays for ever -/
theorem Sim.freeze {g : G} {ca : List Addr} {F P H : Hp} {s : S} {p : Addr} {i : Nat} {c0 : Cell} {o : HO} (m : Sim g ca F P s H) (hi : ca[i]? = some p) (h0 : s[i]? = some c0) (hd : c0 ≠ .dead) (ho : H p = some o) :
    Sim g ca (upd F p o) P (s.set i .dead) H ∧ F p = none := by
  obtain ⟨hp, hpP⟩ := m.out i p hi ⟨c0, h0, hd⟩
  refine ⟨⟨fun a u e => ?_, m.fr, fun a u e => ?_, by simp [m.len], fun j k a e1 e2 l1 l2 => ?_, fun j a e l => ?_, fun j a c e q => ?_⟩, hp⟩
  · by_cases ha : a = p
    · subst ha; rw [upd_same] at e; cases e; exact ho
    · rw [upd_ne ha] at e; exact m.sub _ _ e
  · have : a ≠ p := ne_of_none e hpP
    rw [upd_ne this]; exact m.dis a u e
  · have back : ∀ k, Live (s.set i .dead) k → Live s k := fun k ⟨c', q, d⟩ => by
      by_cases hk : i = k
      · subst hk; exact ⟨c0, h0, hd⟩
      · rw [List.getElem?_set_ne hk] at q; exact ⟨c', q, d⟩
    exact m.nd j k a e1 e2 (back j l1) (back k l2)
  · obtain ⟨c', q, d⟩ := l
    have hk : i ≠ j := by
      rintro rfl
      rw [List.getElem?_set_self (List.getElem?_eq_some_iff.mp h0).1] at q
      cases q; exact d rfl
    rw [List.getElem?_set_ne hk] at q
    have ha : a ≠ p := by
      rintro rfl
      exact hk (m.nd i j _ hi e ⟨c0, h0, hd⟩ ⟨c', q, d⟩)
    rw [upd_ne ha]
    exact m.out j a e ⟨c', q, d⟩
  · by_cases hd' : c = .dead
    · subst hd'; trivial
    · have hk : i ≠ j := by
        rintro rfl
        rw [List.getElem?_set_self (List.getElem?_eq_some_iff.mp h0).1] at q
        exact hd' (Option.some.inj q).symm
      rw [List.getElem?_set_ne hk] at q
      exact (m.at_ j a c e q).mono List.prefix_rfl (Sub.new hp) rfl
/-- the last cells are forgotten -/
theorem Sim.cut {g : G} {ca ca' : List Addr} {F P H : Hp} {s : S} (m : Sim g (ca ++ ca') F P s H) (hp : ∀ c ∈ s.take ca.length, match c with | .lst ds => pureL ds = true | .ins _ ds => pureL ds = true | .dead => True) : Sim g ca F P (s.take ca.length) H := by
  have hl := m.len
  have lv : ∀ i, Live (s.take ca.length) i → Live s i ∧ i < ca.length := fun i ⟨c, q, d⟩ => by
    have hi : i < (s.take ca.length).length := (List.getElem?_eq_some_iff.mp q).1
    rw [List.length_take] at hi
    refine ⟨⟨c, ?_, d⟩, by omega⟩
    rwa [List.getElem?_take_of_lt (by omega)] at q
  have up : ∀ (i : Nat) a, ca[i]? = some a → (ca ++ ca')[i]? = some a := fun i a e => prefix_get (List.prefix_append _ _) e
  refine ⟨m.sub, m.fr, m.dis, by simp at hl; simp [List.length_take]; omega, fun i j a e1 e2 l1 l2 => m.nd i j a (up i a e1) (up j a e2) (lv i l1).1 (lv j l2).1, fun i a e l => m.out i a (up i a e) (lv i l).1, fun i a c e q => ?_⟩
  have hi : i < (s.take ca.length).length := (List.getElem?_eq_some_iff.mp q).1
  rw [List.length_take] at hi
  have hq : s[i]? = some c := by rwa [List.getElem?_take_of_lt (by omega)] at q
  have := hp c (List.mem_of_getElem? q)
  have z := m.at_ i a c (up i a e) hq
  cases c with
  | lst ds => obtain ⟨xs, h1, h2⟩ := z; exact ⟨xs, h1, Reps.bare _ _ this h2⟩
  | ins c ds => obtain ⟨dx, xs, h1, h2⟩ := z; exact ⟨dx, xs, h1, Reps.bare _ _ this h2⟩
  | dead => trivial

/-- the frame: what is kept of others' things changes -/
theorem Sim.frame {g : G} {ca : List Addr} {F P P' H H' : Hp} {s : S} (m : Sim g ca F P s H) (fr : Sub P' H') (dis : ∀ a o, P' a = some o → F a = none) (cells : ∀ (i : Nat) (a : Addr), ca[i]? = some a → Live s i → P' a = none)
    (hH : ∀ a, P' a = none → P a = none → H' a = H a ∨ H a = none) (hF : ∀ a o, F a = some o → H' a = some o) : Sim g ca F P' s H' where
  sub := hF
  fr := fr
  dis := dis
  len := m.len
  nd := m.nd
  out := fun i a e l => ⟨(m.out i a e l).1, cells i a e l⟩
  at_ := fun i a c e q => by
    by_cases hd : c = .dead
    · subst hd; trivial
    · have l : Live s i := ⟨c, q, hd⟩
      refine (m.at_ i a c e q).mono List.prefix_rfl (Sub.refl _) ?_
      rcases hH a (cells i a e l) (m.out i a e l).2 with z | z
      · exact z
      · exact absurd z ((m.at_ i a c e q).some hd)
/-! ### results -/
inductive Res (α : Type) where
  | stuck | ok (a : α) (s : S) | exn (c : Nat) (pl : List D) (s : S)
  deriving Inhabited
def Res.bind {α β : Type} (r : Res α) (f : α → S → Res β) : Res β :=
  match r with
  | .stuck => .stuck
  | .ok a s => f a s
  | .exn c pl s => .exn c pl s
@[simp] theorem Res.bind_ok {α β : Type} (a : α) (s : S) (f : α → S → Res β) : (Res.ok a s).bind f = f a s := rfl
@[simp] theorem Res.bind_stuck {α β : Type} (f : α → S → Res β) : (Res.stuck : Res α).bind f = .stuck := rfl
@[simp] theorem Res.bind_exn {α β : Type} (c : Nat) (pl : List D) (s : S) (f : α → S → Res β) : (Res.exn c pl s : Res α).bind f = .exn c pl s := rfl

def XOk (g : G) (ca : List Addr) (F H : Hp) (c : Nat) (pl : List D) (dO : Option Addr) : Prop :=
  (pl = [] ∧ dO = none) ∨ ∃ d vs, dO = some d ∧ H d = some (.xd ((g.fn c).zip vs)) ∧ pl.length = (g.fn c).length ∧ Reps g ca F pl vs
def Post {α : Type} (g : G) (ca : List Addr) (F P : Hp) (E : XK) (Q : α → S → List Addr → Hp → Hp → Prop) : Res α → Prop
  | .stuck => False
  | .ok a s => ∀ ca' F' H', ca <+: ca' → Sub F F' → Sim g ca' F' P s H' → Q a s ca' F' H'
  | .exn c pl s => ∀ ca' F' H' dO, ca <+: ca' → Sub F F' → Sim g ca' F' P s H' → XOk g ca' F' H' c pl dO → E (.ref (g.cls c)) dO H'
theorem Post.imp {α : Type} {g : G} {ca : List Addr} {F P : Hp} {E : XK} {Q Q' : α → S → List Addr → Hp → Hp → Prop} {r : Res α} (h : Post g ca F P E Q r)
    (i : ∀ a s ca' F' H', ca <+: ca' → Sub F F' → Sim g ca' F' P s H' → Q a s ca' F' H' → Q' a s ca' F' H') : Post g ca F P E Q' r := by
  cases r with
  | stuck => exact h
  | ok a s => exact fun ca' F' H' h1 h2 h3 => i _ _ _ _ _ h1 h2 h3 (h ca' F' H' h1 h2 h3)
  | exn c pl s => exact h
theorem Post.later {α : Type} {g : G} {ca ca1 : List Addr} {F F1 P : Hp} {E : XK} {Q : α → S → List Addr → Hp → Hp → Prop} {r : Res α} (h : Post g ca F P E Q r) (h1 : ca <+: ca1) (h2 : Sub F F1) : Post g ca1 F1 P E Q r := by
  cases r with
  | stuck => exact h
  | ok a s => exact fun ca' F' H' a1 a2 a3 => h ca' F' H' (h1.trans a1) (h2.trans a2) a3
  | exn c pl s => exact fun ca' F' H' dO a1 a2 a3 a4 => h ca' F' H' dO (h1.trans a1) (h2.trans a2) a3 a4
theorem Post.seq {α β : Type} {g : G} {ca : List Addr} {F P : Hp} {E : XK} {Q : β → S → List Addr → Hp → Hp → Prop} {r : Res α} {f : α → S → Res β} (h : Post g ca F P E Q (r.bind f)) :
    Post g ca F P E (fun a s ca1 F1 H1 => Post g ca1 F1 P E Q (f a s)) r := by
  cases r with
  | stuck => exact h
  | ok a s => exact fun ca' F' H' a1 a2 _ => Post.later h a1 a2
  | exn c pl s => exact h
theorem Post.seq0 {α β : Type} {g : G} {ca : List Addr} {F P : Hp} {E : XK} {Q : β → S → List Addr → Hp → Hp → Prop} {r : Res α} {f : α → S → Res β} (h : Post g ca F P E Q (r.bind f)) :
    Post g ca F P E (fun a s _ _ _ => Post g ca F P E Q (f a s)) r := by
  cases r with
  | stuck => exact h
  | ok a s => exact fun ca' F' H' a1 a2 _ => h
  | exn c pl s => exact h
theorem Post.now {α : Type} {g : G} {ca : List Addr} {F P H : Hp} {E : XK} {Q : α → S → List Addr → Hp → Hp → Prop} {a : α} {s : S} (h : Post g ca F P E Q (.ok a s)) (m : Sim g ca F P s H) : Q a s ca F H :=
  h ca F H List.prefix_rfl (Sub.refl F) m

/-! ### names -/
abbrev Env := List (Option D)
def Slots (g : G) (ca : List Addr) (F : Hp) (env : Env) (σ : L2.St) : Prop := env.length = σ.length ∧ ∀ (i : Nat) d, env[i]? = some (some d) → ∃ v, σ[i]? = some (some v) ∧ Rep g ca F d v
theorem Slots.mono {g : G} {ca ca' : List Addr} {F F' : Hp} {env : Env} {σ : L2.St} (hc : ca <+: ca') (hF : Sub F F') (h : Slots g ca F env σ) : Slots g ca' F' env σ :=
  ⟨h.1, fun i d e => let ⟨v, e', r⟩ := h.2 i d e; ⟨v, e', Rep.mono hc hF _ _ r⟩⟩
theorem Slots.set {g : G} {ca : List Addr} {F : Hp} {env : Env} {σ : L2.St} {i : Nat} {d : D} {v : V} (h : Slots g ca F env σ) (r : Rep g ca F d v) : Slots g ca F (env.set i (some d)) (σ.set i (some v)) := by
  refine ⟨by simp [h.1], fun j d' e => ?_⟩
  by_cases hj : i = j
  · subst hj
    have hl : i < env.length := by have := (List.getElem?_eq_some_iff.mp e).1; simpa using this
    rw [List.getElem?_set_self hl] at e
    cases e
    exact ⟨v, by rw [List.getElem?_set_self (h.1 ▸ hl)], r⟩
  · rw [List.getElem?_set_ne hj] at e ⊢
    exact h.2 j d' e

/-! ### judgements -/
def Ev (X : Cx) (g : G) (E : XK) (e : Expr) (m : Env → S → Res D) : Prop :=
  ∃ t : TE, PE X e t ∧ ∀ (env : Env) (s : S) (ca : List Addr) (F P H : Hp) (σ : L2.St) (Q : VK), Sim g ca F P s H → Slots g ca F env σ →
    Post g ca F P E (fun d _ ca' F' H' => ∀ v, Rep g ca' F' d v → Q v H') (m env s) → t σ H Q
def Et (X : Cx) (g : G) (E : XK) (e : Expr) (m : Env → S → Res Bool) : Prop :=
  ∃ t : TT, PT X e t ∧ ∀ (env : Env) (s : S) (ca : List Addr) (F P H : Hp) (σ : L2.St) (Q : Bool → Hp → Prop), Sim g ca F P s H → Slots g ca F env σ →
    Post g ca F P E (fun b _ _ _ H' => Q b H') (m env s) → t σ H Q
def Ea (X : Cx) (g : G) (E : XK) (es : List Expr) (m : Env → S → Res (List D)) : Prop :=
  ∃ t : TA, PA X es t ∧ ∀ (env : Env) (s : S) (ca : List Addr) (F P H : Hp) (σ : L2.St) (Q : List V → Hp → Prop), Sim g ca F P s H → Slots g ca F env σ →
    Post g ca F P E (fun ds _ ca' F' H' => ∀ vs, Reps g ca' F' ds vs → Q vs H') (m env s) → t σ H Q
inductive Fl where
  | nx (env : Env) | rt (d : D) | bk (env : Env) | ct (env : Env)
  deriving Inhabited
def FlOk (g : G) (ca : List Addr) (F H : Hp) (Dn : Ends) : Fl → Prop
  | .nx env => ∀ σ, Slots g ca F env σ → Dn.nx σ H
  | .rt d => ∀ v, Rep g ca F d v → Dn.rt v H
  | .bk env => ∀ σ, Slots g ca F env σ → Dn.bk σ H
  | .ct env => ∀ σ, Slots g ca F env σ → Dn.ct σ H
def Sv (X : Cx) (g : G) (E : XK) (st : Stmt) (m : Env → S → Res Fl) : Prop :=
  ∃ t : TS, PS X st t ∧ ∀ (env : Env) (s : S) (ca : List Addr) (F P H : Hp) (σ : L2.St) (Dn : Ends), Sim g ca F P s H → Slots g ca F env σ →
    Post g ca F P E (fun fl _ ca' F' H' => FlOk g ca' F' H' Dn fl) (m env s) → t Dn σ H
def Svs (X : Cx) (g : G) (E : XK) (sts : List Stmt) (m : Env → S → Res Fl) : Prop :=
  ∃ t : TS, PSs X sts t ∧ ∀ (env : Env) (s : S) (ca : List Addr) (F P H : Hp) (σ : L2.St) (Dn : Ends), Sim g ca F P s H → Slots g ca F env σ →
    Post g ca F P E (fun fl _ ca' F' H' => FlOk g ca' F' H' Dn fl) (m env s) → t Dn σ H

/-! ### a def -/
def spG (g : G) (n : Nat) (f : List D → S → Res D) : Sp := fun vs H Q E => ∃ ds ca F P s, vs.length = n ∧ Sim g ca F P s H ∧ Reps g ca F ds vs ∧
  Post g ca F P E (fun d _ ca' F' H' => ∀ v, Rep g ca' F' d v → Q v H') (f ds s)
end Pm
set_option Elab.async false
set_option linter.all false
set_option maxRecDepth 100000
set_option maxHeartbeats 2000000
namespace Pm
open PySem PySem.Spec PyProof.Rows L2
section
variable {X : Cx} {g : G} {E : XK}

/-! ### rules by values -/
def OpD (X : Cx) (g : G) (E : XK) (fv : Value → Value → Sem Value) (f : D → D → S → Res D) : Prop :=
  ∃ r : R2, OpR X fv r ∧ ∀ (x y : D) (s : S) (ca : List Addr) (F P H : Hp) (v u : V) (Q : VK), Sim g ca F P s H → Rep g ca F x v → Rep g ca F y u →
    Post g ca F P E (fun d _ ca' F' H' => ∀ w, Rep g ca' F' d w → Q w H') (f x y s) → r v u H Q
def IxD (X : Cx) (g : G) (E : XK) (f : D → D → S → Res D) : Prop :=
  ∃ r : R2, IxR X r ∧ ∀ (x y : D) (s : S) (ca : List Addr) (F P H : Hp) (v u : V) (Q : VK), Sim g ca F P s H → Rep g ca F x v → Rep g ca F y u →
    Post g ca F P E (fun d _ ca' F' H' => ∀ w, Rep g ca' F' d w → Q w H') (f x y s) → r v u H Q
def UnD (X : Cx) (g : G) (E : XK) (fv : Value → Sem Value) (f : D → S → Res D) : Prop :=
  ∃ r : V → Hp → VK → Prop, UnR X fv r ∧ ∀ (x : D) (s : S) (ca : List Addr) (F P H : Hp) (v : V) (Q : VK), Sim g ca F P s H → Rep g ca F x v →
    Post g ca F P E (fun d _ ca' F' H' => ∀ w, Rep g ca' F' d w → Q w H') (f x s) → r v H Q
def CallD (X : Cx) (g : G) (E : XK) (fv : Value) (f : List D → S → Res D) : Prop :=
  ∃ r : List V → Hp → VK → Prop, CallR X fv r ∧ ∀ (xs : List D) (s : S) (ca : List Addr) (F P H : Hp) (vs : List V) (Q : VK), Sim g ca F P s H → Reps g ca F xs vs →
    Post g ca F P E (fun d _ ca' F' H' => ∀ w, Rep g ca' F' d w → Q w H') (f xs s) → r vs H Q
/-- the first that isn't stuck -/
def Res.or {α : Type} (a b : Res α) : Res α := match a with
  | .stuck => b
  | r => r
theorem Post.or {α : Type} {ca : List Addr} {F P : Hp} {Q : α → S → List Addr → Hp → Hp → Prop} {a b : Res α} (h : Post g ca F P E Q (a.or b)) : Post g ca F P E Q a ∨ Post g ca F P E Q b := by
  cases a with
  | stuck => exact .inr h
  | ok a s => exact .inl h
  | exn c pl s => exact .inl h
theorem OpD.or {fv : Value → Value → Sem Value} {f f' : D → D → S → Res D} (h : OpD X g E fv f) (h' : OpD X g E fv f') : OpD X g E fv (fun x y s => (f x y s).or (f' x y s)) := by
  obtain ⟨r, h1, h2⟩ := h
  obtain ⟨r', h1', h2'⟩ := h'
  exact ⟨_, OpR.or h1 h1', fun x y s ca F P H v u Q m rx ry p => p.or.imp (h2 x y s ca F P H v u Q m rx ry) (h2' x y s ca F P H v u Q m rx ry)⟩
theorem IxR.or {r r' : R2} (h : IxR X r) (h' : IxR X r') : IxR X (fun x y H Q => r x y H Q ∨ r' x y H Q) := fun a b pins s σ H x y v u Q I rx ry hq hs =>
  hq.elim (fun z => h a b pins s σ H x y v u Q I rx ry z hs) fun z => h' a b pins s σ H x y v u Q I rx ry z hs
theorem IxD.or {f f' : D → D → S → Res D} (h : IxD X g E f) (h' : IxD X g E f') : IxD X g E (fun x y s => (f x y s).or (f' x y s)) := by
  obtain ⟨r, h1, h2⟩ := h
  obtain ⟨r', h1', h2'⟩ := h'
  exact ⟨_, IxR.or h1 h1', fun x y s ca F P H v u Q m rx ry p => p.or.imp (h2 x y s ca F P H v u Q m rx ry) (h2' x y s ca F P H v u Q m rx ry)⟩
theorem UnD.or {fv : Value → Sem Value} {f f' : D → S → Res D} (h : UnD X g E fv f) (h' : UnD X g E fv f') : UnD X g E fv (fun x s => (f x s).or (f' x s)) := by
  obtain ⟨r, h1, h2⟩ := h
  obtain ⟨r', h1', h2'⟩ := h'
  refine ⟨fun x H Q => r x H Q ∨ r' x H Q, fun pins s σ H x v Q I rx hq => hq.elim (h1 pins s σ H x v Q I rx) (h1' pins s σ H x v Q I rx), fun x s ca F P H v Q m rx p => p.or.imp (h2 x s ca F P H v Q m rx) (h2' x s ca F P H v Q m rx)⟩
theorem CallD.or {fv : Value} {f f' : List D → S → Res D} (h : CallD X g E fv f) (h' : CallD X g E fv f') : CallD X g E fv (fun x s => (f x s).or (f' x s)) := by
  obtain ⟨r, h1, h2⟩ := h
  obtain ⟨r', h1', h2'⟩ := h'
  refine ⟨fun x H Q => r x H Q ∨ r' x H Q, fun pins s σ H xs us Q I rx hq => hq.elim (h1 pins s σ H xs us Q I rx) (h1' pins s σ H xs us Q I rx), fun x s ca F P H v Q m rx p => p.or.imp (h2 x s ca F P H v Q m rx) (h2' x s ca F P H v Q m rx)⟩

/-! ### names, constants -/
def mVar (i : Nat) : Env → S → Res D := fun env s => match env[i]? with
  | some (some d) => .ok d s
  | _ => .stuck
def mC (d : D) : Env → S → Res D := fun _ s => .ok d s
theorem ev_of {e : Expr} {t : TE} {m : Env → S → Res D} (h : PE X e t) (k : ∀ (env : Env) (s : S) (ca : List Addr) (F P H : Hp) (σ : L2.St) (Q : VK), Sim g ca F P s H → Slots g ca F env σ →
    Post g ca F P E (fun d _ ca' F' H' => ∀ v, Rep g ca' F' d v → Q v H') (m env s) → t σ H Q) : Ev X g E e m := ⟨t, h, k⟩
theorem ev_var (i : Nat) {x : Str} {pos : Pos} (hN : X.N[i]? = some x := by rfl) (hv : Vis X.env.scope x := by first | exact Or.inl rfl | exact Or.inr (Or.inl rfl) | exact Or.inr (Or.inr rfl)) (hd : (x == ("__debug__" : Str)) = false := by decide)
    (hcd : (x == ("__classdict__" : Str)) = false := by decide) : Ev X g E (.Name x pos) (mVar i) := by
  refine ⟨_, pe_var hN hv hd hcd, fun env s ca F P H σ Q m sl p => ?_⟩
  unfold mVar at p
  split at p
  · rename_i d e
    obtain ⟨v, e', r⟩ := sl.2 i d e
    exact ⟨v, e', p.now m v r⟩
  · exact p.elim
theorem ev_c {e : Expr} {d : D} {v : V} (h : PE X e (tC v)) (r : ∀ ca F, Rep g ca F d v) : Ev X g E e (mC d) :=
  ⟨_, h, fun env s ca F P H σ Q m sl p => p.now m v (r ca F)⟩
theorem ev_int {i j pos} : Ev X g E (.Constant (.int i) j pos) (mC (.int i)) := ev_c pe_int fun _ _ => rfl
theorem ev_bl {b j pos} : Ev X g E (.Constant (.bool b) j pos) (mC (.bl b)) := ev_c pe_bl fun _ _ => rfl
theorem ev_non {j pos} : Ev X g E (.Constant .none j pos) (mC .non) := ev_c pe_non fun _ _ => rfl
theorem ev_str {x j pos} : Ev X g E (.Constant (.str x) j pos) (mC (.str x)) := ev_c pe_str fun _ _ => rfl

/-! ### operators -/
variable {a b c e : Expr} {es rest : List Expr} {ma mb mc me : Env → S → Res D} {pos : Pos} {f : D → D → S → Res D}
def m2 (f : D → D → S → Res D) (ma mb : Env → S → Res D) : Env → S → Res D := fun env s => (ma env s).bind fun x s1 => (mb env s1).bind fun y s2 => f x y s2
def m1 (f : D → S → Res D) (ma : Env → S → Res D) : Env → S → Res D := fun env s => (ma env s).bind fun x s1 => f x s1
theorem two_run {ta tb : TE} {r : R2} (ha : ∀ (env : Env) (s : S) (ca : List Addr) (F P H : Hp) (σ : L2.St) (Q : VK), Sim g ca F P s H → Slots g ca F env σ →
      Post g ca F P E (fun d _ ca' F' H' => ∀ v, Rep g ca' F' d v → Q v H') (ma env s) → ta σ H Q)
    (hb : ∀ (env : Env) (s : S) (ca : List Addr) (F P H : Hp) (σ : L2.St) (Q : VK), Sim g ca F P s H → Slots g ca F env σ →
      Post g ca F P E (fun d _ ca' F' H' => ∀ v, Rep g ca' F' d v → Q v H') (mb env s) → tb σ H Q)
    (hr : ∀ (x y : D) (s : S) (ca : List Addr) (F P H : Hp) (v u : V) (Q : VK), Sim g ca F P s H → Rep g ca F x v → Rep g ca F y u → Post g ca F P E (fun d _ ca' F' H' => ∀ w, Rep g ca' F' d w → Q w H') (f x y s) → r v u H Q)
    {env : Env} {s : S} {ca : List Addr} {F P H : Hp} {σ : L2.St} {Q : VK} (m : Sim g ca F P s H) (sl : Slots g ca F env σ) (p : Post g ca F P E (fun d _ ca' F' H' => ∀ v, Rep g ca' F' d v → Q v H') (m2 f ma mb env s)) :
    tOp r ta tb σ H Q := by
  refine ha env s ca F P H σ _ m sl (Post.imp (Post.seq p) fun x s1 ca1 F1 H1 h1 h2 m1 q v rv => ?_)
  refine hb env s1 ca1 F1 P H1 σ _ m1 (sl.mono h1 h2) (Post.imp (Post.seq q) fun y s2 ca2 F2 H2 k1 k2 m2' q2 u ru => ?_)
  exact hr x y s2 ca2 F2 P H2 v u Q m2' (Rep.mono k1 k2 _ _ rv) ru q2
theorem ev_bin {op : Operator} (ho : OpD X g E (binaryOp op) f) (ha : Ev X g E a ma) (hb : Ev X g E b mb) : Ev X g E (.BinOp a op b pos) (m2 f ma mb) := by
  obtain ⟨r, h1, h2⟩ := ho
  obtain ⟨ta, pa, ha⟩ := ha
  obtain ⟨tb, pb, hb⟩ := hb
  exact ⟨_, pe_op h1 pa pb, fun env s ca F P H σ Q m sl p => two_run ha hb h2 m sl p⟩
theorem ev_cmp {op : CmpOp} (ho : OpD X g E (compareOp op) f) (ha : Ev X g E a ma) (hb : Ev X g E b mb) (hm : behindInMarks op b = false := by first | exact nomark _ | rfl) : Ev X g E (.Compare a [op] [b] pos) (m2 f ma mb) := by
  obtain ⟨r, h1, h2⟩ := ho
  obtain ⟨ta, pa, ha⟩ := ha
  obtain ⟨tb, pb, hb⟩ := hb
  exact ⟨_, pe_cmpR h1 pa pb hm, fun env s ca F P H σ Q m sl p => two_run ha hb h2 m sl p⟩
theorem ev_ix (ho : IxD X g E f) (ha : Ev X g E a ma) (hb : Ev X g E b mb) (hs : PlainIx b := by exact fun _ _ => rfl) : Ev X g E (.Subscript a b pos) (m2 f ma mb) := by
  obtain ⟨r, h1, h2⟩ := ho
  obtain ⟨ta, pa, ha⟩ := ha
  obtain ⟨tb, pb, hb⟩ := hb
  exact ⟨_, pe_ix h1 pa pb hs, fun env s ca F P H σ Q m sl p => two_run ha hb h2 m sl p⟩
theorem ev_un {op : UnaryOp} {f : D → S → Res D} (ho : UnD X g E (unaryOp op) f) (ha : Ev X g E a ma) : Ev X g E (.UnaryOp op a pos) (m1 f ma) := by
  obtain ⟨r, h1, h2⟩ := ho
  obtain ⟨ta, pa, ha⟩ := ha
  refine ⟨_, pe_un h1 pa, fun env s ca F P H σ Q m sl p => ?_⟩
  refine ha env s ca F P H σ _ m sl (Post.imp (Post.seq p) fun x s1 ca1 F1 H1 _ _ m1 q v rv => ?_)
  exact h2 x s1 ca1 F1 P H1 v Q m1 rv q

/-! ### truth -/
def mB (f : Env → S → Res D) : Env → S → Res Bool := fun env s => (f env s).bind fun x s1 => match x with
  | .bl b => .ok b s1
  | _ => .stuck
theorem et_val (h : Ev X g E e me) (he : ∀ whole, isTrue e X.env whole = (do let v ← whole; standAt e.pos; holding [v] (truthy v)) := by intro _; rfl) : Et X g E e (mB me) := by
  obtain ⟨t, p, h⟩ := h
  refine ⟨_, pt_val p he, fun env s ca F P H σ Q m sl q => ?_⟩
  refine h env s ca F P H σ _ m sl (Post.imp (Post.seq q) fun x s1 ca1 F1 H1 _ _ m1 q v rv => ?_)
  cases x with
  | bl b => exact ⟨b, rv, q.now m1⟩
  | _ => exact q.elim
theorem et_cmp {op : CmpOp} (ho : OpD X g E (compareOp op) f) (ha : Ev X g E a ma) (hb : Ev X g E b mb) (hm : behindInMarks op b = false := by first | exact nomark _ | rfl) : Et X g E (.Compare a [op] [b] pos) (mB (m2 f ma mb)) := by
  obtain ⟨r, h1, h2⟩ := ho
  obtain ⟨ta, pa, ha⟩ := ha
  obtain ⟨tb, pb, hb⟩ := hb
  refine ⟨_, pt_cmpR h1 pa pb hm, fun env s ca F P H σ Q m sl p => ?_⟩
  refine two_run (Q := fun x H' => ∃ k, x = .bl k ∧ Q k H') ha hb h2 m sl (Post.imp (Post.seq p) fun x s1 ca1 F1 H1 _ _ m1 q v rv => ?_)
  cases x with
  | bl b => exact ⟨b, rv, q.now m1⟩
  | _ => exact q.elim
variable {ta tb tc : Env → S → Res Bool}
def mNotT (t : Env → S → Res Bool) : Env → S → Res Bool := fun env s => (t env s).bind fun b s1 => .ok (!b) s1
def mAndT (t u : Env → S → Res Bool) : Env → S → Res Bool := fun env s => (t env s).bind fun b s1 => if b = true then u env s1 else .ok false s1
def mOrT (t u : Env → S → Res Bool) : Env → S → Res Bool := fun env s => (t env s).bind fun b s1 => if b = true then .ok true s1 else u env s1
theorem et_not (h : Et X g E a ta) : Et X g E (.UnaryOp .Not a pos) (mNotT ta) := by
  obtain ⟨t, p, h⟩ := h
  refine ⟨_, pt_not p, fun env s ca F P H σ Q m sl q => ?_⟩
  exact h env s ca F P H σ _ m sl (Post.imp (Post.seq q) fun x s1 ca1 F1 H1 _ _ m1 q => q.now m1)
/-- a chain of and, or as a test -/
def Ew (X : Cx) (g : G) (E : XK) (e : Expr) (m : Env → S → Res Bool) : Prop :=
  ∃ t : TT, PW X e t ∧ ∀ (env : Env) (s : S) (ca : List Addr) (F P H : Hp) (σ : L2.St) (Q : Bool → Hp → Prop), Sim g ca F P s H → Slots g ca F env σ →
    Post g ca F P E (fun b _ _ _ H' => Q b H') (m env s) → t σ H Q
theorem Ew.et (h : Ew X g E e ta) : Et X g E e ta := let ⟨t, p, h⟩ := h; ⟨t, p.pt, h⟩
theorem ew_and1 (h : Et X g E a ta) : Ew X g E (.BoolOp .And [a] pos) ta := let ⟨t, p, h⟩ := h; ⟨t, pw_and1 p, h⟩
theorem ew_or1 (h : Et X g E a ta) : Ew X g E (.BoolOp .Or [a] pos) ta := let ⟨t, p, h⟩ := h; ⟨t, pw_or1 p, h⟩
theorem ew_and (ha : Et X g E a ta) (hb : Ew X g E (.BoolOp .And (b :: rest) pos) tb) : Ew X g E (.BoolOp .And (a :: b :: rest) pos) (mAndT ta tb) := by
  obtain ⟨t, p, h⟩ := ha
  obtain ⟨u, p', h'⟩ := hb
  refine ⟨_, pw_and p p', fun env s ca F P H σ Q m sl q => ?_⟩
  refine h env s ca F P H σ _ m sl (Post.imp (Post.seq q) fun x s1 ca1 F1 H1 k1 k2 m1 q => ?_)
  cases x with
  | true => exact h' env s1 ca1 F1 P H1 σ _ m1 (sl.mono k1 k2) q
  | false => exact q.now m1
theorem ew_or (ha : Et X g E a ta) (hb : Ew X g E (.BoolOp .Or (b :: rest) pos) tb) : Ew X g E (.BoolOp .Or (a :: b :: rest) pos) (mOrT ta tb) := by
  obtain ⟨t, p, h⟩ := ha
  obtain ⟨u, p', h'⟩ := hb
  refine ⟨_, pw_or p p', fun env s ca F P H σ Q m sl q => ?_⟩
  refine h env s ca F P H σ _ m sl (Post.imp (Post.seq q) fun x s1 ca1 F1 H1 k1 k2 m1 q => ?_)
  cases x with
  | true => exact q.now m1
  | false => exact h' env s1 ca1 F1 P H1 σ _ m1 (sl.mono k1 k2) q
/-- .. as values, bools -/
def mAnd (ma mb : Env → S → Res D) : Env → S → Res D := fun env s => (ma env s).bind fun x s1 => match x with
  | .bl true => mb env s1
  | .bl false => .ok (.bl false) s1
  | _ => .stuck
def mOr (ma mb : Env → S → Res D) : Env → S → Res D := fun env s => (ma env s).bind fun x s1 => match x with
  | .bl true => .ok (.bl true) s1
  | .bl false => mb env s1
  | _ => .stuck
def mNot (ma : Env → S → Res D) : Env → S → Res D := fun env s => (ma env s).bind fun x s1 => match x with
  | .bl b => .ok (.bl (!b)) s1
  | _ => .stuck
theorem ev_one {op} (h : Ev X g E a ma) : Ev X g E (.BoolOp op [a] pos) ma := let ⟨t, p, h⟩ := h; ⟨t, pe_one p, h⟩
theorem ev_and (ha : Ev X g E a ma) (hb : Ev X g E (.BoolOp .And (b :: rest) pos) mb) : Ev X g E (.BoolOp .And (a :: b :: rest) pos) (mAnd ma mb) := by
  obtain ⟨t, p, h⟩ := ha
  obtain ⟨u, p', h'⟩ := hb
  refine ⟨_, pe_and p p', fun env s ca F P H σ Q m sl q => ?_⟩
  refine h env s ca F P H σ _ m sl (Post.imp (Post.seq q) fun x s1 ca1 F1 H1 k1 k2 m1 q v rv => ?_)
  cases x with
  | bl k =>
    refine ⟨k, rv, ?_⟩
    cases k with
    | true => exact h' env s1 ca1 F1 P H1 σ _ m1 (sl.mono k1 k2) q
    | false => exact q.now m1 _ rfl
  | _ => exact q.elim
theorem ev_or (ha : Ev X g E a ma) (hb : Ev X g E (.BoolOp .Or (b :: rest) pos) mb) : Ev X g E (.BoolOp .Or (a :: b :: rest) pos) (mOr ma mb) := by
  obtain ⟨t, p, h⟩ := ha
  obtain ⟨u, p', h'⟩ := hb
  refine ⟨_, pe_or p p', fun env s ca F P H σ Q m sl q => ?_⟩
  refine h env s ca F P H σ _ m sl (Post.imp (Post.seq q) fun x s1 ca1 F1 H1 k1 k2 m1 q v rv => ?_)
  cases x with
  | bl k =>
    refine ⟨k, rv, ?_⟩
    cases k with
    | true => exact q.now m1 _ rfl
    | false => exact h' env s1 ca1 F1 P H1 σ _ m1 (sl.mono k1 k2) q
  | _ => exact q.elim
theorem ev_not (ha : Ev X g E a ma) : Ev X g E (.UnaryOp .Not a pos) (mNot ma) := by
  obtain ⟨t, p, h⟩ := ha
  refine ⟨_, pe_not p, fun env s ca F P H σ Q m sl q => ?_⟩
  refine h env s ca F P H σ _ m sl (Post.imp (Post.seq q) fun x s1 ca1 F1 H1 k1 k2 m1 q v rv => ?_)
  cases x with
  | bl k => exact ⟨k, rv, q.now m1 _ rfl⟩
  | _ => exact q.elim
def mIf (t : Env → S → Res Bool) (ma mb : Env → S → Res D) : Env → S → Res D := fun env s => (t env s).bind fun b s1 => if b = true then ma env s1 else mb env s1
theorem ev_if (hc : Et X g E c tc) (ha : Ev X g E a ma) (hb : Ev X g E b mb) : Ev X g E (.IfExp c a b pos) (mIf tc ma mb) := by
  obtain ⟨t, p, h⟩ := hc
  obtain ⟨u, p', h'⟩ := ha
  obtain ⟨w, p'', h''⟩ := hb
  refine ⟨_, pe_ifExp p p' p'', fun env s ca F P H σ Q m sl q => ?_⟩
  refine h env s ca F P H σ _ m sl (Post.imp (Post.seq q) fun x s1 ca1 F1 H1 k1 k2 m1 q => ?_)
  cases x with
  | true => exact h' env s1 ca1 F1 P H1 σ _ m1 (sl.mono k1 k2) q
  | false => exact h'' env s1 ca1 F1 P H1 σ _ m1 (sl.mono k1 k2) q
/-- a <= b < c -/
def mChain (f f' : D → D → S → Res D) (ma mb mc : Env → S → Res D) : Env → S → Res D := fun env s => (ma env s).bind fun x s1 => (mb env s1).bind fun y s2 => (f x y s2).bind fun z s3 => match z with
  | .bl true => (mc env s3).bind fun w s4 => f' y w s4
  | .bl false => .ok (.bl false) s3
  | _ => .stuck

/-! ### arguments, displays -/
def aNil : Env → S → Res (List D) := fun _ s => .ok [] s
def aCons (me : Env → S → Res D) (mr : Env → S → Res (List D)) : Env → S → Res (List D) := fun env s => (me env s).bind fun x s1 => (mr env s1).bind fun xs s2 => .ok (x :: xs) s2
theorem ea_nil : Ea X g E [] aNil := ⟨_, pa_nil, fun env s ca F P H σ Q m sl q => q.now m [] .nil⟩
theorem ea_cons {mr : Env → S → Res (List D)} (ha : Ev X g E e me) (hr : Ea X g E es mr) (hs : starEach (e :: es) X.env = (false, eval e X.env) :: starEach es X.env := by rfl) : Ea X g E (e :: es) (aCons me mr) := by
  obtain ⟨t, p, h⟩ := ha
  obtain ⟨u, p', h'⟩ := hr
  refine ⟨_, pa_cons p p' hs, fun env s ca F P H σ Q m sl q => ?_⟩
  refine h env s ca F P H σ _ m sl (Post.imp (Post.seq q) fun x s1 ca1 F1 H1 k1 k2 m1 q v rv => ?_)
  refine h' env s1 ca1 F1 P H1 σ _ m1 (sl.mono k1 k2) (Post.imp (Post.seq q) fun xs s2 ca2 F2 H2 l1 l2 m2 q2 vs rvs => ?_)
  exact q2.now m2 _ (.cons (Rep.mono l1 l2 _ _ rv) rvs)
variable {mr : Env → S → Res (List D)}
def line : Nat := 16000000
theorem line_le {n : Nat} (h : n ≤ line) : n ≤ sizeLine := Nat.le_trans h (by rw [sizeLine_eq]; decide)
def newL (xs : List D) (s : S) : Res D := if xs.length ≤ line then .ok (.lst xs) s else .stuck
def newT (xs : List D) (s : S) : Res D := if xs.length ≤ line then .ok (.tup xs) s else .stuck
theorem newL_ok {xs : List D} {s : S} {ca : List Addr} {F P H : Hp} {vs : List V} {Q : VK} (m : Sim g ca F P s H) (r : Reps g ca F xs vs) (p : Post g ca F P E (fun d _ ca' F' H' => ∀ v, Rep g ca' F' d v → Q v H') (newL xs s)) :
    vs.length ≤ sizeLine ∧ ∀ q, H q = none → Q (.ref q) (upd H q (.lst vs)) := by
  unfold newL at p
  split at p
  · rename_i hl
    refine ⟨by rw [← r.length]; exact line_le hl, fun q hq => ?_⟩
    refine p ca _ _ List.prefix_rfl (Sub.new (m.sub.free hq)) (m.fresh _ hq) _ ?_
    simp only [Rep]
    exact ⟨q, vs, rfl, upd_same, Reps.mono List.prefix_rfl (Sub.new (m.sub.free hq)) _ _ r⟩
  · exact p.elim
theorem newT_ok {xs : List D} {s : S} {ca : List Addr} {F P H : Hp} {vs : List V} {Q : VK} (m : Sim g ca F P s H) (r : Reps g ca F xs vs) (p : Post g ca F P E (fun d _ ca' F' H' => ∀ v, Rep g ca' F' d v → Q v H') (newT xs s)) :
    vs.length ≤ sizeLine ∧ ∀ q, H q = none → Q (.ref q) (upd H q (.tup vs)) := by
  unfold newT at p
  split at p
  · rename_i hl
    refine ⟨by rw [← r.length]; exact line_le hl, fun q hq => ?_⟩
    refine p ca _ _ List.prefix_rfl (Sub.new (m.sub.free hq)) (m.fresh _ hq) _ ?_
    simp only [Rep]
    exact ⟨q, vs, rfl, upd_same, Reps.mono List.prefix_rfl (Sub.new (m.sub.free hq)) _ _ r⟩
  · exact p.elim
def mLst (mr : Env → S → Res (List D)) : Env → S → Res D := fun env s => (mr env s).bind newL
def mTup (mr : Env → S → Res (List D)) : Env → S → Res D := fun env s => (mr env s).bind newT
/-- a list that will change -/
def mCell (mr : Env → S → Res (List D)) : Env → S → Res D := fun env s => (mr env s).bind fun xs s1 => if xs.length ≤ line then .ok (.cell s1.length) (s1 ++ [.lst xs]) else .stuck
theorem ev_lst (h : Ea X g E es mr) : Ev X g E (.List es pos) (mLst mr) := by
  obtain ⟨t, p, h⟩ := h
  refine ⟨_, pe_lst p, fun env s ca F P H σ Q m sl q => ?_⟩
  exact h env s ca F P H σ _ m sl (Post.imp (Post.seq q) fun xs s1 ca1 F1 H1 k1 k2 m1 q vs rv => newL_ok m1 rv q)
theorem ev_tup {x1} (h : Ea X g E es mr) : Ev X g E (.Tuple es x1 pos) (mTup mr) := by
  obtain ⟨t, p, h⟩ := h
  refine ⟨_, pe_tup p, fun env s ca F P H σ Q m sl q => ?_⟩
  exact h env s ca F P H σ _ m sl (Post.imp (Post.seq q) fun xs s1 ca1 F1 H1 k1 k2 m1 q vs rv => newT_ok m1 rv q)
theorem ev_cell (h : Ea X g E es mr) : Ev X g E (.List es pos) (mCell mr) := by
  obtain ⟨t, p, h⟩ := h
  refine ⟨_, pe_lst p, fun env s ca F P H σ Q m sl q => ?_⟩
  refine h env s ca F P H σ _ m sl (Post.imp (Post.seq q) fun xs s1 ca1 F1 H1 k1 k2 m1 q vs rv => ?_)
  split at q
  · rename_i hl
    refine ⟨by rw [← rv.length]; exact line_le hl, fun z hz => ?_⟩
    refine q _ F1 _ (List.prefix_append _ [z]) (Sub.refl _) (m1.cell hz rv) _ ?_
    simp only [Rep]
    exact ⟨z, rfl, by rw [← m1.len]; simp⟩
  · exact q.elim

/-! ### operators on ints -/
def intOp (cond : Int → Int → Bool) (gi : Int → Int → D) : D → D → S → Res D := fun x y s => match x, y with
  | .int i, .int j => if cond i j = true then .ok (gi i j) s else .stuck
  | _, _ => .stuck
theorem opd_int {fv : Value → Value → Sem Value} {C : Int → Int → Prop} {gi : Int → Int → V} {gd : Int → Int → D} {cond : Int → Int → Bool} (h : OpR X fv (rI C gi)) (hc : ∀ i j, cond i j = true → C i j) (hg : ∀ ca F i j, Rep g ca F (gd i j) (gi i j)) : OpD X g E fv (intOp cond gd) := by
  refine ⟨_, h, fun x y s ca F P H v u Q m rx ry p => ?_⟩
  unfold intOp at p
  split at p
  · rename_i i j
    split at p
    · rename_i hij
      exact ⟨i, j, rx, ry, hc _ _ hij, p.now m _ (hg ..)⟩
    · exact p.elim
  · exact p.elim
theorem opd_int0 {fv : Value → Value → Sem Value} {gi : Int → Int → V} {gd : Int → Int → D} (h : OpR X fv (rI0 gi)) (hg : ∀ ca F i j, Rep g ca F (gd i j) (gi i j)) : OpD X g E fv (intOp (fun _ _ => true) gd) := by
  refine ⟨_, h, fun x y s ca F P H v u Q m rx ry p => ?_⟩
  unfold intOp at p
  split at p
  · rename_i i j
    exact ⟨i, j, rx, ry, (if_pos rfl ▸ p).now m _ (hg ..)⟩
  · exact p.elim
def cMul (i j : Int) : Bool := decide (i.natAbs.log2 + j.natAbs.log2 < 1000000)
def cDiv (_ j : Int) : Bool := decide (j ≠ 0 ∧ j.natAbs.log2 < 9000)
def cMod (_ j : Int) : Bool := decide (j ≠ 0)
def cPow (i j : Int) : Bool := decide (0 ≤ j ∧ j ≤ 1000000 ∧ i.natAbs < 2 ^ 64)
theorem op_fdivX : OpR X (binaryOp .FloorDiv) (rI (fun i j => j ≠ 0 ∧ Builtin.divisionGoesByPylong i j = false) fun i j => .int (i.fdiv j)) := opI fun _ _ _ _ _ _ _ hc q => floordiv_int hc.1 q (.inl hc.2)
def addI : D → D → S → Res D := intOp (fun _ _ => true) fun i j => .int (i + j)
def subI : D → D → S → Res D := intOp (fun _ _ => true) fun i j => .int (i - j)
def mulI : D → D → S → Res D := intOp cMul fun i j => .int (i * j)
def divI : D → D → S → Res D := intOp cDiv fun i j => .int (i.fdiv j)
def modI : D → D → S → Res D := intOp cMod fun i j => .int (i.fmod j)
def powI : D → D → S → Res D := intOp cPow fun i j => .int (i ^ j.toNat)
theorem od_add : OpD X g E (binaryOp .Add) addI := opd_int0 op_add fun _ _ _ _ => rfl
theorem od_sub : OpD X g E (binaryOp .Sub) subI := opd_int0 op_sub fun _ _ _ _ => rfl
theorem od_mul : OpD X g E (binaryOp .Mult) mulI := opd_int op_mulW (fun i j h => of_decide_eq_true (p := i.natAbs.log2 + j.natAbs.log2 < 1000000) h) fun _ _ _ _ => rfl
theorem od_div : OpD X g E (binaryOp .FloorDiv) divI := opd_int op_fdivX (fun i j h => by
  have := of_decide_eq_true h
  exact ⟨this.1, PyProof.noPylong_of_log2 this.2⟩) fun _ _ _ _ => rfl
theorem od_mod : OpD X g E (binaryOp .Mod) modI := opd_int op_modN (fun i j h => of_decide_eq_true h) fun _ _ _ _ => rfl
theorem od_pow : OpD X g E (binaryOp .Pow) powI := opd_int op_pow (fun i j h => of_decide_eq_true (p := 0 ≤ j ∧ j ≤ 1000000 ∧ i.natAbs < 2 ^ 64) h) fun _ _ _ _ => rfl
def ltI : D → D → S → Res D := intOp (fun _ _ => true) fun i j => .bl (decide (i < j))
def leI : D → D → S → Res D := intOp (fun _ _ => true) fun i j => .bl (decide (i ≤ j))
def gtI : D → D → S → Res D := intOp (fun _ _ => true) fun i j => .bl (decide (j < i))
def geI : D → D → S → Res D := intOp (fun _ _ => true) fun i j => .bl (decide (j ≤ i))
theorem od_lt : OpD X g E (compareOp .Lt) ltI := opd_int0 op_lt fun _ _ _ _ => rfl
theorem od_le : OpD X g E (compareOp .LtE) leI := opd_int0 op_le fun _ _ _ _ => rfl
theorem od_gt : OpD X g E (compareOp .Gt) gtI := opd_int0 op_gt fun _ _ _ _ => rfl
theorem od_ge : OpD X g E (compareOp .GtE) geI := opd_int0 op_ge fun _ _ _ _ => rfl
def negI : D → S → Res D := fun x s => match x with
  | .int i => .ok (.int (-i)) s
  | _ => .stuck
theorem ud_neg : UnD X g E (unaryOp .USub) negI := by
  refine ⟨_, un_neg, fun x s ca F P H v Q m rx p => ?_⟩
  unfold negI at p
  split at p
  · rename_i i
    exact ⟨i, rx, p.now m _ rfl⟩
  · exact p.elim
end
end Pm
set_option Elab.async false
set_option linter.all false
set_option maxRecDepth 100000
set_option maxHeartbeats 2000000
namespace Pm
open PySem PySem.Spec PyProof.Rows L2
section
variable {X : Cx} {g : G} {E : XK}

theorem rep_int {ca : List Addr} {F : Hp} {i : Int} : Rep g ca F (.int i) (.int i) := by simp only [Rep]
theorem rep_bl {ca : List Addr} {F : Hp} {i : Bool} : Rep g ca F (.bl i) (.bl i) := by simp only [Rep]
/-! ### lists and tuples by index -/
theorem atI_rep {ca : List Addr} {F : Hp} {ds : List D} {vs : List V} {i : Int} {d : D} (r : Reps g ca F ds vs) (h : atI ds i = some d) : ∃ v, atI vs i = some v ∧ Rep g ca F d v := by
  unfold atI at h ⊢
  rw [← r.length]
  cases q : ixN ds.length i with
  | none => rw [q] at h; cases h
  | some j =>
    rw [q] at h
    exact r.get h
def ixL : D → D → S → Res D := fun x y s => match x, y with
  | .lst ds, .int i => match atI ds i with
    | some d => .ok d s
    | none => .stuck
  | .ro ds, .int i => match atI ds i with
    | some d => .ok d s
    | none => .stuck
  | .cell k, .int i => match s[k]? with
    | some (.lst ds) => match atI ds i with
      | some d => .ok d s
      | none => .stuck
    | _ => .stuck
  | _, _ => .stuck
def ixT : D → D → S → Res D := fun x y s => match x, y with
  | .tup ds, .int i => match atI ds i with
    | some d => .ok d s
    | none => .stuck
  | .rot ds, .int i => match atI ds i with
    | some d => .ok d s
    | none => .stuck
  | _, _ => .stuck
theorem Sim.cellL {ca : List Addr} {F P H : Hp} {s : S} {k : Nat} {ds : List D} {a : Addr} (m : Sim g ca F P s H) (e : ca[k]? = some a) (q : s[k]? = some (.lst ds)) : ∃ xs, H a = some (.lst xs) ∧ Reps g ca F ds xs :=
  m.at_ k a _ e q
theorem ixd_list (hK : g.K = X.K) : IxD X g E ixL := by
  refine ⟨_, ix_list, fun x y s ca F P H v u Q m rx ry p => ?_⟩
  unfold ixL at p
  split at p
  · rename_i ds i
    split at p
    · rename_i d hd
      simp only [Rep] at rx ry
      obtain ⟨a, xs, rfl, hF, rs⟩ := rx
      obtain ⟨w, hw, rw'⟩ := atI_rep rs hd
      exact ⟨a, xs, i, w, rfl, ry, .of (m.sub _ _ hF), hw, p.now m _ rw'⟩
    · exact p.elim
  · rename_i ds i
    split at p
    · rename_i d hd
      simp only [Rep] at rx ry
      obtain ⟨a, xs, rfl, hF, rs⟩ := rx
      obtain ⟨w, hw, rw'⟩ := atI_rep rs hd
      exact ⟨a, xs, i, w, rfl, ry, hK ▸ same_l m.sub hF, hw, p.now m _ rw'⟩
    · exact p.elim
  · rename_i k i
    split at p
    · rename_i ds hk
      split at p
      · rename_i d hd
        simp only [Rep] at rx ry
        obtain ⟨a, rfl, ha⟩ := rx
        obtain ⟨xs, hH, rs⟩ := m.cellL ha hk
        obtain ⟨w, hw, rw'⟩ := atI_rep rs hd
        exact ⟨a, xs, i, w, rfl, ry, .of hH, hw, p.now m _ rw'⟩
      · exact p.elim
    · exact p.elim
  · exact p.elim
theorem ixd_tup (hK : g.K = X.K) : IxD X g E ixT := by
  refine ⟨_, ix_tup, fun x y s ca F P H v u Q m rx ry p => ?_⟩
  unfold ixT at p
  split at p
  · rename_i ds i
    split at p
    · rename_i d hd
      simp only [Rep] at rx ry
      obtain ⟨a, xs, rfl, hF, rs⟩ := rx
      obtain ⟨w, hw, rw'⟩ := atI_rep rs hd
      exact ⟨a, xs, i, w, rfl, ry, .of (m.sub _ _ hF), hw, p.now m _ rw'⟩
    · exact p.elim
  · rename_i ds i
    split at p
    · rename_i d hd
      simp only [Rep] at rx ry
      obtain ⟨a, xs, rfl, hF, rs⟩ := rx
      obtain ⟨w, hw, rw'⟩ := atI_rep rs hd
      exact ⟨a, xs, i, w, rfl, ry, hK ▸ same_t m.sub hF, hw, p.now m _ rw'⟩
    · exact p.elim
  · exact p.elim
def ixD : D → D → S → Res D := fun x y s => (ixL x y s).or (ixT x y s)
theorem ixd (hK : g.K = X.K) : IxD X g E ixD := (ixd_list hK).or (ixd_tup hK)

/-! ### + and * of lists -/
def catL : D → D → S → Res D := fun x y s => match x, y with
  | .lst a, .lst b => newL (a ++ b) s
  | _, _ => .stuck
theorem od_cat : OpD X g E (binaryOp .Add) catL := by
  refine ⟨_, op_cat, fun x y s ca F P H v u Q m rx ry p => ?_⟩
  unfold catL at p
  split at p
  · rename_i as bs
    simp only [Rep] at rx ry
    obtain ⟨a, xs, rfl, hF, rs⟩ := rx
    obtain ⟨b, ys, rfl, hF2, rs2⟩ := ry
    obtain ⟨h1, h2⟩ := newL_ok m (rs.append rs2) p
    exact ⟨a, b, xs, ys, rfl, rfl, m.sub _ _ hF, m.sub _ _ hF2, by simpa using h1, h2⟩
  · exact p.elim
def repD (n : Nat) (ds : List D) : List D := (List.replicate n ds).flatten
theorem reps_rep {ca : List Addr} {F : Hp} {ds : List D} {vs : List V} (r : Reps g ca F ds vs) : ∀ n, Reps g ca F (repD n ds) (List.replicate n vs).flatten
  | 0 => by simp only [repD, List.replicate_zero, List.flatten_nil]; exact .nil
  | n + 1 => by
    have := reps_rep r n
    simp only [repD, List.replicate_succ, List.flatten_cons] at this ⊢
    exact r.append this
def mulL : D → D → S → Res D := fun x y s => match x, y with
  | .lst a, .int k => if decide (-1000000 ≤ k ∧ k < 1000000 ∧ a.length * k.toNat ≤ line) = true then newL (repD k.toNat a) s else .stuck
  | _, _ => .stuck
theorem od_rep : OpD X g E (binaryOp .Mult) mulL := by
  refine ⟨_, op_rep, fun x y s ca F P H v u Q m rx ry p => ?_⟩
  unfold mulL at p
  split at p
  · rename_i as k
    split at p
    · rename_i hk
      have hk := of_decide_eq_true hk
      simp only [Rep] at rx ry
      obtain ⟨a, xs, rfl, hF, rs⟩ := rx
      obtain ⟨h1, h2⟩ := newL_ok m (reps_rep rs k.toNat) p
      refine ⟨a, k, xs, rfl, ry, m.sub _ _ hF, by omega, by omega, ?_, h2⟩
      rw [← rs.length]
      exact line_le hk.2.2
    · exact p.elim
  · exact p.elim
def addD : D → D → S → Res D := fun x y s => (addI x y s).or (catL x y s)
theorem od_addD : OpD X g E (binaryOp .Add) addD := od_add.or od_cat
def mulD : D → D → S → Res D := fun x y s => (mulI x y s).or (mulL x y s)
theorem od_mulD : OpD X g E (binaryOp .Mult) mulD := od_mul.or od_rep

/-! ### == of data -/
mutual
def toPy : D → Option PyData
  | .non => some .none
  | .bl b => some (.bool b)
  | .int i => some (.int i)
  | .str x => some (.str x)
  | .lst ds => (toPys ds).map .list
  | .ro ds => (toPys ds).map .list
  | .tup ds => (toPys ds).map .tuple
  | .rot ds => (toPys ds).map .tuple
  | _ => none
def toPys : List D → Option (List PyData)
  | [] => some []
  | d :: ds => match toPy d, toPys ds with
    | some p, some ps => some (p :: ps)
    | _, _ => none
end
mutual
theorem dp_of {K : PySem.W.Frag} {ca : List Addr} {F H : Hp} (hK : g.K = K) (hs : Sub F H) : ∀ (d : D) (v : V) (p : PyData), toPy d = some p → Rep g ca F d v → Dp K H v p
  | .non, v, p, h, r => by
    simp only [toPy, Option.some.injEq] at h
    simp only [Rep] at r
    subst h; subst r; exact .non
  | .bl b, v, p, h, r => by
    simp only [toPy, Option.some.injEq] at h
    simp only [Rep] at r
    subst h; subst r; exact .bl b
  | .int i, v, p, h, r => by
    simp only [toPy, Option.some.injEq] at h
    simp only [Rep] at r
    subst h; subst r; exact .int i
  | .str x, v, p, h, r => by
    simp only [toPy, Option.some.injEq] at h
    simp only [Rep] at r
    subst h; subst r; exact .str x
  | .lst ds, v, p, h, r => by
    simp only [toPy, Option.map_eq_some_iff] at h
    obtain ⟨ps, h, rfl⟩ := h
    simp only [Rep] at r
    obtain ⟨a, xs, rfl, hF, rs⟩ := r
    exact .lst (.of (hs _ _ hF)) (dps_of hK hs ds xs ps h rs)
  | .ro ds, v, p, h, r => by
    simp only [toPy, Option.map_eq_some_iff] at h
    obtain ⟨ps, h, rfl⟩ := h
    simp only [Rep] at r
    obtain ⟨a, xs, rfl, hF, rs⟩ := r
    exact .lst (hK ▸ same_l hs hF) (dps_of hK hs ds xs ps h rs)
  | .tup ds, v, p, h, r => by
    simp only [toPy, Option.map_eq_some_iff] at h
    obtain ⟨ps, h, rfl⟩ := h
    simp only [Rep] at r
    obtain ⟨a, xs, rfl, hF, rs⟩ := r
    exact .tup (.of (hs _ _ hF)) (dps_of hK hs ds xs ps h rs)
  | .rot ds, v, p, h, r => by
    simp only [toPy, Option.map_eq_some_iff] at h
    obtain ⟨ps, h, rfl⟩ := h
    simp only [Rep] at r
    obtain ⟨a, xs, rfl, hF, rs⟩ := r
    exact .tup (hK ▸ same_t hs hF) (dps_of hK hs ds xs ps h rs)
  | .ins _ _, v, p, h, r => by simp [toPy] at h
  | .cell _, v, p, h, r => by simp [toPy] at h
  | .cls _, v, p, h, r => by simp [toPy] at h
  | .ty _, v, p, h, r => by simp [toPy] at h
  | .mty, v, p, h, r => by simp [toPy] at h
theorem dps_of {K : PySem.W.Frag} {ca : List Addr} {F H : Hp} (hK : g.K = K) (hs : Sub F H) : ∀ (ds : List D) (vs : List V) (ps : List PyData), toPys ds = some ps → Reps g ca F ds vs → DpAll K H vs ps
  | [], vs, ps, h, r => by
    simp only [toPys, Option.some.injEq] at h
    simp only [Reps] at r
    subst h; subst r; exact .nil
  | d :: ds, vs, ps, h, r => by
    simp only [toPys] at h
    split at h
    · rename_i p ps' h1 h2
      cases h
      simp only [Reps] at r
      obtain ⟨v, ws, rfl, r1, r2⟩ := r
      exact .cons (dp_of hK hs d v p h1 r1) (dps_of hK hs ds ws ps' h2 r2)
    · cases h
end
def eqP (neg : Bool) : D → D → S → Res D := fun x y s => match toPy x, toPy y with
  | some a, some b => if (SeqAt.shaped a && SeqAt.shaped b) = true then .ok (.bl (if neg then !PyData.eqv a b else PyData.eqv a b)) s else .stuck
  | _, _ => .stuck
theorem od_eqP (hK : g.K = X.K) (hu : X.A.units + 64 < cLine) : OpD X g E (compareOp .Eq) (eqP false) := by
  refine ⟨_, op_eqD hu, fun x y s ca F P H v u Q m rx ry p => ?_⟩
  unfold eqP at p
  split at p
  · rename_i a b ha hb
    split at p
    · rename_i hc
      rw [Bool.and_eq_true] at hc
      exact ⟨a, b, dp_of hK m.sub _ _ _ ha rx, dp_of hK m.sub _ _ _ hb ry, hc.1, hc.2, p.now m _ rfl⟩
    · exact p.elim
  · exact p.elim
theorem od_neP (hK : g.K = X.K) (hu : X.A.units + 64 < cLine) : OpD X g E (compareOp .NotEq) (eqP true) := by
  refine ⟨_, op_neD hu, fun x y s ca F P H v u Q m rx ry p => ?_⟩
  unfold eqP at p
  split at p
  · rename_i a b ha hb
    split at p
    · rename_i hc
      rw [Bool.and_eq_true] at hc
      exact ⟨a, b, dp_of hK m.sub _ _ _ ha rx, dp_of hK m.sub _ _ _ hb ry, hc.1, hc.2, p.now m _ rfl⟩
    · exact p.elim
  · exact p.elim

/-! ### built-in functions -/
def seqOf (s : S) : D → Option (List D)
  | .lst ds => some ds
  | .ro ds => some ds
  | .tup ds => some ds
  | .rot ds => some ds
  | .cell k => match s[k]? with
    | some (.lst ds) => some ds
    | _ => none
  | _ => none
def isTupD : D → Bool
  | .tup _ => true
  | .rot _ => true
  | _ => false
theorem seq_rep {ca : List Addr} {F P H : Hp} {s : S} {d : D} {ds : List D} {v : V} (m : Sim g ca F P s H) (h : seqOf s d = some ds) (r : Rep g ca F d v) :
    ∃ a xs, v = .ref a ∧ (if isTupD d = true then SqT g.K H a xs else SqL g.K H a xs) ∧ Reps g ca F ds xs := by
  unfold seqOf at h
  split at h
  · cases h
    simp only [Rep] at r
    obtain ⟨a, xs, e, hF, rs⟩ := r
    exact ⟨a, xs, e, .of (m.sub _ _ hF), rs⟩
  · cases h
    simp only [Rep] at r
    obtain ⟨a, xs, e, hF, rs⟩ := r
    exact ⟨a, xs, e, same_l m.sub hF, rs⟩
  · cases h
    simp only [Rep] at r
    obtain ⟨a, xs, e, hF, rs⟩ := r
    exact ⟨a, xs, e, .of (m.sub _ _ hF), rs⟩
  · cases h
    simp only [Rep] at r
    obtain ⟨a, xs, e, hF, rs⟩ := r
    exact ⟨a, xs, e, same_t m.sub hF, rs⟩
  · rename_i k
    split at h
    · rename_i ds' hk
      cases h
      simp only [Rep] at r
      obtain ⟨a, e, ha⟩ := r
      obtain ⟨xs, hH, rs⟩ := m.cellL ha hk
      exact ⟨a, xs, e, .of hH, rs⟩
    · cases h
  · cases h
theorem seq_rep' {K : PySem.W.Frag} {ca : List Addr} {F P H : Hp} {s : S} {d : D} {ds : List D} {v : V} (hK : g.K = K) (m : Sim g ca F P s H) (h : seqOf s d = some ds) (r : Rep g ca F d v) :
    ∃ a xs, v = .ref a ∧ (SqL K H a xs ∨ SqT K H a xs) ∧ Reps g ca F ds xs := by
  obtain ⟨a, xs, e, q, rs⟩ := seq_rep m h r
  refine ⟨a, xs, e, ?_, rs⟩
  rw [← hK]
  split at q
  · exact .inr q
  · exact .inl q
def bLen : List D → S → Res D := fun xs s => match xs with
  | [x] => match seqOf s x with
    | some ds => .ok (.int ds.length) s
    | none => .stuck
  | _ => .stuck
theorem reps1 {ca : List Addr} {F : Hp} {d : D} {vs : List V} (h : Reps g ca F [d] vs) : ∃ v, vs = [v] ∧ Rep g ca F d v := by
  simp only [Reps] at h
  obtain ⟨v, ws, rfl, r, rfl⟩ := h
  exact ⟨v, rfl, r⟩
theorem reps2 {ca : List Addr} {F : Hp} {d e : D} {vs : List V} (h : Reps g ca F [d, e] vs) : ∃ v u, vs = [v, u] ∧ Rep g ca F d v ∧ Rep g ca F e u := by
  simp only [Reps] at h
  obtain ⟨v, ws, rfl, r, u, ws', rfl, r', rfl⟩ := h
  exact ⟨v, u, rfl, r, r'⟩
theorem cd_len (hK : g.K = X.K) : CallD X g E (.builtin "len") bLen := by
  refine ⟨_, call_len_seq, fun xs s ca F P H vs Q m rs p => ?_⟩
  unfold bLen at p
  split at p
  · rename_i x
    split at p
    · rename_i ds hd
      obtain ⟨v, rfl, r⟩ := reps1 rs
      obtain ⟨a, ys, rfl, hq, rs'⟩ := seq_rep' hK m hd r
      exact ⟨a, ys, rfl, hq, p.now m _ (by simp only [Rep]; rw [rs'.length])⟩
    · exact p.elim
  · exact p.elim
def bList : List D → S → Res D := fun xs s => match xs with
  | [x] => match seqOf s x with
    | some ds => newL ds s
    | none => .stuck
  | _ => .stuck
theorem cd_list (hK : g.K = X.K) : CallD X g E (.type "list") bList := by
  refine ⟨_, call_list_of, fun xs s ca F P H vs Q m rs p => ?_⟩
  unfold bList at p
  split at p
  · rename_i x
    split at p
    · rename_i ds hd
      obtain ⟨v, rfl, r⟩ := reps1 rs
      obtain ⟨a, ys, rfl, hq, rs'⟩ := seq_rep' hK m hd r
      exact ⟨a, ys, rfl, hq, (newL_ok m rs' p).2⟩
    · exact p.elim
  · exact p.elim
def bTuple : List D → S → Res D := fun xs s => match xs with
  | [x] => match seqOf s x with
    | some ds => if isTupD x = true then .ok x s else newT ds s
    | none => .stuck
  | _ => .stuck
theorem cd_tuple (hK : g.K = X.K) : CallD X g E (.type "tuple") bTuple := by
  refine ⟨_, call_tuple_of, fun xs s ca F P H vs Q m rs p => ?_⟩
  unfold bTuple at p
  split at p
  · rename_i x
    split at p
    · rename_i ds hd
      obtain ⟨v, rfl, r⟩ := reps1 rs
      obtain ⟨a, ys, rfl, hq, rs'⟩ := seq_rep m hd r
      rw [hK] at hq
      split at p
      · rename_i ht
        rw [if_pos ht] at hq
        exact ⟨a, ys, rfl, .inr ⟨hq, p.now m _ r⟩⟩
      · rename_i ht
        rw [if_neg ht] at hq
        exact ⟨a, ys, rfl, .inl ⟨hq, (newT_ok m rs' p).2⟩⟩
    · exact p.elim
  · exact p.elim
def bInt1 (gi : Int → D) : List D → S → Res D := fun xs s => match xs with
  | [.int i] => .ok (gi i) s
  | _ => .stuck
def absI (i : Int) : Int := if i < 0 then -i else i
theorem cd_abs : CallD X g E (.builtin "abs") (bInt1 fun i => .int (absI i)) := by
  refine ⟨_, call_abs, fun xs s ca F P H vs Q m rs p => ?_⟩
  unfold bInt1 at p
  split at p
  · rename_i i
    obtain ⟨v, rfl, r⟩ := reps1 rs
    simp only [Rep] at r
    subst r
    exact ⟨i, rfl, p.now m _ rfl⟩
  · exact p.elim
theorem cd_int : CallD X g E (.type "int") (bInt1 fun i => .int i) := by
  refine ⟨_, call_int1, fun xs s ca F P H vs Q m rs p => ?_⟩
  unfold bInt1 at p
  split at p
  · rename_i i
    obtain ⟨v, rfl, r⟩ := reps1 rs
    simp only [Rep] at r
    subst r
    exact .inl ⟨i, rfl, p.now m _ rfl⟩
  · exact p.elim
def bInt2 (cond : Int → Int → Bool) (gi : Int → Int → D) : List D → S → Res D := fun xs s => match xs with
  | [.int i, .int j] => if cond i j = true then .ok (gi i j) s else .stuck
  | _ => .stuck
def maxI (i j : Int) : Int := if j > i then j else i
def minI (i j : Int) : Int := if j < i then j else i
theorem cd_max2 (hc : X.calm = true) : CallD X g E (.builtin "max") (bInt2 (fun _ _ => true) fun i j => .int (maxI i j)) := by
  refine ⟨_, call_max2 hc, fun xs s ca F P H vs Q m rs p => ?_⟩
  unfold bInt2 at p
  split at p
  · rename_i i j
    obtain ⟨v, u, rfl, r, r'⟩ := reps2 rs
    simp only [Rep] at r r'
    subst r; subst r'
    exact ⟨i, j, rfl, (if_pos rfl ▸ p).now m _ rfl⟩
  · exact p.elim
theorem cd_min2 (hc : X.calm = true) : CallD X g E (.builtin "min") (bInt2 (fun _ _ => true) fun i j => .int (minI i j)) := by
  refine ⟨_, call_min2 hc, fun xs s ca F P H vs Q m rs p => ?_⟩
  unfold bInt2 at p
  split at p
  · rename_i i j
    obtain ⟨v, u, rfl, r, r'⟩ := reps2 rs
    simp only [Rep] at r r'
    subst r; subst r'
    exact ⟨i, j, rfl, (if_pos rfl ▸ p).now m _ rfl⟩
  · exact p.elim
def gcdI (i j : Int) : Int := ((Nat.gcd i.natAbs j.natAbs : Nat) : Int)
theorem cd_gcd : CallD X g E (.builtin "math.gcd") (bInt2 (fun _ _ => true) fun i j => .int (gcdI i j)) := by
  refine ⟨_, cr_gcd, fun xs s ca F P H vs Q m rs p => ?_⟩
  unfold bInt2 at p
  split at p
  · rename_i i j
    obtain ⟨v, u, rfl, r, r'⟩ := reps2 rs
    simp only [Rep] at r r'
    subst r; subst r'
    exact ⟨i, j, rfl, (if_pos rfl ▸ p).now m _ rfl⟩
  · exact p.elim
def cDiv0 (_ j : Int) : Bool := decide (0 < j ∧ j < 1073741824)
def bDivmod : List D → S → Res D := fun xs s => match xs with
  | [.int i, .int j] => if cDiv0 i j = true then newT [.int (i / j), .int (i % j)] s else .stuck
  | _ => .stuck
theorem cd_divmod : CallD X g E (.builtin "divmod") bDivmod := by
  refine ⟨_, call_divmod, fun xs s ca F P H vs Q m rs p => ?_⟩
  unfold bDivmod at p
  split at p
  · rename_i i j
    split at p
    · rename_i hc
      obtain ⟨v, u, rfl, r, r'⟩ := reps2 rs
      simp only [Rep] at r r'
      subst r; subst r'
      exact ⟨i, j, rfl, of_decide_eq_true (p := 0 < j ∧ j < 1073741824) hc, (newT_ok m (.cons rep_int (.cons rep_int .nil)) p).2⟩
    · exact p.elim
  · exact p.elim
mutual
def boolsOf : List D → Option (List Bool)
  | [] => some []
  | .bl b :: ds => (boolsOf ds).map (b :: ·)
  | _ => none
end
theorem bools_rep {ca : List Addr} {F : Hp} : ∀ {ds : List D} {bs : List Bool} {vs : List V}, boolsOf ds = some bs → Reps g ca F ds vs → vs = bs.map V.bl
  | [], bs, vs, h, r => by simp only [boolsOf, Option.some.injEq] at h; subst h; simp only [Reps] at r; subst r; rfl
  | d :: ds, bs, vs, h, r => by
    unfold boolsOf at h
    split at h
    · rename_i heq; cases heq
    · rename_i b ds' heq
      cases heq
      rw [Option.map_eq_some_iff] at h
      obtain ⟨bs', h, rfl⟩ := h
      simp only [Reps] at r
      obtain ⟨v, ws, rfl, r1, r2⟩ := r
      simp only [Rep] at r1
      subst r1
      rw [bools_rep h r2]
      rfl
    · cases h
def bBools (f : List Bool → Bool) : List D → S → Res D := fun xs s => match xs with
  | [x] => if isTupD x = true then .stuck else match seqOf s x with
    | some ds => match boolsOf ds with
      | some bs => .ok (.bl (f bs)) s
      | none => .stuck
    | none => .stuck
  | _ => .stuck
theorem cd_all (hK : g.K = X.K) (hc : X.calm = true) : CallD X g E (.builtin "all") (bBools fun bs => bs.all id) := by
  refine ⟨_, cr_all hc, fun xs s ca F P H vs Q m rs p => ?_⟩
  unfold bBools at p
  split at p
  · rename_i x
    split at p
    · exact p.elim
    · rename_i ht
      split at p
      · rename_i ds hd
        split at p
        · rename_i bs hb
          obtain ⟨v, rfl, r⟩ := reps1 rs
          obtain ⟨a, ys, rfl, hq, rs'⟩ := seq_rep m hd r
          rw [if_neg ht, hK, bools_rep hb rs'] at hq
          exact ⟨a, bs, rfl, hq, p.now m _ rfl⟩
        · exact p.elim
      · exact p.elim
  · exact p.elim
theorem cd_any (hK : g.K = X.K) (hc : X.calm = true) : CallD X g E (.builtin "any") (bBools fun bs => bs.any id) := by
  refine ⟨_, cr_any hc, fun xs s ca F P H vs Q m rs p => ?_⟩
  unfold bBools at p
  split at p
  · rename_i x
    split at p
    · exact p.elim
    · rename_i ht
      split at p
      · rename_i ds hd
        split at p
        · rename_i bs hb
          obtain ⟨v, rfl, r⟩ := reps1 rs
          obtain ⟨a, ys, rfl, hq, rs'⟩ := seq_rep m hd r
          rw [if_neg ht, hK, bools_rep hb rs'] at hq
          exact ⟨a, bs, rfl, hq, p.now m _ rfl⟩
        · exact p.elim
      · exact p.elim
  · exact p.elim

/-! ### the call of a built-in by its name -/
variable {x : Str} {p pos : Pos} {e : Expr} {es : List Expr} {mr : Env → S → Res (List D)} {id T : String} {f : List D → S → Res D}
def mCall (f : List D → S → Res D) (mr : Env → S → Res (List D)) : Env → S → Res D := fun env s => (mr env s).bind f
theorem call_run {ta : TA} {r : List V → Hp → VK → Prop} (ha : ∀ (env : Env) (s : S) (ca : List Addr) (F P H : Hp) (σ : L2.St) (Q : List V → Hp → Prop), Sim g ca F P s H → Slots g ca F env σ →
      Post g ca F P E (fun ds _ ca' F' H' => ∀ vs, Reps g ca' F' ds vs → Q vs H') (mr env s) → ta σ H Q)
    (hr : ∀ (xs : List D) (s : S) (ca : List Addr) (F P H : Hp) (vs : List V) (Q : VK), Sim g ca F P s H → Reps g ca F xs vs → Post g ca F P E (fun d _ ca' F' H' => ∀ w, Rep g ca' F' d w → Q w H') (f xs s) → r vs H Q)
    {env : Env} {s : S} {ca : List Addr} {F P H : Hp} {σ : L2.St} {Q : VK} (m : Sim g ca F P s H) (sl : Slots g ca F env σ) (q : Post g ca F P E (fun d _ ca' F' H' => ∀ v, Rep g ca' F' d v → Q v H') (mCall f mr env s)) :
    tCB r ta σ H Q := ha env s ca F P H σ _ m sl (Post.imp (Post.seq q) fun ds s1 ca1 F1 H1 k1 k2 m1 q1 vs rs => hr ds s1 ca1 F1 P H1 vs Q m1 rs q1)
theorem ev_callB (hc : CallD X g E (.builtin id) f) (hg : Gl X x) (hm : X.mg x = none) (hv : bootBuiltins x = some (.builtin id)) (ha : Ea X g E (e :: es) mr) (hn : x ≠ "__name__" := by decide) (hdb : (x == ("__debug__" : Str)) = false := by decide)
    (he : starEach (e :: es) X.env = (false, eval e X.env) :: starEach es X.env := by rfl) (hpl : (backTo pos (starEach es X.env)).any (·.1) = false := by rfl) : Ev X g E (.Call (.Name x p) (e :: es) [] pos) (mCall f mr) := by
  obtain ⟨r, h1, h2⟩ := hc
  obtain ⟨ta, pa, ha⟩ := ha
  exact ⟨_, pe_callB h1 hg hm hv pa hn hdb he hpl, fun env s ca F P H σ Q m sl q => call_run ha h2 m sl q⟩
theorem ev_callF (hc : CallD X g E (.builtin id) f) (hg : Gl X x) (hm : X.mg x = some (.builtin id)) (ha : Ea X g E (e :: es) mr) (hdb : (x == ("__debug__" : Str)) = false := by decide)
    (he : starEach (e :: es) X.env = (false, eval e X.env) :: starEach es X.env := by rfl) (hpl : (backTo pos (starEach es X.env)).any (·.1) = false := by rfl) : Ev X g E (.Call (.Name x p) (e :: es) [] pos) (mCall f mr) := by
  obtain ⟨r, h1, h2⟩ := hc
  obtain ⟨ta, pa, ha⟩ := ha
  exact ⟨_, pe_callBfun h1 hg hm pa hdb he hpl, fun env s ca F P H σ Q m sl q => call_run ha h2 m sl q⟩
theorem ev_callTy (hc : CallD X g E (.type T) f) (hg : Gl X x) (hm : X.mg x = none) (hv : bootBuiltins x = some (.type T)) (ha : Ea X g E (e :: es) mr) (hn : x ≠ "__name__" := by decide) (hdb : (x == ("__debug__" : Str)) = false := by decide)
    (he : starEach (e :: es) X.env = (false, eval e X.env) :: starEach es X.env := by rfl) (hpl : (backTo pos (starEach es X.env)).any (·.1) = false := by rfl) : Ev X g E (.Call (.Name x p) (e :: es) [] pos) (mCall f mr) := by
  obtain ⟨r, h1, h2⟩ := hc
  obtain ⟨ta, pa, ha⟩ := ha
  exact ⟨_, pe_callTy h1 hg hm hv pa hn hdb he hpl, fun env s ca F P H σ Q m sl q => call_run ha h2 m sl q⟩
end
end Pm
set_option Elab.async false
set_option linter.all false
set_option maxRecDepth 100000
set_option maxHeartbeats 2000000
namespace Pm
open PySem PySem.Spec PyProof.Rows L2

/-! ### isinstance -/
inductive TN where
  | non | bl | int | str | lst | tup | dct | ins (c : Nat)
  deriving DecidableEq
def TN.b : TN → Option String
  | .non => some "NoneType" | .bl => some "bool" | .int => some "int" | .str => some "str" | .lst => some "list" | .tup => some "tuple" | .dct => some "dict" | .ins _ => none
def tyn (s : S) : D → Option TN
  | .non => some .non
  | .bl _ => some .bl
  | .int _ => some .int
  | .str _ => some .str
  | .lst _ => some .lst
  | .ro _ => some .lst
  | .tup _ => some .tup
  | .mty => some .dct
  | .ins c _ => some (.ins c)
  | .cell k => match s[k]? with
    | some (.lst _) => some .lst
    | _ => none
  | _ => none
def TN.is : TN → BT → Bool
  | .bl, .bool => true | .bl, .int => true | .int, .int => true | .str, .str => true | .lst, .list => true | .tup, .tuple => true | .dct, .dict => true
  | _, _ => false
/-- what an own class must have for isinstance -/
structure IsF (K : PySem.W.Frag) (C : Addr) : Prop where
  cl : Cls K C
  ha : PySem.W.findIn K (.ref C) "__class__" = some (some (.builtin "object.__class__"))
  hn : PySem.W.specialIn K (.builtin "object.__class__") "__get__" = some (some (.builtin "getset_descriptor.__get__"))
  htk : PySem.W.takesIn K (.builtin "object.__class__") = some true
  hm : PySem.W.mroIn K C (.type "object") = some true
/-- the own classes 0 .. n - 1, none of them above another one -/
structure ClsF (K : PySem.W.Frag) (g : G) (n : Nat) : Prop where
  f : ∀ c, c < n → IsF K (g.cls c)
  b1 : ∀ c (t : BT), c < n → PySem.W.kitOne K (.ref (g.cls c)) (.type t.name) = some false
  b2 : ∀ c (t : TN) x, c < n → t.b = some x → PySem.W.kitOne K (.type x) (.ref (g.cls c)) = some false
  b3 : ∀ c d, c < n → d < n → PySem.W.kitOne K (.ref (g.cls c)) (.ref (g.cls d)) = some (c == d)
theorem kit_bt {K : PySem.W.Frag} : ∀ (t : TN) (x : String) (b : BT), t.b = some x → PySem.W.kitOne K (.type x) (.type b.name) = some (t.is b) := by
  intro t x b h
  cases t <;> cases h <;> cases b <;> exact kit_ty (by decide +kernel)
section
variable {X : Cx} {g : G} {E : XK}
/-- one class -/
def isOne (n : Nat) (t : TN) : D → Option Bool
  | .ty b => some (t.is b)
  | .cls c => if c < n then (match t with
    | .ins d => if d < n then some (d == c) else none
    | _ => some false) else none
  | _ => none
def isAny (n : Nat) (t : TN) : List D → Option Bool
  | [] => some false
  | d :: ds => match isOne n t d with
    | some true => some true
    | some false => isAny n t ds
    | none => none
def TN.v (g : G) : TN → Value
  | .ins c => .ref (g.cls c)
  | t => .type (t.b.getD "")
def clsV (g : G) : D → Option Value
  | .ty b => some (.type b.name)
  | .cls c => some (.ref (g.cls c))
  | _ => none
theorem TN.v_b {g : G} : ∀ {t : TN} {x : String}, t.b = some x → t.v g = .type x := by
  intro t x h
  cases t <;> cases h <;> rfl
def TN.ok (n : Nat) : TN → Bool
  | .ins c => decide (c < n)
  | _ => true
theorem isOne_kit {n : Nat} (cf : ClsF X.K g n) {t : TN} (ht : t.ok n = true) {d : D} {b : Bool} (h : isOne n t d = some b) : ∃ u, clsV g d = some u ∧ PySem.W.kitOne X.K (t.v g) u = some b := by
  unfold isOne at h
  split at h
  · rename_i bt
    cases h
    refine ⟨_, rfl, ?_⟩
    cases t with
    | ins c => exact cf.b1 c bt (of_decide_eq_true ht)
    | non => exact kit_bt .non _ bt rfl
    | bl => exact kit_bt .bl _ bt rfl
    | int => exact kit_bt .int _ bt rfl
    | str => exact kit_bt .str _ bt rfl
    | lst => exact kit_bt .lst _ bt rfl
    | tup => exact kit_bt .tup _ bt rfl
    | dct => exact kit_bt .dct _ bt rfl
  · rename_i c
    split at h
    · rename_i hc
      refine ⟨_, rfl, ?_⟩
      cases t with
      | ins d =>
        have hd : d < n := of_decide_eq_true ht
        simp only [hd, if_true, Option.some.injEq] at h
        subst h
        exact cf.b3 d c hd hc
      | non => cases h; exact cf.b2 c .non _ hc rfl
      | bl => cases h; exact cf.b2 c .bl _ hc rfl
      | int => cases h; exact cf.b2 c .int _ hc rfl
      | str => cases h; exact cf.b2 c .str _ hc rfl
      | lst => cases h; exact cf.b2 c .lst _ hc rfl
      | tup => cases h; exact cf.b2 c .tup _ hc rfl
      | dct => cases h; exact cf.b2 c .dct _ hc rfl
    · cases h
  · cases h
theorem cls_rep {ca : List Addr} {F : Hp} {d : D} {u : Value} {v : V} (h : clsV g d = some u) (r : Rep g ca F d v) : ClsV v u := by
  unfold clsV at h
  split at h
  · cases h; simp only [Rep] at r; subst r; exact .ty _
  · cases h; simp only [Rep] at r; subst r; exact .own _
  · cases h
theorem tyx_of {n : Nat} (hK : g.K = X.K) (cf : ClsF X.K g n) {ca : List Addr} {F P H : Hp} {s : S} {d : D} {t : TN} {v : V} (m : Sim g ca F P s H) (h : tyn s d = some t) (ht : t.ok n = true) (r : Rep g ca F d v) : TyX X.K H v (t.v g) := by
  unfold tyn at h
  split at h
  · cases h; simp only [Rep] at r; subst r; exact .base .non
  · cases h; simp only [Rep] at r; subst r; exact .base (.bl _)
  · cases h; simp only [Rep] at r; subst r; exact .base (.int _)
  · cases h; simp only [Rep] at r; subst r; exact .base (.str _)
  · cases h; simp only [Rep] at r; obtain ⟨a, xs, rfl, hF, rs⟩ := r; exact .base (.lst (m.sub _ _ hF))
  · cases h
    simp only [Rep] at r
    obtain ⟨a, xs, rfl, hF, rs⟩ := r
    rcases hF with (z | ⟨o, z⟩) | ⟨o, its, k, z, c, _⟩
    · exact .base (.lst (m.sub _ _ z))
    · exact .base (.frz (m.sub _ _ z))
    · exact .kList (hK ▸ z) c
  · cases h; simp only [Rep] at r; obtain ⟨a, xs, rfl, hF, rs⟩ := r; exact .base (.tup (m.sub _ _ hF))
  · cases h; simp only [Rep] at r; obtain ⟨a, rfl, hF⟩ := r; exact .base (.dK (m.sub _ _ hF))
  · rename_i c fs
    cases h
    simp only [Rep] at r
    obtain ⟨a, dx, xs, rfl, hF, _⟩ := r
    have := cf.f c (of_decide_eq_true ht)
    exact .base (.ins (m.sub _ _ hF) this.cl this.ha this.hn this.htk this.hm)
  · rename_i k
    split at h
    · rename_i ds hk
      cases h
      simp only [Rep] at r
      obtain ⟨a, rfl, ha⟩ := r
      obtain ⟨xs, hH, rs⟩ := m.cellL ha hk
      exact .base (.lst hH)
    · cases h
  · cases h
def bIsi (n : Nat) : List D → S → Res D := fun xs s => match xs with
  | [x, .tup cs] => match tyn s x with
    | some t => if t.ok n = true then (match isAny n t cs with
      | some b => .ok (.bl b) s
      | none => .stuck) else .stuck
    | none => .stuck
  | [x, c] => match tyn s x with
    | some t => if t.ok n = true then (match isOne n t c with
      | some b => .ok (.bl b) s
      | none => .stuck) else .stuck
    | none => .stuck
  | _ => .stuck
theorem isAny_kit {n : Nat} (cf : ClsF X.K g n) {t : TN} (ht : t.ok n = true) {ca : List Addr} {F : Hp} : ∀ {ds : List D} {b : Bool} {vs : List V}, isAny n t ds = some b → Reps g ca F ds vs →
    (∀ d ∈ ds, (clsV g d).isSome = true) → ∃ us, Paired ClsV vs us ∧ PySem.W.kitAny X.K (t.v g) us = some b
  | [], b, vs, h, r, _ => by
    simp only [isAny, Option.some.injEq] at h
    subst h
    simp only [Reps] at r
    subst r
    exact ⟨[], .nil, rfl⟩
  | d :: ds, b, vs, h, r, hc => by
    simp only [Reps] at r
    obtain ⟨v, ws, rfl, r1, r2⟩ := r
    have rest : ∃ us, Paired ClsV ws us := by
      clear h
      have hc' : ∀ d ∈ ds, (clsV g d).isSome = true := fun e he => hc e (List.mem_cons_of_mem _ he)
      clear hc r1
      induction ds generalizing ws with
      | nil => simp only [Reps] at r2; subst r2; exact ⟨[], .nil⟩
      | cons e es ih =>
        simp only [Reps] at r2
        obtain ⟨v', ws', rfl, q1, q2⟩ := r2
        obtain ⟨us, hu⟩ := ih ws' q2 fun e he => hc' e (List.mem_cons_of_mem _ he)
        obtain ⟨u, hu'⟩ := Option.isSome_iff_exists.mp (hc' e (List.mem_cons_self ..))
        exact ⟨u :: us, .cons (cls_rep hu' q1) hu⟩
    unfold isAny at h
    split at h
    · rename_i h1
      cases h
      obtain ⟨u, hu, hk⟩ := isOne_kit cf ht h1
      obtain ⟨us, hus⟩ := rest
      exact ⟨u :: us, .cons (cls_rep hu r1) hus, by simp only [PySem.W.kitAny, hk]⟩
    · rename_i h1
      obtain ⟨u, hu, hk⟩ := isOne_kit cf ht h1
      obtain ⟨us, hus, hk2⟩ := isAny_kit cf ht h r2 fun e he => hc e (List.mem_cons_of_mem _ he)
      exact ⟨u :: us, .cons (cls_rep hu r1) hus, by simp only [PySem.W.kitAny, hk, hk2]⟩
    · cases h
def clsAll : List D → Bool
  | [] => true
  | .ty _ :: ds => clsAll ds
  | .cls _ :: ds => clsAll ds
  | _ => false
theorem clsAll_some : ∀ {ds : List D}, clsAll ds = true → ∀ d ∈ ds, (clsV g d).isSome = true
  | [], _, d, h => by cases h
  | e :: es, h, d, hd => by
    unfold clsAll at h
    split at h
    · rename_i heq; cases heq
    · rename_i t ds heq
      cases heq
      rcases List.mem_cons.mp hd with rfl | hd
      · rfl
      · exact clsAll_some h d hd
    · rename_i t ds heq
      cases heq
      rcases List.mem_cons.mp hd with rfl | hd
      · rfl
      · exact clsAll_some h d hd
    · cases h
def bIsi' (n : Nat) : List D → S → Res D := fun xs s => match xs with
  | [x, .tup cs] => if clsAll cs = true then bIsi n [x, .tup cs] s else .stuck
  | [x, .ty t] => bIsi n [x, .ty t] s
  | [x, .cls c] => bIsi n [x, .cls c] s
  | _ => .stuck
theorem cd_isi1 {n : Nat} (hK : g.K = X.K) (cf : ClsF X.K g n) : CallD X g E (.builtin "isinstance") (fun xs s => match xs with
    | [_, .ty _] => bIsi' n xs s
    | [_, .cls _] => bIsi' n xs s
    | _ => .stuck) := by
  refine ⟨_, call_isi, fun xs s ca F P H vs Q m rs p => ?_⟩
  have one : ∀ x c, (match tyn s x with
    | some t => if t.ok n = true then (match isOne n t c with
      | some b => Res.ok (.bl b) s
      | none => .stuck) else .stuck
    | none => .stuck) = bIsi' n xs s → xs = [x, c] → rIsi X.K vs H Q := fun x c hb hx => by
    subst hx
    obtain ⟨v, u, rfl, r1, r2⟩ := reps2 rs
    have p : Post g ca F P E (fun d _ ca' F' H' => ∀ w, Rep g ca' F' d w → Q w H') (match tyn s x with
      | some t => if t.ok n = true then (match isOne n t c with
        | some b => Res.ok (.bl b) s
        | none => .stuck) else .stuck
      | none => .stuck) := by
      rw [hb]
      dsimp only at p
      split at p
      · exact p
      · exact p
      · exact p.elim
    split at p
    · rename_i t ht
      split at p
      · rename_i hok
        split at p
        · rename_i b hb2
          obtain ⟨w, hw, hk⟩ := isOne_kit cf hok hb2
          exact ⟨v, u, t.v g, w, b, rfl, cls_rep hw r2, tyx_of hK cf m ht hok r1, hk, p.now m _ rep_bl⟩
        · exact p.elim
      · exact p.elim
    · exact p.elim
  dsimp only at p
  split at p
  · rename_i x t
    exact one x (.ty t) rfl rfl
  · rename_i x c
    exact one x (.cls c) rfl rfl
  · exact p.elim
theorem cd_isiT {n : Nat} (hK : g.K = X.K) (cf : ClsF X.K g n) : CallD X g E (.builtin "isinstance") (fun xs s => match xs with
    | [_, .tup _] => bIsi' n xs s
    | _ => .stuck) := by
  refine ⟨_, call_isiT, fun xs s ca F P H vs Q m rs p => ?_⟩
  dsimp only at p
  split at p
  · rename_i x cs
    unfold bIsi' at p
    simp only at p
    split at p
    · rename_i hc
      unfold bIsi at p
      simp only at p
      obtain ⟨v, u, rfl, r1, r2⟩ := reps2 rs
      simp only [Rep] at r2
      obtain ⟨a, ws, rfl, hF, rs2⟩ := r2
      split at p
      · rename_i t ht
        split at p
        · rename_i hok
          split at p
          · rename_i b hb
            obtain ⟨us, hp, hk⟩ := isAny_kit cf hok hb rs2 (clsAll_some hc)
            exact ⟨v, a, ws, t.v g, us, b, rfl, m.sub _ _ hF, hp, tyx_of hK cf m ht hok r1, hk, p.now m _ rep_bl⟩
          · exact p.elim
        · exact p.elim
      · exact p.elim
    · exact p.elim
  · exact p.elim
def bIs (n : Nat) : List D → S → Res D := fun xs s => ((match xs with
    | [_, .ty _] => bIsi' n xs s
    | [_, .cls _] => bIsi' n xs s
    | _ => .stuck : Res D)).or (match xs with
    | [_, .tup _] => bIsi' n xs s
    | _ => .stuck)
theorem cd_isinstance {n : Nat} (hK : g.K = X.K) (cf : ClsF X.K g n) : CallD X g E (.builtin "isinstance") (bIs n) := (cd_isi1 hK cf).or (cd_isiT hK cf)
/-- names of types, of own classes -/
theorem ev_bty (t : BT) {x : Str} {pos : Pos} (hg : Gl X x) (hm : X.mg x = none) (hv : bootBuiltins x = some (.type t.name)) (hn : x ≠ "__name__" := by decide) (hd : (x == ("__debug__" : Str)) = false := by decide) : Ev X g E (.Name x pos) (mC (.ty t)) :=
  ev_c (pe_bltn (v := .ty t.name) hg hm hv rfl hn hd) fun _ _ => by simp only [Rep]
theorem ev_cls (c : Nat) {x : Str} {pos : Pos} (hg : Gl X x) (hm : X.mg x = some (.ref (g.cls c))) (hd : (x == ("__debug__" : Str)) = false := by decide) : Ev X g E (.Name x pos) (mC (.cls c)) :=
  ev_c (pe_glob (v := .ref (g.cls c)) hg hm rfl hd) fun _ _ => by simp only [Rep]

/-! ### fields -/
theorem zip_lookup : ∀ {ns : List Str} {vs : List V} {i : Nat} {f : Str} {v : V}, ns.Nodup → ns[i]? = some f → vs[i]? = some v → (ns.zip vs).lookup f = some v
  | [], _, _, _, _, _, h, _ => by simp at h
  | _ :: _, [], _, _, _, _, _, h => by simp at h
  | n :: ns, w :: vs, 0, f, v, _, h1, h2 => by
    simp at h1 h2
    subst h1; subst h2
    simp [List.lookup_cons]
  | n :: ns, w :: vs, i + 1, f, v, nd, h1, h2 => by
    have hne : n ≠ f := by
      rintro rfl
      exact (List.nodup_cons.mp nd).1 (List.mem_of_getElem? (i := i) (by simpa using h1))
    simp only [List.zip_cons_cons, List.lookup_cons]
    rw [show (f == n) = false by simpa using fun e => hne e.symm]
    exact zip_lookup (List.nodup_cons.mp nd).2 (by simpa using h1) (by simpa using h2)
theorem zip_lookup_none : ∀ {ns : List Str} {vs : List V} {f : Str}, f ∉ ns → (ns.zip vs).lookup f = none
  | [], _, _, _ => rfl
  | _ :: _, [], _, _ => rfl
  | n :: ns, w :: vs, f, h => by
    simp only [List.zip_cons_cons, List.lookup_cons]
    rw [show (f == n) = false by simpa using fun e => h (by simp [e])]
    exact zip_lookup_none fun z => h (List.mem_cons_of_mem _ z)
variable {e o : Expr} {me mo : Env → S → Res D} {pos apos : Pos} {f : Str}
/-- the i-th field of the class c -/
def mFld (c i : Nat) (me : Env → S → Res D) : Env → S → Res D := fun env s => (me env s).bind fun x s1 => match x with
  | .ins k fs => if k = c then (match fs[i]? with
    | some d => .ok d s1
    | none => .stuck) else .stuck
  | _ => .stuck
theorem ev_fld {c i : Nat} (he : Ev X g E e me) (cl : Cls X.K (g.cls c)) (na : NoAttr X.K (g.cls c) f) (hf : (g.fn c)[i]? = some f) (hnd : (g.fn c).Nodup) (hb : attributeBase e f X.env (eval e X.env) = eval e X.env := by rfl) : Ev X g E (.Attribute e f pos) (mFld c i me) := by
  obtain ⟨t, p, h⟩ := he
  refine ⟨_, pe_fld p hb, fun env s ca F P H σ Q m sl q => ?_⟩
  refine h env s ca F P H σ _ m sl (Post.imp (Post.seq q) fun x s1 ca1 F1 H1 k1 k2 m1 q1 v rv => ?_)
  cases x with
  | ins k fs =>
    simp only at q1
    split at q1
    · rename_i hk
      subst hk
      split at q1
      · rename_i d hd
        simp only [Rep] at rv
        obtain ⟨a, dx, xs, rfl, hF, hl, rs⟩ := rv
        obtain ⟨w, hw, rw'⟩ := rs.get hd
        exact ⟨a, _, dx, _, w, rfl, m1.sub _ _ hF, cl, na, zip_lookup hnd hf hw, q1.now m1 _ rw'⟩
      · exact q1.elim
    · exact q1.elim
  | _ => exact q1.elim

/-! ### calls of own defs -/
theorem post_noexn {α : Type} {ca : List Addr} {F P : Hp} {E' : XK} {Q : α → S → List Addr → Hp → Hp → Prop} {r : Res α} (h : Post g ca F P E Q (match r with
    | .exn _ _ _ => Res.stuck
    | z => z)) : Post g ca F P E' Q r := by
  cases r with
  | stuck => exact h
  | ok a s => exact h
  | exn c pl s => exact h.elim
def noexn {α : Type} (r : Res α) : Res α := match r with
  | .exn _ _ _ => .stuck
  | z => z
variable {x m : Str} {p : Pos} {es : List Expr} {mr : Env → S → Res (List D)} {CX : CXT} {k : Nat} {fa C : Addr} {fd : FuncData} {ps : List Str} {ff : List D → S → Res D} {n : Nat} {dvs : List V} {dds : List D} {ds : List Value}
def mCallD (dds : List D) (ff : List D → S → Res D) (mr : Env → S → Res (List D)) : Env → S → Res D := fun env s => (mr env s).bind fun xs s1 => if xs.length + dds.length = n then ff (xs ++ dds) s1 else .stuck
theorem spG_of {ca : List Addr} {F P H : Hp} {s : S} {xs : List D} {vs : List V} {Q : VK} (m : Sim g ca F P s H) (r : Reps g ca F xs vs) (hl : xs.length = n) (q : Post g ca F P E (fun d _ ca' F' H' => ∀ v, Rep g ca' F' d v → Q v H') (ff xs s)) : spG g n ff vs H Q E :=
  ⟨xs, ca, F, P, s, by rw [← r.length]; exact hl, m, r, q⟩
theorem ev_call (Fk : FnOk X.prog X.w X.K X.mg X.base CX k fa fd ps (spG g n ff)) (hr : Room k X.A) (hg : Gl X x) (hm : X.mg x = some (.ref fa)) (hk : PySem.W.keepIn X.K (.ref fa) = true) (hb : Binds X.K fd ps ds) (hd : Vals dvs ds) (hdd : ∀ ca F, Reps g ca F dds dvs) (hx : Passes CX X E)
    (ha : Ea X g E (e :: es) mr) (hdb : (x == ("__debug__" : Str)) = false := by decide) (he : starEach (e :: es) X.env = (false, eval e X.env) :: starEach es X.env := by rfl) (hpl : (backTo pos (starEach es X.env)).any (·.1) = false := by rfl) :
    Ev X g E (.Call (.Name x p) (e :: es) [] pos) (mCallD (n := n) dds ff mr) := by
  obtain ⟨t, pa, ha⟩ := ha
  refine ⟨_, pe_call Fk hr hg hm hk hb hd hx pa hdb he hpl, fun env s ca F P H σ Q m sl q => ?_⟩
  refine ha env s ca F P H σ _ m sl (Post.imp (Post.seq q) fun xs s1 ca1 F1 H1 k1 k2 m1 q vs rs => ?_)
  split at q
  · rename_i hl
    exact spG_of m1 (rs.append (hdd _ _)) (by simpa using hl) q
  · exact q.elim
theorem ev_call0 (Fk : FnOk X.prog X.w X.K X.mg X.base CX k fa fd ps (spG g n ff)) (hr : Room k X.A) (hg : Gl X x) (hm : X.mg x = some (.ref fa)) (hk : PySem.W.keepIn X.K (.ref fa) = true) (hb : Binds X.K fd ps ds) (hd : Vals dvs ds) (hdd : ∀ ca F, Reps g ca F dds dvs) (hx : Passes CX X E)
    (hdb : (x == ("__debug__" : Str)) = false := by decide) : Ev X g E (.Call (.Name x p) [] [] pos) (mCallD (n := n) dds ff aNil) := by
  refine ⟨_, pe_call0 Fk hr hg hm hk hb hd hx hdb, fun env s ca F P H σ Q m sl q => ?_⟩
  simp only [mCallD, aNil, Res.bind_ok] at q
  split at q
  · rename_i hl
    exact spG_of m (hdd _ _) (by simpa using hl) q
  · exact q.elim
/-- o.m(..) of an instance of the class c -/
def mMeth (c : Nat) (dds : List D) (ff : List D → S → Res D) (mo : Env → S → Res D) (mr : Env → S → Res (List D)) : Env → S → Res D := fun env s => (mo env s).bind fun x s1 => match x with
  | .ins k fs => if k = c then (mr env s1).bind (fun xs s2 => if xs.length + dds.length + 1 = n then ff (.ins k fs :: (xs ++ dds)) s2 else .stuck) else .stuck
  | _ => .stuck
theorem ev_meth {c : Nat} {pl : Sem Bool} (he : Ev X g E o mo) (cl : Cls X.K (g.cls c)) (hm : Meth X.K (g.cls c) m fa) (hnf : m ∉ g.fn c) (Fk : FnOk X.prog X.w X.K X.mg X.base CX k fa fd ps (spG g n ff)) (hr : Room k X.A) (hb : Binds X.K fd ps ds) (hd : Vals dvs ds) (hdd : ∀ ca F, Reps g ca F dds dvs) (hx : Passes CX X E)
    (ha : Ea X g E (e :: es) mr) (hst : starEach (e :: es) X.env = (false, eval e X.env) :: starEach es X.env := by rfl) (hpl : (backTo pos (starEach es X.env)).any (·.1) = false := by rfl)
    (ht : eval (.Call (.Attribute o m apos) (e :: es) [] pos) X.env = (do
      let ov ← eval o X.env
      standAt apos.atName
      let (f, first) ← holding [ov] (getMethod ov m pl)
      callWith pos f first (backTo pos (starEach (e :: es) X.env)) (backToKw pos (keywordEach [] X.env))) := by rfl) :
    Ev X g E (.Call (.Attribute o m apos) (e :: es) [] pos) (mMeth (n := n) c dds ff mo mr) := by
  obtain ⟨t, po, ho⟩ := he
  obtain ⟨u, pa, ha⟩ := ha
  refine ⟨_, pe_meth po cl hm Fk hr hb hd hx pa hst hpl ht, fun env s ca F P H σ Q m' sl q => ?_⟩
  refine ho env s ca F P H σ _ m' sl (Post.imp (Post.seq q) fun z s1 ca1 F1 H1 k1 k2 m1 q1 v rv => ?_)
  cases z with
  | ins kk fs =>
    simp only at q1
    split at q1
    · rename_i hk
      subst hk
      have rv' := rv
      simp only [Rep] at rv
      obtain ⟨a, dx, xs, rfl, hF, hl, rs⟩ := rv
      refine ⟨a, dx, _, rfl, m1.sub _ _ hF, zip_lookup_none hnf, ?_⟩
      refine ha env s1 ca1 F1 P H1 σ _ m1 (sl.mono k1 k2) (Post.imp (Post.seq q1) fun ys s2 ca2 F2 H2 l1 l2 m2 q2 vs rs2 => ?_)
      split at q2
      · rename_i hl
        exact spG_of m2 (.cons (Rep.mono l1 l2 _ _ rv') (rs2.append (hdd _ _))) (by simp; omega) q2
      · exact q2.elim
    · exact q1.elim
  | _ => exact q1.elim
theorem ev_meth0 {c : Nat} {pl : Sem Bool} (he : Ev X g E o mo) (cl : Cls X.K (g.cls c)) (hm : Meth X.K (g.cls c) m fa) (hnf : m ∉ g.fn c) (Fk : FnOk X.prog X.w X.K X.mg X.base CX k fa fd ps (spG g n ff)) (hr : Room k X.A) (hb : Binds X.K fd ps ds) (hd : Vals dvs ds) (hdd : ∀ ca F, Reps g ca F dds dvs) (hx : Passes CX X E)
    (ht : eval (.Call (.Attribute o m apos) [] [] pos) X.env = (do
      let ov ← eval o X.env
      standAt apos.atName
      let (f, first) ← holding [ov] (getMethod ov m pl)
      callWith pos f first (backTo pos (starEach [] X.env)) (backToKw pos (keywordEach [] X.env))) := by rfl) :
    Ev X g E (.Call (.Attribute o m apos) [] [] pos) (mMeth (n := n) c dds ff mo aNil) := by
  obtain ⟨t, po, ho⟩ := he
  refine ⟨_, pe_meth0 po cl hm Fk hr hb hd hx ht, fun env s ca F P H σ Q m' sl q => ?_⟩
  refine ho env s ca F P H σ _ m' sl (Post.imp (Post.seq q) fun z s1 ca1 F1 H1 k1 k2 m1 q1 v rv => ?_)
  cases z with
  | ins kk fs =>
    simp only at q1
    split at q1
    · rename_i hk
      subst hk
      have rv' := rv
      simp only [Rep] at rv
      obtain ⟨a, dx, xs, rfl, hF, hl, rs⟩ := rv
      refine ⟨a, dx, _, rfl, m1.sub _ _ hF, zip_lookup_none hnf, ?_⟩
      simp only [aNil, Res.bind_ok] at q1
      split at q1
      · rename_i hl
        exact spG_of m1 (.cons rv' (hdd _ _)) (by simp at hl ⊢; omega) q1
      · exact q1.elim
    · exact q1.elim
  | _ => exact q1.elim
/-- o.f, a property of the class c -/
def mProp (c : Nat) (ff : List D → S → Res D) (mo : Env → S → Res D) : Env → S → Res D := fun env s => (mo env s).bind fun x s1 => match x with
  | .ins k fs => if k = c then noexn (ff [.ins k fs] s1) else .stuck
  | _ => .stuck
theorem ev_prop {c : Nat} {pp : Addr} {E' : XK} (he : Ev X g E o mo) (cl : Cls X.K (g.cls c)) (hp : PropOf X.K (g.cls c) f pp fa) (Fk : FnOk X.prog X.w X.K X.mg X.base CX k fa fd ps (spG g 1 ff)) (hr : Room (k + 1) X.A) (hb : Binds X.K fd ps []) (hx : Passes CX X.nox E')
    (hab : attributeBase o f X.env (eval o X.env) = eval o X.env := by rfl) : Ev X g E (.Attribute o f pos) (mProp c ff mo) := by
  obtain ⟨t, po, ho⟩ := he
  refine ⟨_, pe_prop (dvs := []) po cl hp Fk hr hb .nil hx hab, fun env s ca F P H σ Q m' sl q => ?_⟩
  refine ho env s ca F P H σ _ m' sl (Post.imp (Post.seq q) fun z s1 ca1 F1 H1 k1 k2 m1 q1 v rv => ?_)
  cases z with
  | ins kk fs =>
    simp only at q1
    split at q1
    · rename_i hk
      subst hk
      have rv' := rv
      simp only [Rep] at rv
      obtain ⟨a, dx, xs, rfl, hF, hl, rs⟩ := rv
      exact ⟨a, dx, _, rfl, m1.sub _ _ hF, spG_of m1 (.cons rv' .nil) rfl (post_noexn q1)⟩
    · exact q1.elim
  | _ => exact q1.elim
end
end Pm
set_option Elab.async false
set_option linter.all false
set_option maxRecDepth 100000
set_option maxHeartbeats 2000000
namespace Pm
open PySem PySem.Spec PyProof.Rows L2
section
variable {X : Cx} {g : G} {E : XK}

/-! ### making an instance -/
def cutOk : List Cell → Bool
  | [] => true
  | .lst ds :: cs => pureL ds && cutOk cs
  | .ins _ ds :: cs => pureL ds && cutOk cs
  | .dead :: cs => cutOk cs
theorem cutOk_mem : ∀ {l : List Cell}, cutOk l = true → ∀ c ∈ l, match c with | .lst ds => pureL ds = true | .ins _ ds => pureL ds = true | .dead => True
  | [], _, c, h => by cases h
  | x :: xs, h, c, hc => by
    rcases List.mem_cons.mp hc with rfl | hc
    · cases c with
      | lst ds => simp only [cutOk, Bool.and_eq_true] at h; exact h.1
      | ins k ds => simp only [cutOk, Bool.and_eq_true] at h; exact h.1
      | dead => trivial
    · refine cutOk_mem ?_ c hc
      cases x with
      | lst ds => simp only [cutOk, Bool.and_eq_true] at h; exact h.2
      | ins k ds => simp only [cutOk, Bool.and_eq_true] at h; exact h.2
      | dead => simpa only [cutOk] using h
theorem Sim.other {ca : List Addr} {F P H : Hp} {s : S} {p : Addr} {o : HO} (m : Sim g ca F P s H) (hp : H p = none) : Sim g ca F P s (upd H p o) where
  sub := m.sub.put (m.sub.free hp)
  fr := m.fr.put (m.fr.free hp)
  dis := m.dis
  len := m.len
  nd := m.nd
  out := m.out
  at_ := fun i a c e q => by
    by_cases hd : c = .dead
    · subst hd; trivial
    · exact (m.at_ i a c e q).mono List.prefix_rfl (Sub.refl _) (upd_ne (m.apart hp e ⟨c, q, hd⟩))
/-- a new cell, whatever it holds -/
theorem Sim.cellC {ca : List Addr} {F P H : Hp} {s : S} {p : Addr} {c0 : Cell} {o : HO} (m : Sim g ca F P s H) (hp : H p = none) (hc : CellOk g (ca ++ [p]) F (upd H p o) p c0) : Sim g (ca ++ [p]) F P (s ++ [c0]) (upd H p o) where
  sub := m.sub.put (m.sub.free hp)
  fr := m.fr.put (m.fr.free hp)
  dis := m.dis
  len := by simp [m.len]
  nd := fun i j a e1 e2 l1 l2 => by
    have hl := m.len
    have dec : ∀ k, (ca ++ [p])[k]? = some a → Live (s ++ [c0]) k → (k < ca.length ∧ ca[k]? = some a ∧ Live s k) ∨ (k = ca.length ∧ a = p) := fun k e l => by
      by_cases hk : k < ca.length
      · refine .inl ⟨hk, by rwa [List.getElem?_append_left hk] at e, ?_⟩
        obtain ⟨c, q, d⟩ := l
        exact ⟨c, by rwa [List.getElem?_append_left (by omega)] at q, d⟩
      · have hk2 : k < (ca ++ [p]).length := (List.getElem?_eq_some_iff.mp e).1
        have : k = ca.length := by simp at hk2; omega
        subst this
        simp at e
        exact .inr ⟨rfl, e.symm⟩
    rcases dec i e1 l1 with ⟨h1, q1, k1⟩ | ⟨h1, q1⟩ <;> rcases dec j e2 l2 with ⟨h2, q2, k2⟩ | ⟨h2, q2⟩
    · exact m.nd i j a q1 q2 k1 k2
    · exact absurd q2 (m.apart hp q1 k1)
    · exact absurd q1 (m.apart hp q2 k2)
    · omega
  out := fun i a e l => by
    by_cases hk : i < ca.length
    · obtain ⟨c, q, d⟩ := l
      rw [List.getElem?_append_left hk] at e
      exact m.out i a e ⟨c, by rwa [List.getElem?_append_left (by have := m.len; omega)] at q, d⟩
    · have hk2 : i < (ca ++ [p]).length := (List.getElem?_eq_some_iff.mp e).1
      have : i = ca.length := by simp at hk2; omega
      subst this
      simp at e
      subst e
      exact ⟨m.sub.free hp, m.fr.free hp⟩
  at_ := fun i a c e q => by
    have hl := m.len
    by_cases hk : i < ca.length
    · rw [List.getElem?_append_left hk] at e
      rw [List.getElem?_append_left (by omega)] at q
      by_cases hd : c = .dead
      · subst hd; trivial
      · exact (m.at_ i a c e q).mono (List.prefix_append _ _) (Sub.refl _) (upd_ne (m.apart hp e ⟨c, q, hd⟩))
    · have hk2 : i < (ca ++ [p]).length := (List.getElem?_eq_some_iff.mp e).1
      have : i = ca.length := by simp at hk2; omega
      subst this
      simp at e
      subst e
      rw [hl] at q
      simp at q
      subst q
      exact hc
def made (c nf k : Nat) (r : Res D) : Res D := r.bind fun d s2 => match d with
  | .non => (match s2[k]? with
    | some (.ins c' fs) => if (decide (c' = c ∧ fs.length = nf) && pureL fs && cutOk (s2.take k)) = true then .ok (.ins c fs) (s2.take k) else .stuck
    | _ => .stuck)
  | _ => .stuck
def mMake (c nf n : Nat) (dds : List D) (fi : List D → S → Res D) (mr : Env → S → Res (List D)) : Env → S → Res D := fun env s => (mr env s).bind fun xs s1 =>
  if xs.length + dds.length + 1 = n then made c nf s1.length (fi (.cell s1.length :: (xs ++ dds)) (s1 ++ [.ins c []])) else .stuck
theorem made_ok {c nf n : Nat} {fi : List D → S → Res D} {ca : List Addr} {F P H : Hp} {s : S} {xs : List D} {vs : List V} {Q : VK} {x dx : Addr} (hnf : nf = (g.fn c).length) (m : Sim g ca F P s H) (rs : Reps g ca F xs vs) (hl : xs.length + 1 = n)
    (hx : H x = none) (hdx : H dx = none) (hne : dx ≠ x) (q : Post g ca F P E (fun d _ ca' F' H' => ∀ v, Rep g ca' F' d v → Q v H') (made c nf s.length (fi (.cell s.length :: xs) (s ++ [.ins c []])))) :
    spG g n fi (.ref x :: vs) (upd (upd H dx (.own x)) x (.ins (g.cls c) dx [])) (fun v H2 => v = .non ∧ Q (.ref x) H2) E := by
  have m0 : Sim g ca F P s (upd H dx (.own x)) := m.other hdx
  have hx0 : (upd H dx (.own x)) x = none := by rw [upd_ne hne.symm]; exact hx
  have m1 : Sim g (ca ++ [x]) F P (s ++ [.ins c []]) (upd (upd H dx (.own x)) x (.ins (g.cls c) dx [])) := m0.cellC hx0 ⟨dx, [], by simp [upd_same], .nil⟩
  refine ⟨.cell s.length :: xs, ca ++ [x], F, P, s ++ [.ins c []], by simp [← rs.length, ← hl], m1, .cons ?_ (Reps.mono (List.prefix_append _ _) (Sub.refl _) _ _ rs), ?_⟩
  · simp only [Rep]
    exact ⟨x, rfl, by rw [← m.len]; simp⟩
  · refine Post.imp (Post.later (Post.seq0 q) (List.prefix_append _ _) (Sub.refl _)) fun d s2 ca2 F2 H2 k1 k2 m2 q2 v rv => ?_
    have hq : (ca ++ [x])[s.length]? = some x := by rw [← m.len]; simp
    have hc2 := prefix_get k1 hq
    cases d with
    | non =>
      dsimp only at q2
      split at q2
      · rename_i c' fs hs2
        split at q2
        · rename_i hcond
          simp only [Bool.and_eq_true, decide_eq_true_eq] at hcond
          obtain ⟨⟨⟨hc', hlen⟩, hp⟩, hcut⟩ := hcond
          subst hc'
          obtain ⟨dx2, ws, hH, hr⟩ := m2.at_ _ _ _ hc2 hs2
          rw [hlen, hnf, List.take_length] at hH
          obtain ⟨m3, hFx⟩ := m2.freeze hc2 hs2 (by intro z; cases z) hH
          have hpre : ca <+: ca2 := (List.prefix_append ca [x]).trans k1
          obtain ⟨t, rfl⟩ := hpre
          have htk : (s2.set s.length Cell.dead).take ca.length = s2.take s.length := by
            rw [m.len, List.take_set_of_le (Nat.le_refl _)]
          have m4 := m3.cut (by rw [htk]; exact cutOk_mem hcut)
          rw [htk] at m4
          refine ⟨rv, q2 ca _ H2 List.prefix_rfl (k2.trans (Sub.new hFx)) m4 _ ?_⟩
          simp only [Rep]
          exact ⟨x, dx2, ws, rfl, upd_same, by rw [hlen, hnf], Reps.bare _ _ hp (Reps.mono List.prefix_rfl (Sub.new hFx) _ _ hr)⟩
        · exact q2.elim
      · exact q2.elim
    | _ => exact q2.elim
variable {e o a b : Expr} {es : List Expr} {me mo ma mb : Env → S → Res D} {mr : Env → S → Res (List D)} {pos apos p : Pos} {x m : Str} {CX : CXT} {k : Nat} {fa C : Addr} {fd : FuncData} {ps : List Str} {ff fi : List D → S → Res D} {n nf c : Nat} {dvs : List V} {dds : List D} {ds : List Value}
theorem ev_make (M : Mk X.K (g.cls c) fa) (Fk : FnOk X.prog X.w X.K X.mg X.base CX k fa fd ps (spG g n fi)) (hnf : nf = (g.fn c).length) (hr : Room (k + 1) X.A) (hg : Gl X x) (hm : X.mg x = some (.ref (g.cls c))) (hb : Binds X.K fd ps ds) (hd : Vals dvs ds) (hdd : ∀ ca F, Reps g ca F dds dvs) (hx : Passes CX X E)
    (ha : Ea X g E (e :: es) mr) (hdb : (x == ("__debug__" : Str)) = false := by decide) (he : starEach (e :: es) X.env = (false, eval e X.env) :: starEach es X.env := by rfl) (hpl : (backTo pos (starEach es X.env)).any (·.1) = false := by rfl) :
    Ev X g E (.Call (.Name x p) (e :: es) [] pos) (mMake c nf n dds fi mr) := by
  obtain ⟨t, pa, ha⟩ := ha
  refine ⟨_, pe_make M Fk hr hg hm hb hd hx pa hdb he hpl, fun env s ca F P H σ Q m sl q => ?_⟩
  refine ha env s ca F P H σ _ m sl (Post.imp (Post.seq q) fun xs s1 ca1 F1 H1 k1 k2 m1 q1 vs rs => ?_)
  split at q1
  · rename_i hl
    intro x dx hx hdx hne
    exact made_ok hnf m1 (rs.append (hdd _ _)) (by simpa using hl) hx hdx hne q1
  · exact q1.elim

/-! ### statements -/
def sNext : Env → S → Res Fl := fun env s => .ok (.nx env) s
def sSeq (a b : Env → S → Res Fl) : Env → S → Res Fl := fun env s => (a env s).bind fun fl s1 => match fl with
  | .nx e => b e s1
  | fl => .ok fl s1
variable {st : Stmt} {rest : List Stmt} {ms mt : Env → S → Res Fl}
theorem svs_nil : Svs X g E [] sNext := ⟨_, pss_nil, fun env s ca F P H σ Dn m sl q => q.now m σ sl⟩
theorem svs_cons (h1 : Sv X g E st ms) (h2 : Svs X g E rest mt) : Svs X g E (st :: rest) (sSeq ms mt) := by
  obtain ⟨t, p1, h1⟩ := h1
  obtain ⟨u, p2, h2⟩ := h2
  refine ⟨_, pss_cons p1 p2, fun env s ca F P H σ Dn m sl q => ?_⟩
  refine h1 env s ca F P H σ _ m sl (Post.imp (Post.seq q) fun fl s1 ca1 F1 H1 k1 k2 m1 q1 => ?_)
  cases fl with
  | nx e => exact fun σ' sl' => h2 e s1 ca1 F1 P H1 σ' Dn m1 sl' q1
  | rt d => exact q1.now m1
  | bk e => exact q1.now m1
  | ct e => exact q1.now m1
theorem svs_one (h1 : Sv X g E st ms) : Svs X g E [st] ms := let ⟨t, p1, h1⟩ := h1; ⟨t, pss_one p1, h1⟩
theorem sv_pass : Sv X g E (.Pass pos) sNext := ⟨_, ps_pass, fun env s ca F P H σ Dn m sl q => q.now m σ sl⟩
def sBreak : Env → S → Res Fl := fun env s => .ok (.bk env) s
def sCont : Env → S → Res Fl := fun env s => .ok (.ct env) s
theorem sv_break : Sv X g E (.Break pos) sBreak := ⟨_, ps_break, fun env s ca F P H σ Dn m sl q => q.now m σ sl⟩
theorem sv_cont : Sv X g E (.Continue pos) sCont := ⟨_, ps_continue, fun env s ca F P H σ Dn m sl q => q.now m σ sl⟩
theorem sv_doc {x j pos pos'} : Sv X g E (.Expr (.Constant (.str x) j pos) pos') sNext := ⟨_, ps_doc, fun env s ca F P H σ Dn m sl q => q.now m σ sl⟩
def sStuck : Env → S → Res Fl := fun _ _ => .stuck
theorem sv_never : Sv X g E st sStuck := ⟨_, ps_never, fun env s ca F P H σ Dn m sl q => q.elim⟩
def sExpr (me : Env → S → Res D) : Env → S → Res Fl := fun env s => (me env s).bind fun _ s1 => .ok (.nx env) s1
theorem sv_expr (he : Ev X g E e me) (hs : swapsWith e none pos.line X.env = pure false := by rfl) : Sv X g E (.Expr e pos) (sExpr me) := by
  obtain ⟨t, p1, h1⟩ := he
  refine ⟨_, ps_expr p1 hs, fun env s ca F P H σ Dn m sl q => ?_⟩
  exact h1 env s ca F P H σ _ m sl (Post.imp (Post.seq q) fun d s1 ca1 F1 H1 k1 k2 m1 q1 v rv => q1.now m1 σ (sl.mono k1 k2))
def sRet (me : Env → S → Res D) : Env → S → Res Fl := fun env s => (me env s).bind fun d s1 => .ok (.rt d) s1
theorem sv_ret (he : Ev X g E e me) : Sv X g E (.Return (some e) pos) (sRet me) := by
  obtain ⟨t, p1, h1⟩ := he
  refine ⟨_, ps_ret p1, fun env s ca F P H σ Dn m sl q => ?_⟩
  exact h1 env s ca F P H σ _ m sl (Post.imp (Post.seq q) fun d s1 ca1 F1 H1 k1 k2 m1 q1 v rv => q1.now m1 v rv)
def sRetN : Env → S → Res Fl := fun env s => .ok (.rt .non) s
theorem sv_retN : Sv X g E (.Return none pos) sRetN := ⟨_, ps_retN, fun env s ca F P H σ Dn m sl q => q.now m .non (by simp only [Rep])⟩
def sIf (t : Env → S → Res Bool) (a b : Env → S → Res Fl) : Env → S → Res Fl := fun env s => (t env s).bind fun c s1 => if c = true then a env s1 else b env s1
variable {sa sb : List Stmt} {tc : Env → S → Res Bool}
theorem sv_if (hc : Et X g E e tc) (ha : Svs X g E sa ms) (hb : Svs X g E sb mt) : Sv X g E (.If e sa sb pos) (sIf tc ms mt) := by
  obtain ⟨t, p, h⟩ := hc
  obtain ⟨u, p1, h1⟩ := ha
  obtain ⟨w, p2, h2⟩ := hb
  refine ⟨_, ps_if p p1 p2, fun env s ca F P H σ Dn m sl q => ?_⟩
  refine h env s ca F P H σ _ m sl (Post.imp (Post.seq q) fun c s1 ca1 F1 H1 k1 k2 m1 q1 => ?_)
  cases c with
  | true => exact h1 env s1 ca1 F1 P H1 σ Dn m1 (sl.mono k1 k2) q1
  | false => exact h2 env s1 ca1 F1 P H1 σ Dn m1 (sl.mono k1 k2) q1

/-! ### targets -/
/-- names alone; w: the slots -/
def WipeEq (w : List Nat) (σ σ' : L2.St) : Prop := ∀ vs, (∀ i ∈ w, i ∈ vs) → wipe σ' vs = wipe σ vs
def Tn (X : Cx) (g : G) (tg : Expr) (w : List Nat) (m : D → Env → Option Env) : Prop :=
  ∃ t : TG, PG X tg t ∧ ∀ (d : D) (env env' : Env) (ca : List Addr) (F P H : Hp) (s : S) (σ : L2.St) (v : V) (Q : L2.St → Hp → Prop), Sim g ca F P s H → Slots g ca F env σ → Rep g ca F d v → m d env = some env' →
    (∀ σ', Slots g ca F env' σ' → WipeEq w σ σ' → Q σ' H) → t v σ H Q
def Tns (X : Cx) (g : G) (tgs : List Expr) (w : List Nat) (m : List D → Env → Option Env) : Prop :=
  ∃ t : TGs, PGs X tgs t ∧ ∀ (ds : List D) (env env' : Env) (ca : List Addr) (F P H : Hp) (s : S) (σ : L2.St) (vs : List V) (Q : L2.St → Hp → Prop), Sim g ca F P s H → Slots g ca F env σ → Reps g ca F ds vs → m ds env = some env' →
    (∀ σ', Slots g ca F env' σ' → WipeEq w σ σ' → Q σ' H) → t vs σ H Q
theorem wipe_get {σ : L2.St} {j : Nat} : ∀ {vs : List Nat}, (wipe σ vs)[j]? = if j ∈ vs then (if j < σ.length then some none else none) else σ[j]?
  | [] => by simp [wipe]
  | v :: vs => by
    unfold wipe
    by_cases h : v = j
    · subst h
      by_cases hl : v < σ.length
      · rw [List.getElem?_set_self (by rw [wipe_length]; exact hl)]
        simp [hl]
      · rw [List.getElem?_eq_none (by rw [List.length_set, wipe_length]; omega)]
        simp [hl]
    · rw [List.getElem?_set_ne h, wipe_get]
      have : (j ∈ v :: vs) = (j ∈ vs) := by simp [Ne.symm h]
      simp only [this]
theorem wipeEq_set {σ : L2.St} {i : Nat} {v : Option V} : WipeEq [i] σ (σ.set i v) := fun vs h => by
  refine List.ext_getElem? fun j => ?_
  rw [wipe_get, wipe_get, List.length_set]
  by_cases hj : j ∈ vs
  · simp [hj]
  · have : i ≠ j := fun e => hj (e ▸ h i (by simp))
    simp [hj, List.getElem?_set_ne this]
theorem WipeEq.trans {w1 w2 : List Nat} {σ σ1 σ2 : L2.St} (a : WipeEq w1 σ σ1) (b : WipeEq w2 σ1 σ2) : WipeEq (w1 ++ w2) σ σ2 := fun vs h =>
  (b vs fun i hi => h i (by simp [hi])).trans (a vs fun i hi => h i (by simp [hi]))
def tName (i : Nat) : D → Env → Option Env := fun d env => some (env.set i (some d))
theorem tn_name (i : Nat) {x : Str} (hN : X.N.Nodup) (hi : X.N[i]? = some x) (hx : Loc X.env.scope x) (hf : X.fn x = true ∨ X.env.scope.names.lookup x = some .local := by first | exact .inl rfl | exact .inr rfl | assumption) : Tn X g (.Name x pos) [i] (tName i) :=
  ⟨_, pg_name hN hi hx hf, fun d env env' ca F P H s σ v Q m sl r h q => by
    cases h
    exact q _ (sl.set r) wipeEq_set⟩
variable {tg : Expr} {tgs : List Expr} {w w' : List Nat} {mg : D → Env → Option Env} {mgs : List D → Env → Option Env}
def tNil : List D → Env → Option Env := fun ds env => match ds with
  | [] => some env
  | _ => none
def tCons (m : D → Env → Option Env) (ms : List D → Env → Option Env) : List D → Env → Option Env := fun ds env => match ds with
  | d :: ds => (m d env).bind (ms ds)
  | [] => none
theorem tns_nil : Tns X g [] [] tNil := ⟨_, pgs_nil, fun ds env env' ca F P H s σ vs Q m sl r h q => by
  unfold tNil at h
  split at h
  · cases h
    simp only [Reps] at r
    exact ⟨r, q σ sl fun _ _ => rfl⟩
  · cases h⟩
theorem tns_cons (h1 : Tn X g tg w mg) (h2 : Tns X g tgs w' mgs) (hs : (assignEach (tg :: tgs) X.env).map (·.2) = assign tg X.env :: (assignEach tgs X.env).map (·.2) := by rfl) : Tns X g (tg :: tgs) (w ++ w') (tCons mg mgs) := by
  obtain ⟨t, p1, h1⟩ := h1
  obtain ⟨u, p2, h2⟩ := h2
  refine ⟨_, pgs_cons p1 p2 hs, fun ds env env' ca F P H s σ vs Q m sl r h q => ?_⟩
  unfold tCons at h
  split at h
  · rename_i d ds
    rw [Option.bind_eq_some_iff] at h
    obtain ⟨env1, e1, e2⟩ := h
    simp only [Reps] at r
    obtain ⟨v, ws, rfl, r1, r2⟩ := r
    refine ⟨v, ws, rfl, ?_⟩
    refine h1 d env env1 ca F P H s σ v _ m sl r1 e1 fun σ1 sl1 w1 => ?_
    exact h2 ds env1 env' ca F P H s σ1 ws _ m sl1 r2 e2 fun σ2 sl2 w2 => q σ2 sl2 (w1.trans w2)
  · cases h
def tTup (n : Nat) (ms : List D → Env → Option Env) : D → Env → Option Env := fun d env => match d with
  | .tup ds => if ds.length = n then ms ds env else none
  | .rot ds => if ds.length = n then ms ds env else none
  | _ => none
theorem tn_tup {kk : Nat} (hK : g.K = X.K) (hc : X.calm = true) (h : Tns X g tgs w mgs) (hn : (assignEach tgs X.env).length = n := by rfl) (hst : (assignEach tgs X.env).findIdx? (·.1) = none := by rfl) : Tn X g (.Tuple tgs kk pos) w (tTup n mgs) := by
  obtain ⟨t, p, h⟩ := h
  refine ⟨_, pg_tup hc p hn hst, fun d env env' ca F P H s σ v Q m sl r hh q => ?_⟩
  unfold tTup at hh
  split at hh
  · split at hh
    · rename_i ds hl
      simp only [Rep] at r
      obtain ⟨a, xs, rfl, hF, rs⟩ := r
      exact ⟨a, xs, rfl, .of (m.sub _ _ hF), by rw [← rs.length]; exact hl, h ds env env' ca F P H s σ xs Q m sl rs hh q⟩
    · cases hh
  · split at hh
    · rename_i ds hl
      simp only [Rep] at r
      obtain ⟨a, xs, rfl, hF, rs⟩ := r
      exact ⟨a, xs, rfl, hK ▸ same_t m.sub hF, by rw [← rs.length]; exact hl, h ds env env' ca F P H s σ xs Q m sl rs hh q⟩
    · cases hh
  · cases hh

/-- any target of an assignment -/
def Ta (X : Cx) (g : G) (E : XK) (tg : Expr) (m : D → Env → S → Res Env) : Prop :=
  ∃ t : TG, PG X tg t ∧ ∀ (d : D) (env : Env) (ca : List Addr) (F P H : Hp) (s : S) (σ : L2.St) (v : V) (Q : L2.St → Hp → Prop), Sim g ca F P s H → Slots g ca F env σ → Rep g ca F d v →
    Post g ca F P E (fun env' _ ca' F' H' => ∀ σ', Slots g ca' F' env' σ' → Q σ' H') (m d env s) → t v σ H Q
def Tas (X : Cx) (g : G) (E : XK) (tgs : List Expr) (m : List D → Env → S → Res Env) : Prop :=
  ∃ t : TGs, PGs X tgs t ∧ ∀ (ds : List D) (env : Env) (ca : List Addr) (F P H : Hp) (s : S) (σ : L2.St) (vs : List V) (Q : L2.St → Hp → Prop), Sim g ca F P s H → Slots g ca F env σ → Reps g ca F ds vs →
    Post g ca F P E (fun env' _ ca' F' H' => ∀ σ', Slots g ca' F' env' σ' → Q σ' H') (m ds env s) → t vs σ H Q
def aN (m : D → Env → Option Env) : D → Env → S → Res Env := fun d env s => match m d env with
  | some e => .ok e s
  | none => .stuck
theorem ta_n (h : Tn X g tg w mg) : Ta X g E tg (aN mg) := by
  obtain ⟨t, p, h⟩ := h
  refine ⟨t, p, fun d env ca F P H s σ v Q m sl r q => ?_⟩
  unfold aN at q
  split at q
  · rename_i e he
    exact h d env e ca F P H s σ v Q m sl r he fun σ' sl' _ => q.now m σ' sl'
  · exact q.elim
variable {mta : D → Env → S → Res Env} {mtas : List D → Env → S → Res Env}
def taNil : List D → Env → S → Res Env := fun ds env s => match ds with
  | [] => .ok env s
  | _ => .stuck
def taCons (m : D → Env → S → Res Env) (ms : List D → Env → S → Res Env) : List D → Env → S → Res Env := fun ds env s => match ds with
  | d :: ds => (m d env s).bind fun e s1 => ms ds e s1
  | [] => .stuck
theorem tas_nil : Tas X g E [] taNil := ⟨_, pgs_nil, fun ds env ca F P H s σ vs Q m sl r q => by
  unfold taNil at q
  split at q
  · simp only [Reps] at r
    exact ⟨r, q.now m σ sl⟩
  · exact q.elim⟩
theorem tas_cons (h1 : Ta X g E tg mta) (h2 : Tas X g E tgs mtas) (hs : (assignEach (tg :: tgs) X.env).map (·.2) = assign tg X.env :: (assignEach tgs X.env).map (·.2) := by rfl) : Tas X g E (tg :: tgs) (taCons mta mtas) := by
  obtain ⟨t, p1, h1⟩ := h1
  obtain ⟨u, p2, h2⟩ := h2
  refine ⟨_, pgs_cons p1 p2 hs, fun ds env ca F P H s σ vs Q m sl r q => ?_⟩
  unfold taCons at q
  split at q
  · rename_i d ds
    simp only [Reps] at r
    obtain ⟨v, ws, rfl, r1, r2⟩ := r
    refine ⟨v, ws, rfl, ?_⟩
    refine h1 d env ca F P H s σ v _ m sl r1 (Post.imp (Post.seq q) fun e s1 ca1 F1 H1 k1 k2 m1 q1 σ1 sl1 => ?_)
    exact h2 ds e ca1 F1 P H1 s1 σ1 ws _ m1 sl1 (Reps.mono k1 k2 _ _ r2) q1
  · exact q.elim
def taTup (n : Nat) (ms : List D → Env → S → Res Env) : D → Env → S → Res Env := fun d env s => match d with
  | .tup ds => if ds.length = n then ms ds env s else .stuck
  | .rot ds => if ds.length = n then ms ds env s else .stuck
  | _ => .stuck
theorem ta_tup {kk : Nat} (hK : g.K = X.K) (hc : X.calm = true) (h : Tas X g E tgs mtas) (hn : (assignEach tgs X.env).length = n := by rfl) (hst : (assignEach tgs X.env).findIdx? (·.1) = none := by rfl) : Ta X g E (.Tuple tgs kk pos) (taTup n mtas) := by
  obtain ⟨t, p, h⟩ := h
  refine ⟨_, pg_tup hc p hn hst, fun d env ca F P H s σ v Q m sl r q => ?_⟩
  unfold taTup at q
  split at q
  · split at q
    · rename_i ds hl
      simp only [Rep] at r
      obtain ⟨a, xs, rfl, hF, rs⟩ := r
      exact ⟨a, xs, rfl, .of (m.sub _ _ hF), by rw [← rs.length]; exact hl, h ds env ca F P H s σ xs Q m sl rs q⟩
    · exact q.elim
  · split at q
    · rename_i ds hl
      simp only [Rep] at r
      obtain ⟨a, xs, rfl, hF, rs⟩ := r
      exact ⟨a, xs, rfl, hK ▸ same_t m.sub hF, by rw [← rs.length]; exact hl, h ds env ca F P H s σ xs Q m sl rs q⟩
    · exact q.elim
  · exact q.elim
/-- xs[i] = .. of a list that changes -/
def taSub (mo mi : Env → S → Res D) : D → Env → S → Res Env := fun d env s => (mo env s).bind fun o s1 => (mi env s1).bind fun i s2 => match o, i with
  | .cell k, .int j => match s2[k]? with
    | some (.lst ds) => match ixN ds.length j with
      | some z => .ok env (s2.set k (.lst (ds.set z d)))
      | none => .stuck
    | _ => .stuck
  | _, _ => .stuck
theorem ta_sub (ho : Ev X g E o mo) (hi : Ev X g E e me)
    (ha : ∀ v, assign (.Subscript o e pos) X.env v = (do
      let ov ← holding [v] (eval o X.env)
      let iv ← holding [v, ov] (eval e X.env)
      standAt pos
      holding [v, ov, iv] (setItem ov iv v)
      release [v, ov, iv] []) := by intro _; rfl) : Ta X g E (.Subscript o e pos) (taSub mo me) := by
  obtain ⟨t, p, h⟩ := ho
  obtain ⟨u, p', h'⟩ := hi
  refine ⟨_, pg_sub p p' set_list ha, fun d env ca F P H s σ v Q m sl r q => ?_⟩
  refine h env s ca F P H σ _ m sl (Post.imp (Post.seq q) fun od s1 ca1 F1 H1 k1 k2 m1 q1 ov rov => ?_)
  refine h' env s1 ca1 F1 P H1 σ _ m1 (sl.mono k1 k2) (Post.imp (Post.seq q1) fun jd s2 ca2 F2 H2 l1 l2 m2 q2 jv rjv => ?_)
  have rov := Rep.mono l1 l2 _ _ rov
  cases od with
  | cell kk =>
    cases jd with
    | int j =>
      dsimp only at q2
      split at q2
      · rename_i ds hk
        split at q2
        · rename_i z hz
          simp only [Rep] at rov rjv
          obtain ⟨a, rfl, ha⟩ := rov
          obtain ⟨xs, hH, rs⟩ := m2.cellL ha hk
          refine ⟨a, xs, j, z, rfl, rjv, hH, by rw [← rs.length]; exact hz, ?_⟩
          have rd := Rep.mono (k1.trans l1) (k2.trans l2) _ _ r
          exact q2 ca2 F2 _ List.prefix_rfl (Sub.refl _) (m2.store ha hk (by intro z; cases z) ⟨_, upd_same, Reps.set rd z rs⟩) σ ((sl.mono k1 k2).mono l1 l2)
        · exact q2.elim
      · exact q2.elim
    | _ => exact q2.elim
  | _ => exact q2.elim
def sAsg (me : Env → S → Res D) (mt : D → Env → S → Res Env) : Env → S → Res Fl := fun env s => (me env s).bind fun d s1 => (mt d env s1).bind fun e s2 => .ok (.nx e) s2
theorem sv_asg (he : Ev X g E e me) (ht : Ta X g E tg mta) (hs : swapsWithSole [tg] e pos.line X.env = pure false := by rfl) (hw : swappedStores [tg] e X.env = pure none := by rfl) (h1 : (assignEach [tg] X.env).map (·.2) = [assign tg X.env] := by rfl) : Sv X g E (.Assign [tg] e pos) (sAsg me mta) := by
  obtain ⟨t, p, h⟩ := he
  obtain ⟨u, p', h'⟩ := ht
  refine ⟨_, ps_asg p p' hs hw h1, fun env s ca F P H σ Dn m sl q => ?_⟩
  refine h env s ca F P H σ _ m sl (Post.imp (Post.seq q) fun d s1 ca1 F1 H1 k1 k2 m1 q1 v rv => ?_)
  exact h' d env ca1 F1 P H1 s1 σ v _ m1 (sl.mono k1 k2) rv (Post.imp (Post.seq q1) fun e s2 ca2 F2 H2 l1 l2 m2 q2 σ' sl' => q2.now m2 σ' sl')
def sSet (i : Nat) (me : Env → S → Res D) : Env → S → Res Fl := fun env s => (me env s).bind fun d s1 => .ok (.nx (env.set i (some d))) s1
theorem sv_set (i : Nat) {x : Str} {pos' : Pos} (hN : X.N.Nodup) (hi : X.N[i]? = some x) (hx : Loc X.env.scope x) (he : Ev X g E e me) (hs : swapsWith e (some (.Name x pos')) pos.line X.env = pure false := by rfl) (hf : X.fn x = true ∨ X.env.scope.names.lookup x = some .local := by first | exact .inl rfl | exact .inr rfl | assumption) :
    Sv X g E (.Assign [.Name x pos'] e pos) (sSet i me) := by
  obtain ⟨t, p, h⟩ := he
  refine ⟨_, ps_set hN hi hx p hs hf, fun env s ca F P H σ Dn m sl q => ?_⟩
  exact h env s ca F P H σ _ m sl (Post.imp (Post.seq q) fun d s1 ca1 F1 H1 k1 k2 m1 q1 v rv => q1.now m1 _ ((sl.mono k1 k2).set rv))
/-- a, b = x, y -/
def sPar (i j : Nat) (mr : Env → S → Res (List D)) : Env → S → Res Fl := fun env s => (mr env s).bind fun ds s1 => match ds with
  | [x, y] => .ok (.nx ((env.set i (some x)).set j (some y))) s1
  | _ => .stuck
theorem sv_par (i j : Nat) {x y : Str} {px py pt : Pos} {kt k2 pt2} (hc : X.calm = true) (hN : X.N.Nodup) (hi : X.N[i]? = some x) (hj : X.N[j]? = some y) (hij : i ≠ j)
    (hx : X.env.scope.names.lookup x = some .local) (hy : X.env.scope.names.lookup y = some .local) (ha : Ea X g E [a, b] mr)
    (hw : swappedStores [.Tuple [.Name x px, .Name y py] kt pt] (.Tuple [a, b] k2 pt2) X.env = pure (some [x, y]))
    (hs : swapsWithSole [.Tuple [.Name x px, .Name y py] kt pt] (.Tuple [a, b] k2 pt2) pos.line X.env = pure false := by rfl) :
    Sv X g E (.Assign [.Tuple [.Name x px, .Name y py] kt pt] (.Tuple [a, b] k2 pt2) pos) (sPar i j mr) := by
  obtain ⟨t, p, h⟩ := ha
  refine ⟨_, ps_par hc hN hi hj hij hx hy p hw hs, fun env s ca F P H σ Dn m sl q => ?_⟩
  refine h env s ca F P H σ _ m sl (Post.imp (Post.seq q) fun ds s1 ca1 F1 H1 k1 k2 m1 q1 vs rs => ?_)
  split at q1
  · obtain ⟨v, u, rfl, r1, r2⟩ := reps2 rs
    exact ⟨v, u, rfl, q1.now m1 _ (((sl.mono k1 k2).set r1).set r2)⟩
  · exact q1.elim
/-- self.f = value, the next field of an instance that is being made -/
def sFld (c i : Nat) (mo mv : Env → S → Res D) : Env → S → Res Fl := fun env s => (mv env s).bind fun y s1 => (mo env s1).bind fun x s2 => match x with
  | .cell k => match s2[k]? with
    | some (.ins c' fs) => if c' = c ∧ fs.length = i then .ok (.nx env) (s2.set k (.ins c (fs ++ [y]))) else .stuck
    | _ => .stuck
  | _ => .stuck
theorem putF_zip : ∀ {ns : List Str} {vs : List V} {f : Str} {y : V}, (ns ++ [f]).Nodup → ns.length = vs.length → putF f y (ns.zip vs) = (ns ++ [f]).zip (vs ++ [y])
  | [], [], f, y, _, _ => rfl
  | [], _ :: _, _, _, _, h => by simp at h
  | _ :: _, [], _, _, _, h => by simp at h
  | n :: ns, v :: vs, f, y, nd, h => by
    have hne : ¬ n = f := by
      rintro rfl
      exact (List.nodup_cons.mp nd).1 (by simp)
    show (if n = f then (n, y) :: ns.zip vs else (n, v) :: putF f y (ns.zip vs)) = _
    rw [if_neg hne, putF_zip (List.nodup_cons.mp nd).2 (by simpa using h)]
    rfl
theorem sv_fld {c i : Nat} {f : Str} {pos' : Pos} (ho : Ev X g E o mo) (hv : Ev X g E e me) (cl : Cls X.K (g.cls c)) (na : NoAttr X.K (g.cls c) f) (hf : (g.fn c)[i]? = some f) (hnd : (g.fn c).Nodup) (hlen : (g.fn c).length < 1000) (hs : swapsWith e (some (.Attribute o f pos')) pos.line X.env = pure false := by rfl) :
    Sv X g E (.Assign [.Attribute o f pos'] e pos) (sFld c i mo me) := by
  obtain ⟨t, p, h⟩ := ho
  obtain ⟨u, p', h'⟩ := hv
  refine ⟨_, ps_fld p p' hs, fun env s ca F P H σ Dn m sl q => ?_⟩
  refine h' env s ca F P H σ _ m sl (Post.imp (Post.seq q) fun yd s1 ca1 F1 H1 k1 k2 m1 q1 yv ry => ?_)
  refine h env s1 ca1 F1 P H1 σ _ m1 (sl.mono k1 k2) (Post.imp (Post.seq q1) fun xd s2 ca2 F2 H2 l1 l2 m2 q2 xv rx => ?_)
  split at q2
  · rename_i kk
    split at q2
    · rename_i c' fs hk
      split at q2
      · rename_i hc
        obtain ⟨rfl, hl⟩ := hc
        simp only [Rep] at rx
        obtain ⟨a, rfl, ha⟩ := rx
        obtain ⟨dx, xs, hH, rs⟩ := m2.at_ _ _ _ ha hk
        have hil : i < (g.fn c').length := (List.getElem?_eq_some_iff.mp hf).1
        have htk : (g.fn c').take (i + 1) = (g.fn c').take i ++ [f] := by
          rw [List.take_add_one, hf]; rfl
        have hlx : ((g.fn c').take i).length = xs.length := by rw [← rs.length, hl, List.length_take]; omega
        refine ⟨a, _, dx, _, rfl, hH, cl, na, ?_, ?_⟩
        · rw [List.length_zip, hl, hlx]; have := rs.length; omega
        · refine q2 ca2 F2 _ List.prefix_rfl (Sub.refl _) (m2.store ha hk (by intro z; cases z) ⟨dx, xs ++ [yv], ?_, rs.append (.one (Rep.mono l1 l2 _ _ ry))⟩) σ ((sl.mono k1 k2).mono l1 l2)
          rw [upd_same, hl, putF_zip (by rw [← htk]; exact hnd.sublist (List.take_sublist _ _)) hlx]
          simp [hl, htk]
      · exact q2.elim
    · exact q2.elim
  · exact q2.elim

/-! ### while -/
def whileL (t : Env → S → Res Bool) (b : Env → S → Res Fl) : Nat → Env → S → Res Fl
  | 0, _, _ => .stuck
  | n + 1, env, s => (t env s).bind fun c s1 => if c = true then (b env s1).bind (fun fl s2 => match fl with
      | .nx e => whileL t b n e s2
      | .ct e => whileL t b n e s2
      | .bk e => .ok (.nx e) s2
      | .rt d => .ok (.rt d) s2) else .ok (.nx env) s1
theorem sv_while (n : Nat) (hp : PassesOwn (model X.prog X.w) X.A X.env X.xe) (hc : Et X g E e tc) (hb : Svs X g E sa ms) : Sv X g E (.While e sa [] pos) (whileL tc ms n) := by
  obtain ⟨t, p, h⟩ := hc
  obtain ⟨u, p1, h1⟩ := hb
  refine ⟨_, ps_while hp p p1, fun env s ca F P H σ Dn m sl q => ?_⟩
  refine ⟨fun k σ H => ∃ env s ca F, Sim g ca F P s H ∧ Slots g ca F env σ ∧ Post g ca F P E (fun fl _ ca' F' H' => FlOk g ca' F' H' Dn fl) (whileL tc ms k env s), ⟨n, env, s, ca, F, m, sl, q⟩, ?_⟩
  rintro k σ H ⟨env, s, ca, F, m, sl, q⟩
  cases k with
  | zero => exact q.elim
  | succ k =>
    refine h env s ca F P H σ _ m sl (Post.imp (Post.seq q) fun c s1 ca1 F1 H1 k1 k2 m1 q1 => ?_)
    cases c with
    | false => exact q1.now m1 σ (sl.mono k1 k2)
    | true =>
      refine ⟨fun σ' H' => ∃ env s ca F, Sim g ca F P s H' ∧ Slots g ca F env σ' ∧ Post g ca F P E (fun fl _ ca' F' H' => FlOk g ca' F' H' Dn fl) (whileL tc ms k env s), fun σ' H' w => ⟨k, Nat.lt_succ_self k, w⟩, ?_⟩
      refine h1 env s1 ca1 F1 P H1 σ _ m1 (sl.mono k1 k2) (Post.imp (Post.seq q1) fun fl s2 ca2 F2 H2 l1 l2 m2 q2 => ?_)
      cases fl with
      | nx e => exact fun σ' sl' => ⟨e, s2, ca2, F2, m2, sl', q2⟩
      | ct e => exact fun σ' sl' => ⟨e, s2, ca2, F2, m2, sl', q2⟩
      | bk e => exact q2.now m2
      | rt d => exact q2.now m2

/-! ### what is walked -/
def Walks (g : G) (ca : List Addr) (F : Hp) (J : It) (ds : List D) : Prop :=
  ∀ (i : Nat) (ca' : List Addr) (F' P H' : Hp) (s : S), ca <+: ca' → Sub F F' → Sim g ca' F' P s H' →
    (∀ d, ds[i]? = some d → J.go i H' ∧ ∀ x H'', J.yld i H' x H'' → ∃ F'', Sub F' F'' ∧ Sim g ca' F'' P s H'' ∧ Rep g ca' F'' d x) ∧ (ds.length ≤ i → J.stop i H')
def Iv (X : Cx) (g : G) (E : XK) (tg iter : Expr) (m : Env → S → Res (List D)) : Prop :=
  ∃ wi : TI, PI X tg iter wi ∧ ∀ (env : Env) (s : S) (ca : List Addr) (F P H : Hp) (σ : L2.St) (R : It → Hp → Prop), Sim g ca F P s H → Slots g ca F env σ →
    Post g ca F P E (fun ds _ ca' F' H' => ∀ J, Walks g ca' F' J ds → R J H') (m env s) → wi σ H R
theorem walks_l {ca : List Addr} {F : Hp} {a : Addr} {xs : List V} {ds : List D} {K : PySem.W.Frag} (hK : g.K = K) (h : SqL g.K F a xs) (rs : Reps g ca F ds xs) : Walks g ca F (Itl K a) ds := fun i ca' F' P H' s hc hF m => by
  have hs : SqL K H' a xs := hK ▸ same_l (hF.trans m.sub) h
  refine ⟨fun d hd => ?_, fun hl => ⟨xs, hs, by rw [← rs.length]; exact hl⟩⟩
  obtain ⟨v, hv, rv⟩ := rs.get hd
  refine ⟨⟨xs, v, hs, hv⟩, fun x H'' hy => ?_⟩
  obtain ⟨rfl, hy⟩ := hy
  have : xs[i]? = some x := hy xs hs
  rw [hv] at this; cases this
  exact ⟨F', Sub.refl _, m, Rep.mono hc hF _ _ rv⟩
theorem walks_t {ca : List Addr} {F : Hp} {a : Addr} {xs : List V} {ds : List D} {K : PySem.W.Frag} (hK : g.K = K) (h : SqT g.K F a xs) (rs : Reps g ca F ds xs) : Walks g ca F (Itt K a) ds := fun i ca' F' P H' s hc hF m => by
  have hs : SqT K H' a xs := hK ▸ same_t (hF.trans m.sub) h
  refine ⟨fun d hd => ?_, fun hl => ⟨xs, hs, by rw [← rs.length]; exact hl⟩⟩
  obtain ⟨v, hv, rv⟩ := rs.get hd
  refine ⟨⟨xs, v, hs, hv⟩, fun x H'' hy => ?_⟩
  obtain ⟨rfl, hy⟩ := hy
  have : xs[i]? = some x := hy xs hs
  rw [hv] at this; cases this
  exact ⟨F', Sub.refl _, m, Rep.mono hc hF _ _ rv⟩
/-- a list, a tuple that stands still -/
def iSeq : D → S → Res (List D) := fun d s1 => match d with
  | .lst ds => .ok ds s1
  | .ro ds => .ok ds s1
  | _ => .stuck
def iLst (me : Env → S → Res D) : Env → S → Res (List D) := fun env s => (me env s).bind iSeq
theorem iv_l (hK : g.K = X.K) (h : Ev X g E e me) : Iv X g E tg e (iLst me) := by
  obtain ⟨t, p, h⟩ := h
  refine ⟨_, pi_list p, fun env s ca F P H σ R m sl q => ?_⟩
  refine h env s ca F P H σ _ m sl (Post.imp (Post.seq q) fun d s1 ca1 F1 H1 k1 k2 m1 q1 v rv => ?_)
  unfold iSeq at q1
  split at q1
  · simp only [Rep] at rv
    obtain ⟨a, xs, rfl, hF, rs⟩ := rv
    exact ⟨a, rfl, ⟨xs, .of (m1.sub _ _ hF)⟩, q1.now m1 _ (walks_l hK (.of hF) rs)⟩
  · simp only [Rep] at rv
    obtain ⟨a, xs, rfl, hF, rs⟩ := rv
    exact ⟨a, rfl, ⟨xs, hK ▸ same_l m1.sub hF⟩, q1.now m1 _ (walks_l hK hF rs)⟩
  · exact q1.elim
def iTupS : D → S → Res (List D) := fun d s1 => match d with
  | .tup ds => .ok ds s1
  | .rot ds => .ok ds s1
  | _ => .stuck
def iT (me : Env → S → Res D) : Env → S → Res (List D) := fun env s => (me env s).bind iTupS
theorem iv_t (hK : g.K = X.K) (h : Ev X g E e me) : Iv X g E tg e (iT me) := by
  obtain ⟨t, p, h⟩ := h
  refine ⟨_, pi_tup p, fun env s ca F P H σ R m sl q => ?_⟩
  refine h env s ca F P H σ _ m sl (Post.imp (Post.seq q) fun d s1 ca1 F1 H1 k1 k2 m1 q1 v rv => ?_)
  unfold iTupS at q1
  split at q1
  · simp only [Rep] at rv
    obtain ⟨a, xs, rfl, hF, rs⟩ := rv
    exact ⟨a, rfl, ⟨xs, .of (m1.sub _ _ hF)⟩, q1.now m1 _ (walks_t hK (.of hF) rs)⟩
  · simp only [Rep] at rv
    obtain ⟨a, xs, rfl, hF, rs⟩ := rv
    exact ⟨a, rfl, ⟨xs, hK ▸ same_t m1.sub hF⟩, q1.now m1 _ (walks_t hK hF rs)⟩
  · exact q1.elim
def rangeD (lo : Int) (n : Nat) : List D := (List.range n).map fun i => D.int (lo + (i : Nat))
theorem walks_r {ca : List Addr} {F : Hp} {lo : Int} {n : Nat} : Walks g ca F (Itr lo n) (rangeD lo n) := fun i ca' F' P H' s hc hF m => by
  refine ⟨fun d hd => ?_, fun hl => (show n ≤ i by simpa [rangeD] using hl)⟩
  have hi : i < n := by
    have := (List.getElem?_eq_some_iff.mp hd).1
    simpa [rangeD] using this
  refine ⟨hi, fun x H'' hy => ?_⟩
  obtain ⟨rfl, rfl⟩ := hy
  refine ⟨F', Sub.refl _, m, ?_⟩
  have : d = .int (lo + i) := by
    unfold rangeD at hd
    rw [List.getElem?_map, List.getElem?_range hi] at hd
    exact (Option.some.inj hd).symm
  subst this
  exact rep_int
def rLim : Int := 1000000
def iR1 (mr : Env → S → Res (List D)) : Env → S → Res (List D) := fun env s => (mr env s).bind fun ds s1 => match ds with
  | [.int j] => if decide (-rLim ≤ j ∧ j ≤ rLim) = true then .ok (rangeD 0 j.toNat) s1 else .stuck
  | _ => .stuck
def iR2 (mr : Env → S → Res (List D)) : Env → S → Res (List D) := fun env s => (mr env s).bind fun ds s1 => match ds with
  | [.int i, .int j] => if decide (-rLim ≤ i ∧ i ≤ rLim ∧ -rLim ≤ j ∧ j ≤ rLim) = true then .ok (rangeD i (j - i).toNat) s1 else .stuck
  | _ => .stuck
theorem iv_r1 {p : Pos} (hg : Gl X "range") (hm : X.mg "range" = none) (ha : Ea X g E [a] mr) (hs : starEach [a] X.env = [(false, eval a X.env)] := by rfl) : Iv X g E tg (.Call (.Name "range" p) [a] [] pos) (iR1 mr) := by
  obtain ⟨t, pa, ha⟩ := ha
  refine ⟨_, pi_range1 hg hm pa hs, fun env s ca F P H σ R m sl q => ?_⟩
  refine ha env s ca F P H σ _ m sl (Post.imp (Post.seq q) fun ds s1 ca1 F1 H1 k1 k2 m1 q1 vs rs => ?_)
  split at q1
  · split at q1
    · rename_i j hj
      have hj := of_decide_eq_true hj
      unfold rLim at hj
      obtain ⟨v, rfl, r⟩ := reps1 rs
      simp only [Rep] at r
      subst r
      exact ⟨j, rfl, by omega, by omega, q1.now m1 _ walks_r⟩
    · exact q1.elim
  · exact q1.elim
theorem iv_r2 {p : Pos} (hg : Gl X "range") (hm : X.mg "range" = none) (ha : Ea X g E [a, b] mr) (hs : starEach [a, b] X.env = [(false, eval a X.env), (false, eval b X.env)] := by rfl) (hs2 : starEach [b] X.env = [(false, eval b X.env)] := by rfl) :
    Iv X g E tg (.Call (.Name "range" p) [a, b] [] pos) (iR2 mr) := by
  obtain ⟨t, pa, ha⟩ := ha
  refine ⟨_, pi_range2 hg hm pa hs hs2, fun env s ca F P H σ R m sl q => ?_⟩
  refine ha env s ca F P H σ _ m sl (Post.imp (Post.seq q) fun ds s1 ca1 F1 H1 k1 k2 m1 q1 vs rs => ?_)
  split at q1
  · split at q1
    · rename_i i j hj
      have hj := of_decide_eq_true hj
      unfold rLim at hj
      obtain ⟨v, u, rfl, r, r'⟩ := reps2 rs
      simp only [Rep] at r r'
      subst r; subst r'
      exact ⟨i, j, rfl, ⟨by omega, by omega, by omega, by omega⟩, q1.now m1 _ walks_r⟩
    · exact q1.elim
  · exact q1.elim

/-! ### for -/
def forL (mt : D → Env → Option Env) (b : Env → S → Res Fl) : List D → Env → S → Res Fl
  | [], env, s => .ok (.nx env) s
  | d :: ds, env, s => match mt d env with
    | none => .stuck
    | some e1 => (b e1 s).bind fun fl s1 => match fl with
      | .nx e => forL mt b ds e s1
      | .ct e => forL mt b ds e s1
      | .bk e => .ok (.nx e) s1
      | .rt d => .ok (.rt d) s1
def sFor (mi : Env → S → Res (List D)) (mt : D → Env → Option Env) (b : Env → S → Res Fl) : Env → S → Res Fl := fun env s => (mi env s).bind fun ds s1 => forL mt b ds env s1
variable {mi : Env → S → Res (List D)}
theorem sv_for (hp : PassesOwn (model X.prog X.w) X.A X.env X.xe) (hc : X.calm = true) (hi : Iv X g E tg e mi) (hg : Tn X g tg w mg) (hb : Svs X g E sa ms) (hs : ∀ x, foldedSetIterable e X.env x = pure x := by intro _; rfl) : Sv X g E (.For tg e sa [] pos) (sFor mi mg ms) := by
  obtain ⟨wi, p, hi⟩ := hi
  obtain ⟨tt, p1, hg⟩ := hg
  obtain ⟨tb, p2, hb⟩ := hb
  refine ⟨_, ps_for hp hc p p1 p2 hs, fun env s ca F P H σ Dn m sl q => ?_⟩
  refine hi env s ca F P H σ _ m sl (Post.imp (Post.seq q) fun ds s1 ca1 F1 H1 k1 k2 m1 q1 J hw => ?_)
  refine ⟨fun i k σ H => k = ds.length - i ∧ i ≤ ds.length ∧ ∃ env s ca F, ca1 <+: ca ∧ Sub F1 F ∧ Sim g ca F P s H ∧ Slots g ca F env σ ∧ Post g ca F P E (fun fl _ ca' F' H' => FlOk g ca' F' H' Dn fl) (forL mg ms (ds.drop i) env s),
    ⟨_, rfl, Nat.zero_le _, env, s1, ca1, F1, List.prefix_rfl, Sub.refl _, m1, sl.mono k1 k2, by simpa using q1⟩, ?_⟩
  rintro i k σ H ⟨rfl, hle, env, s, ca, F, hc1, hF1, m, sl, q⟩
  obtain ⟨w1, w2⟩ := hw i ca F P H s hc1 hF1 m
  by_cases hlt : i < ds.length
  · obtain ⟨hgo, hy⟩ := w1 ds[i] (by simp [hlt])
    refine .inr ⟨hgo, fun σ' H' => ∃ env s ca F, ca1 <+: ca ∧ Sub F1 F ∧ Sim g ca F P s H' ∧ Slots g ca F env σ' ∧ Post g ca F P E (fun fl _ ca' F' H' => FlOk g ca' F' H' Dn fl) (forL mg ms (ds.drop (i + 1)) env s),
      fun σ' H' hN => ⟨ds.length - (i + 1), by omega, rfl, hlt, hN⟩, fun x H' hyl => ?_⟩
    obtain ⟨F', hF', m', rx⟩ := hy x H' hyl
    rw [List.drop_eq_getElem_cons hlt] at q
    simp only [forL] at q
    split at q
    · exact q.elim
    · rename_i e1 he1
      refine hg ds[i] env e1 ca F' P H' s σ x _ m' (sl.mono List.prefix_rfl hF') rx he1 fun σ2 sl2 _ => ?_
      refine hb e1 s ca F' P H' σ2 _ m' sl2 (Post.imp (Post.seq (Post.later q List.prefix_rfl hF')) fun fl s3 ca3 F3 H3 l1 l2 m3 q3 => ?_)
      have z1 := hc1.trans l1
      have z2 := hF1.trans (hF'.trans l2)
      cases fl with
      | nx e => exact fun σ3 sl3 => ⟨e, s3, ca3, F3, z1, z2, m3, sl3, q3⟩
      | ct e => exact fun σ3 sl3 => ⟨e, s3, ca3, F3, z1, z2, m3, sl3, q3⟩
      | bk e => exact q3.now m3
      | rt d => exact q3.now m3
  · have he : i = ds.length := by omega
    subst he
    rw [List.drop_length] at q
    exact .inl ⟨w2 (Nat.le_refl _), q.now m σ sl⟩
end
end Pm
set_option Elab.async false
set_option linter.all false
set_option maxRecDepth 100000
set_option maxHeartbeats 2000000
namespace Pm
open PySem PySem.Spec PyProof.Rows L2
/-! ### comprehensions -/
def tM (g : G) (E : XK) (m : Env → S → Res D) : TE := fun σ H Q => ∃ env s ca F P, Sim g ca F P s H ∧ Slots g ca F env σ ∧ Post g ca F P E (fun d _ ca' F' H' => ∀ v, Rep g ca' F' d v → Q v H') (m env s)
def tMT (g : G) (E : XK) (m : Env → S → Res Bool) : TT := fun σ H Q => ∃ env s ca F P, Sim g ca F P s H ∧ Slots g ca F env σ ∧ Post g ca F P E (fun b _ _ _ H' => Q b H') (m env s)
def tMG (g : G) (w : List Nat) (m : D → Env → Option Env) : TG := fun v σ H Q => ∃ d env env' ca F P s, Sim g ca F P s H ∧ Slots g ca F env σ ∧ Rep g ca F d v ∧ m d env = some env' ∧ ∀ σ', Slots g ca F env' σ' → WipeEq w σ σ' → Q σ' H
theorem Ev.pe {X : Cx} {g : G} {E : XK} {e : Expr} {m : Env → S → Res D} (h : Ev X g E e m) : PE X e (tM g E m) := by
  obtain ⟨t, p, h⟩ := h
  exact ⟨fun pins s σ H Q I ⟨env, z, ca, F, P, q1, q2, q3⟩ => p.run pins s σ H Q I (h env z ca F P H σ Q q1 q2 q3)⟩
theorem Et.pt {X : Cx} {g : G} {E : XK} {e : Expr} {m : Env → S → Res Bool} (h : Et X g E e m) : PT X e (tMT g E m) := by
  obtain ⟨t, p, h⟩ := h
  exact ⟨fun pins s σ H Q I ⟨env, z, ca, F, P, q1, q2, q3⟩ => p.run pins s σ H Q I (h env z ca F P H σ Q q1 q2 q3)⟩
theorem Tn.pg {X : Cx} {g : G} {tg : Expr} {w : List Nat} {m : D → Env → Option Env} (h : Tn X g tg w m) : PG X tg (tMG g w m) := by
  obtain ⟨t, p, h⟩ := h
  exact ⟨fun pins s σ H v u Q I r ⟨d, env, env', ca, F, P, z, q1, q2, q3, q4, q5⟩ => p.run pins s σ H v u Q I r (h d env env' ca F P H z σ v Q q1 q2 q3 q4 q5)⟩
/-- a clause's tests: none, or one -/
def Ets (X : Cx) (g : G) (E : XK) (ifs : List Expr) (m : Env → S → Res Bool) : Prop := PTs X ifs (tMT g E m)
def mYes : Env → S → Res Bool := fun _ s => .ok true s
theorem ets_nil {X : Cx} {g : G} {E : XK} : Ets X g E [] mYes := ⟨fun pins s σ H Q I ⟨env, z, ca, F, P, q1, q2, q3⟩ => pts_nil.run pins s σ H Q I (q3.now q1)⟩
theorem ets_one {X : Cx} {g : G} {E : XK} {e : Expr} {m : Env → S → Res Bool} (h : Et X g E e m) : Ets X g E [e] m := pts_one h.pt

def wipeE (env : Env) : List Nat → Env
  | [] => env
  | v :: vs => (wipeE env vs).set v none
theorem slots_wipe {g : G} {ca : List Addr} {F : Hp} {env : Env} {σ : L2.St} (h : Slots g ca F env σ) : ∀ vs, Slots g ca F (wipeE env vs) (wipe σ vs)
  | [] => h
  | v :: vs => by
    have ih := slots_wipe h vs
    unfold wipeE wipe
    refine ⟨by simp [ih.1], fun i d e => ?_⟩
    by_cases hv : v = i
    · subst hv
      by_cases hl : v < (wipeE env vs).length
      · rw [List.getElem?_set_self hl] at e; cases e
      · rw [List.getElem?_eq_none (by simpa using hl)] at e; cases e
    · rw [List.getElem?_set_ne hv] at e ⊢
      exact ih.2 i d e
def compL (own : List Nat) (mt : D → Env → Option Env) (tt : Env → S → Res Bool) (me : Env → S → Res D) : List D → Env → S → Res (List D)
  | [], _, s => .ok [] s
  | d :: ds, env, s => match mt d (wipeE env own) with
    | none => .stuck
    | some e1 => (noexn (tt e1 s)).bind fun b s1 => if b = true then (noexn (me e1 s1)).bind (fun y s2 => (compL own mt tt me ds env s2).bind fun ys s3 => .ok (y :: ys) s3) else compL own mt tt me ds env s1
def mCompF (fin : List D → S → Res D) (own : List Nat) (mi : Env → S → Res (List D)) (mt : D → Env → Option Env) (tt : Env → S → Res Bool) (me : Env → S → Res D) : Env → S → Res D := fun env s =>
  (mi env s).bind fun ds s1 => if ds.length ≤ line then (compL own mt tt me ds env s1).bind fin else .stuck
def finL : List D → S → Res D := fun ys s => .ok (.lst ys) s
def finC : List D → S → Res D := fun ys s => .ok (.cell s.length) (s ++ [.lst ys])
abbrev mComp := mCompF finL
abbrev mCompC := mCompF finC
section
variable {g : G} {ca : List Addr} {F P H : Hp} {s : S}
theorem Sim.frame0 {Dl : Addr} (m : Sim g ca F P s H) (hD : H Dl = none) : Sim g ca F (upd P Dl (.lst [])) s (upd H Dl (.lst [])) :=
  m.frame m.fr.both (fun a o e => by
      by_cases ha : a = Dl
      · subst ha; exact m.sub.free hD
      · rw [upd_ne ha] at e; exact m.dis a o e)
    (fun i a e l => by rw [upd_ne (m.apart hD e l)]; exact (m.out i a e l).2)
    (fun a h1 h2 => by
      by_cases ha : a = Dl
      · subst ha; exact .inr hD
      · exact .inl (upd_ne ha))
    (fun a o e => by rw [upd_ne (ne_of_none (m.sub _ _ e) hD)]; exact m.sub _ _ e)
theorem Sim.frame1 {Dl : Addr} {acc : List V} {o : HO} (hP : P Dl = none) (m : Sim g ca F (upd P Dl (.lst acc)) s H) : H Dl = some (.lst acc) ∧ Sim g ca F (upd P Dl o) s (upd H Dl o) := by
  have hF : F Dl = none := m.dis Dl _ upd_same
  have hPH : Sub P H := fun a u e => m.fr a u (by rw [upd_ne (ne_of_none e hP)]; exact e)
  refine ⟨m.fr _ _ upd_same, m.frame hPH.both (fun a u e => ?_) (fun i a e l => ?_) (fun a h1 h2 => ?_) (fun a u e => ?_)⟩
  · by_cases ha : a = Dl
    · subst ha; exact hF
    · rw [upd_ne ha] at e; exact m.dis a u (by rw [upd_ne ha]; exact e)
  · have h := (m.out i a e l).2
    by_cases ha : a = Dl
    · subst ha; rw [upd_same] at h; cases h
    · rw [upd_ne ha] at h ⊢; exact h
  · by_cases ha : a = Dl
    · subst ha; rw [upd_same] at h1; cases h1
    · exact .inl (upd_ne ha)
  · rw [upd_ne (ne_of_none e hF)]; exact m.sub _ _ e
theorem Sim.unframe {Dl : Addr} {acc : List V} (hP : P Dl = none) (m : Sim g ca F (upd P Dl (.lst acc)) s H) : Sim g ca (upd F Dl (.lst acc)) P s H ∧ F Dl = none := by
  have hF : F Dl = none := m.dis Dl _ upd_same
  have hH := m.fr _ _ (upd_same (H := P) (a := Dl) (o := .lst acc))
  refine ⟨⟨fun a u e => ?_, fun a u e => m.fr a u (by rw [upd_ne (ne_of_none e hP)]; exact e), fun a u e => ?_, m.len, m.nd, fun i a e l => ?_, fun i a c e q => ?_⟩, hF⟩
  · by_cases ha : a = Dl
    · subst ha; rw [upd_same] at e; cases e; exact hH
    · rw [upd_ne ha] at e; exact m.sub _ _ e
  · have ha : a ≠ Dl := ne_of_none e hP
    rw [upd_ne ha]; exact m.dis a u (by rw [upd_ne ha]; exact e)
  · have h := m.out i a e l
    have ha : a ≠ Dl := by
      rintro rfl
      rw [upd_same] at h; cases h.2
    rw [upd_ne ha] at h ⊢; exact h
  · exact (m.at_ i a c e q).mono List.prefix_rfl (Sub.new hF) rfl
theorem Post.seqX {α β : Type} {E E' : XK} {P' : Hp} {Q : β → S → List Addr → Hp → Hp → Prop} {r : Res α} {f : α → S → Res β} (h : Post g ca F P E Q ((noexn r).bind f)) :
    Post g ca F P' E' (fun a s ca1 F1 H1 => Post g ca1 F1 P E Q (f a s)) r := by
  cases r with
  | stuck => exact h
  | ok a s => exact fun ca' F' H' a1 a2 _ => Post.later h a1 a2
  | exn c pl s => exact h.elim
end
section
variable {X : Cx} {g : G} {E : XK} {elt tg iter : Expr} {ifs : List Expr} {scope : Scope} {own : List (Str × Nat)} {pos : Pos} {mi : Env → S → Res (List D)} {mt : D → Env → Option Env} {tt : Env → S → Res Bool} {me : Env → S → Res D} {w : List Nat}
theorem Sim.uncell {g : G} {ca : List Addr} {F P H : Hp} {s : S} {Dl : Addr} {acc : List V} {accD : List D} (hP : P Dl = none) (m : Sim g ca F (upd P Dl (.lst acc)) s H) (r : Reps g ca F accD acc) : Sim g (ca ++ [Dl]) F P (s ++ [.lst accD]) H := by
  have hF : F Dl = none := m.dis Dl _ upd_same
  have hH := m.fr _ _ (upd_same (H := P) (a := Dl) (o := .lst acc))
  have hl := m.len
  have dec : ∀ (k : Nat) (a : Addr), (ca ++ [Dl])[k]? = some a → Live (s ++ [.lst accD]) k → (k < ca.length ∧ ca[k]? = some a ∧ Live s k ∧ a ≠ Dl) ∨ (k = ca.length ∧ a = Dl) := fun k a e l => by
    by_cases hk : k < ca.length
    · obtain ⟨c, q, d⟩ := l
      rw [List.getElem?_append_left hk] at e
      have lv : Live s k := ⟨c, by rwa [List.getElem?_append_left (by omega)] at q, d⟩
      refine .inl ⟨hk, e, lv, ?_⟩
      rintro rfl
      have := (m.out k _ e lv).2
      rw [upd_same] at this; cases this
    · have hk2 : k < (ca ++ [Dl]).length := (List.getElem?_eq_some_iff.mp e).1
      have : k = ca.length := by simp at hk2; omega
      subst this
      simp at e
      exact .inr ⟨rfl, e.symm⟩
  refine ⟨m.sub, fun a u e => m.fr a u (by rw [upd_ne (ne_of_none e hP)]; exact e), fun a u e => m.dis a u (by rw [upd_ne (ne_of_none e hP)]; exact e), by simp [hl], fun i j a e1 e2 l1 l2 => ?_, fun i a e l => ?_, fun i a c e q => ?_⟩
  · rcases dec i a e1 l1 with ⟨h1, q1, k1, n1⟩ | ⟨h1, q1⟩ <;> rcases dec j a e2 l2 with ⟨h2, q2, k2, n2⟩ | ⟨h2, q2⟩
    · exact m.nd i j a q1 q2 k1 k2
    · exact absurd q2 n1
    · exact absurd q1 n2
    · omega
  · rcases dec i a e l with ⟨h1, q1, k1, n1⟩ | ⟨h1, q1⟩
    · have h := m.out i a q1 k1
      rw [upd_ne n1] at h
      exact h
    · subst q1
      exact ⟨hF, hP⟩
  · by_cases hd : c = .dead
    · subst hd; trivial
    · rcases dec i a e ⟨c, q, hd⟩ with ⟨h1, q1, k1, n1⟩ | ⟨h1, q1⟩
      · rw [List.getElem?_append_left (by omega)] at q
        exact (m.at_ i a c q1 q).mono (List.prefix_append _ _) (Sub.refl _) rfl
      · subst q1
        subst h1
        rw [hl] at q
        simp at q
        subst q
        exact ⟨acc, hH, Reps.mono (List.prefix_append _ _) (Sub.refl _) _ _ r⟩
def FinOk (g : G) (fin : List D → S → Res D) : Prop := ∀ (E : XK) (ca : List Addr) (F P H : Hp) (s : S) (Dl : Addr) (acc : List V) (accD : List D) (Q : VK), P Dl = none → Sim g ca F (upd P Dl (.lst acc)) s H → Reps g ca F accD acc →
  Post g ca F P E (fun d _ ca' F' H' => ∀ v, Rep g ca' F' d v → Q v H') (fin accD s) → Q (.ref Dl) H
theorem fin_l {g : G} : FinOk g finL := fun E ca F P H s Dl acc accD Q hP m ra q => by
  obtain ⟨m6, hF⟩ := m.unframe hP
  refine q ca _ H List.prefix_rfl (Sub.new hF) m6 _ ?_
  simp only [Rep]
  exact ⟨Dl, acc, rfl, upd_same, Reps.mono List.prefix_rfl (Sub.new hF) _ _ ra⟩
theorem fin_c {g : G} : FinOk g finC := fun E ca F P H s Dl acc accD Q hP m ra q => by
  refine q _ F H (List.prefix_append _ [Dl]) (Sub.refl _) (m.uncell hP ra) _ ?_
  simp only [Rep]
  exact ⟨Dl, rfl, by rw [← m.len]; simp⟩
theorem comp_run {fin : List D → S → Res D} (hfin : FinOk g fin) {wi : TI} (hi : ∀ (env : Env) (s : S) (ca : List Addr) (F P H : Hp) (σ : L2.St) (R : It → Hp → Prop), Sim g ca F P s H → Slots g ca F env σ →
      Post g ca F P E (fun ds _ ca' F' H' => ∀ J, Walks g ca' F' J ds → R J H') (mi env s) → wi σ H R) {vs : List Nat} (hw : ∀ i ∈ w, i ∈ vs)
    {env : Env} {s : S} {ca : List Addr} {F P H : Hp} {σ : L2.St} {Q : VK} (m : Sim g ca F P s H) (sl : Slots g ca F env σ) (q : Post g ca F P E (fun d _ ca' F' H' => ∀ v, Rep g ca' F' d v → Q v H') (mCompF fin vs mi mt tt me env s)) :
    tLc wi (tMG g w mt) (tMT g E0 tt) (tM g E0 me) vs σ H Q := by
  refine hi env s ca F P H σ _ m sl (Post.imp (Post.seq q) fun ds s1 ca1 F1 H1 k1 k2 m1 q1 J hwk => ?_)
  split at q1
  · rename_i hlen
    intro Dl hD
    have hP : P Dl = none := m1.fr.free hD
    refine ⟨fun i k H => k = ds.length - i ∧ i ≤ ds.length ∧ ∃ s ca F acc accD, ca1 <+: ca ∧ Sub F1 F ∧ Sim g ca F (upd P Dl (.lst acc)) s H ∧ Reps g ca F accD acc ∧ accD.length ≤ i ∧
        Post g ca F P E (fun d _ ca' F' H' => ∀ v, Rep g ca' F' d v → Q v H') ((compL vs mt tt me (ds.drop i) env s).bind fun ys s2 => fin (accD ++ ys) s2),
      ⟨_, rfl, Nat.zero_le _, s1, ca1, F1, [], [], List.prefix_rfl, Sub.refl _, m1.frame0 hD, .nil, Nat.le_refl _, by simpa using q1⟩, ?_⟩
    rintro i k H ⟨rfl, hle, s, ca, F, acc, accD, hc1, hF1, m, ra, hal, q⟩
    obtain ⟨w1, w2⟩ := hwk i ca F _ H s hc1 hF1 m
    by_cases hlt : i < ds.length
    · obtain ⟨hgo, hy⟩ := w1 ds[i] (by simp [hlt])
      refine .inr ⟨hgo, fun H' => ∃ s ca F acc accD, ca1 <+: ca ∧ Sub F1 F ∧ Sim g ca F (upd P Dl (.lst acc)) s H' ∧ Reps g ca F accD acc ∧ accD.length ≤ i + 1 ∧
          Post g ca F P E (fun d _ ca' F' H' => ∀ v, Rep g ca' F' d v → Q v H') ((compL vs mt tt me (ds.drop (i + 1)) env s).bind fun ys s2 => fin (accD ++ ys) s2),
        fun H' hN => ⟨ds.length - (i + 1), by omega, rfl, hlt, hN⟩, fun x H' hyl => ?_⟩
      obtain ⟨F', hF', m', rx⟩ := hy x H' hyl
      rw [List.drop_eq_getElem_cons hlt] at q
      simp only [compL] at q
      have slw : Slots g ca F' (wipeE env vs) (wipe σ vs) := slots_wipe ((sl.mono (k1.trans hc1) (k2.trans (hF1.trans hF')))) vs
      split at q
      · exact q.elim
      · rename_i e1 he1
        refine ⟨ds[i], wipeE env vs, e1, ca, F', _, s, m', slw, rx, he1, fun σ2 sl2 hweq => ⟨?_, ?_⟩⟩
        · have := hweq vs hw
          rw [this]
          exact List.ext_getElem? fun j => by rw [wipe_get, wipe_get, wipe_length]; by_cases hj : j ∈ vs <;> simp [hj, wipe_get]
        · refine ⟨e1, s, ca, F', _, m', sl2, ?_⟩
          have q := Post.later q (List.prefix_rfl) hF'
          have assoc : ∀ {α β γ : Type} (r : Res α) (f : α → S → Res β) (h : β → S → Res γ), (r.bind f).bind h = r.bind fun a s => (f a s).bind h := fun r f h => by cases r <;> rfl
          rw [assoc] at q
          refine Post.imp (Post.seqX q) fun b s3 ca3 F3 H3 l1 l2 m3 q3 => ?_
          cases b with
          | false =>
            have z1 := hc1.trans l1
            have z2 := hF1.trans (hF'.trans l2)
            exact ⟨s3, ca3, F3, acc, accD, z1, z2, m3, Reps.mono l1 (hF'.trans l2) _ _ ra, by omega, q3⟩
          | true =>
            refine ⟨e1, s3, ca3, F3, _, m3, sl2.mono l1 l2, ?_⟩
            simp only [if_true] at q3
            rw [assoc] at q3
            refine Post.imp (Post.seqX q3) fun y s4 ca4 F4 H4 n1 n2 m4 q4 v rv => ?_
            obtain ⟨hH, m5⟩ := m4.frame1 (o := .lst (acc ++ [v])) hP
            have ra' := Reps.mono (l1.trans n1) (hF'.trans (l2.trans n2)) _ _ ra
            refine ⟨acc, hH, ?_, s4, ca4, F4, acc ++ [v], accD ++ [y], hc1.trans (l1.trans n1), hF1.trans (hF'.trans (l2.trans n2)), m5, ra'.append (.one rv), by simp; omega, ?_⟩
            · rw [← ra.length]
              exact Nat.lt_of_le_of_lt hal (Nat.lt_of_lt_of_le hlt (line_le hlen))
            · rw [assoc] at q4
              simpa [List.append_assoc] using q4
    · have he : i = ds.length := by omega
      subst he
      rw [List.drop_length] at q
      simp only [compL, Res.bind_ok, List.append_nil] at q
      exact .inl ⟨w2 (Nat.le_refl _), hfin E ca F P H s Dl acc accD Q hP m ra q⟩
  · exact q1.elim
theorem ev_lcF {fin : List D → S → Res D} (hfin : FinOk g fin) (hc : X.calm = true) (hN : X.N.Nodup) (hi : Iv X g E tg iter mi) (ok : BlkOk X.N X.env.scope scope own) (hw : ∀ i ∈ w, i ∈ own.map (·.2))
    (hg : ∀ (s : Shared) (H : Hp) (C : Addr) (cl : List (Str × Addr)) (fp : List Addr), Tn (X.blk s H scope (compEnvC scope cl C X.env) fp) g tg w mt)
    (ht : ∀ (s : Shared) (H : Hp) (C : Addr) (cl : List (Str × Addr)) (fp : List Addr), Ets (X.blk s H scope (compEnvC scope cl C X.env) fp) g E0 ifs tt)
    (he : ∀ (s : Shared) (H : Hp) (C : Addr) (cl : List (Str × Addr)) (fp : List Addr), Ev (X.blk s H scope (compEnvC scope cl C X.env) fp) g E0 elt me) (hs : ∀ x, foldedSetIterable iter X.env x = pure x := by intro _; rfl) :
    Ev X g E (.ListComp elt [⟨tg, iter, ifs, 0⟩] scope pos) (mCompF fin (own.map (·.2)) mi mt tt me) := by
  obtain ⟨wi, p, hi⟩ := hi
  exact ⟨_, pe_lc hc hN p ok (fun s H C cl fp => (hg s H C cl fp).pg) (fun s H C cl fp => ht s H C cl fp) (fun s H C cl fp => (he s H C cl fp).pe) hs, fun env s ca F P H σ Q m sl q => comp_run hfin hi hw m sl q⟩
/-- name = [..] -/
theorem sv_setLcF {fin : List D → S → Res D} (hfin : FinOk g fin) (i : Nat) {y : Str} {py spos : Pos} (hc : X.calm = true) (hN : X.N.Nodup) (hy : X.N[i]? = some y) (hyl : X.env.scope.names.lookup y = some .local)
    (hsw : swapsWith (.ListComp elt [⟨tg, iter, ifs, 0⟩] scope pos) (some (.Name y py)) spos.line X.env = pure true) (hi : Iv X g E tg iter mi) (ok : BlkOk X.N X.env.scope scope own) (hw : ∀ i ∈ w, i ∈ own.map (·.2))
    (hg : ∀ (s : Shared) (H : Hp) (C : Addr) (cl : List (Str × Addr)) (fp : List Addr), Tn (X.blk s H scope (compEnvC scope cl C X.env) fp) g tg w mt)
    (ht : ∀ (s : Shared) (H : Hp) (C : Addr) (cl : List (Str × Addr)) (fp : List Addr), Ets (X.blk s H scope (compEnvC scope cl C X.env) fp) g E0 ifs tt)
    (he : ∀ (s : Shared) (H : Hp) (C : Addr) (cl : List (Str × Addr)) (fp : List Addr), Ev (X.blk s H scope (compEnvC scope cl C X.env) fp) g E0 elt me) (hs : ∀ x, foldedSetIterable iter X.env x = pure x := by intro _; rfl) :
    Sv X g E (.Assign [.Name y py] (.ListComp elt [⟨tg, iter, ifs, 0⟩] scope pos) spos) (sSet i (mCompF fin (own.map (·.2)) mi mt tt me)) := by
  obtain ⟨wi, p, hi⟩ := hi
  refine ⟨_, ps_setLc hc hN hy hyl hsw p ok (fun s H C cl fp => (hg s H C cl fp).pg) (fun s H C cl fp => ht s H C cl fp) (fun s H C cl fp => (he s H C cl fp).pe) hs, fun env s ca F P H σ Dn m sl q => ?_⟩
  exact comp_run hfin hi hw m sl (Post.imp (Post.seq q) fun d s1 ca1 F1 H1 k1 k2 m1 q1 v rv => q1.now m1 _ ((sl.mono k1 k2).set rv))
end

/-! ### a def -/
def runBody (n N : Nat) (body : Env → S → Res Fl) : List D → S → Res D := fun ds s => if ds.length = n then (body (ds.map some ++ List.replicate (N - n) none) s).bind (fun fl s1 => match fl with
  | .nx _ => .ok .non s1
  | .rt d => .ok d s1
  | _ => .stuck) else .stuck
theorem slots_start {g : G} {ca : List Addr} {F : Hp} {N : List Str} {ds : List D} {vs : List V} (r : Reps g ca F ds vs) : Slots g ca F (ds.map some ++ List.replicate (N.length - ds.length) none) (L2.start N vs) := by
  unfold L2.start
  refine ⟨by simp [r.length], fun i d e => ?_⟩
  by_cases hi : i < ds.length
  · rw [List.getElem?_append_left (by simpa using hi), List.getElem?_map] at e
    rw [List.getElem?_append_left (by simpa [← r.length] using hi), List.getElem?_map]
    cases hd : ds[i]? with
    | none => rw [hd] at e; cases e
    | some d' =>
      rw [hd] at e
      cases e
      obtain ⟨v, hv, rv⟩ := r.get hd
      exact ⟨v, by rw [hv]; rfl, rv⟩
  · rw [List.getElem?_append_right (by simpa using hi), List.getElem?_replicate] at e
    split at e <;> cases e
section
variable {Pr : Program} {w : World} {K : PySem.W.Frag} {mg : Str → Option Value} {base : Heap} {g : G}
theorem body_run {X : Cx} {sts : List Stmt} {body : Env → S → Res Fl} {N : List Str} {n : Nat} {E : XK} (hb : Svs X g E sts body) {vs : List V} {H : Hp} {Q : VK} (h : spG g n (runBody n N.length body) vs H Q E) :
    ∃ t, PSs X sts t ∧ t { nx := fun _ H' => Q .non H', rt := Q } (L2.start N vs) H := by
  obtain ⟨ds, ca, F, P, s, hl, m, rs, q⟩ := h
  obtain ⟨t, p, hb⟩ := hb
  refine ⟨t, p, ?_⟩
  unfold runBody at q
  split at q
  · rename_i hn
    subst hn
    refine hb _ s ca F P H _ _ m (slots_start rs) (Post.imp (Post.seq q) fun fl s1 ca1 F1 H1 k1 k2 m1 q1 => ?_)
    cases fl with
    | nx e => exact fun σ sl => q1.now m1 .non (by simp only [Rep])
    | rt d => exact fun v rv => q1.now m1 v rv
    | bk e => exact q1.elim
    | ct e => exact q1.elim
  · exact q.elim
theorem fn_def {x qual : Str} {st : Stmt} {f : Addr} {fd : FuncData} {N ps : List Str} {k n : Nat} {body : Env → S → Res Fl} (F : Fun K x qual st f fd) (Sc : FnScope N ps (defScope st)) (hn : n = ps.length)
    (hb : ∀ (cdv : Value) (A : Around) (outer : List PySem.Env) (s : Shared) (H : Hp) (E : XK), Room k (A.deeper (envOfC qual (defScope st) s.heap.objs.size f cdv)) →
      Svs (cxOf (L2.CX Pr w) Pr w K mg base N qual (defScope st) f cdv A outer s H E) g E (defBody st) body) : FnOk Pr w K mg base (L2.CX Pr w) (k + 1) f fd ps (spG g n (runBody n N.length body)) :=
  F.okX Sc (fun vs H Q E ⟨ds, ca, F, P, s, hl, _⟩ => by rw [hl, hn]) fun cdv A outer s H vs Q E hr h => body_run (hb cdv A outer s H E hr) h
/-- .. with defaults -/
theorem fn_defD {x qual : Str} {params : Arguments} {sts : List Stmt} {scope : Scope} {dvs : List V} {kws : List (Str × V)} {f : Addr} {fd : FuncData} {N ps : List Str} {k n : Nat} {body : Env → S → Res Fl} (F : FunD K x qual params sts scope dvs kws f fd) (Sc : FnScope N ps scope) (hn : n = ps.length)
    (hb : ∀ (cdv : Value) (A : Around) (outer : List PySem.Env) (s : Shared) (H : Hp) (E : XK), Room k (A.deeper (envOfC qual scope s.heap.objs.size f cdv)) →
      Svs (cxOf (L2.CX Pr w) Pr w K mg base N qual scope f cdv A outer s H E) g E sts body) : FnOk Pr w K mg base (L2.CX Pr w) (k + 1) f fd ps (spG g n (runBody n N.length body)) :=
  F.ok Sc (fun vs H Q E ⟨ds, ca, F, P, s, hl, _⟩ => by rw [hl, hn]) fun cdv A outer s H vs Q E hr h => body_run (hb cdv A outer s H E hr) h
/-- in a def's body: what a callee raises is raised -/
theorem passB {N : List Str} {qual : Str} {scope : Scope} {f : Addr} {cdv : Value} {A : Around} {outer : List PySem.Env} {s : Shared} {H : Hp} {E : XK} : Passes (L2.CX Pr w) (cxOf (L2.CX Pr w) Pr w K mg base N qual scope f cdv A outer s H E) E :=
  passes_call (takes_of rfl rfl rfl rfl) fun _ _ _ _ h => h
end
end Pm
set_option Elab.async false
set_option linter.all false
set_option maxRecDepth 100000
set_option maxHeartbeats 2000000
namespace Pm
open PySem PySem.Spec PyProof.Rows L2
/-! ### operators of an own class -/
abbrev iObj (C dx : Addr) : Obj := { cls := .ref C, dict := some dx, data := .plain }
def Declines (id : String) (C : Addr) : Prop := ∀ (a : Int) (t : Tok) (x dx : Addr) (M : Program) (w : World) (A : Around) (Q : Value → Shared → Prop) (E : Value → Shared → Prop) (s : Shared),
  s.heap.get? x = some (iObj C dx) → Q .notImplemented s → wpAny (model M w) A (call (.builtin id) [.int a t, .ref x]) Q E s
section
variable {C : Addr}
theorem dec_add : Declines "int.__add__" C := fun a t x dx M w A Q E s hx q => by
  have h : Meets (Builtin.«int.__add__» ⟨[.int a t, .ref x], []⟩) (fun _ R s => s.heap.get? x = some (iObj C dx) ∧ R (.ok (.ret .notImplemented)) s) :=
    .of_wp fun prog w A R s h => by obtain ⟨hp, g, d, tk, os⟩ := s; obtain ⟨hl, h⟩ := h; wp_walk using wpAny_loadPart' hl; exact ⟨_, rfl, h⟩
  exact call_meets F.slot_int_add (typeIs_int s a t) F.entry_int_add (F.args_int_add_2 _ _) h ⟨hx, q⟩
theorem dec_sub : Declines "int.__sub__" C := fun a t x dx M w A Q E s hx q => by
  have h : Meets (Builtin.«int.__sub__» ⟨[.int a t, .ref x], []⟩) (fun _ R s => s.heap.get? x = some (iObj C dx) ∧ R (.ok (.ret .notImplemented)) s) :=
    .of_wp fun prog w A R s h => by obtain ⟨hp, g, d, tk, os⟩ := s; obtain ⟨hl, h⟩ := h; wp_walk using wpAny_loadPart' hl; exact ⟨_, rfl, h⟩
  exact call_meets F.slot_int_sub (typeIs_int s a t) F.entry_int_sub (F.args_int_sub_2 _ _) h ⟨hx, q⟩
theorem dec_mul : Declines "int.__mul__" C := fun a t x dx M w A Q E s hx q => by
  have h : Meets (Builtin.«int.__mul__» ⟨[.int a t, .ref x], []⟩) (fun _ R s => s.heap.get? x = some (iObj C dx) ∧ R (.ok (.ret .notImplemented)) s) :=
    .of_wp fun prog w A R s h => by obtain ⟨hp, g, d, tk, os⟩ := s; obtain ⟨hl, h⟩ := h; wp_walk using wpAny_loadPart' hl; exact ⟨_, rfl, h⟩
  exact call_meets F.slot_int_mul (typeIs_int s a t) F.entry_int_mul (F.args_int_mul_2 _ _) h ⟨hx, q⟩
theorem dec_eq : Declines "int.__eq__" C := fun a t x dx M w A Q E s hx q => by
  have h : Meets (Builtin.«int.__eq__» ⟨[.int a t, .ref x], []⟩) (fun _ R s => s.heap.get? x = some (iObj C dx) ∧ R (.ok (.ret .notImplemented)) s) :=
    .of_wp fun prog w A R s h => by obtain ⟨hp, g, d, tk, os⟩ := s; obtain ⟨hl, h⟩ := h; wp_walk using wpAny_loadPart' hl; exact ⟨_, rfl, h⟩
  exact call_meets F.slot_int_eq (typeIs_int s a t) F.entry_int_eq (F.args_int_eq_2 _ _) h ⟨hx, q⟩
end
/-- what an own class must have for the operator -/
structure OpF (K : PySem.W.Frag) (C : Addr) (op : Operator) (f r : Addr) (id : String) : Prop where
  hc : PySem.W.selfFirst K C = true
  hs : PySem.W.findIn K (.ref C) (PySem.dunder op.info.2) = some (some (.ref f))
  hf : PySem.W.isFn K (.ref f) = true
  hr : PySem.W.findIn K (.ref C) (dunderR op.info.2) = some (some (.ref r))
  hrf : PySem.W.isFn K (.ref r) = true
  h1 : ∃ fo, PySem.W.findIn K (.type "int") (PySem.dunder op.info.2) = some fo
  h2 : ∃ ro, PySem.W.findIn K (.type "int") (dunderR op.info.2) = some ro
  s1 : PySem.W.subIn K (.type "int") (.ref C) = some false
  s2 : PySem.W.subIn K (.ref C) (.type "int") = some false
  sl : Slot "int" (PySem.dunder op.info.2) id
  fi : fillsNumberSlot (.type "int") op.info.2 = pure true
  de : Declines id C
section
open PySem.W
variable {prog : Program} {w : World} {A : Around} {E : Value → Shared → Prop} {s : Shared} {K : Frag} {x C L f r dx : Addr} {h₀ : Heap} {m : Str → Option Value} {ox : Obj} {od : Option Obj} {id : String}
theorem refl_own {op : Operator} {i : Int} {t : Tok} {Q : Value → Shared → Prop} (F : Fr h₀ L s.heap m) (X₀ : K.In h₀) (I : InstAt s.heap x ox C od) (hx : s.heap.get? x = some (iObj C dx)) (o : OpF K C op f r id)
    (h : wpAny (model prog w) A (call (.ref r) [.ref x, .int i t]) (PySem.W.CmpBack Q) E s) : wpAny (model prog w) A (binaryOp op (.int i t) (.ref x)) Q E s := by
  have X := X₀.keeps F.keep
  obtain ⟨cd, rest, hcd, hm⟩ := ksp_first o.hc
  obtain ⟨hc, hs, hf, hr, hrf, _, _, s1, s2, sl, fi, de⟩ := o
  rcases hi : op.info with ⟨sym, nm'⟩
  rw [hi] at hs hr sl fi
  dsimp only at hs hr sl fi
  have one := ksp_try X I hr hrf h
  have L1 : Looks (model prog w) s.heap (typeOf (.ref x)) (.ref C) := I.type
  have L3 : Looks (model prog w) s.heap (fillsNumberSlot (.ref C) nm') true := fills_K X hcd hm hs
  have L5 : Looks (model prog w) s.heap (isSubtype (.ref C) (.type "int")) false := looks_subIn X s2
  have hne : (Value.type "int" == Value.ref C) = false := Bool.eq_false_iff.mpr fun q => by cases beq_iff_eq.mp q
  simp only [binaryOp, hi]
  refine wpAny_holding (wpAny_bind ?_)
  unfold binaryOp1
  refine wpAny_bind (wpAny_typeOf (typeIs_int s i t) (wpAny_bind (L1.here (wpAny_bind (wpAny_of_eq fi ?_)))))
  simp only [hne, Bool.false_eq_true, if_false]
  refine wpAny_bind (L3.here ?_)
  simp only [Bool.and_self, if_true]
  refine wpAny_bind (L5.here ?_)
  have hpy : numberSlotInPython (.type "int") nm' = pure false := rfl
  simp only [Bool.false_eq_true, if_false, pure_bind, Bool.not_false, Bool.and_self, if_true, hpy]
  refine wpAny_bind (m := tryMethod (.int i t) _ _) ?_
  unfold tryMethod
  refine wpAny_bind (wpAny_callSpecial?_slot (typeIs_int s i t) sl (de i t x dx prog w A _ E s hx ?_))
  refine wpAny_pure ?_
  refine wpAny_bind (m := tryMethod (.ref x) _ _) (wpAny_mono one (fun v s' hv => ?_) fun _ _ e => e)
  obtain ⟨v, rfl, hq⟩ := hv
  exact wpAny_bind (wpAny_rule (wpAny_pure (wpAny_pure hq)))
theorem ifb_int {i : Int} {t : Tok} {x : Addr} {M : Model} {name : Str} {id : String} {Q : Option Value → Shared → Prop} (sl : Slot "int" name id) (h : wpAny M A (call (.builtin id) [.int i t, .ref x]) (fun v => Q (some v)) E s) :
    wpAny M A (callSpecialIfBound? (.int i t) name [.ref x]) Q E s := by
  simp only [callSpecialIfBound?, bindSpecialIfBound?]
  refine wpAny_holding (wpAny_bind (wpAny_bind (wpAny_specialOf (typeIs_int s i t) sl.lookup ?_)))
  refine wpAny_bind (wpAny_askSetting (wpAny_ite ?_))
  have fin : wpAny M A (call (.builtin id) ([.int i t] ++ [.ref x]) >>= fun v => pure (some v)) Q E s := wpAny_bind (wpAny_mono h (fun v s' h' => wpAny_pure h') fun _ _ h' => h')
  split
  · exact wpAny_bind (wpAny_of_eq (sl.bind _) (wpAny_pure (by exact fin)))
  · exact wpAny_tryCatch (wpAny_bind (wpAny_of_eq (sl.bind _) (wpAny_pure (by exact fin))))
/-- n == x, x of an own class with its own == -/
theorem eq_refl_own {i : Int} {t : Tok} {Q : Value → Shared → Prop} (hu : A.units < cLine) (F : Fr h₀ L s.heap m) (X₀ : K.In h₀) (I : InstAt s.heap x ox C od) (hx : s.heap.get? x = some (iObj C dx)) (s2 : subIn K (.ref C) (.type "int") = some false)
    (hs : findIn K (.ref C) "__eq__" = some (some (.ref f))) (hf : isFn K (.ref f) = true) (h : wpAny (model prog w) A (call (.ref f) [.ref x, .int i t]) (PySem.W.CmpBack Q) E s) : wpAny (model prog w) A (compareOp .Eq (.int i t) (.ref x)) Q E s := by
  have X := X₀.keeps F.keep
  refine cmp_ofEq ?_
  have one : wpAny (model prog w) A (tryCompare (.ref x) "__eq__" (.int i t)) (fun r s' => ∃ v, r = some v ∧ Q v s') E s := by
    unfold tryCompare
    refine wpAny_bind (ifBound_K X I hs hf (wpAny_mono h (fun v s' hv => ?_) fun _ _ e => e))
    cases v <;> first | exact hv.elim | exact wpAny_pure ⟨_, rfl, hv⟩
  have none_ : wpAny (model prog w) A (tryCompare (.int i t) "__eq__" (.ref x)) (fun r s' => r = none ∧ s' = s) E s := by
    unfold tryCompare
    refine wpAny_bind (ifb_int PySem.F.slot_int_eq (dec_eq i t x dx prog w A _ E s hx ?_))
    exact wpAny_pure ⟨rfl, rfl⟩
  unfold richCompare
  refine wpAny_holding (wpAny_bind (wpAny_cRoomFor hu ?_))
  show wpAny _ _ (typeOf (.int i t) >>= _) _ _ _
  refine wpAny_bind (wpAny_typeOf (typeIs_int s i t) (wpAny_bind (I.type.here ?_)))
  have hne : (Value.type "int" != Value.ref C) = true := by simp
  simp only [hne, if_true]
  refine wpAny_bind ((looks_subIn X s2).here ?_)
  simp only [Bool.false_eq_true, if_false]
  refine wpAny_bind (wpAny_mono none_ (fun r s' hr => ?_) fun _ _ e => e)
  obtain ⟨rfl, rfl⟩ := hr
  simp only [Bool.not_false, if_true]
  refine wpAny_bind (wpAny_mono one (fun r s' z => ?_) fun _ _ e => e)
  obtain ⟨v, rfl, hq⟩ := z
  exact wpAny_pure hq
end
section
variable {X : Cx} {g : G} {E : XK} {CX : CXT} {c k kr : Nat} {f r : Addr} {fd fdr : FuncData} {ps psr : List Str} {ff fr : List D → S → Res D} {op : Operator} {id : String}
theorem back_of {pins : List (Addr × Obj)} {σ : L2.St} {Q : VK} {u : Value} {s' : Shared} (h : EP X pins σ Q u s') : PySem.W.CmpBack (EP X pins σ Q) u s' := by
  cases u with
  | notImplemented =>
    obtain ⟨v, H', I, rv, q⟩ := h
    cases v <;> first | (cases rv; done) | (obtain ⟨t, rv⟩ := rv; cases rv)
  | _ => exact h
def opOwn (c : Nat) (ff fr : List D → S → Res D) : D → D → S → Res D := fun x y s => match x, y with
  | .ins k fs, .ins k' fs' => if k = c ∧ k' = c then ff [.ins k fs, .ins k' fs'] s else .stuck
  | .ins k fs, .int i => if k = c then ff [.ins k fs, .int i] s else .stuck
  | .int i, .ins k fs => if k = c then fr [.ins k fs, .int i] s else .stuck
  | _, _ => .stuck
def rOwn (g : G) (E : XK) (c : Nat) (ff fr : List D → S → Res D) : R2 := fun v u H Q =>
  (∃ a dx fs, v = .ref a ∧ H a = some (.ins (g.cls c) dx fs) ∧ ((∃ b dy gs, u = .ref b ∧ H b = some (.ins (g.cls c) dy gs)) ∨ ∃ i, u = .int i) ∧ spG g 2 ff [v, u] H Q E) ∨
  (∃ i a dx fs, v = .int i ∧ u = .ref a ∧ H a = some (.ins (g.cls c) dx fs) ∧ spG g 2 fr [u, v] H Q E)
theorem ins_at {pins : List (Addr × Obj)} {σ : L2.St} {H : Hp} {s : Shared} {a C dx : Addr} {fs : List (Str × V)} (I : Inv X pins σ H s) (ea : H a = some (.ins C dx fs)) : ∃ od, PySem.W.InstAt s.heap a (PySem.W.instObj C dx) C (some od) ∧ s.heap.get? a = some (iObj C dx) := by
  obtain ⟨mA, O, _⟩ := ins_get I.hok ea
  obtain ⟨od, J, _⟩ := O.look
  obtain ⟨_, _, _, e, _⟩ := (show ObjOk X.prog X.w H s.heap a (.ins C dx fs) from I.hok a _ ea)
  exact ⟨od, J, e⟩
theorem own_run (Fk : FnOk X.prog X.w X.K X.mg X.base CX k f fd ps (spG g 2 ff)) (hr : Room k X.A) (hb : Binds X.K fd ps []) (hx : Passes CX X E) {pins : List (Addr × Obj)} {σ : L2.St} {H : Hp} {s : Shared} {Q : VK} {x y : V} {v u : Value}
    (I : Inv X pins σ H s) (rx : RelV x v) (ry : RelV y u) (h : spG g 2 ff [x, y] H Q E) : wpAny (model X.prog X.w) X.A (call (.ref f) [v, u]) (PySem.W.CmpBack (EP X pins σ Q)) X.xe s :=
  wpAny_mono (run_fn (us := [v, u]) (vs := [x, y]) (dvs := []) (ds := []) Fk hr hb .nil hx I (.cons rx (.cons ry .nil)) (by simpa using h)) (fun u s' q => back_of q) fun _ _ z => z
theorem opr_own (o : OpF X.K (g.cls c) op f r id) (Fk : FnOk X.prog X.w X.K X.mg X.base CX k f fd ps (spG g 2 ff)) (Fr' : FnOk X.prog X.w X.K X.mg X.base CX kr r fdr psr (spG g 2 fr)) (hr : Room k X.A) (hrr : Room kr X.A) (hb : Binds X.K fd ps []) (hbr : Binds X.K fdr psr []) (hx : Passes CX X E) :
    OpR X (binaryOp op) (rOwn g E c ff fr) := by
  intro pins s σ H x y v u Q I rx ry h
  obtain ⟨m, hF⟩ := I.fr
  rcases h with ⟨a, dx, fs, rfl, ea, h1, h2⟩ | ⟨i, a, dx, fs, rfl, rfl, ea, h2⟩
  · cases (show v = Value.ref a from rx)
    obtain ⟨od, J, e⟩ := ins_at I ea
    rcases h1 with ⟨b, dy, gs, rfl, eb⟩ | ⟨i, rfl⟩
    · cases (show u = Value.ref b from ry)
      obtain ⟨od', J', e'⟩ := ins_at I eb
      exact PySem.W.binop_K hF I.ok.mod.kin J J'.type o.hc o.hs o.hf (own_run (x := V.ref a) (y := V.ref b) Fk hr hb hx I rfl rfl h2)
    · obtain ⟨t, rfl⟩ := (show ∃ t, u = Value.int i t from ry)
      obtain ⟨fo, h1⟩ := o.h1
      obtain ⟨ro, h3⟩ := o.h2
      exact PySem.W.ksp_binT (T := "int") hF I.ok.mod.kin J rfl o.hc o.hs o.hf o.hr (.inr ⟨_, rfl⟩) h1 h3 o.s1 (own_run (x := V.ref a) (y := V.int i) Fk hr hb hx I rfl (show L2.RelV (V.int i) (Value.int i t) from ⟨t, rfl⟩) h2)
  · obtain ⟨t, rfl⟩ := (show ∃ t, v = Value.int i t from rx)
    cases (show u = Value.ref a from ry)
    obtain ⟨od, J, e⟩ := ins_at I ea
    exact refl_own hF I.ok.mod.kin J e o (own_run (x := V.ref a) (y := V.int i) Fr' hrr hbr hx I rfl (show L2.RelV (V.int i) (Value.int i t) from ⟨t, rfl⟩) h2)
theorem sp2 {ca : List Addr} {F P H : Hp} {s : S} {x y : D} {v u : V} {Q : VK} (m : Sim g ca F P s H) (rx : Rep g ca F x v) (ry : Rep g ca F y u) (q : Post g ca F P E (fun d _ ca' F' H' => ∀ v, Rep g ca' F' d v → Q v H') (ff [x, y] s)) : spG g 2 ff [v, u] H Q E :=
  spG_of m (.cons rx (.cons ry .nil)) rfl q
theorem od_own (o : OpF X.K (g.cls c) op f r id) (Fk : FnOk X.prog X.w X.K X.mg X.base CX k f fd ps (spG g 2 ff)) (Fr' : FnOk X.prog X.w X.K X.mg X.base CX kr r fdr psr (spG g 2 fr)) (hr : Room k X.A) (hrr : Room kr X.A) (hb : Binds X.K fd ps []) (hbr : Binds X.K fdr psr []) (hx : Passes CX X E) :
    OpD X g E (binaryOp op) (opOwn c ff fr) := by
  refine ⟨_, opr_own o Fk Fr' hr hrr hb hbr hx, fun x y s ca F P H v u Q m rx ry p => ?_⟩
  unfold opOwn at p
  split at p
  · split at p
    · rename_i hk
      obtain ⟨rfl, hk2⟩ := hk
      subst hk2
      have rx' := rx
      have ry' := ry
      simp only [Rep] at rx ry
      obtain ⟨a, dx, xs, rfl, hF, _⟩ := rx
      obtain ⟨b, dy, ys, rfl, hF2, _⟩ := ry
      exact .inl ⟨a, dx, _, rfl, m.sub _ _ hF, .inl ⟨b, dy, _, rfl, m.sub _ _ hF2⟩, sp2 m rx' ry' p⟩
    · exact p.elim
  · rename_i kk fs i
    split at p
    · rename_i hk
      subst hk
      have rx' := rx
      simp only [Rep] at rx
      obtain ⟨a, dx, xs, rfl, hF, _⟩ := rx
      have hu : u = .int i := by simpa only [Rep] using ry
      exact .inl ⟨a, dx, _, rfl, m.sub _ _ hF, .inr ⟨_, hu⟩, sp2 m rx' ry p⟩
    · exact p.elim
  · rename_i i kk fs
    split at p
    · rename_i hk
      subst hk
      have ry' := ry
      simp only [Rep] at ry
      obtain ⟨a, dx, xs, rfl, hF, _⟩ := ry
      have hv : v = .int i := by simpa only [Rep] using rx
      exact .inr ⟨_, a, dx, _, hv, rfl, m.sub _ _ hF, sp2 m ry' rx p⟩
    · exact p.elim
  · exact p.elim
/-- -x -/
theorem ud_own {ffn : List D → S → Res D} {fn : Addr} (hs : PySem.W.findIn X.K (.ref (g.cls c)) "__neg__" = some (some (.ref fn))) (hf : PySem.W.isFn X.K (.ref fn) = true) (Fk : FnOk X.prog X.w X.K X.mg X.base CX k fn fd ps (spG g 1 ffn)) (hr : Room k X.A) (hb : Binds X.K fd ps []) (hx : Passes CX X E) :
    UnD X g E (unaryOp .USub) (fun x s => match x with
      | .ins k fs => if k = c then ffn [.ins k fs] s else .stuck
      | _ => .stuck) := by
  refine ⟨fun v H Q => ∃ a dx fs, v = .ref a ∧ H a = some (.ins (g.cls c) dx fs) ∧ spG g 1 ffn [v] H Q E, fun pins s σ H x v Q I rx h => ?_, fun x s ca F P H v Q m rx p => ?_⟩
  · obtain ⟨a, dx, fs, rfl, ea, h2⟩ := h
    obtain ⟨m, hF⟩ := I.fr
    cases (show v = Value.ref a from rx)
    obtain ⟨od, J, e⟩ := ins_at I ea
    exact PySem.W.ksp_neg hF I.ok.mod.kin J hs hf (run_fn (us := [.ref a]) (vs := [.ref a]) (dvs := []) (ds := []) Fk hr hb .nil hx I (.cons rfl .nil) (by simpa using h2))
  · dsimp only at p
    split at p
    · split at p
      · rename_i hk
        subst hk
        have rx' := rx
        simp only [Rep] at rx
        obtain ⟨a, dx, xs, rfl, hF, _⟩ := rx
        exact ⟨a, dx, _, rfl, m.sub _ _ hF, spG_of m (.cons rx' .nil) rfl p⟩
      · exact p.elim
    · exact p.elim
/-- own == -/
structure EqF (K : PySem.W.Frag) (C : Addr) (f : Addr) : Prop where
  hs : PySem.W.findIn K (.ref C) "__eq__" = some (some (.ref f))
  hf : PySem.W.isFn K (.ref f) = true
  s1 : PySem.W.subIn K (.type "int") (.ref C) = some false
  s2 : PySem.W.subIn K (.ref C) (.type "int") = some false
def eqOwn (c : Nat) (ff : List D → S → Res D) : D → D → S → Res D := fun x y s => match x, y with
  | .ins k fs, .ins k' fs' => if k = c ∧ k' = c then ff [.ins k fs, .ins k' fs'] s else .stuck
  | .ins k fs, .int i => if k = c then ff [.ins k fs, .int i] s else .stuck
  | .int i, .ins k fs => if k = c then ff [.ins k fs, .int i] s else .stuck
  | _, _ => .stuck
theorem opr_eq (o : EqF X.K (g.cls c) f) (Fk : FnOk X.prog X.w X.K X.mg X.base CX k f fd ps (spG g 2 ff)) (hr : Room k X.A) (hb : Binds X.K fd ps []) (hx : Passes CX X E) : OpR X (compareOp .Eq) (rOwn g E c ff ff) := by
  intro pins s σ H x y v u Q I rx ry h
  obtain ⟨m, hF⟩ := I.fr
  rcases h with ⟨a, dx, fs, rfl, ea, h1, h2⟩ | ⟨i, a, dx, fs, rfl, rfl, ea, h2⟩
  · cases (show v = Value.ref a from rx)
    obtain ⟨od, J, e⟩ := ins_at I ea
    rcases h1 with ⟨b, dy, gs, rfl, eb⟩ | ⟨i, rfl⟩
    · cases (show u = Value.ref b from ry)
      obtain ⟨od', J', e'⟩ := ins_at I eb
      exact PySem.W.cmp_ofEq (PySem.W.cmp_K (op := .Eq) (tb := .ref (g.cls c)) hr.units0 hF I.ok.mod.kin J J'.type (by simp [PySem.W.notFirst]) o.hs o.hf (own_run (x := V.ref a) (y := V.ref b) Fk hr hb hx I rfl rfl h2))
    · obtain ⟨t, rfl⟩ := (show ∃ t, u = Value.int i t from ry)
      exact PySem.W.cmp_ofEq (PySem.W.cmp_K (op := .Eq) (tb := .type "int") hr.units0 hF I.ok.mod.kin J (PySem.W.Looks.of_pure rfl) (by simp [PySem.W.notFirst, o.s1]) o.hs o.hf (own_run (x := V.ref a) (y := V.int i) Fk hr hb hx I rfl (show L2.RelV (V.int i) (Value.int i t) from ⟨t, rfl⟩) h2))
  · obtain ⟨t, rfl⟩ := (show ∃ t, v = Value.int i t from rx)
    cases (show u = Value.ref a from ry)
    obtain ⟨od, J, e⟩ := ins_at I ea
    exact eq_refl_own hr.units0 hF I.ok.mod.kin J e o.s2 o.hs o.hf (own_run (x := V.ref a) (y := V.int i) Fk hr hb hx I rfl (show L2.RelV (V.int i) (Value.int i t) from ⟨t, rfl⟩) h2)
theorem od_eqOwn (o : EqF X.K (g.cls c) f) (Fk : FnOk X.prog X.w X.K X.mg X.base CX k f fd ps (spG g 2 ff)) (hr : Room k X.A) (hb : Binds X.K fd ps []) (hx : Passes CX X E) : OpD X g E (compareOp .Eq) (eqOwn c ff) := by
  refine ⟨_, opr_eq o Fk hr hb hx, fun x y s ca F P H v u Q m rx ry p => ?_⟩
  unfold eqOwn at p
  split at p
  · split at p
    · rename_i hk
      obtain ⟨rfl, hk2⟩ := hk
      subst hk2
      have rx' := rx
      have ry' := ry
      simp only [Rep] at rx ry
      obtain ⟨a, dx, xs, rfl, hF, _⟩ := rx
      obtain ⟨b, dy, ys, rfl, hF2, _⟩ := ry
      exact .inl ⟨a, dx, _, rfl, m.sub _ _ hF, .inl ⟨b, dy, _, rfl, m.sub _ _ hF2⟩, sp2 m rx' ry' p⟩
    · exact p.elim
  · rename_i kk fs i
    split at p
    · rename_i hk
      subst hk
      have rx' := rx
      simp only [Rep] at rx
      obtain ⟨a, dx, xs, rfl, hF, _⟩ := rx
      have hu : u = .int i := by simpa only [Rep] using ry
      exact .inl ⟨a, dx, _, rfl, m.sub _ _ hF, .inr ⟨_, hu⟩, sp2 m rx' ry p⟩
    · exact p.elim
  · rename_i i kk fs
    split at p
    · rename_i hk
      subst hk
      have ry' := ry
      simp only [Rep] at ry
      obtain ⟨a, dx, xs, rfl, hF, _⟩ := ry
      have hv : v = .int i := by simpa only [Rep] using rx
      exact .inr ⟨_, a, dx, _, hv, rfl, m.sub _ _ hF, sp2 m ry' rx p⟩
    · exact p.elim
  · exact p.elim
end
end Pm
set_option Elab.async false
set_option linter.all false
set_option maxRecDepth 100000
set_option maxHeartbeats 2000000
namespace Pm
open PySem PySem.Spec PyProof.Rows L2
section
variable {X : Cx} {g : G} {E : XK} {CX : CXT} {c k n nf : Nat} {f C : Addr} {fd : FuncData} {ps ks : List Str} {ff fi : List D → S → Res D} {x m nm : Str} {p pos apos kpos : Pos} {e o : Expr} {es : List Expr} {kws : List Keyword} {me mo : Env → S → Res D} {mr mk : Env → S → Res (List D)}
/-! ### keywords -/
def Ek (X : Cx) (g : G) (E : XK) (kws : List Keyword) (m : Env → S → Res (List D)) : Prop :=
  ∃ t : TA, PK X kws t ∧ ∀ (env : Env) (s : S) (ca : List Addr) (F P H : Hp) (σ : L2.St) (Q : List V → Hp → Prop), Sim g ca F P s H → Slots g ca F env σ →
    Post g ca F P E (fun ds _ ca' F' H' => ∀ vs, Reps g ca' F' ds vs → Q vs H') (m env s) → t σ H Q
theorem ek_nil : Ek X g E [] aNil := ⟨_, pk_nil, fun env s ca F P H σ Q m sl q => q.now m [] .nil⟩
theorem ek_cons {on : Option Str} (ha : Ev X g E e me) (hr : Ek X g E kws mr) : Ek X g E (⟨on, e, kpos⟩ :: kws) (aCons me mr) := by
  obtain ⟨t, p, h⟩ := ha
  obtain ⟨u, p', h'⟩ := hr
  refine ⟨_, pk_cons p p', fun env s ca F P H σ Q m sl q => ?_⟩
  refine h env s ca F P H σ _ m sl (Post.imp (Post.seq q) fun x s1 ca1 F1 H1 k1 k2 m1 q v rv => ?_)
  refine h' env s1 ca1 F1 P H1 σ _ m1 (sl.mono k1 k2) (Post.imp (Post.seq q) fun xs s2 ca2 F2 H2 l1 l2 m2 q2 vs rvs => ?_)
  exact q2.now m2 _ (.cons (Rep.mono l1 l2 _ _ rv) rvs)
/-- how a call with n values and the keywords ks binds: one behind the other -/
def KB (K : PySem.W.Frag) (fd : FuncData) (ps : List Str) (n : Nat) (ks : List Str) : Prop :=
  ∀ (s : Shared) (us ws : List Value), K.In s.heap → us.length = n → ws.length = ks.length → BindsTo s fd ⟨us, ks.zip ws⟩ (ps.zip (us ++ ws))
theorem run_kw {pins : List (Addr × Obj)} {σ : L2.St} {H : Hp} {s : Shared} {Q : VK} {us ws : List Value} {vs zs : List V} {sp : Sp} (F : FnOk X.prog X.w X.K X.mg X.base CX k f fd ps sp) (hr : Room k X.A) (hb : KB X.K fd ps us.length ks) (hx : Passes CX X E)
    (I : Inv X pins σ H s) (r : Vals vs us) (rz : Vals zs ws) (hl : ws.length = ks.length) (h : sp (vs ++ zs) H Q E) : wpAny (model X.prog X.w) X.A (call (.ref f) us (ks.zip ws)) (EP X pins σ Q) X.xe s := by
  refine wpAny_call (codeAny_mono (F.run X.A X.stack s H ⟨us, ks.zip ws⟩ (us ++ ws) (vs ++ zs) Q E hr I.env0 (hb s us ws I.kIn rfl hl) (r.append rz) h) fun r s' hq => ?_)
  cases r with
  | error e => exact hx pins σ H s e s' I hq
  | ok fl =>
    cases fl with
    | ret u => exact I.after hq
    | next => exact False.elim hq
    | brk => exact False.elim hq
    | cont => exact False.elim hq
def mKw (n j : Nat) (ff : List D → S → Res D) (mr mk : Env → S → Res (List D)) : Env → S → Res D := fun env s => (mr env s).bind fun xs s1 => (mk env s1).bind fun ys s2 => if xs.length = n ∧ ys.length = j then ff (xs ++ ys) s2 else .stuck
/-- f(k = v, ..) -/
theorem ev_kw0 (Fk : FnOk X.prog X.w X.K X.mg X.base CX k f fd ps (spG g n ff)) (hr : Room k X.A) (hg : Gl X x) (hm : X.mg x = some (.ref f)) (hk : PySem.W.keepIn X.K (.ref f) = true) (hb : KB X.K fd ps 0 ks) (hn : n = ks.length) (hx : Passes CX X E) (hkw : Ek X g E kws mk)
    (hall : (backToKw pos (keywordEach kws X.env)).all (·.1.isSome) = true := by rfl) (hks : (backToKw pos (keywordEach kws X.env)).filterMap (·.1) = ks := by rfl)
    (hdb : (x == ("__debug__" : Str)) = false := by decide) (hpl : ((backTo pos (starEach [] X.env)).any (·.1) || (backToKw pos (keywordEach kws X.env)).any (·.1.isNone)) = false := by rfl) :
    Ev X g E (.Call (.Name x p) [] kws pos) (mKw 0 n ff aNil mk) := by
  obtain ⟨t, pk, hkw⟩ := hkw
  refine ⟨fun σ H Q => t σ H fun zs H2 => zs.length = ks.length ∧ spG g n ff zs H2 Q E, ⟨fun pins s σ H Q I h => ?_⟩, fun env s ca F P H σ Q m sl q => ?_⟩
  · refine wpAny_Call_Name_kw (ld_glob I hg hm ?_ hdb)
    refine PySem.W.callWith_KW0 (h₀ := X.base) I.ok.mod.kin hk hall (thn (pk.run pos pins s σ H _ I h) fun ws s2 ⟨zs, H2, I2, rz, hl, q2⟩ => ⟨I2.kIn, ?_⟩) hpl
    rw [hks]
    exact run_kw (us := []) (vs := []) Fk hr hb hx I2 .nil rz (by rw [← rz.length]; exact hl) q2
  · simp only [mKw, aNil, Res.bind_ok] at q
    refine hkw env s ca F P H σ _ m sl (Post.imp (Post.seq q) fun ys s1 ca1 F1 H1 k1 k2 m1 q1 vs rs => ?_)
    split at q1
    · rename_i hl
      exact ⟨by rw [← rs.length, ← hn]; exact hl.2, spG_of m1 rs hl.2 (by simpa using q1)⟩
    · exact q1.elim
/-- C(k = v, ..) -/
theorem ev_makeKw0 (M : Mk X.K (g.cls c) f) (Fk : FnOk X.prog X.w X.K X.mg X.base CX k f fd ps (spG g n fi)) (hnf : nf = (g.fn c).length) (hr : Room (k + 1) X.A) (hg : Gl X x) (hm : X.mg x = some (.ref (g.cls c))) (hb : KB X.K fd ps 1 ks) (hn : n = ks.length + 1) (hx : Passes CX X E) (hkw : Ek X g E kws mk)
    (hall : (backToKw pos (keywordEach kws X.env)).all (·.1.isSome) = true := by rfl) (hks : (backToKw pos (keywordEach kws X.env)).filterMap (·.1) = ks := by rfl)
    (hdb : (x == ("__debug__" : Str)) = false := by decide) (hpl : ((backTo pos (starEach [] X.env)).any (·.1) || (backToKw pos (keywordEach kws X.env)).any (·.1.isNone)) = false := by rfl) :
    Ev X g E (.Call (.Name x p) [] kws pos) (mMake c nf n [] fi mk) := by
  obtain ⟨t, pk, hkw⟩ := hkw
  refine ⟨fun σ H Q => t σ H fun zs H2 => zs.length = ks.length ∧ ∀ x dx, H2 x = none → H2 dx = none → dx ≠ x → spG g n fi (.ref x :: zs) (upd (upd H2 dx (.own x)) x (.ins (g.cls c) dx [])) (fun v H3 => v = .non ∧ Q (.ref x) H3) E, ⟨fun pins s σ H Q I h => ?_⟩, fun env s ca F P H σ Q m sl q => ?_⟩
  · refine wpAny_Call_Name_kw (ld_glob I hg hm ?_ hdb)
    refine PySem.W.callWith_KW0 (h₀ := X.base) I.ok.mod.kin M.kp hall (thn (pk.run pos pins s σ H _ I h) fun ws s2 ⟨zs, H2, I2, rz, hl, q2⟩ => ⟨I2.kIn, ?_⟩) hpl
    rw [hks]
    refine run_makeN (n := 0) (us := []) (vs := []) (g := fun a b => a ++ b) (gV := fun a b => a ++ b) M Fk hr ⟨fun s us ws h1 h2 h3 => hb s us ws h1 h2 h3, fun r1 r2 => r1.append r2⟩ hx I2 .nil rz rfl hl fun x dx h1 h2 h3 => ?_
    exact q2 x dx h1 h2 h3
  · refine hkw env s ca F P H σ _ m sl (Post.imp (Post.seq q) fun ys s1 ca1 F1 H1 k1 k2 m1 q1 vs rs => ?_)
    split at q1
    · rename_i hl
      simp only [List.length_nil, Nat.add_zero] at hl
      exact ⟨by rw [← rs.length]; omega, fun x dx hx hdx hne => made_ok hnf m1 rs hl hx hdx hne (by simpa using q1)⟩
    · exact q1.elim
/-- o.m(k = v, ..) -/
def mMethK (c n : Nat) (ff : List D → S → Res D) (mo : Env → S → Res D) (mk : Env → S → Res (List D)) : Env → S → Res D := fun env s => (mo env s).bind fun x s1 => match x with
  | .ins k fs => if k = c then (mk env s1).bind (fun xs s2 => if xs.length + 1 = n then ff (.ins k fs :: xs) s2 else .stuck) else .stuck
  | _ => .stuck
theorem ev_methKw0 {pl : Sem Bool} (he : Ev X g E o mo) (cl : Cls X.K (g.cls c)) (hm : Meth X.K (g.cls c) m f) (hnf : m ∉ g.fn c) (Fk : FnOk X.prog X.w X.K X.mg X.base CX k f fd ps (spG g n ff)) (hr : Room k X.A) (hb : KB X.K fd ps 1 ks) (hn : n = ks.length + 1) (hx : Passes CX X E) (hkw : Ek X g E kws mk)
    (hall : (backToKw pos (keywordEach kws X.env)).all (·.1.isSome) = true := by rfl) (hks : (backToKw pos (keywordEach kws X.env)).filterMap (·.1) = ks := by rfl)
    (hpl : ((backTo pos (starEach [] X.env)).any (·.1) || (backToKw pos (keywordEach kws X.env)).any (·.1.isNone)) = false := by rfl)
    (ht : eval (.Call (.Attribute o m apos) [] kws pos) X.env = (do
      let ov ← eval o X.env
      standAt apos.atName
      let (f, first) ← holding [ov] (getMethod ov m pl)
      callWith pos f first (backTo pos (starEach [] X.env)) (backToKw pos (keywordEach kws X.env))) := by rfl) :
    Ev X g E (.Call (.Attribute o m apos) [] kws pos) (mMethK c n ff mo mk) := by
  obtain ⟨to, po, ho⟩ := he
  obtain ⟨t, pk, hkw⟩ := hkw
  refine ⟨fun σ H Q => to σ H fun x H1 => ∃ a dx fs, x = .ref a ∧ H1 a = some (.ins (g.cls c) dx fs) ∧ fs.lookup m = none ∧ t σ H1 fun zs H2 => zs.length = ks.length ∧ spG g n ff (x :: zs) H2 Q E, ⟨fun pins s σ H Q I h => ?_⟩, fun env s ca F P H σ Q m' sl q => ?_⟩
  · refine PySem.W.methodCall_KW (pl := pl) (thn (po.run pins s σ H _ I h) fun u s1 ⟨x, H1, I1, rx, a, dx, fs, ex, ea, l, q⟩ => ?_) ht
    subst ex
    obtain rfl : u = Value.ref a := rx
    refine getmeth_ok I1 ea cl hm l ?_
    refine PySem.W.callWith_KW0 (first := [.ref a]) (h₀ := X.base) I.ok.mod.kin hm.kp hall (thn (pk.run pos pins s1 σ H1 _ I1 q) fun ws s2 ⟨zs, H2, I2, rz, hl, q2⟩ => ⟨I2.kIn, ?_⟩) hpl
    rw [hks]
    exact run_kw (us := [.ref a]) (vs := [.ref a]) Fk hr hb hx I2 (.cons rfl .nil) rz (by rw [← rz.length]; exact hl) q2
  · refine ho env s ca F P H σ _ m' sl (Post.imp (Post.seq q) fun z s1 ca1 F1 H1 k1 k2 m1 q1 v rv => ?_)
    cases z with
    | ins kk fs =>
      simp only at q1
      split at q1
      · rename_i hk
        subst hk
        have rv' := rv
        simp only [Rep] at rv
        obtain ⟨a, dx, xs, rfl, hF, hl, rs⟩ := rv
        refine ⟨a, dx, _, rfl, m1.sub _ _ hF, zip_lookup_none hnf, ?_⟩
        refine hkw env s1 ca1 F1 P H1 σ _ m1 (sl.mono k1 k2) (Post.imp (Post.seq q1) fun ys s2 ca2 F2 H2 l1 l2 m2 q2 vs rs2 => ?_)
        split at q2
        · rename_i hl
          exact ⟨by rw [← rs2.length]; omega, spG_of m2 (.cons (Rep.mono l1 l2 _ _ rv') rs2) (by simpa using hl) q2⟩
        · exact q2.elim
      · exact q1.elim
    | _ => exact q1.elim
/-- cls(e, ..), the name a local that holds the class -/
def mMakeL (i c nf n : Nat) (dds : List D) (fi : List D → S → Res D) (mr : Env → S → Res (List D)) : Env → S → Res D := fun env s => match env[i]? with
  | some (some (.cls k)) => if k = c then mMake c nf n dds fi mr env s else .stuck
  | _ => .stuck
theorem ev_makeL {i : Nat} {dvs : List V} {dds : List D} {ds : List Value} (M : Mk X.K (g.cls c) f) (Fk : FnOk X.prog X.w X.K X.mg X.base CX k f fd ps (spG g n fi)) (hnf : nf = (g.fn c).length) (hr : Room (k + 1) X.A) (hN : X.N[i]? = some x) (hv : Vis X.env.scope x) (hb : Binds X.K fd ps ds) (hd : Vals dvs ds) (hdd : ∀ ca F, Reps g ca F dds dvs) (hx : Passes CX X E)
    (ha : Ea X g E (e :: es) mr) (hdb : (x == ("__debug__" : Str)) = false := by decide) (hcd : (x == ("__classdict__" : Str)) = false := by decide) (he : starEach (e :: es) X.env = (false, eval e X.env) :: starEach es X.env := by rfl) (hpl : (backTo pos (starEach es X.env)).any (·.1) = false := by rfl) :
    Ev X g E (.Call (.Name x p) (e :: es) [] pos) (mMakeL i c nf n dds fi mr) := by
  obtain ⟨t, pa, ha⟩ := ha
  refine ⟨fun σ H Q => σ[i]? = some (some (.ref (g.cls c))) ∧ tMake (g.cls c) (spG g n fi) dvs E t σ H Q, ⟨fun pins s σ H Q I h => ?_⟩, fun env s ca F P H σ Q m sl q => ?_⟩
  · obtain ⟨h0, h⟩ := h
    refine wpAny_Call_Name_kw (thn ((pe_var (pos := p) hN hv hdb hcd).run pins s σ H (fun v H1 => v = .ref (g.cls c) ∧ H1 = H) I ⟨_, h0, rfl, rfl⟩) fun u s1 ⟨v, H1, I1, r1, q1⟩ => ?_)
    obtain ⟨rfl, rfl⟩ := q1
    cases (show u = Value.ref (g.cls c) from r1)
    refine PySem.W.callWith_K (h₀ := X.base) I.ok.mod.kin M.kp (thn (pa.run pos pins s1 σ _ _ I1 h) fun us s2 ⟨vs, H2, I2, r, q⟩ => ⟨I2.kIn, ?_⟩) he hpl
    exact run_make M Fk hr hb hd hx I2 r q
  · unfold mMakeL at q
    split at q
    · rename_i kk hi
      split at q
      · rename_i hk
        subst hk
        obtain ⟨v, e', r⟩ := sl.2 i _ hi
        simp only [Rep] at r
        subst r
        refine ⟨e', ha env s ca F P H σ _ m sl (Post.imp (Post.seq q) fun xs s1 ca1 F1 H1 k1 k2 m1 q1 vs rs => ?_)⟩
        split at q1
        · rename_i hl
          intro x dx hx hdx hne
          exact made_ok hnf m1 (rs.append (hdd _ _)) (by simpa using hl) hx hdx hne q1
        · exact q1.elim
      · exact q.elim
    · exact q.elim
/-- C.m(e, ..), a classmethod -/
def mCm (c n : Nat) (ff : List D → S → Res D) (mo : Env → S → Res D) (mr : Env → S → Res (List D)) : Env → S → Res D := fun env s => (mo env s).bind fun x s1 => match x with
  | .cls k => if k = c then (mr env s1).bind (fun xs s2 => if xs.length + 1 = n then ff (.cls k :: xs) s2 else .stuck) else .stuck
  | _ => .stuck
theorem ev_cm {pl : Sem Bool} {mc : Value} {pp : Addr} (he : Ev X g E o mo) (r : ClX.CRead X.K (g.cls c) mc) (cm : ClX.CMet X.K (g.cls c) mc m pp f) (Fk : FnOk X.prog X.w X.K X.mg X.base CX k f fd ps (spG g n ff)) (hb : Binds X.K fd ps []) (hr : Room k X.A) (hx : Passes CX X E) (ha : Ea X g E (e :: es) mr)
    (hst : starEach (e :: es) X.env = (false, eval e X.env) :: starEach es X.env := by rfl) (hpl : (backTo pos (starEach es X.env)).any (·.1) = false := by rfl)
    (ht : eval (.Call (.Attribute o m apos) (e :: es) [] pos) X.env = (do
      let ov ← eval o X.env
      standAt apos.atName
      let (f, first) ← holding [ov] (getMethod ov m pl)
      callWith pos f first (backTo pos (starEach (e :: es) X.env)) (backToKw pos (keywordEach [] X.env))) := by rfl) :
    Ev X g E (.Call (.Attribute o m apos) (e :: es) [] pos) (mCm c n ff mo mr) := by
  obtain ⟨to, po, ho⟩ := he
  obtain ⟨t, pa, ha⟩ := ha
  refine ⟨_, ClX.pe_cmeth po r cm (Fk.raw hb .nil) hr hx pa hst hpl ht, fun env s ca F P H σ Q m' sl q => ?_⟩
  refine ho env s ca F P H σ _ m' sl (Post.imp (Post.seq q) fun z s1 ca1 F1 H1 k1 k2 m1 q1 v rv => ?_)
  cases z with
  | cls kk =>
    simp only at q1
    split at q1
    · rename_i hk
      subst hk
      have rv' := rv
      simp only [Rep] at rv
      subst rv
      refine ⟨rfl, ha env s1 ca1 F1 P H1 σ _ m1 (sl.mono k1 k2) (Post.imp (Post.seq q1) fun ys s2 ca2 F2 H2 l1 l2 m2 q2 vs rs2 => ?_)⟩
      split at q2
      · rename_i hl
        exact spG_of m2 (by simpa using Reps.cons (Rep.mono l1 l2 _ _ rv') rs2) (by simpa using hl) q2
      · exact q2.elim
    · exact q1.elim
  | _ => exact q1.elim

/-! ### texts -/
def intTxt (i : Int) : Str := toString i
def bStrI : List D → S → Res D := fun xs s => match xs with
  | [.int i] => if decide (i.natAbs.log2 < 1920) = true then .ok (.str (intTxt i)) s else .stuck
  | _ => .stuck
theorem cd_strI : CallD X g E (.type "str") bStrI := by
  refine ⟨_, call_str_int, fun xs s ca F P H vs Q m rs q => ?_⟩
  unfold bStrI at q
  split at q
  · split at q
    · rename_i i hi
      obtain ⟨v, rfl, r⟩ := reps1 rs
      simp only [Rep] at r
      subst r
      exact ⟨i, rfl, of_decide_eq_true hi, q.now m _ (by simp only [Rep]; rfl)⟩
    · exact q.elim
  · exact q.elim
/-- str(x), x of an own class with its own __str__ -/
def bOwn1 (c : Nat) (ff : List D → S → Res D) : List D → S → Res D := fun xs s => match xs with
  | [.ins k fs] => if k = c then (ff [.ins k fs] s).bind (fun d s1 => match d with
    | .str x => .ok (.str x) s1
    | _ => .stuck) else .stuck
  | _ => .stuck
theorem strback {pins : List (Addr × Obj)} {σ : L2.St} {Q : VK} {u : Value} {s' : Shared} (h : EP X pins σ (fun v H' => (∃ x, v = .str x) ∧ Q v H') u s') : PySem.W.StrBack (EP X pins σ Q) u s' := by
  obtain ⟨v, H', I, rv, ⟨x, rfl⟩, q⟩ := h
  obtain ⟨t, rfl⟩ := (show ∃ t, u = Value.str x t from rv)
  exact ⟨.str x, H', I, ⟨t, rfl⟩, q⟩
theorem own1_sp {ca : List Addr} {F P H : Hp} {s : S} {xs : List D} {vs : List V} {Q : VK} (m : Sim g ca F P s H) (rs : Reps g ca F xs vs) (q : Post g ca F P E (fun d _ ca' F' H' => ∀ w, Rep g ca' F' d w → Q w H') (bOwn1 c ff xs s)) :
    ∃ a dx fs, vs = [.ref a] ∧ H a = some (.ins (g.cls c) dx fs) ∧ spG g 1 ff vs H (fun v H' => (∃ x, v = .str x) ∧ Q v H') E := by
  unfold bOwn1 at q
  split at q
  · split at q
    · rename_i hk
      subst hk
      obtain ⟨v, rfl, r⟩ := reps1 rs
      have r' := r
      simp only [Rep] at r
      obtain ⟨a, dx, ws, rfl, hF, _⟩ := r
      refine ⟨a, dx, _, rfl, m.sub _ _ hF, spG_of m (.cons r' .nil) rfl (Post.imp (Post.seq q) fun d s1 ca1 F1 H1 k1 k2 m1 q1 v rv => ?_)⟩
      cases d with
      | str x => exact ⟨⟨x, by simpa only [Rep] using rv⟩, q1.now m1 v rv⟩
      | _ => exact q1.elim
    · exact q.elim
  · exact q.elim
theorem cd_strOwn (hs : PySem.W.findIn X.K (.ref (g.cls c)) "__str__" = some (some (.ref f))) (hf : PySem.W.isFn X.K (.ref f) = true) (Fk : FnOk X.prog X.w X.K X.mg X.base CX k f fd ps (spG g 1 ff)) (hb : Binds X.K fd ps []) (hr : Room (k + 2) X.A) (hx : Passes CX X E) : CallD X g E (.type "str") (bOwn1 c ff) := by
  refine ⟨fun vs H Q => ∃ a dx fs, vs = [.ref a] ∧ H a = some (.ins (g.cls c) dx fs) ∧ spG g 1 ff vs H (fun v H' => (∃ x, v = .str x) ∧ Q v H') E, fun pins s σ H vs us Q I r h => ?_, fun xs s ca F P H vs Q m rs q => own1_sp m rs q⟩
  obtain ⟨a, dx, fs, rfl, ea, h⟩ := h
  obtain ⟨u, rfl, ru⟩ := vals1 r
  cases (show u = Value.ref a from ru)
  obtain ⟨od, J, e⟩ := ins_at I ea
  have hr2 : Room k X.A.in1.in1 := (show Room (k + 1) X.A.in1 from Room.in1 hr).in1
  refine PySem.W.kso_call hr2.units0 I.kIn J hs hf (wpAny_mono (wpAny_call (SlX.run_at (us := [.ref a]) (ws := [.ref a]) (Fk.raw hb .nil) hr2 I.env0.in1.in1 hx I (.cons rfl .nil) (by simpa using h))) (fun u s' q => strback q) fun _ _ z => z)
theorem cd_reprOwn (hs : PySem.W.findIn X.K (.ref (g.cls c)) "__repr__" = some (some (.ref f))) (hf : PySem.W.isFn X.K (.ref f) = true) (Fk : FnOk X.prog X.w X.K X.mg X.base CX k f fd ps (spG g 1 ff)) (hb : Binds X.K fd ps []) (hr : Room (k + 1) X.A) (hx : Passes CX X E) : CallD X g E (.builtin "repr") (bOwn1 c ff) := by
  refine ⟨fun vs H Q => ∃ a dx fs, vs = [.ref a] ∧ H a = some (.ins (g.cls c) dx fs) ∧ spG g 1 ff vs H (fun v H' => (∃ x, v = .str x) ∧ Q v H') E, fun pins s σ H vs us Q I r h => ?_, fun xs s ca F P H vs Q m rs q => own1_sp m rs q⟩
  obtain ⟨a, dx, fs, rfl, ea, h⟩ := h
  obtain ⟨u, rfl, ru⟩ := vals1 r
  cases (show u = Value.ref a from ru)
  obtain ⟨od, J, e⟩ := ins_at I ea
  obtain ⟨mF, hF⟩ := I.fr
  have hr1 : Room k X.A.in1 := Room.in1 hr
  exact PySem.W.repr_K hr1.units0 hF I.ok.mod.kin J hs hf (wpAny_mono (wpAny_call (SlX.run_at (us := [.ref a]) (ws := [.ref a]) (Fk.raw hb .nil) hr1 I.env0.in1 hx I (.cons rfl .nil) (by simpa using h))) (fun u s' q => strback q) fun _ _ z => z)
/-- {x} of an int, a text -/
def mFmt (me : Env → S → Res D) : Env → S → Res D := fun env s => (me env s).bind fun d s1 => match d with
  | .int i => if decide (i.natAbs.log2 < 1920) = true then .ok (.str (intTxt i)) s1 else .stuck
  | .str y => if y.length ≤ line then .ok (.str y) s1 else .stuck
  | _ => .stuck
theorem ev_fmt (h : Ev X g E e me) : Ev X g E (.FormattedValue e (-1) none pos) (mFmt me) := by
  obtain ⟨t, p, h⟩ := h
  refine ⟨_, pe_fmt p, fun env s ca F P H σ Q m sl q => ?_⟩
  refine h env s ca F P H σ _ m sl (Post.imp (Post.seq q) fun d s1 ca1 F1 H1 k1 k2 m1 q1 v rv => ?_)
  split at q1
  · split at q1
    · rename_i i hi
      simp only [Rep] at rv
      exact .inr ⟨i, rv, of_decide_eq_true hi, q1.now m1 _ (by simp only [Rep]; rfl)⟩
    · exact q1.elim
  · split at q1
    · rename_i y hy
      simp only [Rep] at rv
      exact .inl ⟨y, rv, line_le hy, q1.now m1 _ (by simp only [Rep])⟩
    · exact q1.elim
  · exact q1.elim
inductive Ej (X : Cx) (g : G) (E : XK) : List Expr → List (Env → S → Res D) → Prop where
  | nil : Ej X g E [] []
  | cons {e : Expr} {m : Env → S → Res D} {es : List Expr} {ms : List (Env → S → Res D)} (h : Ev X g E e m) (r : Ej X g E es ms) : Ej X g E (e :: es) (m :: ms)
def jRun : List (Env → S → Res D) → Str → Env → S → Res Str
  | [], acc, _, s => .ok acc s
  | m :: ms, acc, env, s => (m env s).bind fun d s1 => match d with
    | .str y => if (acc ++ y).length ≤ line then jRun ms (acc ++ y) env s1 else .stuck
    | _ => .stuck
def mJoin (ms : List (Env → S → Res D)) : Env → S → Res D := fun env s => (jRun ms Str.empty env s).bind fun x s1 => .ok (.str x) s1
theorem ej_run {es : List Expr} {ms : List (Env → S → Res D)} (h : Ej X g E es ms) : ∃ ts, PJ X es ts ∧ ∀ (env : Env) (s : S) (ca : List Addr) (F P H : Hp) (σ : L2.St) (acc : Str) (Q : Str → Hp → Prop), Sim g ca F P s H → Slots g ca F env σ →
    Post g ca F P E (fun x _ _ _ H' => Q x H') (jRun ms acc env s) → tJs ts acc σ H Q := by
  induction h with
  | nil => exact ⟨[], .nil, fun env s ca F P H σ acc Q m sl q => q.now m⟩
  | @cons e me es ms h r ih =>
    obtain ⟨ts, pj, ih⟩ := ih
    obtain ⟨t, p, h⟩ := h
    refine ⟨t :: ts, .cons p pj, fun env s ca F P H σ acc Q m sl q => ?_⟩
    refine h env s ca F P H σ _ m sl (Post.imp (Post.seq q) fun d s1 ca1 F1 H1 k1 k2 m1 q1 v rv => ?_)
    split at q1
    · split at q1
      · rename_i y hy
        simp only [Rep] at rv
        exact ⟨y, rv, line_le hy, ih env s1 ca1 F1 P H1 σ _ Q m1 (sl.mono k1 k2) q1⟩
      · exact q1.elim
    · exact q1.elim
theorem ev_join {v1 v2 : Expr} {rest : List Expr} {ms : List (Env → S → Res D)} (h : Ej X g E (v1 :: v2 :: rest) ms) : Ev X g E (.JoinedStr (v1 :: v2 :: rest) pos) (mJoin ms) := by
  obtain ⟨ts, pj, h⟩ := ej_run h
  refine ⟨_, pe_joined pj, fun env s ca F P H σ Q m sl q => ?_⟩
  exact h env s ca F P H σ _ _ m sl (Post.imp (Post.seq q) fun x s1 ca1 F1 H1 k1 k2 m1 q1 => q1.now m1 _ (by simp only [Rep]))
/-- + of texts -/
def addS : D → D → S → Res D := fun x y s => match x, y with
  | .str a, .str b => if a.length + b.length ≤ line then .ok (.str (a ++ b)) s else .stuck
  | _, _ => .stuck
theorem od_addS : OpD X g E (binaryOp .Add) addS := by
  refine ⟨_, op_add_str, fun x y s ca F P H v u Q m rx ry q => ?_⟩
  unfold addS at q
  split at q
  · split at q
    · rename_i a b hl
      simp only [Rep] at rx ry
      exact ⟨a, b, rx, ry, line_le hl, q.now m _ (by simp only [Rep])⟩
    · exact q.elim
  · exact q.elim

/-! ### lists that change -/
def mtCell (f : List D → List D → Option (List D)) (mo : Env → S → Res D) (mr : Env → S → Res (List D)) : Env → S → Res D := fun env s => (mo env s).bind fun x s1 => match x with
  | .cell k => (match s1[k]? with
    | some (.lst _) => (mr env s1).bind (fun ys s2 => match s2[k]? with
      | some (.lst ds) => match f ds ys with
        | some es => .ok .non (s2.set k (.lst es))
        | none => .stuck
      | _ => .stuck)
    | _ => .stuck)
  | _ => .stuck
def appF : List D → List D → Option (List D) := fun ds ys => match ys with
  | [y] => if ds.length < line then some (ds ++ [y]) else none
  | _ => none
def extF : List D → List D → Option (List D) := fun ds ys => match ys with
  | [.lst es] => if ds.length + es.length ≤ line then some (ds ++ es) else none
  | _ => none
theorem line_lt {n : Nat} (h : n < line) : n < sizeLine := Nat.lt_of_lt_of_le h (by rw [sizeLine_eq]; decide)
theorem cell_meth {T id : String} {name : Str} {r : V → List V → Hp → VK → Prop} {fl : List D → List D → Option (List D)} {K : PySem.W.Frag}
    (hr : ∀ (ds ys es : List D) (ca : List Addr) (F P H : Hp) (s : S) (a : Addr) (xs vs : List V) (Q : VK), fl ds ys = some es → Sim g ca F P s H → H a = some (.lst xs) → Reps g ca F ds xs → Reps g ca F ys vs →
      (∀ zs, Reps g ca F es zs → Q .non (upd H a (.lst zs))) → r (.ref a) vs H Q)
    {to : TE} {t : TA} (h : ∀ (env : Env) (s : S) (ca : List Addr) (F P H : Hp) (σ : L2.St) (Q : VK), Sim g ca F P s H → Slots g ca F env σ → Post g ca F P E (fun d _ ca' F' H' => ∀ v, Rep g ca' F' d v → Q v H') (mo env s) → to σ H Q)
    (ha : ∀ (env : Env) (s : S) (ca : List Addr) (F P H : Hp) (σ : L2.St) (Q : List V → Hp → Prop), Sim g ca F P s H → Slots g ca F env σ → Post g ca F P E (fun ds _ ca' F' H' => ∀ vs, Reps g ca' F' ds vs → Q vs H') (mr env s) → t σ H Q)
    {env : Env} {s : S} {ca : List Addr} {F P H : Hp} {σ : L2.St} {Q : VK} (m : Sim g ca F P s H) (sl : Slots g ca F env σ) (q : Post g ca F P E (fun d _ ca' F' H' => ∀ v, Rep g ca' F' d v → Q v H') (mtCell fl mo mr env s)) : tBM K "list" r to t σ H Q := by
  refine h env s ca F P H σ _ m sl (Post.imp (Post.seq q) fun x s1 ca1 F1 H1 k1 k2 m1 q1 v rv => ?_)
  cases x with
  | cell kk =>
    simp only [Rep] at rv
    obtain ⟨a, rfl, ha1⟩ := rv
    dsimp only at q1
    split at q1
    · rename_i ds0 hk0
      obtain ⟨xs0, hH0, _⟩ := m1.cellL ha1 hk0
      refine ⟨.inl ⟨rfl, xs0, SqL.of hH0⟩, ha env s1 ca1 F1 P H1 σ _ m1 (sl.mono k1 k2) (Post.imp (Post.seq q1) fun ys s2 ca2 F2 H2 l1 l2 m2 q2 vs rs2 => ?_)⟩
      have ha2 := prefix_get l1 ha1
      split at q2
      · rename_i ds hk
        split at q2
        · rename_i es' he
          obtain ⟨xs, hH, rs⟩ := m2.cellL ha2 hk
          refine hr ds ys es' ca2 F2 P H2 s2 a xs vs Q he m2 hH rs rs2 fun zs hz => ?_
          exact q2 ca2 F2 _ List.prefix_rfl (Sub.refl _) (m2.store ha2 hk (by intro z; cases z) ⟨_, upd_same, hz⟩) _ (by simp only [Rep])
        · exact q2.elim
      · exact q2.elim
    · exact q1.elim
  | _ => exact q1.elim
theorem ev_append (ho : Ev X g E o mo) (ha : Ea X g E (e :: es) mr) (hbase : attributeBase o "append" X.env (eval o X.env) = eval o X.env := by rfl)
    (hfew : ((backTo pos (starEach (e :: es) X.env)).all (fun x => !x.1) && (backToKw pos (keywordEach [] X.env)).all (fun x => x.1.isSome)
      && decide ((e :: es).length + ([] : List Keyword).length + (if ([] : List Keyword).isEmpty then 0 else 1) < 30)) = true := by rfl)
    (hline : (apos.endLine == pos.line) = true := by rfl) (hs : starEach (e :: es) X.env = (false, eval e X.env) :: starEach es X.env := by rfl) (hplain : (backTo pos (starEach es X.env)).any (·.1) = false := by rfl) :
    Ev X g E (.Call (.Attribute o "append" apos) (e :: es) [] pos) (mtCell appF mo mr) := by
  obtain ⟨t, p, h⟩ := ho
  obtain ⟨u, pa, ha⟩ := ha
  refine ⟨_, pe_bm PySem.F.plainAttrs_list PySem.F.slot_list_append PySem.F.type_list_append mt_append p pa hbase hfew hline hs hplain, fun env s ca F P H σ Q m sl q => cell_meth (T := "list") (id := "") (name := "") (fun ds ys es ca F P H s a xs vs Q he m hH rs rv k => ?_) h ha m sl q⟩
  unfold appF at he
  split at he
  · split at he
    · rename_i y hlt
      cases he
      obtain ⟨w, rfl, rw'⟩ := reps1 rv
      exact ⟨a, xs, w, rfl, rfl, hH, by rw [← rs.length]; exact line_lt hlt, k _ (rs.append (.one rw'))⟩
    · cases he
  · cases he
theorem ev_extend (ho : Ev X g E o mo) (ha : Ea X g E (e :: es) mr) (hbase : attributeBase o "extend" X.env (eval o X.env) = eval o X.env := by rfl)
    (hfew : ((backTo pos (starEach (e :: es) X.env)).all (fun x => !x.1) && (backToKw pos (keywordEach [] X.env)).all (fun x => x.1.isSome)
      && decide ((e :: es).length + ([] : List Keyword).length + (if ([] : List Keyword).isEmpty then 0 else 1) < 30)) = true := by rfl)
    (hline : (apos.endLine == pos.line) = true := by rfl) (hs : starEach (e :: es) X.env = (false, eval e X.env) :: starEach es X.env := by rfl) (hplain : (backTo pos (starEach es X.env)).any (·.1) = false := by rfl) :
    Ev X g E (.Call (.Attribute o "extend" apos) (e :: es) [] pos) (mtCell extF mo mr) := by
  obtain ⟨t, p, h⟩ := ho
  obtain ⟨u, pa, ha⟩ := ha
  refine ⟨_, pe_bm PySem.F.plainAttrs_list PySem.F.slot_list_extend PySem.F.type_list_extend mt_extend p pa hbase hfew hline hs hplain, fun env s ca F P H σ Q m sl q => cell_meth (T := "list") (id := "") (name := "") (fun ds ys es ca F P H s a xs vs Q he m hH rs rv k => ?_) h ha m sl q⟩
  unfold extF at he
  split at he
  · split at he
    · rename_i zs hlt
      cases he
      obtain ⟨w, rfl, rw'⟩ := reps1 rv
      simp only [Rep] at rw'
      obtain ⟨b, ws, rfl, hF, rs2⟩ := rw'
      exact ⟨a, b, xs, ws, rfl, rfl, hH, m.sub _ _ hF, by rw [← rs.length, ← rs2.length]; exact line_le hlt, k _ (rs.append rs2)⟩
    · cases he
  · cases he
/-- behind the statement the list in the i-th slot stands still -/
def sFrz (i : Nat) (ms : Env → S → Res Fl) : Env → S → Res Fl := fun env s => (ms env s).bind fun fl s1 => match fl with
  | .nx e => (match e[i]? with
    | some (some (.cell k)) => (match s1[k]? with
      | some (.lst ds) => .ok (.nx (e.set i (some (.lst ds)))) (s1.set k .dead)
      | _ => .stuck)
    | _ => .stuck)
  | _ => .stuck
theorem sv_frz (i : Nat) {st : Stmt} {ms : Env → S → Res Fl} (h : Sv X g E st ms) : Sv X g E st (sFrz i ms) := by
  obtain ⟨t, p, h⟩ := h
  refine ⟨t, p, fun env s ca F P H σ Dn m sl q => ?_⟩
  refine h env s ca F P H σ Dn m sl (Post.imp (Post.seq q) fun fl s1 ca1 F1 H1 k1 k2 m1 q1 => ?_)
  cases fl with
  | nx e =>
    dsimp only at q1
    split at q1
    · rename_i kk hi
      split at q1
      · rename_i ds hk
        intro σ' sl'
        obtain ⟨v, hv, rv⟩ := sl'.2 i _ hi
        simp only [Rep] at rv
        obtain ⟨a, rfl, ha⟩ := rv
        obtain ⟨xs, hH, rs⟩ := m1.cellL ha hk
        obtain ⟨m2, hF⟩ := m1.freeze ha hk (by intro z; cases z) hH
        have sl2 := sl'.mono (List.prefix_rfl) (Sub.new (o := .lst xs) hF)
        refine q1 ca1 _ H1 List.prefix_rfl (Sub.new hF) m2 σ' ⟨by simpa using sl2.1, fun j d e => ?_⟩
        by_cases hj : i = j
        · subst hj
          have hl : i < _ := (List.getElem?_eq_some_iff.mp hi).1
          rw [List.getElem?_set_self hl] at e
          cases e
          refine ⟨_, hv, ?_⟩
          simp only [Rep]
          exact ⟨a, xs, rfl, upd_same, Reps.mono List.prefix_rfl (Sub.new hF) _ _ rs⟩
        · rw [List.getElem?_set_ne hj] at e
          exact sl2.2 j d e
      · exact q1.elim
    · exact q1.elim
  | rt d => exact q1.elim
  | bk e => exact q1.elim
  | ct e => exact q1.elim
end
/-- a def that makes lists of its own that change: behind it they are gone -/
def cutRes (k : Nat) (r : Res D) : Res D := r.bind fun d s1 => if (pureD d && cutOk (s1.take k)) = true then .ok d (s1.take k) else .stuck
theorem spG_cut {g : G} {n : Nat} {f : List D → S → Res D} {vs : List V} {H : Hp} {Q : VK} {E : XK} (h : spG g n (fun ds s => cutRes s.length (f ds s)) vs H Q E) : spG g n f vs H Q E := by
  obtain ⟨ds, ca, F, P, s, hl, m, rs, q⟩ := h
  refine ⟨ds, ca, F, P, s, hl, m, rs, Post.imp (Post.seq0 q) fun d s1 ca1 F1 H1 k1 k2 m1 q1 v rv => ?_⟩
  split at q1
  · rename_i hc
    simp only [Bool.and_eq_true] at hc
    obtain ⟨t, rfl⟩ := k1
    have hlen := m.len
    have m2 := m1.cut (by rw [hlen]; exact cutOk_mem hc.2)
    rw [hlen] at m2
    exact q1 ca F1 H1 List.prefix_rfl k2 m2 v (Rep.bare _ _ hc.1 rv)
  · exact q1.elim
theorem FnCut {Pr : Program} {w : World} {K : PySem.W.Frag} {mg : Str → Option Value} {base : Heap} {CX : CXT} {k : Nat} {fa : Addr} {fd : FuncData} {ps : List Str} {g : G} {n : Nat} {f : List D → S → Res D}
    (F : FnOk Pr w K mg base CX k fa fd ps (spG g n f)) : FnOk Pr w K mg base CX k fa fd ps (spG g n fun ds s => cutRes s.length (f ds s)) := F.imp fun _ _ _ _ h => spG_cut h
end Pm
set_option Elab.async false
set_option linter.all false
set_option maxRecDepth 100000
set_option maxHeartbeats 2000000
namespace Pm
open PySem PySem.Spec PyProof.Rows L2
/-! ### defs where it is known that no repr is under way -/
def FnG (Pr : Program) (w : World) (K : PySem.W.Frag) (mg : Str → Option Value) (base : Heap) (k : Nat) (fa : Addr) (sp : Sp) : Prop :=
  ∀ (A : Around) (outer : List PySem.Env) (s : Shared) (H : Hp) (us : List Value) (vs : List V) (Q : VK) (E : XK), Room k A → A.guards = some [] → Env0 Pr w K mg base A outer s H → Vals vs us → sp vs H Q E →
    codeAny (model Pr w) A (.call (.ref fa) ⟨us, []⟩) (CR (L2.CX Pr w) outer Pr w H s Q E) s
theorem FnG.mono {Pr : Program} {w : World} {K : PySem.W.Frag} {mg : Str → Option Value} {base : Heap} {j k : Nat} {fa : Addr} {sp : Sp} (F : FnG Pr w K mg base j fa sp) (h : j ≤ k) : FnG Pr w K mg base k fa sp :=
  fun A outer s H us vs Q E hr => F A outer s H us vs Q E (hr.mono h)
theorem fnG_of {Pr : Program} {w : World} {K : PySem.W.Frag} {mg : Str → Option Value} {base : Heap} {k : Nat} {fa : Addr} {fd : FuncData} {ps : List Str} {sp : Sp} (F : FnOk Pr w K mg base (L2.CX Pr w) k fa fd ps sp) (hb : Binds K fd ps []) : FnG Pr w K mg base k fa sp :=
  fun A outer s H us vs Q E hr _ e0 rv h => F.raw hb .nil A outer s H us vs Q E hr e0 rv (by simpa using h)
theorem guards_deeper {A : Around} {env : PySem.Env} (h : A.guards = some []) : (A.deeper env).guards = some [] := h
/-- what the body's end is, for the caller -/
theorem end_of {Pr : Program} {w : World} {K : PySem.W.Frag} {mg : Str → Option Value} {base : Heap} {N : List Str} {qual : Str} {scope : Scope} {fa : Addr} {cdv : Value} {A : Around} {outer : List PySem.Env} {s : Shared} {H : Hp} {E : XK} {Q : VK} {fl : Flow} {s' : Shared}
    (hs : SP (cxOf (L2.CX Pr w) Pr w K mg base N qual scope fa cdv A outer s H E) [] { nx := fun _ H' => Q .non H', rt := Q } fl s') :
    match fl with
    | .ret u => CE outer Pr w H s Q u s'
    | .next => CE outer Pr w H s Q .none s'
    | _ => False := by
  cases fl with
  | ret u => obtain ⟨v, _, H', J, rv, q⟩ := hs; exact ⟨v, H', J.os, J.bare, J.base, J.hok, rv, q⟩
  | next => obtain ⟨_, H', J, q⟩ := hs; exact ⟨.non, H', J.os, J.bare, J.base, J.hok, rfl, q⟩
  | brk => obtain ⟨_, _, _, q⟩ := hs; exact q
  | cont => obtain ⟨_, _, _, q⟩ := hs; exact q
theorem fnG_def {Pr : Program} {w : World} {K : PySem.W.Frag} {mg : Str → Option Value} {base : Heap} {g : G} {x qual : Str} {st : Stmt} {fa : Addr} {fd : FuncData} {N ps : List Str} {k n : Nat} {body : Env → S → Res Fl}
    (F : Fun K x qual st fa fd) (Sc : FnScope N ps (defScope st)) (hb : Binds K fd ps []) (hn : n = ps.length)
    (body_ok : ∀ (cdv : Value) (A : Around) (outer : List PySem.Env) (s : Shared) (H : Hp) (E : XK), Room k (A.deeper (envOfC qual (defScope st) s.heap.objs.size fa cdv)) → A.guards = some [] →
      Svs (cxOf (L2.CX Pr w) Pr w K mg base N qual (defScope st) fa cdv A outer s H E) g E (defBody st) body) : FnG Pr w K mg base (k + 1) fa (spG g n (runBody n N.length body)) := by
  intro A outer s H us vs Q E hr hgd e0 rv hsp
  obtain ⟨oc, od, kV, doc, pm, an, cdv, ct, osl, rfl, lk, hcd⟩ := F.ex
  have hvl : vs.length = ps.length := by obtain ⟨_, _, _, _, _, h, _⟩ := hsp; exact h.trans hn
  have hin : K.In s.heap := e0.mod.kin.keeps fun _ _ z => (e0.bs _ _ z).1
  have bound := hb s us hin (by rw [List.append_nil, ← rv.length]; exact hvl)
  rw [List.append_nil] at bound
  refine codeAny_call_function hr.depth (hin fa _ lk) rfl Sc.co Sc.gen rfl (PySem.W.codeRec_of hin hcd) (bound _ _ _ _ (wpAny_newFunctionEnv_cells Sc.kind (fun y hy => ?_) fun env he s1 inb => ?_))
  · have hm := (List.of_mem_zip (a := y.1) (b := y.2) hy).1
    exact (Sc.par y.1 hm).imp id fun c => ⟨c, PySem.W.cellsFrom_some _ _ _ (.inl c)⟩
  · subst he
    obtain ⟨t, pst, ht⟩ := body_run (body_ok cdv A outer s H E (hr.deeper _) hgd) hsp
    have I := inv_start (CX := L2.CX Pr w) (E := E) Sc hr.hd e0 hvl rv inb
    have nolim : s.heap.NoLimit := e0.mod.nolimit.keeps fun _ _ z => (e0.bs _ _ z).1
    refine ⟨nolim.keeps inb.toInCall.keep, codeAny_func (wpAny_mono (pst.run [] s1 _ H _ I ht) (fun fl s' hs => ?_) fun _ _ z => z)⟩
    have := end_of hs
    cases fl with
    | ret u => exact this
    | next => exact this
    | brk => exact this.elim
    | cont => exact this.elim
section
variable {X : Cx} {g : G} {E : XK} {c k n : Nat} {fa : Addr} {ff : List D → S → Res D} {x : Str} {p pos : Pos} {e : Expr} {es : List Expr} {mr : Env → S → Res (List D)}
/-- f(e, ..) of such a def -/
theorem ev_callG (Fk : FnG X.prog X.w X.K X.mg X.base k fa (spG g n ff)) (hr : Room k X.A) (hgd : X.A.guards = some []) (hg : Gl X x) (hm : X.mg x = some (.ref fa)) (hk : PySem.W.keepIn X.K (.ref fa) = true) (hx : Passes (L2.CX X.prog X.w) X E)
    (ha : Ea X g E (e :: es) mr) (hdb : (x == ("__debug__" : Str)) = false := by decide) (he : starEach (e :: es) X.env = (false, eval e X.env) :: starEach es X.env := by rfl) (hpl : (backTo pos (starEach es X.env)).any (·.1) = false := by rfl) :
    Ev X g E (.Call (.Name x p) (e :: es) [] pos) (mCallD (n := n) [] ff mr) := by
  obtain ⟨t, pa, ha⟩ := ha
  refine ⟨fun σ H Q => t σ H fun vs H1 => spG g n ff vs H1 Q E, ⟨fun pins s σ H Q I h => ?_⟩, fun env s ca F P H σ Q m sl q => ?_⟩
  · refine wpAny_Call_Name_kw (ld_glob I hg hm ?_ hdb)
    refine PySem.W.callWith_K (h₀ := X.base) I.ok.mod.kin hk (thn (pa.run pos pins s σ H _ I h) fun us s1 ⟨vs, H1, I1, r, q⟩ => ⟨I1.kIn, ?_⟩) he hpl
    refine wpAny_call (codeAny_mono (Fk X.A X.stack s1 H1 us vs Q E hr hgd I1.env0 r q) fun r s' hq => ?_)
    cases r with
    | error er => exact hx pins σ H1 s1 er s' I1 hq
    | ok fl =>
      cases fl with
      | ret u => exact I1.after hq
      | next => exact False.elim hq
      | brk => exact False.elim hq
      | cont => exact False.elim hq
  · refine ha env s ca F P H σ _ m sl (Post.imp (Post.seq q) fun xs s1 ca1 F1 H1 k1 k2 m1 q1 vs rs => ?_)
    split at q1
    · rename_i hl
      exact spG_of m1 rs (by simpa using hl) (by simpa using q1)
    · exact q1.elim
/-! ### repr of data -/
def bRepr : List D → S → Res D := fun xs s => match xs with
  | [x] => match toPy x with
    | some d => if (SeqAt.shaped d && d.showable && decide (d.shown.length ≤ line)) = true then .ok (.str d.shown) s else .stuck
    | none => .stuck
  | _ => .stuck
def isSeqD : D → Bool
  | .lst _ => true
  | .ro _ => true
  | .tup _ => true
  | .rot _ => true
  | _ => false
theorem toPy_ref {ca : List Addr} {F : Hp} {d : D} {v : V} (h : isSeqD d = true) (r : Rep g ca F d v) : ∃ a, v = .ref a := by
  cases d <;> first | (cases h; done) | (simp only [Rep] at r; obtain ⟨a, _, e, _⟩ := r; exact ⟨a, e⟩)
theorem cd_reprD (hK : g.K = X.K) (hgd : X.A.guards = some []) (hu : X.A.units + 66 < cLine) : CallD X g E (.builtin "repr") (fun xs s => match xs with
    | [x] => if isSeqD x = true then bRepr [x] s else .stuck
    | _ => .stuck) := by
  refine ⟨fun vs H Q => ∃ a d, vs = [.ref a] ∧ Dp X.K H (.ref a) d ∧ SeqAt.shaped d = true ∧ d.showable = true ∧ d.shown.length ≤ sizeLine ∧ Q (.str d.shown) H, fun pins s σ H vs us Q I r h => ?_, fun xs s ca F P H vs Q m rs q => ?_⟩
  · obtain ⟨a, d, rfl, hd, hsh, hsw, hl, q⟩ := h
    obtain ⟨u, rfl, ru⟩ := vals1 r
    cases (show u = Value.ref a from ru)
    obtain ⟨as, hr⟩ := Dp.reads I d _ _ hd rfl
    have hdep := SeqAt.depth_of_shaped hsh
    refine repr_of_reads' hr hsw (PyData.noDict_hsm (PyData.hasDict_of_canLay _ (SeqAt.canLay_of_shaped hsh))) hgd (by omega) (fun _ _ z => z) (fun h' u tk hk => ⟨.str d.shown, H, I.kept hk, ⟨_, rfl⟩, q⟩) hl
  · dsimp only at q
    split at q
    · split at q
      · rename_i x hsq
        unfold bRepr at q
        dsimp only at q
        split at q
        · rename_i d hd
          split at q
          · rename_i hc
            simp only [Bool.and_eq_true, decide_eq_true_eq] at hc
            obtain ⟨v, rfl, r⟩ := reps1 rs
            have hp := dp_of hK m.sub _ _ _ hd r
            obtain ⟨a, rfl⟩ := toPy_ref hsq r
            exact ⟨a, d, rfl, hp, hc.1.1, hc.1.2, line_le hc.2, q.now m _ (by simp only [Rep])⟩
          · exact q.elim
        · exact q.elim
      · exact q.elim
    · exact q.elim
/-! ### x != y of an own class without __ne__ -/
structure NeF (K : PySem.W.Frag) (C : Addr) (f : Addr) : Prop where
  hs : PySem.W.findIn K (.ref C) "__eq__" = some (some (.ref f))
  hf : PySem.W.isFn K (.ref f) = true
  hn : PySem.W.findIn K (.ref C) "__ne__" = some (some (.builtin "object.__ne__"))
  mr : PySem.W.mroIn K C (.type "object") = some true
section
open PySem.W PySem.Builtin
variable {prog : Program} {w : World} {A : Around} {E : Value → Shared → Prop} {s : Shared} {K : Frag} {x y C L f : Addr} {h₀ : Heap} {m : Str → Option Value} {ox oy : Obj} {od od' : Option Obj}
theorem ne_own {Q : Value → Shared → Prop} (hu : A.units + 1 < cLine) (X : K.In s.heap) (I : InstAt s.heap x ox C od) (J : InstAt s.heap y oy C od') (o : NeF K C f)
    (h : wpAny (model prog w) A.in1 (call (.ref f) [.ref x, .ref y]) (fun v s' => ∃ b, v = .bool b ∧ Q (.bool (!b)) s') E s) : wpAny (model prog w) A (compareOp .NotEq (.ref x) (.ref y)) Q E s := by
  have inner : wpAny (model prog w) A (call (.builtin "object.__ne__") [.ref x, .ref y]) (fun v s' => ∃ b, v = .bool b ∧ Q (.bool b) s') E s := by
    refine wpAny_call (codeAny_call_builtin PySem.F.slot_enumerate_ne.plain PySem.F.cmpEntry_ne (check_slot (i := "object.__ne__") (owner := "object") (n := "__ne__") PySem.F.cmpKind_ne PySem.F.cmpSplit_ne (I.type.andThen (looks_mroIn X o.mr)) (PySem.F.cmpArgs_ne _ _) ?_))
    unfold Builtin.«object.__ne__»
    refine wpAny_bind (m := slotArgs "__ne__" 1 _) (wpAny_pure ?_)
    refine wpAny_bind (m := cRoomFor _ _) (wpAny_cRoomFor hu ?_)
    refine wpAny_bind (m := callSpecialIfBound? (.ref x) (Str.ofString "__eq__") [.ref y]) (ifBound_K X I o.hs o.hf (wpAny_mono h (fun r s' hq => ?_) fun _ _ y => y))
    obtain ⟨b, rfl, hq⟩ := hq
    refine wpAny_bind (m := truthy (.bool _)) (wpAny_truthy_bool ?_)
    exact wpAny_pure ⟨_, rfl, hq⟩
  have one : wpAny (model prog w) A (tryCompare (.ref x) "__ne__" (.ref y)) (fun r s' => ∃ v, r = some v ∧ Q v s') E s := by
    unfold tryCompare
    refine wpAny_bind (m := callSpecialIfBound? (.ref x) _ [.ref y]) ?_
    simp only [callSpecialIfBound?, bindSpecialIfBound?]
    refine wpAny_holding (wpAny_bind (wpAny_bind (wpAny_bind (I.type.here ((looks_findIn X o.hn).here ?_)))))
    have hb : bindSpecial (.builtin "object.__ne__") (.ref x) = pure (.builtin "object.__ne__", [.ref x]) := PySem.F.slot_enumerate_ne.bind _
    refine wpAny_bind (wpAny_askSetting (wpAny_ite ?_))
    have fin : wpAny (model prog w) A (call (.builtin "object.__ne__") ([.ref x] ++ [.ref y]) >>= fun v => pure (some v)) (fun r s' => ∃ b, r = some (.bool b) ∧ Q (.bool b) s') E s := wpAny_bind (wpAny_mono inner (fun v s' h' => by obtain ⟨b, rfl, hq⟩ := h'; exact wpAny_pure ⟨b, rfl, hq⟩) fun _ _ h' => h')
    have done : ∀ {r : Option Value} {s' : Shared}, (∃ b, r = some (.bool b) ∧ Q (.bool b) s') → wpAny (model prog w) A (match r with | some .notImplemented => pure none | none => pure none | some v => pure (some v)) (fun r s' => ∃ v, r = some v ∧ Q v s') E s' := fun h' => by
      obtain ⟨b, rfl, hq⟩ := h'
      exact wpAny_pure ⟨_, rfl, hq⟩
    split
    · exact wpAny_bind (wpAny_of_eq hb (wpAny_pure (wpAny_mono fin (fun r s' h' => by obtain ⟨b, rfl, hq⟩ := h'; exact wpAny_pure ⟨_, rfl, hq⟩) fun _ _ z => z)))
    · exact wpAny_tryCatch (wpAny_bind (wpAny_of_eq hb (wpAny_pure (wpAny_mono fin (fun r s' h' => by obtain ⟨b, rfl, hq⟩ := h'; exact wpAny_pure ⟨_, rfl, hq⟩) fun _ _ z => z))))
  refine cmp_ofNotEq ?_
  unfold richCompare
  simp only [oneThing_ref]
  refine wpAny_holding (wpAny_bind (wpAny_cRoomFor (Nat.lt_of_succ_lt hu) ?_))
  refine wpAny_bind (I.type.here (wpAny_bind (J.type.here ?_)))
  rw [show (Value.ref C != Value.ref C) = false from by simp]
  simp only [Bool.false_eq_true, if_false]
  refine wpAny_bind (wpAny_pure ?_)
  simp only [Bool.false_eq_true, if_false]
  refine wpAny_bind (wpAny_mono one (fun r s' z => ?_) fun _ _ e => e)
  obtain ⟨v, rfl, hq⟩ := z
  exact wpAny_pure hq
end
section
variable {X : Cx} {g : G} {E : XK} {CX : CXT} {c k : Nat} {f : Addr} {fd : FuncData} {ps : List Str} {ff : List D → S → Res D}
def neOwn (c : Nat) (ff : List D → S → Res D) : D → D → S → Res D := fun x y s => match x, y with
  | .ins k fs, .ins k' fs' => if k = c ∧ k' = c then (ff [.ins k fs, .ins k' fs'] s).bind (fun d s1 => match d with
    | .bl b => .ok (.bl (!b)) s1
    | _ => .stuck) else .stuck
  | _, _ => .stuck
theorem od_neOwn (o : NeF X.K (g.cls c) f) (Fk : FnOk X.prog X.w X.K X.mg X.base CX k f fd ps (spG g 2 ff)) (hr : Room (k + 1) X.A) (hb : Binds X.K fd ps []) (hx : Passes CX X E) : OpD X g E (compareOp .NotEq) (neOwn c ff) := by
  refine ⟨fun v u H Q => ∃ a b dx dy fs gs, v = .ref a ∧ u = .ref b ∧ H a = some (.ins (g.cls c) dx fs) ∧ H b = some (.ins (g.cls c) dy gs) ∧ spG g 2 ff [v, u] H (fun z H' => ∃ b, z = .bl b ∧ Q (.bl (!b)) H') E, fun pins s σ H x y v u Q I rx ry h => ?_, fun x y s ca F P H v u Q m rx ry q => ?_⟩
  · obtain ⟨a, b, dx, dy, fs, gs, rfl, rfl, ea, eb, h⟩ := h
    cases (show v = Value.ref a from rx)
    cases (show u = Value.ref b from ry)
    obtain ⟨od, J, e⟩ := ins_at I ea
    obtain ⟨od', J', e'⟩ := ins_at I eb
    have hr1 : Room k X.A.in1 := Room.in1 hr
    refine ne_own (by have := hr.units; omega) I.kIn J J' o (wpAny_mono (wpAny_call (SlX.run_at (us := [.ref a, .ref b]) (ws := [.ref a, .ref b]) (Fk.raw hb .nil) hr1 I.env0.in1 hx I (.cons rfl (.cons rfl .nil)) (by rw [List.append_nil]; exact h))) (fun u s' q => ?_) fun _ _ z => z)
    obtain ⟨v, H', I', rv, b', rfl, q⟩ := q
    cases (show u = Value.bool b' from rv)
    exact ⟨b', rfl, .bl (!b'), H', I', rfl, q⟩
  · unfold neOwn at q
    split at q
    · split at q
      · rename_i hk
        obtain ⟨rfl, hk2⟩ := hk
        subst hk2
        have rx' := rx
        have ry' := ry
        simp only [Rep] at rx ry
        obtain ⟨a, dx, xs, rfl, hF, _⟩ := rx
        obtain ⟨b, dy, ys, rfl, hF2, _⟩ := ry
        refine ⟨a, b, dx, dy, _, _, rfl, rfl, m.sub _ _ hF, m.sub _ _ hF2, sp2 m rx' ry' (Post.imp (Post.seq q) fun d s1 ca1 F1 H1 k1 k2 m1 q1 v rv => ?_)⟩
        cases d with
        | bl b =>
          simp only [Rep] at rv
          exact ⟨b, rv, q1.now m1 _ rep_bl⟩
        | _ => exact q1.elim
      · exact q.elim
    · exact q.elim
end
end
end Pm
set_option Elab.async false
set_option linter.all false
set_option maxRecDepth 100000
set_option maxHeartbeats 2000000
namespace Pm
open PySem PySem.Spec PyProof.Rows L2
/-! ### short words for texts that a tool writes -/
open PyProof in
theorem bo_int : bootBuiltins "int" = some (.type "int") := boot_int
open PyProof in
theorem bo_bool : bootBuiltins "bool" = some (.type "bool") := boot_bool
open PyProof in
theorem bo_str : bootBuiltins "str" = some (.type "str") := boot_str
open PyProof in
theorem bo_list : bootBuiltins "list" = some (.type "list") := boot_list
open PyProof in
theorem bo_tuple : bootBuiltins "tuple" = some (.type "tuple") := boot_tuple
open PyProof in
theorem bo_dict : bootBuiltins "dict" = some (.type "dict") := boot_dict
open PyProof in
theorem bo_isinstance : bootBuiltins "isinstance" = some (.builtin "isinstance") := boot_isinstance
open PyProof in
theorem bo_len : bootBuiltins "len" = some (.builtin "len") := boot_len
open PyProof in
theorem bo_abs : bootBuiltins "abs" = some (.builtin "abs") := boot_abs
open PyProof in
theorem bo_max : bootBuiltins "max" = some (.builtin "max") := boot_max
open PyProof in
theorem bo_min : bootBuiltins "min" = some (.builtin "min") := boot_min
open PyProof in
theorem bo_divmod : bootBuiltins "divmod" = some (.builtin "divmod") := boot_divmod
open PyProof in
theorem bo_all : bootBuiltins "all" = some (.builtin "all") := boot_all
open PyProof in
theorem bo_any : bootBuiltins "any" = some (.builtin "any") := boot_any
open PyProof in
theorem bo_repr : bootBuiltins "repr" = some (.builtin "repr") := boot_repr
open PyProof in
theorem bo_sum : bootBuiltins "sum" = some (.builtin "sum") := boot_sum
theorem _root_.L2.Room.un64 {k : Nat} {A : Around} (h : Room k A) : A.units + 64 < cLine := by have := h.un; omega
theorem _root_.L2.Room.un66 {k : Nat} {A : Around} (h : Room k A) : A.units + 66 < cLine := by have := h.un; omega
/-- where nothing may be raised -/
theorem passK {P : Program} {w : World} {X : Cx} : Passes (L2.CX P w) X E0 := fun _ _ _ _ _ _ _ ⟨_, _, _, _, _, _, _, _, _, _, _, _, h⟩ => h.elim
section
variable {X : Cx} {g : G} {E : XK}
def addAll : D → D → S → Res D := fun x y s => (addD x y s).or (addS x y s)
theorem od_addAll : OpD X g E (binaryOp .Add) addAll := od_addD.or od_addS

/-! ### a def of which nothing is known -/
theorem fn_never {P : Program} {w : World} {K : PySem.W.Frag} {mg : Str → Option Value} {base : Heap} {CX : CXT} {k n : Nat} {f : Addr} {fd : FuncData} {ps : List Str} : FnOk P w K mg base CX k f fd ps (spG g n fun _ _ => .stuck) :=
  ⟨fun vs H Q E ⟨_, _, _, _, _, _, _, _, h⟩ => h.elim, fun A outer s H args us vs Q E hr he hb hv ⟨_, _, _, _, _, _, _, _, h⟩ => h.elim⟩
/-! ### the arguments that lack stand by their defaults -/
def BindsV (K : PySem.W.Frag) (fd : FuncData) (ps : List Str) (dvs : List V) : Prop := ∃ ds, Vals dvs ds ∧ Binds K fd ps ds
variable {CX : CXT} {c k n nf : Nat} {f C : Addr} {fd : FuncData} {ps ks : List Str} {ff fi : List D → S → Res D} {x m nm : Str} {p pos apos kpos : Pos} {e o : Expr} {es : List Expr} {kws : List Keyword} {me mo : Env → S → Res D} {mr mk : Env → S → Res (List D)} {dvs : List V} {dds : List D}
theorem ev_makeV (M : Mk X.K (g.cls c) f) (Fk : FnOk X.prog X.w X.K X.mg X.base CX k f fd ps (spG g n fi)) (hnf : nf = (g.fn c).length) (hr : Room (k + 1) X.A) (hg : Gl X x) (hm : X.mg x = some (.ref (g.cls c))) (hb : BindsV X.K fd ps dvs) (hdd : ∀ ca F, Reps g ca F dds dvs) (hx : Passes CX X E)
    (ha : Ea X g E (e :: es) mr) (hdb : (x == ("__debug__" : Str)) = false := by decide) (he : starEach (e :: es) X.env = (false, eval e X.env) :: starEach es X.env := by rfl) (hpl : (backTo pos (starEach es X.env)).any (·.1) = false := by rfl) :
    Ev X g E (.Call (.Name x p) (e :: es) [] pos) (mMake c nf n dds fi mr) := by
  obtain ⟨ds, hd, hb⟩ := hb
  exact ev_make M Fk hnf hr hg hm hb hd hdd hx ha hdb he hpl
theorem ev_makeLV {i : Nat} (M : Mk X.K (g.cls c) f) (Fk : FnOk X.prog X.w X.K X.mg X.base CX k f fd ps (spG g n fi)) (hnf : nf = (g.fn c).length) (hr : Room (k + 1) X.A) (hN : X.N[i]? = some x) (hv : Vis X.env.scope x) (hb : BindsV X.K fd ps dvs) (hdd : ∀ ca F, Reps g ca F dds dvs) (hx : Passes CX X E)
    (ha : Ea X g E (e :: es) mr) (hdb : (x == ("__debug__" : Str)) = false := by decide) (hcd : (x == ("__classdict__" : Str)) = false := by decide) (he : starEach (e :: es) X.env = (false, eval e X.env) :: starEach es X.env := by rfl) (hpl : (backTo pos (starEach es X.env)).any (·.1) = false := by rfl) :
    Ev X g E (.Call (.Name x p) (e :: es) [] pos) (mMakeL i c nf n dds fi mr) := by
  obtain ⟨ds, hd, hb⟩ := hb
  exact ev_makeL M Fk hnf hr hN hv hb hd hdd hx ha hdb hcd he hpl
/-! ### C.m(k = v, ..), a classmethod -/
def mCmK (c n : Nat) (ff : List D → S → Res D) (mo : Env → S → Res D) (mk : Env → S → Res (List D)) : Env → S → Res D := fun env s => (mo env s).bind fun x s1 => match x with
  | .cls k => if k = c then (mk env s1).bind (fun xs s2 => if xs.length + 1 = n then ff (.cls k :: xs) s2 else .stuck) else .stuck
  | _ => .stuck
theorem run_cmKw {pins : List (Addr × Obj)} {σ : L2.St} {H : Hp} {s : Shared} {q : Addr} {Q : VK} {ws : List Value} {zs : List V} {sp : Sp} (F : FnOk X.prog X.w X.K X.mg X.base CX k f fd ps sp) (hr : Room k X.A) (hb : KB X.K fd ps 1 ks) (hx : Passes CX X E)
    (I : Inv X ((q, PySem.W.methodObj (.ref f) (.ref C)) :: pins) σ H s) (rz : Vals zs ws) (hl : ws.length = ks.length) (h : sp (.ref C :: zs) H Q E) : wpAny (model X.prog X.w) X.A (call (.ref q) [] (ks.zip ws)) (EP X pins σ Q) X.xe s := by
  have z : wpAny (model X.prog X.w) X.A (call (.ref q) [] (ks.zip ws)) (EP X ((q, PySem.W.methodObj (.ref f) (.ref C)) :: pins) σ Q) X.xe s := by
    refine wpAny_call (PySem.W.method_call (ClX.pin_at I) (codeAny_mono (F.run X.A X.stack s H ⟨[.ref C], ks.zip ws⟩ (.ref C :: ws) (.ref C :: zs) Q E hr I.env0 (hb s [.ref C] ws I.kIn rfl hl) (.cons rfl rz) h) fun r s' hq => ?_))
    cases r with
    | error e => exact hx _ σ H s e s' I hq
    | ok fl =>
      cases fl with
      | ret u => exact I.after hq
      | next => exact False.elim hq
      | brk => exact False.elim hq
      | cont => exact False.elim hq
  exact thn z fun _ _ y => ClX.unpinE y
theorem ev_cmKw0 {pl : Sem Bool} {mc : Value} {pp : Addr} (he : Ev X g E o mo) (r : ClX.CRead X.K (g.cls c) mc) (cm : ClX.CMet X.K (g.cls c) mc m pp f) (Fk : FnOk X.prog X.w X.K X.mg X.base CX k f fd ps (spG g n ff)) (hr : Room k X.A) (hb : KB X.K fd ps 1 ks) (hn : n = ks.length + 1) (hx : Passes CX X E) (hkw : Ek X g E kws mk)
    (hall : (backToKw pos (keywordEach kws X.env)).all (·.1.isSome) = true := by rfl) (hks : (backToKw pos (keywordEach kws X.env)).filterMap (·.1) = ks := by rfl)
    (hpl : ((backTo pos (starEach [] X.env)).any (·.1) || (backToKw pos (keywordEach kws X.env)).any (·.1.isNone)) = false := by rfl)
    (ht : eval (.Call (.Attribute o m apos) [] kws pos) X.env = (do
      let ov ← eval o X.env
      standAt apos.atName
      let (f, first) ← holding [ov] (getMethod ov m pl)
      callWith pos f first (backTo pos (starEach [] X.env)) (backToKw pos (keywordEach kws X.env))) := by rfl) :
    Ev X g E (.Call (.Attribute o m apos) [] kws pos) (mCmK c n ff mo mk) := by
  obtain ⟨to, po, ho⟩ := he
  obtain ⟨t, pk, hkw⟩ := hkw
  refine ⟨fun σ H Q => to σ H fun x H1 => x = .ref (g.cls c) ∧ t σ H1 fun zs H2 => zs.length = ks.length ∧ spG g n ff (x :: zs) H2 Q E, ⟨fun pins s σ H Q I h => ?_⟩, fun env s ca F P H σ Q m' sl q => ?_⟩
  · refine PySem.W.methodCall_KW (pl := pl) (thn (po.run pins s σ H _ I h) fun u s1 ⟨x, H1, I1, rx, ex, q⟩ => ?_) ht
    subst ex
    obtain rfl : u = Value.ref (g.cls c) := rx
    refine ClX.getmethcm_ok I1 r cm fun s2 I2 => ?_
    refine PySem.W.callWith_of hpl (PySem.W.keeps_M (self := .ref (g.cls c)) cm.fi) (PyProof.Rows.evalArgs_kw2_nil hall (thn (pk.run pos _ s2 σ H1 _ I2 q) fun ws s3 ⟨zs, H2, I3, rz, hl, q2⟩ => ⟨⟨ClX.pin_at I3, I3.kIn⟩, ?_⟩))
    rw [hks]
    exact run_cmKw Fk hr hb hx I3 rz (by rw [← rz.length]; exact hl) q2
  · refine ho env s ca F P H σ _ m' sl (Post.imp (Post.seq q) fun z s1 ca1 F1 H1 k1 k2 m1 q1 v rv => ?_)
    cases z with
    | cls kk =>
      simp only at q1
      split at q1
      · rename_i hk
        subst hk
        have rv' := rv
        simp only [Rep] at rv
        subst rv
        refine ⟨rfl, hkw env s1 ca1 F1 P H1 σ _ m1 (sl.mono k1 k2) (Post.imp (Post.seq q1) fun ys s2 ca2 F2 H2 l1 l2 m2 q2 vs rs2 => ?_)⟩
        split at q2
        · rename_i hl
          exact ⟨by rw [← rs2.length]; omega, spG_of m2 (.cons (Rep.mono l1 l2 _ _ rv') rs2) (by simpa using hl) q2⟩
        · exact q2.elim
      · exact q1.elim
    | _ => exact q1.elim
/-! ### a, b, c = x, y, z -/
theorem reps3 {ca : List Addr} {F : Hp} {a b c : D} {vs : List V} (h : Reps g ca F [a, b, c] vs) : ∃ u v w, vs = [u, v, w] ∧ Rep g ca F a u ∧ Rep g ca F b v ∧ Rep g ca F c w := by
  simp only [Reps] at h
  obtain ⟨u, _, rfl, r1, v, _, rfl, r2, w, _, rfl, r3, rfl⟩ := h
  exact ⟨u, v, w, rfl, r1, r2, r3⟩
def sPar3 (i j l : Nat) (mr : Env → S → Res (List D)) : Env → S → Res Fl := fun env s => (mr env s).bind fun ds s1 => match ds with
  | [x, y, z] => .ok (.nx (((env.set i (some x)).set j (some y)).set l (some z))) s1
  | _ => .stuck
theorem sv_par3 (i j l : Nat) {x y z : Str} {a b d : Expr} {px py pz pt : Pos} {kt k2 pt2} (hc : X.calm = true) (hN : X.N.Nodup) (hi : X.N[i]? = some x) (hj : X.N[j]? = some y) (hl : X.N[l]? = some z) (hij : i ≠ j) (hil : i ≠ l) (hjl : j ≠ l)
    (hx : X.env.scope.names.lookup x = some .local) (hy : X.env.scope.names.lookup y = some .local) (hz : X.env.scope.names.lookup z = some .local) (ha : Ea X g E [a, b, d] mr)
    (hw : swappedStores [.Tuple [.Name x px, .Name y py, .Name z pz] kt pt] (.Tuple [a, b, d] k2 pt2) X.env = pure (some [x, y, z]))
    (hs : swapsWithSole [.Tuple [.Name x px, .Name y py, .Name z pz] kt pt] (.Tuple [a, b, d] k2 pt2) pos.line X.env = pure false := by rfl) :
    Sv X g E (.Assign [.Tuple [.Name x px, .Name y py, .Name z pz] kt pt] (.Tuple [a, b, d] k2 pt2) pos) (sPar3 i j l mr) := by
  obtain ⟨t, p, h⟩ := ha
  refine ⟨_, ps_par3 hc hN hi hj hl hij hil hjl hx hy hz p hw hs, fun env s ca F P H σ Dn m sl q => ?_⟩
  refine h env s ca F P H σ _ m sl (Post.imp (Post.seq q) fun ds s1 ca1 F1 H1 k1 k2 m1 q1 vs rs => ?_)
  split at q1
  · obtain ⟨u, v, w, rfl, r1, r2, r3⟩ := reps3 rs
    exact ⟨u, v, w, rfl, q1.now m1 _ ((((sl.mono k1 k2).set r1).set r2).set r3)⟩
  · exact q1.elim
def MC : Value := .type "type"
end
end Pm
set_option Elab.async false
set_option linter.all false
set_option maxRecDepth 100000
set_option maxHeartbeats 2000000
namespace Pm
open PySem PySem.Spec PyProof.Rows L2
/-! ### the end of a law, for a def that runs where no repr is under way -/
/-- the heap behind the top: the script alone is told, or nothing -/
theorem start_env {P : Program} {w : World} {K : PySem.W.Frag} {mg mb : Str → Option Value} {a : Addr} {t : Shared} {us : List Value} {ns : List Int}
    (hK : K.In t.heap) (hG : t.heap.Ns mainGlobals mg) (hB : t.heap.Ns builtinsNs mb) (hbo : ∀ x : Str, x ≠ "__name__" → mb x = bootBuiltins x) (hN : t.heap.NoLimit) (hgen : t.gens = #[])
    (hobj : t.heap.get? a = some { cls := .type "list", data := .seq us.toArray }) (hints : IntsAre us ns) (hlen : ns.length ≤ sizeLine) :
    ∃ H : Hp, Only H ∧ SqL K H a (ns.map V.int) ∧ Env0 P w K mg (hidT t.heap H) callerA [] t H ∧ K.In (hidT t.heap H) ∧ (hidT t.heap H).Ns mainGlobals mg := by
  have hv : Vals (ns.map V.int) us := vals_ints hints
  -- the common part: a view in which at most the script is told
  have common : ∀ H : Hp, HOk P w H t.heap → (∀ b, H b ≠ none → b = a) → (H a ≠ none → K.lookup a = none) →
      Env0 P w K mg (hidT t.heap H) callerA [] t H ∧ K.In (hidT t.heap H) ∧ (hidT t.heap H).Ns mainGlobals mg := by
    intro H ok only out
    have stays : ∀ {b : Addr} {z : Obj}, t.heap.get? b = some z → H b = none → (hidT t.heap H).get? b = some z := fun p q => hidT_get p q
    have notScript : ∀ {b : Addr} {z : Obj} {q : Array DictEntry} {j : Nat}, t.heap.get? b = some z → z.data = .dict q j → H b = none := by
      intro b z q j p d
      by_cases hb : H b = none
      · exact hb
      · have e := only b hb
        rw [e, hobj] at p
        have e2 := Option.some.inj p
        rw [← e2] at d
        exact absurd (show Data.seq us.toArray _ = Data.dict q j from d) (by intro c; cases c)
    have names : ∀ {b : Addr} {m : Str → Option Value}, t.heap.Ns b m → (hidT t.heap H).Ns b m := by
      intro b m hm
      obtain ⟨z, q, j, p, d, r⟩ := hm
      exact ⟨z, q, j, stays p (notScript p d), d, r⟩
    have kin : K.In (hidT t.heap H) := by
      intro b z e
      refine stays (hK b z e) ?_
      by_cases hb : H b = none
      · exact hb
      · have eb := only b hb
        subst eb
        rw [out hb] at e
        cases e
    refine ⟨⟨rfl, ⟨kin, names hG, ⟨mb, names hB, hbo⟩, ?_⟩, ?_, Nat.le_of_eq (hidT_size _ _), trivial, ?_, ok, .of_eq hgen⟩, kin, names hG⟩
    · obtain ⟨m, p, q⟩ := hN
      exact ⟨m, names p, q⟩
    · intro b z e
      exact of_hidT e
    · intro b hb
      cases hb
  cases hk : K.lookup a with
  | some z =>
    have e := hK a z hk
    rw [hobj] at e
    have e := Option.some.inj e
    subst e
    refine ⟨fun _ => none, fun _ => .inl rfl, .inr ⟨_, us.toArray, _, hk, rfl, rfl, rfl, ?_, ?_⟩, common _ ?_ (fun b q => absurd rfl q) fun q => absurd rfl q⟩
    · rw [List.size_toArray, hints.length]
      exact hlen
    · simpa using hv
    · intro b u q
      have q : (none : Option HO) = some u := q
      cases q
  | none =>
    refine ⟨fun b => if b = a then some (.frz { cls := .type "list", data := .seq us.toArray } (.lst (ns.map V.int))) else none, fun b => ?_, .inl (.inr ⟨{ cls := .type "list", data := .seq us.toArray }, if_pos rfl⟩), common _ ?_ ?_ fun _ => hk⟩
    · by_cases hb : b = a
      · exact .inr ⟨_, _, if_pos hb⟩
      · exact .inl (if_neg hb)
    · intro b u q
      by_cases hb : b = a
      · subst hb
        have q := (if_pos rfl).symm.trans q
        cases q
        exact ⟨hobj, by rw [List.length_map]; exact hlen, us, _, hv, hobj⟩
      · have q := (if_neg hb).symm.trans q
        cases q
    · intro b q
      by_cases hb : b = a
      · exact hb
      · exact absurd (if_neg hb) q
theorem law_callG {P : Program} {w : World} {K : PySem.W.Frag} {mg mb : Str → Option Value} {k : Nat} {fa a : Addr} {sp : Sp} {t : Shared} {us : List Value} {ns : List Int}
    (hK : K.In t.heap) (hG : t.heap.Ns mainGlobals mg) (hB : t.heap.Ns builtinsNs mb) (hbo : ∀ x : Str, x ≠ "__name__" → mb x = bootBuiltins x) (hN : t.heap.NoLimit) (hgen : t.gens = #[])
    (hobj : t.heap.get? a = some { cls := .type "list", data := .seq us.toArray }) (hints : IntsAre us ns) (hlen : ns.length ≤ sizeLine) (hr : Room k callerA)
    (F : ∀ base : Heap, FnG P w K mg base k fa sp) (hsp : ∀ H : Hp, SqL K H a (ns.map V.int) → sp [.ref a] H (fun v _ => v = .bl true) fun _ _ _ => False) :
    codeAny (model P w) callerA (.call (.ref fa) ⟨[.ref a], []⟩) (fun r t' => r = .ok (.ret (.bool true)) ∧ OldK t.heap t'.heap ∧ t'.os = t.os ∧ AllBare t'.gens) t := by
  obtain ⟨H, only, hS, e0, _, _⟩ := start_env (P := P) (w := w) hK hG hB hbo hN hgen hobj hints hlen
  refine codeAny_mono (F _ callerA [] t H [.ref a] [.ref a] (fun v _ => v = .bl true) (fun _ _ _ => False) hr rfl e0 (.cons rfl .nil) (hsp H hS)) ?_
  intro r t' back
  cases r with
  | error z =>
    obtain ⟨_, _, _, _, _, _, _, _, _, _, _, _, no⟩ := back
    exact no.elim
  | ok fl =>
    cases fl with
    | ret u =>
      obtain ⟨v, H', hos, hbare, un, ok', rv, ev⟩ := back
      have ev : v = .bl true := ev
      subst ev
      have eu : u = Value.bool true := rv
      subst eu
      refine ⟨rfl, OldK.of_keep fun b z p => ?_, hos, hbare⟩
      have noMem : ¬ b ∈ ([] : List Addr) := by simp
      by_cases hb : H b = none
      · exact un.keep b z p hb (fun q => absurd (show b ∈ ([] : List Addr) from q) noMem) noMem
      · rcases only b with q | ⟨zz, xs, q⟩
        · exact absurd q hb
        · have p1 := (e0.hok b _ q).1
          have p2 := (ok' b _ (un.frzs b zz _ q)).1
          rw [p] at p1
          cases p1
          exact p2
    | next => exact False.elim back
    | brk => exact False.elim back
    | cont => exact False.elim back
/-- THE END: the law's def by its mirror, and the mirror's answer at every script -/
theorem walkG {l : PySem.W.OpenLaw} {n k : Nat} {q : Program} {loose : List Str} {XP : (Str → Option Value) → Heap → Prop} {YP : World → Heap → Prop} {d : DefRec} {m : List D → S → Res D}
    (hn : l.most = some n) (hn2 : n ≤ sizeLine) (hdf : d.params.defaults = []) (hr : Room k callerA)
    (F : ∀ (w : World) (mg : Str → Option Value) (fa : Addr) (h : Heap), YP w h → h.Ns mainGlobals mg → mg d.name = some (.ref fa) → ∃ (K : PySem.W.Frag) (g : G), K.In h ∧ g.K = K ∧ ∀ base : Heap, FnG l.prog w K mg base k fa (spG g 1 m))
    (ans : ∀ ns : List Int, ns.length ≤ n → ∃ s, m [.ro (ns.map D.int)] [] = .ok (.bl true) s) :
    PySem.W.WalkO q loose XP YP l.row.toRowW d [] (fun f vs => PySem.call f vs) := by
  refine Att.attach_call hn hdf fun w t0 t mg mb fa o pm cd doc a us ns Gr Y ho hd hcd hmg hobj hints hlen hgen => ?_
  obtain ⟨K, g, hK, eg, FG⟩ := F w mg fa _ Y Gr.T.g hmg
  refine law_callG hK Gr.T.g Gr.T.b Gr.T.builtins Gr.T.nolimit hgen hobj hints (Nat.le_trans hlen hn2) hr FG fun H hS => ?_
  obtain ⟨s, e⟩ := ans ns hlen
  have allI : ∀ l : List Int, Reps g [] H (l.map D.int) (l.map V.int) := by
    intro l
    induction l with
    | nil => exact .nil
    | cons i l ih => exact .cons rep_int ih
  have sim0 : Sim g [] H (fun _ => none) [] H := by
    refine ⟨Sub.refl _, ?_, ?_, rfl, ?_, ?_, ?_⟩
    · intro b z q
      have q : (none : Option HO) = some z := q
      cases q
    · intro b z q
      have q : (none : Option HO) = some z := q
      cases q
    · intro i j b q
      simp at q
    · intro i b q
      simp at q
    · intro i b c q
      simp at q
  refine ⟨[.ro (ns.map D.int)], [], H, fun _ => none, [], rfl, sim0, ?_, ?_⟩
  · refine .cons ?_ .nil
    simp only [Rep]
    exact ⟨a, ns.map V.int, rfl, by rw [eg]; exact hS, allI ns⟩
  · rw [e]
    intro ca' F' H' _ _ _ v rv
    simpa only [Rep] using rv
end Pm
set_option Elab.async false
set_option linter.all false
set_option maxRecDepth 100000
set_option maxHeartbeats 2000000
namespace Pm
open PySem PySem.Spec PyProof.Rows L2
/-! ### what the top has left, by names: one look at the written part -/
abbrev Fr' := PySem.W.Frag
/-- a def: its place, its names, its text, its defaults -/
structure DefP where
  place : Fr' → Addr
  nm : Str
  qn : Str
  st : Stmt
  dv : List V := []
def DefP.see (K : Fr') (p : DefP) : He.FnW :=
  match K.lookup (p.place K) with
  | some ⟨_, _, .func z, _⟩ => some (z.name, z.qualname, z.params, z.body, z.scope, z.globals, z.closure, z.builtins)
  | _ => none
def DefP.due (p : DefP) : He.FnW := some (p.nm, p.qn, defArgs p.st, .stmts (defBody p.st), defScope p.st, mainGlobals, [], builtinsNs)
def DefP.fine (K : Fr') (p : DefP) : Bool :=
  PySem.W.keepIn K (.ref (p.place K)) &&
    match K.lookup (p.place K) with
    | some ⟨_, _, .func z, _⟩ => PySem.W.codeIn K z.code p.qn && (He.dflB K z.defaults p.dv && He.kwdB K z.kwdefaults [])
    | _ => false
theorem and2 {a b : Bool} (h : (a && b) = true) : a = true ∧ b = true := by simpa using h
theorem DefP.fund {K : Fr'} {p : DefP} (e : p.see K = p.due) (c : p.fine K = true) : ∃ fd, FunD K p.nm p.qn (defArgs p.st) (defBody p.st) (defScope p.st) p.dv [] (p.place K) fd := by
  obtain ⟨kp, c⟩ := and2 c
  unfold DefP.see DefP.due at e
  split at e
  · rename_i oc od z sl lk
    rw [lk] at c
    obtain ⟨c1, c⟩ := and2 c
    obtain ⟨c2, c3⟩ := and2 c
    cases z
    simp only [Option.some.injEq, Prod.mk.injEq] at e
    obtain ⟨e1, e2, e3, e4, e5, e6, e7, e8⟩ := e
    subst e1 e2 e3 e4 e5 e6 e7 e8
    exact ⟨_, ⟨_, _, _, _, _, _, _, _, _, _, rfl, lk, c1, He.dflB_ok c2, He.kwdB_ok c3⟩, kp⟩
  · cases e
theorem fun_of {K : Fr'} {x q : Str} {st : Stmt} {f : Addr} {fd : FuncData} (F : FunD K x q (defArgs st) (defBody st) (defScope st) [] [] f fd) : Fun K x q st f fd := by
  obtain ⟨⟨oc, od, dV, kV, doc, pm, an, cdv, ct, sl, e, lk, hc, hD, _⟩, kp⟩ := F
  rcases hD with ⟨_, rfl⟩ | ⟨no, _⟩
  · exact ⟨⟨oc, od, kV, doc, pm, an, cdv, ct, sl, e, lk, hc⟩, kp⟩
  · exact absurd rfl no
abbrev AlP : Type := List He.FnW × Bool
def adP (g : Addr → Option Obj) : Nat → List Addr
  | 0 => [mainGlobals, cStatics]
  | n + 1 => He.growD g (adP g n)
def obsP (n : Nat) (ds : List DefP) (fs : List (Fr' → Bool)) (g : Addr → Option Obj) : AlP :=
  let K := He.frG g (adP g n)
  (ds.map (DefP.see K), ds.all (DefP.fine K) && fs.all (fun f => f K))
def valP (ds : List DefP) : AlP := (ds.map DefP.due, true)
structure SaysP (ds : List DefP) (fs : List (Fr' → Bool)) (K : Fr') : Prop where
  see : ds.map (DefP.see K) = ds.map DefP.due
  fine : ds.all (DefP.fine K) = true
  fs : fs.all (fun f => f K) = true
def hookP (n : Nat) (ds : List DefP) (fs : List (Fr' → Bool)) : PySem.W.Hook where
  α := AlP
  obs := fun s => obsP n ds fs s.heap.get?
  val := fun _ => valP ds
  says := fun _ h => ∃ K : Fr', K.In h ∧ SaysP ds fs K
  of := fun _ _ e => ⟨_, He.frG_in, congrArg (fun z : AlP => z.1) e, (and2 (congrArg (fun z : AlP => z.2) e)).1, (and2 (congrArg (fun z : AlP => z.2) e)).2⟩
  keeps := fun _ _ _ ⟨K, k1, k2⟩ k => ⟨K, PySem.W.Frag.In.keeps k1 k, k2⟩
theorem obsP_eq {n : Nat} {ds : List DefP} {fs : List (Fr' → Bool)} {g : Addr → Option Obj} {s : Shared} (h : ∀ a, g a = s.heap.get? a) : obsP n ds fs g = (hookP n ds fs).obs s :=
  congrArg (obsP n ds fs) (funext h)
theorem SaysP.fact {ds : List DefP} {fs : List (Fr' → Bool)} {K : Fr'} (c : SaysP ds fs K) (i : Nat) {f : Fr' → Bool} (h : fs[i]? = some f) : f K = true :=
  List.all_eq_true.mp c.fs f (List.mem_of_getElem? h)
theorem SaysP.fund {ds : List DefP} {fs : List (Fr' → Bool)} {K : Fr'} (c : SaysP ds fs K) (i : Nat) {p : DefP} (h : ds[i]? = some p) : ∃ fd, FunD K p.nm p.qn (defArgs p.st) (defBody p.st) (defScope p.st) p.dv [] (p.place K) fd := by
  have e := congrArg (fun l => l[i]?) c.see
  simp only [List.getElem?_map, h, Option.map_some, Option.some.injEq] at e
  exact DefP.fund e (List.all_eq_true.mp c.fine p (List.mem_of_getElem? h))
/-! ### places -/
def pG (x : Str) : Fr' → Addr := fun K => He.ga K x
def pM (C m : Str) : Fr' → Addr := fun K => He.ma K (He.ga K C) m
def pRec (T : String) (p : Fr' → Addr) : Fr' → Addr := fun K =>
  match PySem.W.recIn K (p K) T with
  | some (.ref g :: _) => g
  | _ => 0
def pCm (C m : Str) : Fr' → Addr := fun K =>
  match PySem.W.findCls K (.ref (He.ga K C)) MC m with
  | some (.get _ (.ref p) _ _) => p
  | _ => 0
/-! ### facts, each a look -/
def faA (f : He.Fa) : Fr' → Bool := fun K => f.ok K
def faB (x : Str) (id : String) : Fr' → Bool := fun K => He.eqO (PySem.W.nsIn K mainGlobals x) (some (some (.builtin id)))
theorem faB_ok {K : Fr'} {h : Heap} {mg : Str → Option Value} (X : K.In h) (G : h.Ns mainGlobals mg) {x : Str} {id : String} (c : faB x id K = true) : mg x = some (.builtin id) := PySem.W.mg_of X G (He.eqO_ok c)
def faP (C m : Str) : Fr' → Bool := fun K =>
  He.eqO (PySem.W.findIn K (.ref (He.ga K C)) m) (some (some (.ref (pM C m K)))) &&
  (He.eqO (PySem.W.specialIn K (.ref (pM C m K)) "__get__") (some (some (.builtin "property.__get__"))) &&
  (decide (PySem.W.takesIn K (.ref (pM C m K)) = some true) &&
  match PySem.W.recIn K (pM C m K) "property" with
  | some (.ref _ :: _) => true
  | _ => false))
theorem faP_ok {K : Fr'} {C m : Str} (c : faP C m K = true) : PropOf K (He.ga K C) m (pM C m K) (pRec "property" (pM C m) K) := by
  obtain ⟨c1, c⟩ := and2 c
  obtain ⟨c2, c⟩ := and2 c
  obtain ⟨c3, c4⟩ := and2 c
  refine ⟨He.eqO_ok c1, He.eqO_ok c2, of_decide_eq_true c3, ?_⟩
  unfold pRec
  split at c4
  · rename_i g r e
    exact ⟨r, by rw [e]⟩
  · cases c4
def faC (C m : Str) : Fr' → Bool := fun K =>
  (match PySem.W.findCls K (.ref (He.ga K C)) MC m with
  | some (.get g (.ref _) z c) => decide (g = .builtin "classmethod.__get__" ∧ z = .none ∧ c = .ref (He.ga K C))
  | _ => false) &&
  ((match PySem.W.recIn K (pCm C m K) "classmethod" with
  | some (.ref _ :: _) => true
  | _ => false) && PySem.W.fnIn K (pRec "classmethod" (pCm C m) K))
theorem faC_ok {K : Fr'} {C m : Str} (c : faC C m K = true) : ClX.CMet K (He.ga K C) MC m (pCm C m K) (pRec "classmethod" (pCm C m) K) := by
  obtain ⟨c1, c⟩ := and2 c
  obtain ⟨c2, c3⟩ := and2 c
  refine ⟨?_, ?_, c3⟩
  · unfold pCm
    split at c1
    · rename_i g p z c e
      obtain ⟨rfl, rfl, rfl⟩ := of_decide_eq_true c1
      rw [e]
    · cases c1
  · unfold pRec
    split at c2
    · rename_i g r e
      exact ⟨r, by rw [e]⟩
    · cases c2
def faR (C : Str) : Fr' → Bool := fun K => PySem.W.readsIn K (He.ga K C) MC && He.eqO (PySem.W.specialIn K (.ref (He.ga K C)) "__getattribute__") (some (some (.builtin "type.__getattribute__")))
theorem faR_ok {K : Fr'} {C : Str} (c : faR C K = true) : ClX.CRead K (He.ga K C) MC := ⟨(and2 c).1, He.eqO_ok (and2 c).2⟩
def faI (C : Str) : Fr' → Bool := fun K =>
  (He.Fa.cls C).ok K && (He.eqO (PySem.W.findIn K (.ref (He.ga K C)) "__class__") (some (some (.builtin "object.__class__"))) &&
  (He.eqO (PySem.W.specialIn K (.builtin "object.__class__") "__get__") (some (some (.builtin "getset_descriptor.__get__"))) &&
  (decide (PySem.W.takesIn K (.builtin "object.__class__") = some true) && decide (PySem.W.mroIn K (He.ga K C) (.type "object") = some true))))
theorem faI_ok {K : Fr'} {C : Str} (c : faI C K = true) : IsF K (He.ga K C) := by
  obtain ⟨c1, c⟩ := and2 c
  obtain ⟨c2, c⟩ := and2 c
  obtain ⟨c3, c⟩ := and2 c
  obtain ⟨c4, c5⟩ := and2 c
  exact ⟨He.cls_ok c1, He.eqO_ok c2, He.eqO_ok c3, of_decide_eq_true c4, of_decide_eq_true c5⟩
/-- the own classes for isinstance -/
def faK (Cs : List Str) : Fr' → Bool := fun K =>
  Cs.all (fun C => faI C K && (["int", "bool", "str", "list", "tuple", "dict"].all (fun t => decide (PySem.W.kitOne K (.ref (He.ga K C)) (.type t) = some false)) &&
    ["NoneType", "bool", "int", "str", "list", "tuple", "dict"].all (fun t => decide (PySem.W.kitOne K (.type t) (.ref (He.ga K C)) = some false)))) &&
  (List.range Cs.length).all fun i => (List.range Cs.length).all fun j => decide (PySem.W.kitOne K (.ref (He.ga K (Cs.getD i ""))) (.ref (He.ga K (Cs.getD j ""))) = some (i == j))
theorem faK_ok {K : Fr'} {Cs : List Str} {g : G} (hg : ∀ i, i < Cs.length → g.cls i = He.ga K (Cs.getD i "")) (c : faK Cs K = true) : ClsF K g Cs.length := by
  obtain ⟨c1, c2⟩ := and2 c
  have each : ∀ i, i < Cs.length → faI (Cs.getD i "") K = true ∧ (["int", "bool", "str", "list", "tuple", "dict"].all (fun t => decide (PySem.W.kitOne K (.ref (He.ga K (Cs.getD i ""))) (.type t) = some false)) = true ∧
      ["NoneType", "bool", "int", "str", "list", "tuple", "dict"].all (fun t => decide (PySem.W.kitOne K (.type t) (.ref (He.ga K (Cs.getD i ""))) = some false)) = true) := by
    intro i hi
    have hm : Cs.getD i "" ∈ Cs := by
      have e : Cs.getD i "" = Cs[i] := by simp [List.getD_eq_getElem?_getD, hi]
      rw [e]
      exact List.getElem_mem hi
    have z := List.all_eq_true.mp c1 _ hm
    exact ⟨(and2 z).1, and2 (and2 z).2⟩
  refine ⟨fun i hi => by rw [hg i hi]; exact faI_ok (each i hi).1, fun i t hi => ?_, fun i t x hi e => ?_, fun i j hi hj => ?_⟩
  · rw [hg i hi]
    exact of_decide_eq_true (List.all_eq_true.mp (each i hi).2.1 t.name (by cases t <;> decide))
  · rw [hg i hi]
    refine of_decide_eq_true (List.all_eq_true.mp (each i hi).2.2 x ?_)
    cases t <;> cases e <;> decide
  · rw [hg i hi, hg j hj]
    exact of_decide_eq_true (List.all_eq_true.mp (List.all_eq_true.mp c2 i (List.mem_range.mpr hi)) j (List.mem_range.mpr hj))
/-- own operators -/
def faO (C f r : Str) : Fr' → Bool := fun K =>
  PySem.W.selfFirst K (He.ga K C) && ((He.Fa.meth C f).ok K && ((He.Fa.meth C r).ok K && ((PySem.W.findIn K (.type "int") f).isSome && ((PySem.W.findIn K (.type "int") r).isSome &&
  (decide (PySem.W.subIn K (.type "int") (.ref (He.ga K C)) = some false) && decide (PySem.W.subIn K (.ref (He.ga K C)) (.type "int") = some false))))))
theorem faO_ok {K : Fr'} {C f r : Str} {op : Operator} {id : String} (c : faO C f r K = true) (hf : PySem.dunder op.info.2 = f) (hr : dunderR op.info.2 = r) (sl : Slot "int" f id) (fi : fillsNumberSlot (.type "int") op.info.2 = pure true) (de : Declines id (He.ga K C)) :
    OpF K (He.ga K C) op (pM C f K) (pM C r K) id := by
  obtain ⟨c1, c⟩ := and2 c
  obtain ⟨c2, c⟩ := and2 c
  obtain ⟨c3, c⟩ := and2 c
  obtain ⟨c4, c⟩ := and2 c
  obtain ⟨c5, c⟩ := and2 c
  obtain ⟨c6, c7⟩ := and2 c
  have mf := He.meth_ok c2
  have mr := He.meth_ok c3
  subst hf hr
  exact ⟨c1, mf.at_, mf.fn, mr.at_, mr.fn, Option.isSome_iff_exists.mp c4, Option.isSome_iff_exists.mp c5, of_decide_eq_true c6, of_decide_eq_true c7, sl, fi, de⟩
def faE (C : Str) : Fr' → Bool := fun K => (He.Fa.meth C "__eq__").ok K && (decide (PySem.W.subIn K (.type "int") (.ref (He.ga K C)) = some false) && (decide (PySem.W.subIn K (.ref (He.ga K C)) (.type "int") = some false) &&
  (He.eqO (PySem.W.findIn K (.ref (He.ga K C)) "__ne__") (some (some (.builtin "object.__ne__"))) && decide (PySem.W.mroIn K (He.ga K C) (.type "object") = some true))))
theorem faE_ok {K : Fr'} {C : Str} (c : faE C K = true) : EqF K (He.ga K C) (pM C "__eq__" K) ∧ NeF K (He.ga K C) (pM C "__eq__" K) := by
  obtain ⟨c1, c⟩ := and2 c
  obtain ⟨c2, c⟩ := and2 c
  obtain ⟨c3, c⟩ := and2 c
  obtain ⟨c4, c5⟩ := and2 c
  have m := He.meth_ok c1
  exact ⟨⟨m.at_, m.fn, of_decide_eq_true c2, of_decide_eq_true c3⟩, ⟨m.at_, m.fn, He.eqO_ok c4, of_decide_eq_true c5⟩⟩
/-! ### how arguments bind -/
theorem kb_of {K : Fr'} {x q : Str} {pa : Arguments} {bo : List Stmt} {sc : Scope} {dv : List V} {f : Addr} {fd : FuncData} {ps ks : List Str} {n : Nat} (F : FunD K x q pa bo sc dv [] f fd) (hd : dv ≠ [])
    (h : ∀ (T : Addr) (kV doc pm : Value) (an : Option Addr) (cdv ct : Value) (us ws its : List Value), us.length = n → ws.length = ks.length → its.length = dv.length →
      ∃ k, bindArgs (PySem.W.fnOf x q pa bo sc (.ref T) kV doc pm an cdv ct) ⟨us, ks.zip ws⟩ = seqItems? (.ref T) >>= k ∧ k (some its.toArray) = pure (ps.zip (us ++ ws))) : KB K fd ps n ks := by
  obtain ⟨oc, od, dV, kV, doc, pm, an, cdv, ct, sl, rfl, lk, hc, hD, _⟩ := F.ex
  rcases hD with ⟨no, _⟩ | ⟨_, T, o, its, m, rfl, lT, oT, rT⟩
  · exact absurd no hd
  · intro s us ws X hu hw
    obtain ⟨k, k1, k2⟩ := h T kV doc pm an cdv ct us ws its hu hw rT.length.symm
    exact PySem.W.binds_K X rfl lT oT k1 k2
theorem kb0_of {K : Fr'} {x q : Str} {st : Stmt} {f : Addr} {fd : FuncData} {ps ks : List Str} {n : Nat} (F : Fun K x q st f fd)
    (h : ∀ (kV doc pm : Value) (an : Option Addr) (cdv ct : Value) (us ws : List Value), us.length = n → ws.length = ks.length →
      bindArgs (PySem.W.fnOf x q (defArgs st) (defBody st) (defScope st) .none kV doc pm an cdv ct) ⟨us, ks.zip ws⟩ = pure (ps.zip (us ++ ws))) : KB K fd ps n ks := by
  obtain ⟨oc, od, kV, doc, pm, an, cdv, ct, sl, rfl, lk, hc⟩ := F.ex
  intro s us ws X hu hw
  exact .of_eq (h kV doc pm an cdv ct us ws hu hw)
end Pm
set_option Elab.async false
set_option linter.all false
set_option maxRecDepth 100000
set_option maxHeartbeats 2000000
/-! truth, is, slices, chains, stars; min, sum, count of data -/
namespace Pm
open PySem PySem.Spec PyProof.Rows L2
section
variable {X : Cx} {g : G} {E : XK} {a b c e : Expr} {es rest : List Expr} {ma mb mc me mo : Env → S → Res D} {mr : Env → S → Res (List D)} {pos apos : Pos}

/-! ### truth -/
def truD (s : S) : D → Option Bool
  | .non => some false
  | .bl b => some b
  | .int i => some (i != 0)
  | .lst ds => some (!ds.isEmpty)
  | .ro ds => some (!ds.isEmpty)
  | .tup ds => some (!ds.isEmpty)
  | .rot ds => some (!ds.isEmpty)
  | .cell k => match s[k]? with
    | some (.lst ds) => some (!ds.isEmpty)
    | _ => none
  | _ => none
theorem reps_empty {ca : List Addr} {F : Hp} {ds : List D} {vs : List V} (r : Reps g ca F ds vs) : (!ds.isEmpty) = !vs.isEmpty := by
  have := r.length
  cases ds <;> cases vs <;> simp_all
theorem tru_rep (hK : g.K = X.K) {ca : List Addr} {F P H : Hp} {s : S} {d : D} {k : Bool} {v : V} (m : Sim g ca F P s H) (h : truD s d = some k) (r : Rep g ca F d v) : TruV X.K v H k := by
  unfold truD at h
  split at h
  · cases h; simp only [Rep] at r; subst r; rfl
  · cases h; simp only [Rep] at r; subst r; rfl
  · cases h; simp only [Rep] at r; subst r; rfl
  · cases h; simp only [Rep] at r; obtain ⟨a, xs, rfl, hF, rs⟩ := r; exact .inl ⟨xs, .of (m.sub _ _ hF), reps_empty rs⟩
  · cases h; simp only [Rep] at r; obtain ⟨a, xs, rfl, hF, rs⟩ := r; exact .inl ⟨xs, hK ▸ same_l m.sub hF, reps_empty rs⟩
  · cases h; simp only [Rep] at r; obtain ⟨a, xs, rfl, hF, rs⟩ := r; exact .inr (.inl ⟨xs, .of (m.sub _ _ hF), reps_empty rs⟩)
  · cases h; simp only [Rep] at r; obtain ⟨a, xs, rfl, hF, rs⟩ := r; exact .inr (.inl ⟨xs, hK ▸ same_t m.sub hF, reps_empty rs⟩)
  · split at h
    · rename_i hk
      cases h
      simp only [Rep] at r
      obtain ⟨a, rfl, ha⟩ := r
      obtain ⟨xs, hH, rs⟩ := m.cellL ha hk
      exact .inl ⟨xs, .of hH, reps_empty rs⟩
    · cases h
  · cases h
def mBt (f : Env → S → Res D) : Env → S → Res Bool := fun env s => (f env s).bind fun x s1 => match truD s1 x with
  | some b => .ok b s1
  | none => .stuck
theorem et_tru (hK : g.K = X.K) (h : Ev X g E e me) (he : ∀ whole, isTrue e X.env whole = (do let v ← whole; standAt e.pos; holding [v] (truthy v)) := by intro _; rfl) : Et X g E e (mBt me) := by
  obtain ⟨t, p, h⟩ := h
  refine ⟨_, pt_truth p he, fun env s ca F P H σ Q m sl q => ?_⟩
  refine h env s ca F P H σ _ m sl (Post.imp (Post.seq q) fun x s1 ca1 F1 H1 _ _ m1 q v rv => ?_)
  split at q
  · rename_i b hb
    exact ⟨b, tru_rep hK m1 hb rv, q.now m1⟩
  · exact q.elim
/-- not e, by e's truth -/
def mNotV (me : Env → S → Res D) : Env → S → Res D := fun env s => (me env s).bind fun x s1 => match truD s1 x with
  | some b => .ok (.bl (!b)) s1
  | none => .stuck
theorem ev_notV (hK : g.K = X.K) (h : Ev X g E a ma) : Ev X g E (.UnaryOp .Not a pos) (mNotV ma) := by
  obtain ⟨t, p, h⟩ := h
  refine ⟨_, pe_notT p, fun env s ca F P H σ Q m sl q => ?_⟩
  refine h env s ca F P H σ _ m sl (Post.imp (Post.seq q) fun x s1 ca1 F1 H1 _ _ m1 q v rv => ?_)
  split at q
  · rename_i b hb
    exact ⟨b, tru_rep hK m1 hb rv, q.now m1 _ rfl⟩
  · exact q.elim

/-! ### is, is not: None, True, False -/
def isNon : D → Bool
  | .non => true
  | _ => false
theorem isNon_rep {ca : List Addr} {F : Hp} {d : D} {v : V} (r : Rep g ca F d v) : decide (v = V.non) = isNon d := by
  cases d <;> simp only [Rep] at r
  case non => subst r; rfl
  case bl => subst r; exact decide_eq_false (by intro h; cases h)
  case int => subst r; exact decide_eq_false (by intro h; cases h)
  case str => subst r; exact decide_eq_false (by intro h; cases h)
  case lst => obtain ⟨a, xs, rfl, _⟩ := r; exact decide_eq_false (by intro h; cases h)
  case ro => obtain ⟨a, xs, rfl, _⟩ := r; exact decide_eq_false (by intro h; cases h)
  case tup => obtain ⟨a, xs, rfl, _⟩ := r; exact decide_eq_false (by intro h; cases h)
  case rot => obtain ⟨a, xs, rfl, _⟩ := r; exact decide_eq_false (by intro h; cases h)
  case ins => obtain ⟨a, dx, xs, rfl, _⟩ := r; exact decide_eq_false (by intro h; cases h)
  case cell => obtain ⟨a, rfl, _⟩ := r; exact decide_eq_false (by intro h; cases h)
  case cls => subst r; exact decide_eq_false (by intro h; cases h)
  case ty => subst r; exact decide_eq_false (by intro h; cases h)
  case mty => obtain ⟨a, rfl, _⟩ := r; exact decide_eq_false (by intro h; cases h)
def isF (neg : Bool) : D → D → S → Res D := fun x y s => match y with
  | .non => .ok (.bl (if neg then !isNon x else isNon x)) s
  | _ => .stuck
def isB (neg : Bool) : D → D → S → Res D := fun x y s => match x, y with
  | .bl a, .bl b => .ok (.bl (if neg then !decide (a = b) else decide (a = b))) s
  | _, _ => .stuck
def isD (neg : Bool) : D → D → S → Res D := fun x y s => (isF neg x y s).or (isB neg x y s)
theorem od_is : OpD X g E (compareOp .Is) (isD false) := by
  refine OpD.or ⟨_, op_isN, fun x y s ca F P H v u Q m rx ry p => ?_⟩ ⟨_, op_isBl, fun x y s ca F P H v u Q m rx ry p => ?_⟩
  · unfold isF at p
    split at p
    · simp only [Rep] at ry
      exact ⟨ry, p.now m _ (by rw [isNon_rep rx]; exact rfl)⟩
    · exact p.elim
  · unfold isB at p
    split at p
    · simp only [Rep] at rx ry
      exact ⟨_, _, rx, ry, p.now m _ rfl⟩
    · exact p.elim
theorem od_isnot : OpD X g E (compareOp .IsNot) (isD true) := by
  refine OpD.or ⟨_, op_notN, fun x y s ca F P H v u Q m rx ry p => ?_⟩ ⟨_, op_notBl, fun x y s ca F P H v u Q m rx ry p => ?_⟩
  · unfold isF at p
    split at p
    · simp only [Rep] at ry
      exact ⟨ry, p.now m _ (by rw [isNon_rep rx]; exact rfl)⟩
    · exact p.elim
  · unfold isB at p
    split at p
    · simp only [Rep] at rx ry
      exact ⟨_, _, rx, ry, p.now m _ rfl⟩
    · exact p.elim

/-! ### slices of lists -/
def Eo (X : Cx) (g : G) (E : XK) (o : Option Expr) (m : Env → S → Res (Option Int)) : Prop :=
  ∃ t : TO, PO X o t ∧ ∀ (env : Env) (s : S) (ca : List Addr) (F P H : Hp) (σ : L2.St) (Q : Option Int → Hp → Prop), Sim g ca F P s H → Slots g ca F env σ →
    Post g ca F P E (fun i _ _ _ H' => Q i H') (m env s) → t σ H Q
def oN : Env → S → Res (Option Int) := fun _ s => .ok none s
def oS (me : Env → S → Res D) : Env → S → Res (Option Int) := fun env s => (me env s).bind fun x s1 => match x with
  | .int i => .ok (some i) s1
  | _ => .stuck
theorem eo_n : Eo X g E none oN := ⟨_, po_none, fun env s ca F P H σ Q m sl q => q.now m⟩
theorem eo_s (h : Ev X g E e me) : Eo X g E (some e) (oS me) := by
  obtain ⟨t, p, h⟩ := h
  refine ⟨_, po_some p, fun env s ca F P H σ Q m sl q => ?_⟩
  refine h env s ca F P H σ _ m sl (Post.imp (Post.seq q) fun x s1 ca1 F1 H1 _ _ m1 q v rv => ?_)
  cases x with
  | int i => simp only [Rep] at rv; exact ⟨i, rv, q.now m1⟩
  | _ => exact q.elim
def lisOf (s : S) : D → Option (List D)
  | .lst ds => some ds
  | .ro ds => some ds
  | .cell k => match s[k]? with
    | some (.lst ds) => some ds
    | _ => none
  | _ => none
theorem lis_rep {K : PySem.W.Frag} (hK : g.K = K) {ca : List Addr} {F P H : Hp} {s : S} {d : D} {ds : List D} {v : V} (m : Sim g ca F P s H) (h : lisOf s d = some ds) (r : Rep g ca F d v) : ∃ a xs, v = .ref a ∧ SqL K H a xs ∧ Reps g ca F ds xs := by
  unfold lisOf at h
  split at h
  · cases h; simp only [Rep] at r; obtain ⟨a, xs, rfl, hF, rs⟩ := r; exact ⟨a, xs, rfl, .of (m.sub _ _ hF), rs⟩
  · cases h; simp only [Rep] at r; obtain ⟨a, xs, rfl, hF, rs⟩ := r; exact ⟨a, xs, rfl, hK ▸ same_l m.sub hF, rs⟩
  · split at h
    · rename_i hk
      cases h
      simp only [Rep] at r
      obtain ⟨a, rfl, ha⟩ := r
      obtain ⟨xs, hH, rs⟩ := m.cellL ha hk
      exact ⟨a, xs, rfl, .of hH, rs⟩
    · cases h
  · cases h
def tupOf : D → Option (List D)
  | .tup ds => some ds
  | .rot ds => some ds
  | _ => none
theorem tup_rep {K : PySem.W.Frag} (hK : g.K = K) {ca : List Addr} {F P H : Hp} {s : S} {d : D} {ds : List D} {v : V} (m : Sim g ca F P s H) (h : tupOf d = some ds) (r : Rep g ca F d v) : ∃ a xs, v = .ref a ∧ SqT K H a xs ∧ Reps g ca F ds xs := by
  unfold tupOf at h
  split at h
  · cases h; simp only [Rep] at r; obtain ⟨a, xs, rfl, hF, rs⟩ := r; exact ⟨a, xs, rfl, .of (m.sub _ _ hF), rs⟩
  · cases h; simp only [Rep] at r; obtain ⟨a, xs, rfl, hF, rs⟩ := r; exact ⟨a, xs, rfl, hK ▸ same_t m.sub hF, rs⟩
  · cases h
theorem lisOf_seqOf {s : S} {d : D} {ds : List D} (h : lisOf s d = some ds) : seqOf s d = some ds := by
  unfold lisOf at h
  split at h <;> first | exact h | (split at h <;> first | (unfold seqOf; simp_all) | cases h) | cases h
def sxD (n d : Nat) : Option Int → Nat
  | none => d
  | some v => if v < 0 then (v + (n : Int)).toNat else min v.toNat n
def cutD (ds : List D) (lo hi : Option Int) : List D := (ds.drop (sxD ds.length 0 lo)).take (sxD ds.length ds.length hi - sxD ds.length 0 lo)
theorem sxD_eq (n d : Nat) (o : Option Int) : sxD n d o = HT.sIx n d o := by cases o <;> rfl
theorem cut_rep {ca : List Addr} {F : Hp} {ds : List D} {vs : List V} (r : Reps g ca F ds vs) (lo hi : Option Int) : Reps g ca F (cutD ds lo hi) (cutV vs lo hi) := by
  unfold cutD cutV
  rw [sxD_eq, sxD_eq, r.length]
  exact (r.drop _).take _
theorem cutD_le (ds : List D) (lo hi : Option Int) : (cutD ds lo hi).length ≤ ds.length := by
  unfold cutD
  rw [List.length_take, List.length_drop]
  omega
def mSlice (me : Env → S → Res D) (ml mh : Env → S → Res (Option Int)) : Env → S → Res D := fun env s => (me env s).bind fun x s1 => (ml env s1).bind fun lo s2 => (mh env s2).bind fun hi s3 => match lisOf s3 x with
  | some ds => newL (cutD ds lo hi) s3
  | none => .stuck
theorem ev_slice {lo hi : Option Expr} {ml mh : Env → S → Res (Option Int)} {p2 : Pos} (hK : g.K = X.K) (he : Ev X g E e me) (hl : Eo X g E lo ml) (hh : Eo X g E hi mh) : Ev X g E (.Subscript e (.Slice lo hi none p2) pos) (mSlice me ml mh) := by
  obtain ⟨t, p, h⟩ := he
  obtain ⟨tl, pl, hl⟩ := hl
  obtain ⟨th, ph, hh⟩ := hh
  refine ⟨_, pe_slice sl_list p pl ph, fun env s ca F P H σ Q m sl q => ?_⟩
  refine h env s ca F P H σ _ m sl (Post.imp (Post.seq q) fun x s1 ca1 F1 H1 k1 k2 m1 q v rv => ?_)
  refine hl env s1 ca1 F1 P H1 σ _ m1 (sl.mono k1 k2) (Post.imp (Post.seq q) fun i s2 ca2 F2 H2 l1 l2 m2 q => ?_)
  refine hh env s2 ca2 F2 P H2 σ _ m2 ((sl.mono k1 k2).mono l1 l2) (Post.imp (Post.seq q) fun j s3 ca3 F3 H3 n1 n2 m3 q => ?_)
  split at q
  · rename_i ds hd
    obtain ⟨a, xs, rfl, hq, rs⟩ := lis_rep hK m3 hd (Rep.mono (l1.trans n1) (l2.trans n2) _ _ rv)
    exact ⟨a, xs, rfl, hq, (newL_ok m3 (cut_rep rs i j) q).2⟩
  · exact q.elim
theorem rev_rep {ca : List Addr} {F : Hp} : ∀ {ds : List D} {vs : List V}, Reps g ca F ds vs → Reps g ca F ds.reverse vs.reverse
  | [], vs, r => by simp only [Reps] at r; subst r; exact .nil
  | d :: ds, vs, r => by
    simp only [Reps] at r
    obtain ⟨v, ws, rfl, r1, r2⟩ := r
    rw [List.reverse_cons, List.reverse_cons]
    exact (rev_rep r2).append (.one r1)
def mRevL (me : Env → S → Res D) : Env → S → Res D := fun env s => (me env s).bind fun x s1 => match lisOf s1 x with
  | some ds => newL ds.reverse s1
  | none => .stuck
theorem ev_revL {k : Nat} {p1 p2 p3 : Pos} (hK : g.K = X.K) (he : Ev X g E e me) : Ev X g E (.Subscript e (.Slice none none (some (.UnaryOp .USub (.Constant (.int 1) k p1) p2)) p3) pos) (mRevL me) := by
  obtain ⟨t, p, h⟩ := he
  refine ⟨_, pe_revL p, fun env s ca F P H σ Q m sl q => ?_⟩
  refine h env s ca F P H σ _ m sl (Post.imp (Post.seq q) fun x s1 ca1 F1 H1 k1 k2 m1 q v rv => ?_)
  split at q
  · rename_i ds hd
    obtain ⟨a, xs, rfl, hq, rs⟩ := lis_rep hK m1 hd rv
    exact ⟨a, xs, rfl, hq, (newL_ok m1 (rev_rep rs) q).2⟩
  · exact q.elim

/-! ### chains -/
theorem chain_run {f f' : D → D → S → Res D} {r r' : R2} {ta tb tc : TE}
    (ha : ∀ (env : Env) (s : S) (ca : List Addr) (F P H : Hp) (σ : L2.St) (Q : VK), Sim g ca F P s H → Slots g ca F env σ → Post g ca F P E (fun d _ ca' F' H' => ∀ v, Rep g ca' F' d v → Q v H') (ma env s) → ta σ H Q)
    (hb : ∀ (env : Env) (s : S) (ca : List Addr) (F P H : Hp) (σ : L2.St) (Q : VK), Sim g ca F P s H → Slots g ca F env σ → Post g ca F P E (fun d _ ca' F' H' => ∀ v, Rep g ca' F' d v → Q v H') (mb env s) → tb σ H Q)
    (hc : ∀ (env : Env) (s : S) (ca : List Addr) (F P H : Hp) (σ : L2.St) (Q : VK), Sim g ca F P s H → Slots g ca F env σ → Post g ca F P E (fun d _ ca' F' H' => ∀ v, Rep g ca' F' d v → Q v H') (mc env s) → tc σ H Q)
    (h1 : ∀ (x y : D) (s : S) (ca : List Addr) (F P H : Hp) (v u : V) (Q : VK), Sim g ca F P s H → Rep g ca F x v → Rep g ca F y u → Post g ca F P E (fun d _ ca' F' H' => ∀ w, Rep g ca' F' d w → Q w H') (f x y s) → r v u H Q)
    (h2 : ∀ (x y : D) (s : S) (ca : List Addr) (F P H : Hp) (v u : V) (Q : VK), Sim g ca F P s H → Rep g ca F x v → Rep g ca F y u → Post g ca F P E (fun d _ ca' F' H' => ∀ w, Rep g ca' F' d w → Q w H') (f' x y s) → r' v u H Q)
    {env : Env} {s : S} {ca : List Addr} {F P H : Hp} {σ : L2.St} {Q : VK} (m : Sim g ca F P s H) (sl : Slots g ca F env σ) (q : Post g ca F P E (fun d _ ca' F' H' => ∀ v, Rep g ca' F' d v → Q v H') (mChain f f' ma mb mc env s)) :
    tChain r r' ta tb tc σ H Q := by
  refine ha env s ca F P H σ _ m sl (Post.imp (Post.seq q) fun x s1 ca1 F1 H1 k1 k2 m1 q v rv => ?_)
  refine hb env s1 ca1 F1 P H1 σ _ m1 (sl.mono k1 k2) (Post.imp (Post.seq q) fun y s2 ca2 F2 H2 l1 l2 m2 q u ru => ?_)
  refine h1 x y s2 ca2 F2 P H2 v u _ m2 (Rep.mono l1 l2 _ _ rv) ru (Post.imp (Post.seq q) fun z s3 ca3 F3 H3 n1 n2 m3 q w rw' => ?_)
  cases z with
  | bl k =>
    simp only [Rep] at rw'
    refine ⟨k, rw', ?_⟩
    cases k with
    | true =>
      refine hc env s3 ca3 F3 P H3 σ _ m3 (((sl.mono k1 k2).mono l1 l2).mono n1 n2) (Post.imp (Post.seq q) fun w s4 ca4 F4 H4 o1 o2 m4 q u' ru' => ?_)
      exact h2 y w s4 ca4 F4 P H4 u u' Q m4 (Rep.mono (n1.trans o1) (n2.trans o2) _ _ ru) ru' q
    | false => exact q.now m3 _ rfl
  | _ => exact q.elim
theorem ev_chain {op op' : CmpOp} {f f' : D → D → S → Res D} (ho : OpD X g E (compareOp op) f) (ho' : OpD X g E (compareOp op') f') (ha : Ev X g E a ma) (hb : Ev X g E b mb) (hc : Ev X g E c mc)
    (hm : lastMarks [op, op'] [b, c] = false := by with_unfolding_all rfl) : Ev X g E (.Compare a [op, op'] [b, c] pos) (mChain f f' ma mb mc) := by
  obtain ⟨r, h1, h2⟩ := ho
  obtain ⟨r', h1', h2'⟩ := ho'
  obtain ⟨ta, pa, ha⟩ := ha
  obtain ⟨tb, pb, hb⟩ := hb
  obtain ⟨tc, pc, hc⟩ := hc
  exact ⟨_, pe_chain h1 h1' pa pb pc hm, fun env s ca F P H σ Q m sl q => chain_run ha hb hc h2 h2' m sl q⟩
theorem et_chain {op op' : CmpOp} {f f' : D → D → S → Res D} (ho : OpD X g E (compareOp op) f) (ho' : OpD X g E (compareOp op') f') (ha : Ev X g E a ma) (hb : Ev X g E b mb) (hc : Ev X g E c mc)
    (hm : lastMarks [op, op'] [b, c] = false := by with_unfolding_all rfl) : Et X g E (.Compare a [op, op'] [b, c] pos) (mB (mChain f f' ma mb mc)) := by
  obtain ⟨r, h1, h2⟩ := ho
  obtain ⟨r', h1', h2'⟩ := ho'
  obtain ⟨ta, pa, ha⟩ := ha
  obtain ⟨tb, pb, hb⟩ := hb
  obtain ⟨tc, pc, hc⟩ := hc
  refine ⟨_, pt_chain h1 h1' pa pb pc hm, fun env s ca F P H σ Q m sl q => ?_⟩
  refine chain_run (Q := fun x H' => ∃ k, x = .bl k ∧ Q k H') ha hb hc h2 h2' m sl (Post.imp (Post.seq q) fun x s1 ca1 F1 H1 _ _ m1 q v rv => ?_)
  cases x with
  | bl b => exact ⟨b, rv, q.now m1⟩
  | _ => exact q.elim

/-! ### a star in a display -/
def aStar (me : Env → S → Res D) (mr : Env → S → Res (List D)) : Env → S → Res (List D) := fun env s => (me env s).bind fun x s1 => match seqOf s1 x with
  | some ds => (mr env s1).bind fun xs s2 => .ok (ds ++ xs) s2
  | none => .stuck
theorem ea_star {p : Pos} (hK : g.K = X.K) (ha : Ev X g E e me) (hr : Ea X g E es mr) (hs : starEach (.Starred e p :: es) X.env = (true, eval e X.env) :: starEach es X.env := by rfl) : Ea X g E (.Starred e p :: es) (aStar me mr) := by
  obtain ⟨t, pt, h⟩ := ha
  obtain ⟨u, p', h'⟩ := hr
  refine ⟨_, StX.pa_star pt p' hs, fun env s ca F P H σ Q m sl q => ?_⟩
  refine h env s ca F P H σ _ m sl (Post.imp (Post.seq q) fun x s1 ca1 F1 H1 k1 k2 m1 q v rv => ?_)
  split at q
  · rename_i ds hd
    obtain ⟨a, xs, rfl, hq, rs⟩ := seq_rep' hK m1 hd rv
    refine ⟨a, xs, rfl, hq.symm, h' env s1 ca1 F1 P H1 σ _ m1 (sl.mono k1 k2) (Post.imp (Post.seq q) fun ys s2 ca2 F2 H2 l1 l2 m2 q2 vs rvs => ?_)⟩
    exact q2.now m2 _ ((Reps.mono l1 l2 _ _ rs).append rvs)
  · exact q.elim

/-! ### a list or a tuple is walked -/
def iLT (me : Env → S → Res D) : Env → S → Res (List D) := fun env s => (iLst me env s).or (iT me env s)
theorem iv_lt {tg : Expr} (hK : g.K = X.K) (h : Ev X g E e me) : Iv X g E tg e (iLT me) := by
  obtain ⟨w1, p1, h1⟩ := iv_l (tg := tg) hK h
  obtain ⟨w2, p2, h2⟩ := iv_t (tg := tg) hK h
  exact ⟨fun σ H R => w1 σ H R ∨ w2 σ H R, ⟨fun pins s σ H R I h => h.elim (p1.run pins s σ H R I) (p2.run pins s σ H R I)⟩, fun env s ca F P H σ R m sl q => q.or.imp (h1 env s ca F P H σ R m sl) (h2 env s ca F P H σ R m sl)⟩
end
end Pm
set_option Elab.async false
set_option linter.all false
set_option maxRecDepth 100000
set_option maxHeartbeats 2000000
/-! lists of ints, of rows: sum, sorted, min, max, count -/
namespace Pm
open PySem PySem.Spec PyProof.Rows L2
section
variable {X : Cx} {g : G} {E : XK} {a b c e : Expr} {es rest : List Expr} {ma mb mc me mo : Env → S → Res D} {mr : Env → S → Res (List D)} {pos apos : Pos}

def intsOf : List D → Option (List Int)
  | [] => some []
  | .int i :: ds => (intsOf ds).map (i :: ·)
  | _ => none
theorem intsOf_eq : ∀ {ds : List D} {ns : List Int}, intsOf ds = some ns → ds = ns.map D.int
  | [], ns, h => by simp only [intsOf, Option.some.injEq] at h; subst h; rfl
  | d :: ds, ns, h => by
    unfold intsOf at h
    split at h
    · rename_i heq; cases heq
    · rename_i i ds' heq
      cases heq
      rw [Option.map_eq_some_iff] at h
      obtain ⟨ms, h, rfl⟩ := h
      rw [intsOf_eq h]
      rfl
    · cases h
theorem intsOf_map : ∀ (ns : List Int), intsOf (ns.map D.int) = some ns
  | [] => rfl
  | n :: ns => by simp only [List.map_cons, intsOf, intsOf_map ns, Option.map_some]
theorem reps_ints {ca : List Addr} {F : Hp} : ∀ {ns : List Int} {vs : List V}, Reps g ca F (ns.map D.int) vs → vs = ns.map V.int
  | [], vs, r => by simp only [List.map_nil, Reps] at r; subst r; rfl
  | n :: ns, vs, r => by
    simp only [List.map_cons, Reps] at r
    obtain ⟨v, ws, rfl, r1, r2⟩ := r
    simp only [Rep] at r1
    subst r1
    rw [reps_ints r2]
    rfl
theorem ints_reps {ca : List Addr} {F : Hp} : ∀ (ns : List Int), Reps g ca F (ns.map D.int) (ns.map V.int)
  | [] => .nil
  | n :: ns => by simp only [List.map_cons]; exact .cons rep_int (ints_reps ns)

/-! ### sum -/
def rSumT (K : PySem.W.Frag) : List V → Hp → VK → Prop := fun vs H Q => ∃ (a : Addr) (ns : List Int), vs = [V.ref a] ∧ SqT K H a (ns.map V.int) ∧ Q (.int ns.sum) H
theorem cr_sumT (hc : X.calm = true) : CallR X (.builtin "sum") (rSumT X.K) := by
  intro pins s σ H vs us Q I r h
  obtain ⟨a, ns, rfl, hs, q⟩ := h
  obtain ⟨its, rv, hl, _⟩ := I.tuple hs
  rw [Vals.ref1 r]
  have hi : IntsAre its ns := rv.ints
  obtain ⟨xs, hx⟩ := hi.allInts.items
  have hn : numsOf (intItems xs).toList = ns := by rw [← hx]; exact hi.numsOf
  rw [nums_intItems] at hn
  rw [hx] at hl
  refine PySem.W.ktm_sumG (I.ok.hd hc) hl fun h' tk t' hk => ?_
  rw [preSum_eq, List.take_of_length_le (by simp), hn]
  exact ⟨.int ns.sum, H, I.kept hk, ⟨_, rfl⟩, q⟩
def bSum1 : List D → S → Res D := fun xs s => match xs with
  | [x] => match lisOf s x with
    | some ds => match intsOf ds with
      | some ns => .ok (.int ns.sum) s
      | none => .stuck
    | none => .stuck
  | _ => .stuck
def bSum2 : List D → S → Res D := fun xs s => match xs with
  | [x] => match tupOf x with
    | some ds => match intsOf ds with
      | some ns => .ok (.int ns.sum) s
      | none => .stuck
    | none => .stuck
  | _ => .stuck
def bSum : List D → S → Res D := fun xs s => (bSum1 xs s).or (bSum2 xs s)
theorem cd_sum (hK : g.K = X.K) (hc : X.calm = true) : CallD X g E (.builtin "sum") bSum := by
  refine CallD.or ⟨_, cr_sum hc, fun xs s ca F P H vs Q m rs p => ?_⟩ ⟨_, cr_sumT hc, fun xs s ca F P H vs Q m rs p => ?_⟩
  · unfold bSum1 at p
    split at p
    · split at p
      · rename_i ds hd
        split at p
        · rename_i ns hn
          obtain ⟨v, rfl, r⟩ := reps1 rs
          obtain ⟨a, ys, rfl, hq, rs'⟩ := lis_rep hK m hd r
          rw [intsOf_eq hn] at rs'
          rw [reps_ints rs'] at hq
          exact ⟨a, ns, rfl, hq, p.now m _ rfl⟩
        · exact p.elim
      · exact p.elim
    · exact p.elim
  · unfold bSum2 at p
    split at p
    · split at p
      · rename_i ds hd
        split at p
        · rename_i ns hn
          obtain ⟨v, rfl, r⟩ := reps1 rs
          obtain ⟨a, ys, rfl, hq, rs'⟩ := tup_rep hK m hd r
          rw [intsOf_eq hn] at rs'
          rw [reps_ints rs'] at hq
          exact ⟨a, ns, rfl, hq, p.now m _ rfl⟩
        · exact p.elim
      · exact p.elim
    · exact p.elim

/-! ### sorted, ints -/
def insN (x : Int) : List Int → List Int
  | [] => [x]
  | y :: ys => if x ≤ y then x :: y :: ys else y :: insN x ys
def srtN : List Int → List Int
  | [] => []
  | x :: xs => insN x (srtN xs)
theorem insN_perm (x : Int) : ∀ l : List Int, (insN x l).Perm (x :: l)
  | [] => .refl _
  | y :: ys => by
    unfold insN
    split
    · exact .refl _
    · exact ((insN_perm x ys).cons y).trans (.swap x y ys)
theorem srtN_perm : ∀ l : List Int, (srtN l).Perm l
  | [] => .refl _
  | x :: xs => (insN_perm x _).trans ((srtN_perm xs).cons x)
theorem insN_mem {x z : Int} {l : List Int} (h : z ∈ insN x l) : z = x ∨ z ∈ l := by
  have := (insN_perm x l).mem_iff.mp h
  simpa using this
theorem insN_sorted (x : Int) : ∀ l : List Int, l.Pairwise (· ≤ ·) → (insN x l).Pairwise (· ≤ ·)
  | [], _ => by simp [insN]
  | y :: ys, h => by
    unfold insN
    split
    · rename_i hxy
      refine List.pairwise_cons.mpr ⟨fun z hz => ?_, h⟩
      rcases List.mem_cons.mp hz with rfl | hz
      · exact hxy
      · exact Int.le_trans hxy (List.rel_of_pairwise_cons h hz)
    · rename_i hxy
      refine List.pairwise_cons.mpr ⟨fun z hz => ?_, insN_sorted x ys (List.pairwise_cons.mp h).2⟩
      rcases insN_mem hz with rfl | hz
      · omega
      · exact List.rel_of_pairwise_cons h hz
theorem srtN_sorted : ∀ l : List Int, (srtN l).Pairwise (· ≤ ·)
  | [] => List.Pairwise.nil
  | x :: xs => insN_sorted x _ (srtN_sorted xs)
theorem srtN_eq {ns ms : List Int} (h : ms.Perm ns) (hs : ms.Pairwise (· ≤ ·)) : ms = srtN ns :=
  List.Perm.eq_of_pairwise (fun _ _ _ _ a b => Int.le_antisymm a b) hs (srtN_sorted ns) (h.trans (srtN_perm ns).symm)
def bSortI : List D → S → Res D := fun xs s => match xs with
  | [x] => match lisOf s x with
    | some ds => match intsOf ds with
      | some ns => newL ((srtN ns).map D.int) s
      | none => .stuck
    | none => .stuck
  | _ => .stuck
theorem cd_sortI (hK : g.K = X.K) : CallD X g E (.builtin "sorted") bSortI := by
  refine ⟨_, cr_sortedI, fun xs s ca F P H vs Q m rs p => ?_⟩
  unfold bSortI at p
  split at p
  · split at p
    · rename_i ds hd
      split at p
      · rename_i ns hn
        obtain ⟨v, rfl, r⟩ := reps1 rs
        obtain ⟨a, ys, rfl, hq, rs'⟩ := lis_rep hK m hd r
        rw [intsOf_eq hn] at rs'
        rw [reps_ints rs'] at hq
        refine ⟨a, ns, rfl, hq, fun ns' q hp hs hn' => ?_⟩
        rw [srtN_eq hp hs]
        exact (newL_ok m (ints_reps (srtN ns)) p).2 q hn'
      · exact p.elim
    · exact p.elim
  · exact p.elim

/-! ### min of rows -/
def rowsOf : List D → Option (List (List Int))
  | [] => some []
  | .lst ds :: rs => match intsOf ds, rowsOf rs with
    | some ns, some ms => some (ns :: ms)
    | _, _ => none
  | _ => none
def rowD (ns : List Int) : D := .lst (ns.map D.int)
def rowP (ns : List Int) : PyData := .list (ns.map .int)
theorem rowsOf_eq : ∀ {ds : List D} {ms : List (List Int)}, rowsOf ds = some ms → ds = ms.map rowD
  | [], ms, h => by simp only [rowsOf, Option.some.injEq] at h; subst h; rfl
  | d :: ds, ms, h => by
    unfold rowsOf at h
    split at h
    · rename_i heq; cases heq
    · rename_i xs rs heq
      cases heq
      split at h
      · rename_i ns ms' h1 h2
        cases h
        rw [rowsOf_eq h2, intsOf_eq h1]
        rfl
      · cases h
    · cases h
theorem rep_row {K : PySem.W.Frag} (hK : g.K = K) {ca : List Addr} {F P H : Hp} {s : S} {ns : List Int} {v : V} (m : Sim g ca F P s H) (r : Rep g ca F (rowD ns) v) : Dp K H v (rowP ns) := by
  simp only [rowD, Rep] at r
  obtain ⟨a, xs, rfl, hF, rs⟩ := r
  rw [reps_ints rs] at hF
  refine .lst (.of (m.sub _ _ hF)) ?_
  clear hF rs m
  induction ns with
  | nil => exact .nil
  | cons n ns ih => exact .cons (.int n) ih
theorem reps_rows {K : PySem.W.Frag} (hK : g.K = K) {ca : List Addr} {F P H : Hp} {s : S} (m : Sim g ca F P s H) : ∀ {ms : List (List Int)} {vs : List V}, Reps g ca F (ms.map rowD) vs → DpAll K H vs (ms.map rowP)
  | [], vs, r => by simp only [List.map_nil, Reps] at r; subst r; exact .nil
  | ns :: ms, vs, r => by
    simp only [List.map_cons, Reps] at r
    obtain ⟨v, ws, rfl, r1, r2⟩ := r
    exact .cons (rep_row hK m r1) (reps_rows hK m r2)
def ltN : List Int → List Int → Bool
  | [], [] => false
  | [], _ :: _ => true
  | _ :: _, [] => false
  | x :: xs, y :: ys => if x < y then true else if y < x then false else ltN xs ys
theorem ltN_eq : ∀ xs ys : List Int, ltN xs ys = decide (xs < ys)
  | [], [] => by simp [ltN]
  | [], _ :: _ => by simp [ltN]
  | _ :: _, [] => by simp [ltN]
  | x :: xs, y :: ys => by
    unfold ltN
    split
    · rename_i h
      exact (decide_eq_true (List.cons_lt_cons_iff.mpr (.inl h))).symm
    · rename_i h
      split
      · rename_i h2
        refine (decide_eq_false fun z => ?_).symm
        rcases List.cons_lt_cons_iff.mp z with z | ⟨z, _⟩
        · exact h z
        · omega
      · rename_i h2
        have e : x = y := by omega
        subst e
        rw [ltN_eq xs ys]
        by_cases hz : xs < ys
        · rw [decide_eq_true hz, decide_eq_true (List.cons_lt_cons_iff.mpr (.inr ⟨rfl, hz⟩))]
        · rw [decide_eq_false hz]
          refine (decide_eq_false fun z => ?_).symm
          rcases List.cons_lt_cons_iff.mp z with z | ⟨_, z⟩
          · exact h z
          · exact hz z
theorem rowP_lt (xs ys : List Int) : PySem.W.dataLt (rowP xs) (rowP ys) = ltN xs ys := by
  rw [ltN_eq, ← PySem.W.dataLt_ints, rowP, rowP, PySem.W.dataLt_list]
  rfl
def minN (r : List Int) (rs : List (List Int)) : List Int := rs.foldl (fun a y => if ltN y a = true then y else a) r
theorem minD_rows (r : List Int) : ∀ rs : List (List Int), PySem.W.minD (rowP r) (rs.map rowP) = rowP (minN r rs) := by
  intro rs
  unfold PySem.W.minD minN
  induction rs generalizing r with
  | nil => rfl
  | cons k rs ih =>
    rw [List.map_cons, List.foldl_cons, List.foldl_cons, ← ih]
    (try dsimp only)
    rw [rowP_lt]
    congr 1
    split <;> rfl
theorem minN_mem (r : List Int) : ∀ rs : List (List Int), minN r rs ∈ r :: rs := by
  intro rs
  unfold minN
  induction rs generalizing r with
  | nil => exact List.mem_cons_self
  | cons k rs ih =>
    rw [List.foldl_cons]
    rcases List.mem_cons.mp (ih (if ltN k r = true then k else r)) with h | h
    · rw [h]
      split
      · exact List.mem_cons_of_mem _ List.mem_cons_self
      · exact List.mem_cons_self
    · exact List.mem_cons_of_mem _ (List.mem_cons_of_mem _ h)
theorem rows_alike (ms : List (List Int)) : PySem.W.AlikeAll (ms.map rowP) := by
  refine ⟨fun x hx y hy => ?_, fun x hx => ?_⟩
  · obtain ⟨ns, _, rfl⟩ := List.mem_map.mp hx
    obtain ⟨ks, _, rfl⟩ := List.mem_map.mp hy
    simp only [rowP, PySem.W.alike]
    exact PySem.W.alike_ints ns ks
  · obtain ⟨ns, _, rfl⟩ := List.mem_map.mp hx
    simp [rowP]
theorem rows_depth (ms : List (List Int)) : PyData.depthAll (ms.map rowP) ≤ 1 := by
  induction ms with
  | nil => simp [PyData.depthAll]
  | cons ns ms ih =>
    have e : PyData.depth (rowP ns) = 1 := by
      unfold rowP
      simp only [PyData.depth]
      rw [PySem.W.depth_ints]
    rw [List.map_cons, PyData.depthAll, e]
    omega
/-- min(xs) of rows of ints -/
def rMinR (K : PySem.W.Frag) : List V → Hp → VK → Prop := fun vs H Q => ∃ (a : Addr) (xs : List V) (r : List Int) (rs : List (List Int)), vs = [V.ref a] ∧ SqL K H a xs ∧ DpAll K H xs ((r :: rs).map rowP) ∧
  ∀ (i : Nat) (v : V), xs[i]? = some v → ((r :: rs)[i]? = some (minN r rs)) → Q v H
theorem vals_at {xs : List V} {us : List Value} (r : Vals xs us) : ∀ {i : Nat} {u : Value}, us[i]? = some u → ∃ v, xs[i]? = some v ∧ RelV v u := by
  induction r with
  | nil => intro i u h; simp at h
  | cons h1 h2 ih =>
    intro i u h
    cases i with
    | zero => simp at h; subst h; exact ⟨_, rfl, h1⟩
    | succ i => exact ih (by simpa using h)
theorem dpAll_at {K : PySem.W.Frag} {H : Hp} : ∀ {vs : List V} {ds : List PyData} {i : Nat} {v : V}, DpAll K H vs ds → vs[i]? = some v → ∃ d, ds[i]? = some d ∧ Dp K H v d
  | _, _, i, v, .nil, h => by simp at h
  | _, _, 0, v, .cons h1 h2, h => by simp at h; subst h; exact ⟨_, rfl, h1⟩
  | _, _, i + 1, v, .cons h1 h2, h => dpAll_at (i := i) h2 (by simpa using h)
theorem reads_keep_dp {pins : List (Addr × Obj)} {σ : L2.St} {H : Hp} {s' : Shared} (I : Inv X pins σ H s') {v : V} {d : PyData} {u : Value} (h : Dp X.K H v d) (r : RelV v u) : ∃ as, Reads s'.heap u d as := Dp.reads I d v u h r
theorem rowP_inj {a b : List Int} (h : rowP a = rowP b) : a = b := by
  simp only [rowP, PyData.list.injEq] at h
  exact List.map_inj_right (fun _ _ h => by injection h) |>.mp h
theorem cr_minR (hc : X.calm = true) (hu : X.A.units + 64 < cLine) : CallR X (.builtin "min") (rMinR X.K) := by
  intro pins s σ H vs us Q I r h
  obtain ⟨a, xs, x, rs, rfl, hs, hd, q⟩ := h
  obtain ⟨its, rv, hl, _⟩ := I.list hs
  rw [Vals.ref1 r]
  obtain ⟨as, hr⟩ := Dp.readsAll I _ _ _ hd rv
  have hdp := rows_depth (x :: rs)
  refine PySem.W.min_list_data (x := rowP x) (xs := rs.map rowP) (I.ok.hd hc) hl.isList (by simpa using hr) (rows_alike (x :: rs)) (by simp only [List.map_cons] at hdp; omega) fun i u h' tk bs hi hrd hk => ?_
  have hi' : its[i]? = some u := by simpa using hi
  obtain ⟨v, hv, rvu⟩ := vals_at rv hi'
  have I' : Inv X pins σ H { s with heap := h', toks := tk } := I.kept hk
  obtain ⟨d, hdi, hdv⟩ := dpAll_at hd hv
  obtain ⟨bs', hr'⟩ := reads_keep_dp I' hdv rvu
  rw [List.getElem?_map, Option.map_eq_some_iff] at hdi
  obtain ⟨ns, hns, rfl⟩ := hdi
  rw [minD_rows] at hrd
  have e : rowP ns = rowP (minN x rs) := PySem.W.alike_unique _ _ _ _ _ (by simp only [rowP, PySem.W.alike]; exact PySem.W.alike_ints _ _) hr' hrd
  exact ⟨v, H, I', rvu, q i v hv (by rw [hns, rowP_inj e])⟩
def bMinR : List D → S → Res D := fun xs s => match xs with
  | [x] => match lisOf s x with
    | some ds => match rowsOf ds with
      | some (r :: rs) => .ok (rowD (minN r rs)) s
      | _ => .stuck
    | none => .stuck
  | _ => .stuck
theorem cd_minR (hK : g.K = X.K) (hc : X.calm = true) (hu : X.A.units + 64 < cLine) : CallD X g E (.builtin "min") bMinR := by
  refine ⟨_, cr_minR hc hu, fun xs s ca F P H vs Q m rs p => ?_⟩
  unfold bMinR at p
  split at p
  · split at p
    · rename_i ds hd
      split at p
      · rename_i r rs0 hn
        obtain ⟨v, rfl, rr⟩ := reps1 rs
        obtain ⟨a, ys, rfl, hq, rs'⟩ := lis_rep hK m hd rr
        rw [rowsOf_eq hn] at rs'
        refine ⟨a, ys, r, rs0, rfl, hq, reps_rows hK m rs', fun i v hv hi => ?_⟩
        obtain ⟨d, hd', rd⟩ := rs'.get' hv
        rw [List.getElem?_map, hi, Option.map_some] at hd'
        cases hd'
        exact p.now m _ rd
      · exact p.elim
    · exact p.elim
  · exact p.elim
/-- min, max of a list of ints -/
def minI1 : Int → List Int → Int
  | x, [] => x
  | x, y :: ys => minI1 (if y < x then y else x) ys
theorem minI1_ok : ∀ (x : Int) (ys : List Int) (m : Int), m ∈ x :: ys → (∀ y, y ∈ x :: ys → m ≤ y) → m = minI1 x ys
  | x, [], m, h, _ => by simpa [minI1] using h
  | x, y :: ys, m, h, hl => by
    unfold minI1
    refine minI1_ok _ ys m ?_ fun z hz => ?_
    · have h1 := hl x (by simp)
      have h2 := hl y (by simp)
      split
      · rename_i hxy
        rcases List.mem_cons.mp h with rfl | h
        · omega
        · exact h
      · rename_i hxy
        rcases List.mem_cons.mp h with rfl | h
        · exact List.mem_cons_self
        · rcases List.mem_cons.mp h with rfl | h
          · have : x = m := by omega
            subst this
            exact List.mem_cons_self
          · exact List.mem_cons_of_mem _ h
    · rcases List.mem_cons.mp hz with rfl | hz
      · split
        · exact hl _ (by simp)
        · exact hl _ (by simp)
      · exact hl z (by simp [hz])
def maxI1 : Int → List Int → Int
  | x, [] => x
  | x, y :: ys => maxI1 (if x < y then y else x) ys
theorem maxI1_ok : ∀ (x : Int) (ys : List Int) (m : Int), m ∈ x :: ys → (∀ y, y ∈ x :: ys → y ≤ m) → m = maxI1 x ys
  | x, [], m, h, _ => by simpa [maxI1] using h
  | x, y :: ys, m, h, hl => by
    unfold maxI1
    refine maxI1_ok _ ys m ?_ fun z hz => ?_
    · have h1 := hl x (by simp)
      have h2 := hl y (by simp)
      split
      · rename_i hxy
        rcases List.mem_cons.mp h with rfl | h
        · omega
        · exact h
      · rename_i hxy
        rcases List.mem_cons.mp h with rfl | h
        · exact List.mem_cons_self
        · rcases List.mem_cons.mp h with rfl | h
          · have : x = m := by omega
            subst this
            exact List.mem_cons_self
          · exact List.mem_cons_of_mem _ h
    · rcases List.mem_cons.mp hz with rfl | hz
      · split
        · exact hl _ (by simp)
        · exact hl _ (by simp)
      · exact hl z (by simp [hz])
def bBestI (f : Int → List Int → Int) : List D → S → Res D := fun xs s => match xs with
  | [x] => match lisOf s x with
    | some ds => match intsOf ds with
      | some (n :: ns) => .ok (.int (f n ns)) s
      | _ => .stuck
    | none => .stuck
  | _ => .stuck
theorem cd_minI (hK : g.K = X.K) (hc : X.calm = true) : CallD X g E (.builtin "min") (bBestI minI1) := by
  refine ⟨_, cr_min hc, fun xs s ca F P H vs Q m rs p => ?_⟩
  unfold bBestI at p
  split at p
  · split at p
    · rename_i ds hd
      split at p
      · rename_i n ns hn
        obtain ⟨v, rfl, r⟩ := reps1 rs
        obtain ⟨a, ys, rfl, hq, rs'⟩ := lis_rep hK m hd r
        rw [intsOf_eq hn] at rs'
        rw [reps_ints rs'] at hq
        exact ⟨a, n :: ns, rfl, hq, by simp, fun k h1 h2 => p.now m _ (by rw [minI1_ok n ns k h1 h2]; exact rep_int)⟩
      · exact p.elim
    · exact p.elim
  · exact p.elim
theorem cd_maxI (hK : g.K = X.K) (hc : X.calm = true) : CallD X g E (.builtin "max") (bBestI maxI1) := by
  refine ⟨_, cr_max hc, fun xs s ca F P H vs Q m rs p => ?_⟩
  unfold bBestI at p
  split at p
  · split at p
    · rename_i ds hd
      split at p
      · rename_i n ns hn
        obtain ⟨v, rfl, r⟩ := reps1 rs
        obtain ⟨a, ys, rfl, hq, rs'⟩ := lis_rep hK m hd r
        rw [intsOf_eq hn] at rs'
        rw [reps_ints rs'] at hq
        exact ⟨a, n :: ns, rfl, hq, by simp, fun k h1 h2 => p.now m _ (by rw [maxI1_ok n ns k h1 h2]; exact rep_int)⟩
      · exact p.elim
    · exact p.elim
  · exact p.elim
def bMin1 : List D → S → Res D := fun xs s => (bBestI minI1 xs s).or (bMinR xs s)
theorem cd_min1 (hK : g.K = X.K) (hc : X.calm = true) (hu : X.A.units + 64 < cLine) : CallD X g E (.builtin "min") bMin1 := (cd_minI hK hc).or (cd_minR hK hc hu)

/-! ### xs.count(x) -/
def rCountD (K : PySem.W.Frag) : V → List V → Hp → VK → Prop := fun x xs H Q => ∃ (a : Addr) (ys : List V) (y : V) (ds : List PyData) (d : PyData), x = .ref a ∧ xs = [y] ∧ SqL K H a ys ∧ DpAll K H ys ds ∧ Dp K H y d ∧
  PyData.plainAll ds = true ∧ d.plain = true ∧ d.depth ≤ 32 ∧ Q (.int ((ds.countP fun z => PyData.eqv z d : Nat) : Int)) H
theorem mt_countD (hu : X.A.units + 64 < cLine) : MtR X "list.count" (rCountD X.K) := by
  intro pins s σ H x xs v us Q I rx rxs h
  obtain ⟨a, ys, y, ds, d, rfl, rfl, hs, hds, hd, h1, h2, h3, q⟩ := h
  cases rx
  obtain ⟨u, rfl, ru⟩ := rxs.one
  obtain ⟨its, rv, hl, _⟩ := I.list hs
  obtain ⟨as, r1⟩ := Dp.readsAll I _ _ _ hds rv
  obtain ⟨bs, r2⟩ := Dp.reads I d y u hd ru
  have hm : min (PyData.depthAll ds) d.depth ≤ d.depth := Nat.min_le_right _ _
  exact PySem.SeqAt.count_list_data hl.isList (by simpa using r1) r2 h1 h2 (by omega) ⟨.int _, H, I.tok _, ⟨_, rfl⟩, q⟩
def countF (ds : List D) (y : D) : Option Int := match toPys ds, toPy y with
  | some ps, some p => if (PyData.plainAll ps && p.plain && decide (p.depth ≤ 32)) = true then some ((ps.countP fun z => PyData.eqv z p : Nat) : Int) else none
  | _, _ => none
def mCount (mo : Env → S → Res D) (mr : Env → S → Res (List D)) : Env → S → Res D := fun env s => (mo env s).bind fun x s1 => match x with
  | .lst ds => (mr env s1).bind (fun ys s2 => match ys with
    | [y] => match countF ds y with
      | some n => .ok (.int n) s2
      | none => .stuck
    | _ => .stuck)
  | _ => .stuck
theorem ev_count (hK : g.K = X.K) (hu : X.A.units + 64 < cLine) {o : Expr} (ho : Ev X g E o mo) (ha : Ea X g E (e :: es) mr) (hbase : attributeBase o "count" X.env (eval o X.env) = eval o X.env := by rfl)
    (hfew : ((backTo pos (starEach (e :: es) X.env)).all (fun x => !x.1) && (backToKw pos (keywordEach [] X.env)).all (fun x => x.1.isSome)
      && decide ((e :: es).length + ([] : List Keyword).length + (if ([] : List Keyword).isEmpty then 0 else 1) < 30)) = true := by rfl)
    (hline : (apos.endLine == pos.line) = true := by rfl) (hs : starEach (e :: es) X.env = (false, eval e X.env) :: starEach es X.env := by rfl) (hplain : (backTo pos (starEach es X.env)).any (·.1) = false := by rfl) :
    Ev X g E (.Call (.Attribute o "count" apos) (e :: es) [] pos) (mCount mo mr) := by
  obtain ⟨t, p, h⟩ := ho
  obtain ⟨u, pa, ha⟩ := ha
  refine ⟨_, pe_bm PySem.F.plainAttrs_list PySem.F.slot_list_count PySem.F.type_list_count (mt_countD hu) p pa hbase hfew hline hs hplain, fun env s ca F P H σ Q m sl q => ?_⟩
  refine h env s ca F P H σ _ m sl (Post.imp (Post.seq q) fun x s1 ca1 F1 H1 k1 k2 m1 q v rv => ?_)
  cases x with
  | lst ds =>
    have rv' := rv
    simp only [Rep] at rv
    obtain ⟨a, xs, rfl, hF, rs⟩ := rv
    refine ⟨.inl ⟨rfl, xs, .of (m1.sub _ _ hF)⟩, ha env s1 ca1 F1 P H1 σ _ m1 (sl.mono k1 k2) (Post.imp (Post.seq q) fun ys s2 ca2 F2 H2 l1 l2 m2 q2 vs rs2 => ?_)⟩
    split at q2
    · rename_i y
      split at q2
      · rename_i n hn
        obtain ⟨w, rfl, rw'⟩ := reps1 rs2
        unfold countF at hn
        split at hn
        · rename_i ps p' hps hp
          split at hn
          · rename_i hc
            cases hn
            simp only [Bool.and_eq_true, decide_eq_true_eq] at hc
            exact ⟨a, xs, w, ps, p', rfl, rfl, .of (m2.sub _ _ (l2 _ _ hF)), dps_of hK m2.sub _ _ _ hps (Reps.mono l1 l2 _ _ rs), dp_of hK m2.sub _ _ _ hp rw', hc.1.1, hc.1.2, hc.2, q2.now m2 _ rep_int⟩
          · cases hn
        · cases hn
      · exact q2.elim
    · exact q2.elim
  | _ => exact q.elim

/-! ### odds -/
theorem bo_sorted : bootBuiltins "sorted" = some (.builtin "sorted") := by decide +kernel
def bReprS : List D → S → Res D := fun xs s => match xs with
  | [x] => if isSeqD x = true then bRepr [x] s else .stuck
  | _ => .stuck
theorem cd_reprS (hK : g.K = X.K) (hgd : X.A.guards = some []) (hu : X.A.units + 66 < cLine) : CallD X g E (.builtin "repr") bReprS := cd_reprD hK hgd hu
theorem clsF0 {K : PySem.W.Frag} {g : G} : ClsF K g 0 := ⟨fun _ h => absurd h (Nat.not_lt_zero _), fun _ _ h => absurd h (Nat.not_lt_zero _), fun _ _ _ h => absurd h (Nat.not_lt_zero _), fun _ _ h => absurd h (Nat.not_lt_zero _)⟩
end
end Pm
set_option Elab.async false
set_option linter.all false
set_option maxRecDepth 100000
set_option maxHeartbeats 2000000
/-! zip, enumerate, in, lcm, pop, factorial -/
namespace Pm
open PySem PySem.Spec PyProof.Rows L2
section
variable {X : Cx} {g : G} {E : XK} {a b c e e2 : Expr} {es rest : List Expr} {ma mb mc me mo : Env → S → Res D} {mr : Env → S → Res (List D)} {pos apos tpos : Pos} {elts : List Expr} {kk : Nat}
theorem _root_.L2.Room.un65 {k : Nat} {A : Around} (h : Room k A) : A.units + 65 < cLine := by have := h.un; omega
/-! ### zip -/
def zipD : List D → List D → List D
  | x :: xs, y :: ys => .tup [x, y] :: zipD xs ys
  | _, _ => []
theorem zipD_get : ∀ {xs ys : List D} {i : Nat} {d : D}, (zipD xs ys)[i]? = some d → ∃ x y, xs[i]? = some x ∧ ys[i]? = some y ∧ d = .tup [x, y]
  | [], ys, i, d, h => by cases ys <;> simp [zipD] at h
  | x :: xs, [], i, d, h => by simp [zipD] at h
  | x :: xs, y :: ys, 0, d, h => by simp [zipD] at h; exact ⟨x, y, rfl, rfl, h.symm⟩
  | x :: xs, y :: ys, i + 1, d, h => by
    obtain ⟨x', y', h1, h2, h3⟩ := zipD_get (xs := xs) (ys := ys) (i := i) (d := d) (by simpa [zipD] using h)
    exact ⟨x', y', by simpa using h1, by simpa using h2, h3⟩
theorem zipD_len : ∀ (xs ys : List D), (zipD xs ys).length = min xs.length ys.length
  | [], ys => by cases ys <;> simp [zipD]
  | x :: xs, [] => by simp [zipD]
  | x :: xs, y :: ys => by simp [zipD, zipD_len xs ys]
theorem pair_new {ca : List Addr} {F P H : Hp} {s : S} {T : Addr} {x y : D} {v u : V} (m : Sim g ca F P s H) (hT : H T = none) (rx : Rep g ca F x v) (ry : Rep g ca F y u) :
    Sub F (upd F T (.tup [v, u])) ∧ Sim g ca (upd F T (.tup [v, u])) P s (upd H T (.tup [v, u])) ∧ Rep g ca (upd F T (.tup [v, u])) (.tup [x, y]) (.ref T) := by
  have hs : Sub F (upd F T (.tup [v, u])) := Sub.new (m.sub.free hT)
  refine ⟨hs, m.fresh _ hT, ?_⟩
  simp only [Rep]
  exact ⟨T, [v, u], rfl, upd_same, Reps.mono List.prefix_rfl hs _ _ (.cons rx (.cons ry .nil))⟩
theorem walks_z {ca : List Addr} {F : Hp} {p q : Addr} {xs ys : List V} {ds us : List D} {K : PySem.W.Frag} (hK : g.K = K) (h1 : SqL g.K F p xs) (h2 : SqL g.K F q ys) (r1 : Reps g ca F ds xs) (r2 : Reps g ca F us ys) : Walks g ca F (Itz K p q) (zipD ds us) := fun i ca' F' P H' s hc hF m => by
  have s1 : SqL K H' p xs := hK ▸ same_l (hF.trans m.sub) h1
  have s2 : SqL K H' q ys := hK ▸ same_l (hF.trans m.sub) h2
  refine ⟨fun d hd => ?_, fun hl => ⟨xs, ys, s1, s2, by rw [← r1.length, ← r2.length]; rw [zipD_len] at hl; omega⟩⟩
  obtain ⟨x, y, hx, hy, rfl⟩ := zipD_get hd
  obtain ⟨v, hv, rv⟩ := r1.get hx
  obtain ⟨u, hu, ru⟩ := r2.get hy
  refine ⟨⟨xs, ys, v, u, s1, s2, hv, hu⟩, fun z H'' hyd => ?_⟩
  obtain ⟨T, v', u', rfl, hT, rfl, f1, f2⟩ := hyd
  have e1 := f1 xs s1
  have e2 := f2 ys s2
  rw [hv] at e1; rw [hu] at e2
  cases e1; cases e2
  obtain ⟨k1, k2, k3⟩ := pair_new m hT (Rep.mono hc hF _ _ rv) (Rep.mono hc hF _ _ ru)
  exact ⟨_, k1, k2, k3⟩
theorem walks_zT {ca : List Addr} {F : Hp} {p q : Addr} {xs ys : List V} {ds us : List D} {K : PySem.W.Frag} (hK : g.K = K) (h1 : SqT g.K F p xs) (h2 : SqT g.K F q ys) (r1 : Reps g ca F ds xs) (r2 : Reps g ca F us ys) : Walks g ca F (RZ.ItzT K p q) (zipD ds us) := fun i ca' F' P H' s hc hF m => by
  have s1 : SqT K H' p xs := hK ▸ same_t (hF.trans m.sub) h1
  have s2 : SqT K H' q ys := hK ▸ same_t (hF.trans m.sub) h2
  refine ⟨fun d hd => ?_, fun hl => ⟨xs, ys, s1, s2, by rw [← r1.length, ← r2.length]; rw [zipD_len] at hl; omega⟩⟩
  obtain ⟨x, y, hx, hy, rfl⟩ := zipD_get hd
  obtain ⟨v, hv, rv⟩ := r1.get hx
  obtain ⟨u, hu, ru⟩ := r2.get hy
  refine ⟨⟨xs, ys, v, u, s1, s2, hv, hu⟩, fun z H'' hyd => ?_⟩
  obtain ⟨T, v', u', rfl, hT, rfl, f1, f2⟩ := hyd
  have e1 := f1 xs s1
  have e2 := f2 ys s2
  rw [hv] at e1; rw [hu] at e2
  cases e1; cases e2
  obtain ⟨k1, k2, k3⟩ := pair_new m hT (Rep.mono hc hF _ _ rv) (Rep.mono hc hF _ _ ru)
  exact ⟨_, k1, k2, k3⟩
/-- a list that stands still, a tuple -/
inductive SqK where
  | l (ds : List D) | t (ds : List D) | no
def sqK : D → SqK
  | .lst ds => .l ds
  | .ro ds => .l ds
  | .tup ds => .t ds
  | .rot ds => .t ds
  | _ => .no
theorem sqK_l {ca : List Addr} {F : Hp} {d : D} {ds : List D} {v : V} (h : sqK d = .l ds) (r : Rep g ca F d v) : ∃ a xs, v = .ref a ∧ SqL g.K F a xs ∧ Reps g ca F ds xs := by
  cases d <;> simp only [sqK, SqK.l.injEq, reduceCtorEq] at h
  · subst h; simp only [Rep] at r; obtain ⟨a, xs, rfl, hF, rs⟩ := r; exact ⟨a, xs, rfl, .of hF, rs⟩
  · subst h; simp only [Rep] at r; obtain ⟨a, xs, rfl, hF, rs⟩ := r; exact ⟨a, xs, rfl, hF, rs⟩
theorem sqK_t {ca : List Addr} {F : Hp} {d : D} {ds : List D} {v : V} (h : sqK d = .t ds) (r : Rep g ca F d v) : ∃ a xs, v = .ref a ∧ SqT g.K F a xs ∧ Reps g ca F ds xs := by
  cases d <;> simp only [sqK, SqK.t.injEq, reduceCtorEq] at h
  · subst h; simp only [Rep] at r; obtain ⟨a, xs, rfl, hF, rs⟩ := r; exact ⟨a, xs, rfl, .of hF, rs⟩
  · subst h; simp only [Rep] at r; obtain ⟨a, xs, rfl, hF, rs⟩ := r; exact ⟨a, xs, rfl, hF, rs⟩
def zipF : List D → S → Res (List D) := fun ds s => match ds with
  | [x, y] => match sqK x, sqK y with
    | .l xs, .l ys => .ok (zipD xs ys) s
    | .t xs, .t ys => .ok (zipD xs ys) s
    | _, _ => .stuck
  | _ => .stuck
def iZipM (mr : Env → S → Res (List D)) : Env → S → Res (List D) := fun env s => (mr env s).bind zipF
theorem iv_zip {p : Pos} (hK : g.K = X.K) (hg : Gl X "zip") (hm : X.mg "zip" = none) (ha : Ea X g E [e, e2] mr)
    (hs : starEach [e, e2] X.env = (false, eval e X.env) :: starEach [e2] X.env := by rfl) (hpl : (backTo pos (starEach [e2] X.env)).any (·.1) = false := by rfl) :
    Iv X g E (.Tuple elts kk tpos) (.Call (.Name "zip" p) [e, e2] [] pos) (iZipM mr) := by
  obtain ⟨t, pa, ha⟩ := ha
  refine ⟨_, RZ.pi_zipA hg hm pa hs hpl, fun env s ca F P H σ R m sl q => ?_⟩
  refine ha env s ca F P H σ _ m sl (Post.imp (Post.seq q) fun ds s1 ca1 F1 H1 k1 k2 m1 q1 vs rs => ?_)
  unfold zipF at q1
  split at q1
  · rename_i x y
    obtain ⟨v, u, rfl, rx, ry⟩ := reps2 rs
    split at q1
    · rename_i xs ys hx hy
      obtain ⟨a1, zs, rfl, h1, r1⟩ := sqK_l hx rx
      obtain ⟨b1, ws, rfl, h2, r2⟩ := sqK_l hy ry
      exact ⟨a1, b1, zs, ws, rfl, .inl ⟨hK ▸ same_l m1.sub h1, hK ▸ same_l m1.sub h2, q1.now m1 _ (walks_z hK h1 h2 r1 r2)⟩⟩
    · rename_i xs ys hx hy
      obtain ⟨a1, zs, rfl, h1, r1⟩ := sqK_t hx rx
      obtain ⟨b1, ws, rfl, h2, r2⟩ := sqK_t hy ry
      exact ⟨a1, b1, zs, ws, rfl, .inr ⟨hK ▸ same_t m1.sub h1, hK ▸ same_t m1.sub h2, q1.now m1 _ (walks_zT hK h1 h2 r1 r2)⟩⟩
    · exact q1.elim
  · exact q1.elim
/-! ### enumerate of a list -/
def enumD : Nat → List D → List D
  | _, [] => []
  | n, x :: xs => .tup [.int (n : Nat), x] :: enumD (n + 1) xs
theorem enumD_get : ∀ {xs : List D} {n i : Nat} {d : D}, (enumD n xs)[i]? = some d → ∃ x, xs[i]? = some x ∧ d = .tup [.int ((n + i : Nat) : Int), x]
  | [], n, i, d, h => by simp [enumD] at h
  | x :: xs, n, 0, d, h => by simp [enumD] at h; exact ⟨x, rfl, h.symm⟩
  | x :: xs, n, i + 1, d, h => by
    obtain ⟨y, h1, h2⟩ := enumD_get (xs := xs) (n := n + 1) (i := i) (d := d) (by simpa [enumD] using h)
    refine ⟨y, by simpa using h1, ?_⟩
    rw [h2, show n + 1 + i = n + (i + 1) by omega]
theorem enumD_len : ∀ (n : Nat) (xs : List D), (enumD n xs).length = xs.length
  | _, [] => rfl
  | n, x :: xs => by simp [enumD, enumD_len (n + 1) xs]
theorem walks_e {ca : List Addr} {F : Hp} {p : Addr} {xs : List V} {ds : List D} {K : PySem.W.Frag} (hK : g.K = K) (h1 : SqL g.K F p xs) (r1 : Reps g ca F ds xs) : Walks g ca F (Ite K p) (enumD 0 ds) := fun i ca' F' P H' s hc hF m => by
  have s1 : SqL K H' p xs := hK ▸ same_l (hF.trans m.sub) h1
  refine ⟨fun d hd => ?_, fun hl => ⟨xs, s1, by rw [← r1.length]; rw [enumD_len] at hl; omega⟩⟩
  obtain ⟨x, hx, rfl⟩ := enumD_get hd
  obtain ⟨v, hv, rv⟩ := r1.get hx
  refine ⟨⟨xs, v, s1, hv⟩, fun z H'' hyd => ?_⟩
  obtain ⟨T, v', rfl, hT, rfl, f1⟩ := hyd
  have e1 := f1 xs s1
  rw [hv] at e1
  cases e1
  obtain ⟨k1, k2, k3⟩ := pair_new m hT (rep_int (i := ((0 + i : Nat) : Int))) (Rep.mono hc hF _ _ rv)
  rw [Nat.zero_add] at k1 k2 k3 ⊢
  exact ⟨_, k1, k2, k3⟩
def enumF : List D → S → Res (List D) := fun ds s => match ds with
  | [x] => match sqK x with
    | .l xs => .ok (enumD 0 xs) s
    | _ => .stuck
  | _ => .stuck
def iEnumM (mr : Env → S → Res (List D)) : Env → S → Res (List D) := fun env s => (mr env s).bind enumF
theorem iv_enum {p : Pos} (hK : g.K = X.K) (hg : Gl X "enumerate") (hm : X.mg "enumerate" = none) (ha : Ea X g E [e] mr) (hs : starEach [e] X.env = [(false, eval e X.env)] := by rfl) :
    Iv X g E (.Tuple elts kk tpos) (.Call (.Name "enumerate" p) [e] [] pos) (iEnumM mr) := by
  obtain ⟨t, pa, ha⟩ := ha
  refine ⟨_, pi_enum hg hm pa hs, fun env s ca F P H σ R m sl q => ?_⟩
  refine ha env s ca F P H σ _ m sl (Post.imp (Post.seq q) fun ds s1 ca1 F1 H1 k1 k2 m1 q1 vs rs => ?_)
  unfold enumF at q1
  split at q1
  · split at q1
    · rename_i xs hx
      obtain ⟨v, rfl, rx⟩ := reps1 rs
      obtain ⟨a1, zs, rfl, h1, r1⟩ := sqK_l hx rx
      exact ⟨a1, zs, rfl, hK ▸ same_l m1.sub h1, q1.now m1 _ (walks_e hK h1 r1)⟩
    · exact q1.elim
  · exact q1.elim

/-! ### in, not in, of data -/
def rInDT (K : PySem.W.Frag) : R2 := fun x y H Q => ∃ d ds, Dp K H x d ∧ Dp K H y (.tuple ds) ∧ SeqAt.shaped d = true ∧ SeqAt.shaped (.tuple ds) = true ∧ Q (.bl (ds.any fun z => PyData.eqv z d)) H
def rNotInDT (K : PySem.W.Frag) : R2 := fun x y H Q => ∃ d ds, Dp K H x d ∧ Dp K H y (.tuple ds) ∧ SeqAt.shaped d = true ∧ SeqAt.shaped (.tuple ds) = true ∧ Q (.bl (!ds.any fun z => PyData.eqv z d)) H
theorem op_inDT (hu : X.A.units + 65 < cLine) : OpR X (compareOp .In) (rInDT X.K) := by
  intro pins s σ H x y v u Q I rx ry ⟨d, ds, hd, he, sd, se, q⟩
  obtain ⟨as, r1⟩ := Dp.reads I d x v hd rx
  obtain ⟨bs, r2⟩ := Dp.reads I _ y u he ry
  exact SeqAt.in_tuple_reads r2 r1 (SeqAt.canLay_of_shaped se) (SeqAt.canLay_of_shaped sd) (room_in_shaped sd hu) ⟨.bl _, H, I, rfl, q⟩
theorem op_notInDT (hu : X.A.units + 65 < cLine) : OpR X (compareOp .NotIn) (rNotInDT X.K) := by
  intro pins s σ H x y v u Q I rx ry ⟨d, ds, hd, he, sd, se, q⟩
  obtain ⟨as, r1⟩ := Dp.reads I d x v hd rx
  obtain ⟨bs, r2⟩ := Dp.reads I _ y u he ry
  exact SeqAt.notIn_tuple_reads r2 r1 (SeqAt.canLay_of_shaped se) (SeqAt.canLay_of_shaped sd) (room_in_shaped sd hu) ⟨.bl _, H, I, rfl, q⟩
def inDl (neg : Bool) : D → D → S → Res D := fun x y s => match toPy x, toPy y with
  | some d, some (.list ds) => if (SeqAt.shaped d && SeqAt.shaped (.list ds)) = true then .ok (.bl (if neg then !(ds.any fun z => PyData.eqv z d) else ds.any fun z => PyData.eqv z d)) s else .stuck
  | _, _ => .stuck
def inDt (neg : Bool) : D → D → S → Res D := fun x y s => match toPy x, toPy y with
  | some d, some (.tuple ds) => if (SeqAt.shaped d && SeqAt.shaped (.tuple ds)) = true then .ok (.bl (if neg then !(ds.any fun z => PyData.eqv z d) else ds.any fun z => PyData.eqv z d)) s else .stuck
  | _, _ => .stuck
def inDD (neg : Bool) : D → D → S → Res D := fun x y s => (inDl neg x y s).or (inDt neg x y s)
theorem od_in (hK : g.K = X.K) (hu : X.A.units + 65 < cLine) : OpD X g E (compareOp .In) (inDD false) := by
  refine OpD.or ⟨_, op_inD hu, fun x y s ca F P H v u Q m rx ry p => ?_⟩ ⟨_, op_inDT hu, fun x y s ca F P H v u Q m rx ry p => ?_⟩
  · unfold inDl at p
    split at p
    · rename_i d ds hd hs
      split at p
      · rename_i hc
        rw [Bool.and_eq_true] at hc
        exact ⟨d, ds, dp_of hK m.sub _ _ _ hd rx, dp_of hK m.sub _ _ _ hs ry, hc.1, hc.2, p.now m _ rep_bl⟩
      · exact p.elim
    · exact p.elim
  · unfold inDt at p
    split at p
    · rename_i d ds hd hs
      split at p
      · rename_i hc
        rw [Bool.and_eq_true] at hc
        exact ⟨d, ds, dp_of hK m.sub _ _ _ hd rx, dp_of hK m.sub _ _ _ hs ry, hc.1, hc.2, p.now m _ rep_bl⟩
      · exact p.elim
    · exact p.elim
theorem od_notin (hK : g.K = X.K) (hu : X.A.units + 65 < cLine) : OpD X g E (compareOp .NotIn) (inDD true) := by
  refine OpD.or ⟨_, op_notInD hu, fun x y s ca F P H v u Q m rx ry p => ?_⟩ ⟨_, op_notInDT hu, fun x y s ca F P H v u Q m rx ry p => ?_⟩
  · unfold inDl at p
    split at p
    · rename_i d ds hd hs
      split at p
      · rename_i hc
        rw [Bool.and_eq_true] at hc
        exact ⟨d, ds, dp_of hK m.sub _ _ _ hd rx, dp_of hK m.sub _ _ _ hs ry, hc.1, hc.2, p.now m _ rep_bl⟩
      · exact p.elim
    · exact p.elim
  · unfold inDt at p
    split at p
    · rename_i d ds hd hs
      split at p
      · rename_i hc
        rw [Bool.and_eq_true] at hc
        exact ⟨d, ds, dp_of hK m.sub _ _ _ hd rx, dp_of hK m.sub _ _ _ hs ry, hc.1, hc.2, p.now m _ rep_bl⟩
      · exact p.elim
    · exact p.elim

/-! ### lcm, factorial -/
def rLcm : List V → Hp → VK → Prop := fun vs H Q => ∃ i j : Int, vs = [.int i, .int j] ∧ i.natAbs < 2 ^ 64 ∧ j.natAbs < 2 ^ 64 ∧ Q (.int ((Nat.lcm i.natAbs j.natAbs : Nat) : Int)) H
theorem cr_lcm : CallR X (.builtin "math.lcm") rLcm := by
  intro pins s σ H vs us Q I r h
  obtain ⟨i, j, rfl, h1, h2, q⟩ := h
  obtain ⟨t, u, rfl⟩ := Vals.int2 r
  exact PySem.W.mc_lcm h1 h2 fun _ => ⟨.int _, H, I.tok _, ⟨_, rfl⟩, q⟩
def bLcm : List D → S → Res D := fun xs s => match xs with
  | [.int i, .int j] => if decide (i.natAbs < 18446744073709551616 ∧ j.natAbs < 18446744073709551616) = true then .ok (.int ((i.natAbs / Nat.gcd i.natAbs j.natAbs * j.natAbs : Nat) : Int)) s else .stuck
  | _ => .stuck
theorem lcm_eq (m n : Nat) : m / Nat.gcd m n * n = Nat.lcm m n := by
  unfold Nat.lcm
  rw [Nat.mul_comm m n, Nat.mul_div_assoc _ (Nat.gcd_dvd_left m n), Nat.mul_comm]
theorem cd_lcm : CallD X g E (.builtin "math.lcm") bLcm := by
  refine ⟨_, cr_lcm, fun xs s ca F P H vs Q m rs p => ?_⟩
  unfold bLcm at p
  split at p
  · rename_i i j
    split at p
    · rename_i hc
      have hc := of_decide_eq_true hc
      obtain ⟨v, u, rfl, r, r'⟩ := reps2 rs
      simp only [Rep] at r r'
      subst r; subst r'
      exact ⟨i, j, rfl, hc.1, hc.2, p.now m _ (by rw [lcm_eq]; exact rep_int)⟩
    · exact p.elim
  · exact p.elim
end
end Pm
set_option Elab.async false
set_option linter.all false
set_option maxRecDepth 100000
set_option maxHeartbeats 2000000
/-! a comprehension of two clauses -/
namespace Pm
open PySem PySem.Spec PyProof.Rows L2
def few1 : Nat := 400
def few2 : Nat := 40000
def compL2 (own vs1 : List Nat) (mt : D → Env → Option Env) (tt : Env → S → Res Bool) (mi1 : Env → S → Res (List D)) (mt1 : D → Env → Option Env) (tt1 : Env → S → Res Bool) (me : Env → S → Res D) : List D → Env → S → Res (List D)
  | [], _, s => .ok [] s
  | d :: ds, env, s => match mt d (wipeE env own) with
    | none => .stuck
    | some e1 => (noexn (tt e1 s)).bind fun b s1 => if b = true then (noexn (mi1 e1 s1)).bind (fun ds1 s2 => if ds1.length ≤ few2 then (compL vs1 mt1 tt1 me ds1 e1 s2).bind (fun ys s3 => (compL2 own vs1 mt tt mi1 mt1 tt1 me ds env s3).bind fun zs s4 => .ok (ys ++ zs) s4) else .stuck) else compL2 own vs1 mt tt mi1 mt1 tt1 me ds env s1
def mComp2 (own vs1 : List Nat) (mi : Env → S → Res (List D)) (mt : D → Env → Option Env) (tt : Env → S → Res Bool) (mi1 : Env → S → Res (List D)) (mt1 : D → Env → Option Env) (tt1 : Env → S → Res Bool) (me : Env → S → Res D) : Env → S → Res D := fun env s =>
  (mi env s).bind fun ds s1 => if ds.length ≤ few1 then (compL2 own vs1 mt tt mi1 mt1 tt1 me ds env s1).bind finL else .stuck
theorem bind_assoc {α β γ : Type} (r : Res α) (f : α → S → Res β) (h : β → S → Res γ) : (r.bind f).bind h = r.bind fun a s => (f a s).bind h := by cases r <;> rfl
def tMI (g : G) (E : XK) (m : Env → S → Res (List D)) : TI := fun σ H R => ∃ env s ca F P, Sim g ca F P s H ∧ Slots g ca F env σ ∧ Post g ca F P E (fun ds _ ca' F' H' => ∀ J, Walks g ca' F' J ds → R J H') (m env s)
theorem Iv.pi {X : Cx} {g : G} {E : XK} {tg e : Expr} {m : Env → S → Res (List D)} (h : Iv X g E tg e m) : PI X tg e (tMI g E m) := by
  obtain ⟨w, p, h⟩ := h
  exact ⟨fun pins s σ H R I ⟨env, z, ca, F, P, q1, q2, q3⟩ => p.run pins s σ H R I (h env z ca F P H σ R q1 q2 q3)⟩
section
variable {X : Cx} {g : G} {E : XK} {elt tg iter tg1 iter1 : Expr} {ifs ifs1 : List Expr} {scope : Scope} {own : List (Str × Nat)} {pos : Pos} {w w1 : List Nat}
variable {mi mi1 : Env → S → Res (List D)} {mt mt1 : D → Env → Option Env} {tt tt1 : Env → S → Res Bool} {me : Env → S → Res D}
theorem wipe_eq {σ σ2 : L2.St} {vs w : List Nat} (hweq : WipeEq w (wipe σ vs) σ2) (hw : ∀ i ∈ w, i ∈ vs) : wipe σ2 vs = wipe σ vs := by
  rw [hweq vs hw]
  exact List.ext_getElem? fun j => by rw [wipe_get, wipe_get, wipe_length]; by_cases hj : j ∈ vs <;> simp [hj, wipe_get]
theorem comp2_run {wi : TI} {vs vs1 : List Nat} (hi : ∀ (env : Env) (s : S) (ca : List Addr) (F P H : Hp) (σ : L2.St) (R : It → Hp → Prop), Sim g ca F P s H → Slots g ca F env σ →
      Post g ca F P E (fun ds _ ca' F' H' => ∀ J, Walks g ca' F' J ds → R J H') (mi env s) → wi σ H R) (hw : ∀ i ∈ w, i ∈ vs) (hw1 : ∀ i ∈ w1, i ∈ vs1)
    {env : Env} {s : S} {ca : List Addr} {F P H : Hp} {σ : L2.St} {Q : VK} (m : Sim g ca F P s H) (sl : Slots g ca F env σ) (q : Post g ca F P E (fun d _ ca' F' H' => ∀ v, Rep g ca' F' d v → Q v H') (mComp2 vs vs1 mi mt tt mi1 mt1 tt1 me env s)) :
    tLc2 wi (tMG g w mt) (tMT g E0 tt) (tMI g E0 mi1) (tMG g w1 mt1) (tMT g E0 tt1) (tM g E0 me) vs vs1 σ H Q := by
  refine hi env s ca F P H σ _ m sl (Post.imp (Post.seq q) fun ds s1 ca1 F1 H1 k1 k2 m1 q1 J hwk => ?_)
  split at q1
  · rename_i hlen
    unfold few1 at hlen
    intro Dl hD
    have hP : P Dl = none := m1.fr.free hD
    refine ⟨fun i k H => k = ds.length - i ∧ i ≤ ds.length ∧ ∃ s ca F acc accD, ca1 <+: ca ∧ Sub F1 F ∧ Sim g ca F (upd P Dl (.lst acc)) s H ∧ Reps g ca F accD acc ∧ accD.length ≤ i * 40000 ∧
        Post g ca F P E (fun d _ ca' F' H' => ∀ v, Rep g ca' F' d v → Q v H') ((compL2 vs vs1 mt tt mi1 mt1 tt1 me (ds.drop i) env s).bind fun ys s2 => finL (accD ++ ys) s2),
      ⟨_, rfl, Nat.zero_le _, s1, ca1, F1, [], [], List.prefix_rfl, Sub.refl _, m1.frame0 hD, .nil, Nat.le_refl _, by simpa using q1⟩, ?_⟩
    rintro i k H ⟨rfl, hle, s, ca, F, acc, accD, hc1, hF1, m, ra, hal, q⟩
    obtain ⟨go1, go2⟩ := hwk i ca F _ H s hc1 hF1 m
    by_cases hlt : i < ds.length
    · obtain ⟨hgo, hy⟩ := go1 ds[i] (by simp [hlt])
      refine .inr ⟨hgo, fun H' => ∃ s ca F acc accD, ca1 <+: ca ∧ Sub F1 F ∧ Sim g ca F (upd P Dl (.lst acc)) s H' ∧ Reps g ca F accD acc ∧ accD.length ≤ (i + 1) * 40000 ∧
          Post g ca F P E (fun d _ ca' F' H' => ∀ v, Rep g ca' F' d v → Q v H') ((compL2 vs vs1 mt tt mi1 mt1 tt1 me (ds.drop (i + 1)) env s).bind fun ys s2 => finL (accD ++ ys) s2),
        fun H' hN => ⟨ds.length - (i + 1), by omega, rfl, hlt, hN⟩, fun x H' hyl => ?_⟩
      obtain ⟨F', hF', m', rx⟩ := hy x H' hyl
      rw [List.drop_eq_getElem_cons hlt] at q
      simp only [compL2] at q
      have slw : Slots g ca F' (wipeE env vs) (wipe σ vs) := slots_wipe ((sl.mono (k1.trans hc1) (k2.trans (hF1.trans hF')))) vs
      split at q
      · exact q.elim
      · rename_i e1 he1
        refine ⟨ds[i], wipeE env vs, e1, ca, F', _, s, m', slw, rx, he1, fun σ2 sl2 hweq => ⟨wipe_eq hweq hw, ?_⟩⟩
        refine ⟨e1, s, ca, F', _, m', sl2, ?_⟩
        have q := Post.later q (List.prefix_rfl) hF'
        rw [bind_assoc] at q
        refine Post.imp (Post.seqX q) fun b s3 ca3 F3 H3 l1 l2 m3 q3 => ?_
        cases b with
        | false =>
          exact ⟨s3, ca3, F3, acc, accD, hc1.trans l1, hF1.trans (hF'.trans l2), m3, Reps.mono l1 (hF'.trans l2) _ _ ra, by omega, q3⟩
        | true =>
          simp only [if_true] at q3 ⊢
          rw [bind_assoc] at q3
          refine ⟨e1, s3, ca3, F3, _, m3, sl2.mono l1 l2, ?_⟩
          refine Post.imp (Post.seqX q3) fun ds1 s4 ca4 F4 H4 n1 n2 m4 q4 J1 hwk1 => ?_
          split at q4
          · rename_i hlen1
            unfold few2 at hlen1
            have rac := Reps.mono (l1.trans n1) (hF'.trans (l2.trans n2)) _ _ ra
            refine ⟨fun j k H => k = ds1.length - j ∧ j ≤ ds1.length ∧ ∃ s ca F acc accD, ca4 <+: ca ∧ Sub F4 F ∧ Sim g ca F (upd P Dl (.lst acc)) s H ∧ Reps g ca F accD acc ∧ accD.length ≤ i * 40000 + j ∧
                Post g ca F P E (fun d _ ca' F' H' => ∀ v, Rep g ca' F' d v → Q v H') ((compL vs1 mt1 tt1 me (ds1.drop j) e1 s).bind fun ys s2 => (compL2 vs vs1 mt tt mi1 mt1 tt1 me (ds.drop (i + 1)) env s2).bind fun zs s3 => finL (accD ++ (ys ++ zs)) s3),
              ⟨_, rfl, Nat.zero_le _, s4, ca4, F4, acc, accD, List.prefix_rfl, Sub.refl _, m4, rac, by omega, ?_⟩, ?_⟩
            · rw [bind_assoc] at q4
              refine Eq.mp (congrArg (Post g ca4 F4 P E _) ?_) q4
              simp only [List.drop_zero]
              congr 1
              funext ys s5
              rw [bind_assoc]
              rfl
            rintro j k H ⟨rfl, hlej, s5, ca5, F5, acc5, accD5, hc5, hF5, m5, ra5, hal5, q5⟩
            obtain ⟨in1, in2⟩ := hwk1 j ca5 F5 _ H s5 hc5 hF5 m5
            by_cases hltj : j < ds1.length
            · obtain ⟨hgo1, hy1⟩ := in1 ds1[j] (by simp [hltj])
              refine .inr ⟨hgo1, fun H' => ∃ s ca F acc accD, ca4 <+: ca ∧ Sub F4 F ∧ Sim g ca F (upd P Dl (.lst acc)) s H' ∧ Reps g ca F accD acc ∧ accD.length ≤ i * 40000 + (j + 1) ∧
                  Post g ca F P E (fun d _ ca' F' H' => ∀ v, Rep g ca' F' d v → Q v H') ((compL vs1 mt1 tt1 me (ds1.drop (j + 1)) e1 s).bind fun ys s2 => (compL2 vs vs1 mt tt mi1 mt1 tt1 me (ds.drop (i + 1)) env s2).bind fun zs s3 => finL (accD ++ (ys ++ zs)) s3),
                fun H' hN => ⟨ds1.length - (j + 1), by omega, rfl, hltj, hN⟩, fun x1 H6 hyl1 => ?_⟩
              obtain ⟨F6, hF6, m6, rx6⟩ := hy1 x1 H6 hyl1
              rw [List.drop_eq_getElem_cons hltj] at q5
              simp only [compL] at q5
              have slw1 : Slots g ca5 F6 (wipeE e1 vs1) (wipe σ2 vs1) := slots_wipe (sl2.mono (l1.trans (n1.trans hc5)) (l2.trans (n2.trans (hF5.trans hF6)))) vs1
              split at q5
              · exact q5.elim
              · rename_i e2 he2
                refine ⟨ds1[j], wipeE e1 vs1, e2, ca5, F6, _, s5, m6, slw1, rx6, he2, fun σ3 sl3 hweq3 => ⟨wipe_eq hweq3 hw1, ?_⟩⟩
                refine ⟨e2, s5, ca5, F6, _, m6, sl3, ?_⟩
                have q5 := Post.later q5 (List.prefix_rfl) hF6
                rw [bind_assoc] at q5
                refine Post.imp (Post.seqX q5) fun b7 s7 ca7 F7 H7 o1 o2 m7 q7 => ?_
                cases b7 with
                | false => exact ⟨s7, ca7, F7, acc5, accD5, hc5.trans o1, hF5.trans (hF6.trans o2), m7, Reps.mono o1 (hF6.trans o2) _ _ ra5, by omega, q7⟩
                | true =>
                  simp only [if_true] at q7 ⊢
                  rw [bind_assoc] at q7
                  refine ⟨e2, s7, ca7, F7, _, m7, sl3.mono o1 o2, ?_⟩
                  refine Post.imp (Post.seqX q7) fun y s8 ca8 F8 H8 p1 p2 m8 q8 v rv => ?_
                  obtain ⟨hH, m9⟩ := m8.frame1 (o := .lst (acc5 ++ [v])) hP
                  have ra8 := Reps.mono (o1.trans p1) (hF6.trans (o2.trans p2)) _ _ ra5
                  have hsz : acc5.length < sizeLine := by
                    rw [← ra5.length]
                    refine line_lt ?_
                    unfold line
                    omega
                  refine ⟨acc5, hH, hsz, s8, ca8, F8, acc5 ++ [v], accD5 ++ [y], hc5.trans (o1.trans p1), hF5.trans (hF6.trans (o2.trans p2)), m9, ra8.append (.one rv), by simp; omega, ?_⟩
                  rw [bind_assoc] at q8
                  simpa [List.append_assoc] using q8
            · have he : j = ds1.length := by omega
              subst he
              rw [List.drop_length] at q5
              simp only [compL, Res.bind_ok, List.nil_append] at q5
              exact .inl ⟨in2 (Nat.le_refl _), s5, ca5, F5, acc5, accD5, hc1.trans (l1.trans (n1.trans hc5)), hF1.trans (hF'.trans (l2.trans (n2.trans hF5))), m5, ra5, by omega, q5⟩
          · exact q4.elim
    · have he : i = ds.length := by omega
      subst he
      rw [List.drop_length] at q
      simp only [compL2, Res.bind_ok, List.append_nil] at q
      exact .inl ⟨go2 (Nat.le_refl _), fin_l E ca F P H s Dl acc accD Q hP m ra q⟩
  · exact q1.elim
theorem ev_lc2 {vs1 : List Nat} (hc : X.calm = true) (hN : X.N.Nodup) (hi : Iv X g E tg iter mi) (ok : BlkOk X.N X.env.scope scope own) (hw : ∀ i ∈ w, i ∈ own.map (·.2)) (hv : ∀ i ∈ vs1, i ∈ own.map (·.2)) (hw1 : ∀ i ∈ w1, i ∈ vs1)
    (hg : ∀ (s : Shared) (H : Hp) (C : Addr) (cl : List (Str × Addr)) (fp : List Addr), Tn (X.blk s H scope (compEnvC scope cl C X.env) fp) g tg w mt)
    (ht : ∀ (s : Shared) (H : Hp) (C : Addr) (cl : List (Str × Addr)) (fp : List Addr), Ets (X.blk s H scope (compEnvC scope cl C X.env) fp) g E0 ifs tt)
    (hi1 : ∀ (s : Shared) (H : Hp) (C : Addr) (cl : List (Str × Addr)) (fp : List Addr), Iv (X.blk s H scope (compEnvC scope cl C X.env) fp) g E0 tg1 iter1 mi1)
    (hg1 : ∀ (s : Shared) (H : Hp) (C : Addr) (cl : List (Str × Addr)) (fp : List Addr), Tn (X.blk s H scope (compEnvC scope cl C X.env) fp) g tg1 w1 mt1)
    (ht1 : ∀ (s : Shared) (H : Hp) (C : Addr) (cl : List (Str × Addr)) (fp : List Addr), Ets (X.blk s H scope (compEnvC scope cl C X.env) fp) g E0 ifs1 tt1)
    (he : ∀ (s : Shared) (H : Hp) (C : Addr) (cl : List (Str × Addr)) (fp : List Addr), Ev (X.blk s H scope (compEnvC scope cl C X.env) fp) g E0 elt me)
    (hs : ∀ x, foldedSetIterable iter X.env x = pure x := by intro _; rfl) (hs1 : ∀ env x, foldedSetIterable iter1 env x = pure x := by intro _ _; rfl) :
    Ev X g E (.ListComp elt [⟨tg, iter, ifs, 0⟩, ⟨tg1, iter1, ifs1, 0⟩] scope pos) (mComp2 (own.map (·.2)) vs1 mi mt tt mi1 mt1 tt1 me) := by
  obtain ⟨wi, p, hi⟩ := hi
  exact ⟨_, pe_lc2 hc hN p ok hv (fun s H C cl fp => (hg s H C cl fp).pg) (fun s H C cl fp => ht s H C cl fp) (fun s H C cl fp => (hi1 s H C cl fp).pi) (fun s H C cl fp => (hg1 s H C cl fp).pg) (fun s H C cl fp => ht1 s H C cl fp) (fun s H C cl fp => (he s H C cl fp).pe) hs hs1, fun env s ca F P H σ Q m sl q => comp2_run hi hw hw1 m sl q⟩
end
end Pm
set_option Elab.async false
set_option linter.all false
set_option maxRecDepth 100000
set_option maxHeartbeats 2000000
/-! keywords in another sequence -/
namespace Pm
open PySem PySem.Spec PyProof.Rows L2
def perm {α : Type} (σ : List Nat) (l : List α) : List α := σ.filterMap (l[·]?)
theorem vals_get {xs : List V} {us : List Value} (r : Vals xs us) : ∀ {i : Nat} {x : V}, xs[i]? = some x → ∃ u, us[i]? = some u ∧ RelV x u := by
  induction r with
  | nil => intro i x h; simp at h
  | cons h1 h2 ih =>
    intro i x h
    cases i with
    | zero => simp at h; subst h; exact ⟨_, rfl, h1⟩
    | succ i => exact ih (by simpa using h)
theorem vals_perm {xs : List V} {us : List Value} (r : Vals xs us) : ∀ σ : List Nat, Vals (perm σ xs) (perm σ us)
  | [] => .nil
  | i :: σ => by
    have ih := vals_perm r σ
    unfold perm at ih ⊢
    cases hx : xs[i]? with
    | none =>
      have hu : us[i]? = none := by
        rw [List.getElem?_eq_none_iff] at hx ⊢
        rw [← r.length]
        exact hx
      simp only [List.filterMap_cons, hx, hu]
      exact ih
    | some x =>
      obtain ⟨u, hu, hr⟩ := vals_get r hx
      simp only [List.filterMap_cons, hx, hu]
      exact .cons hr ih
theorem reps_perm {g : G} {ca : List Addr} {F : Hp} {ds : List D} {vs : List V} (r : Reps g ca F ds vs) : ∀ σ : List Nat, Reps g ca F (perm σ ds) (perm σ vs)
  | [] => .nil
  | i :: σ => by
    have ih := reps_perm r σ
    unfold perm at ih ⊢
    cases hx : ds[i]? with
    | none =>
      have hu : vs[i]? = none := by
        rw [List.getElem?_eq_none_iff] at hx ⊢
        rw [← r.length]
        exact hx
      simp only [List.filterMap_cons, hx, hu]
      exact ih
    | some x =>
      obtain ⟨u, hu, hr⟩ := r.get hx
      simp only [List.filterMap_cons, hx, hu]
      exact .cons hr ih
/-- how a call by keywords alone, in this sequence, binds -/
def KBp (K : PySem.W.Frag) (fd : FuncData) (ps ks : List Str) (σ : List Nat) : Prop :=
  ∀ (s : Shared) (ws : List Value), K.In s.heap → ws.length = ks.length → BindsTo s fd ⟨[], ks.zip ws⟩ (ps.zip (perm σ ws))
section
variable {X : Cx} {g : G} {E : XK} {x : Str} {p pos : Pos} {kws : List Keyword} {mk : Env → S → Res (List D)} {CX : CXT} {k n : Nat} {f : Addr} {fd : FuncData} {ps ks : List Str} {ff : List D → S → Res D} {σ : List Nat}
def mKwP (σ : List Nat) (n j : Nat) (ff : List D → S → Res D) (mk : Env → S → Res (List D)) : Env → S → Res D := fun env s => (mk env s).bind fun ys s2 => if ys.length = j ∧ (perm σ ys).length = n then ff (perm σ ys) s2 else .stuck
theorem run_kwP {pins : List (Addr × Obj)} {τ : L2.St} {H : Hp} {s : Shared} {Q : VK} {ws : List Value} {zs : List V} {sp : Sp} (F : FnOk X.prog X.w X.K X.mg X.base CX k f fd ps sp) (hr : Room k X.A) (hb : KBp X.K fd ps ks σ) (hx : Passes CX X E)
    (I : Inv X pins τ H s) (rz : Vals zs ws) (hl : ws.length = ks.length) (h : sp (perm σ zs) H Q E) : wpAny (model X.prog X.w) X.A (call (.ref f) [] (ks.zip ws)) (EP X pins τ Q) X.xe s := by
  refine wpAny_call (codeAny_mono (F.run X.A X.stack s H ⟨[], ks.zip ws⟩ (perm σ ws) (perm σ zs) Q E hr I.env0 (hb s ws I.kIn hl) (vals_perm rz σ) h) fun r s' hq => ?_)
  cases r with
  | error e => exact hx pins τ H s e s' I hq
  | ok fl =>
    cases fl with
    | ret u => exact I.after hq
    | next => exact False.elim hq
    | brk => exact False.elim hq
    | cont => exact False.elim hq
theorem ev_kwP (Fk : FnOk X.prog X.w X.K X.mg X.base CX k f fd ps (spG g n ff)) (hr : Room k X.A) (hg : Gl X x) (hm : X.mg x = some (.ref f)) (hk : PySem.W.keepIn X.K (.ref f) = true) (hb : KBp X.K fd ps ks σ) (hx : Passes CX X E) (hkw : Ek X g E kws mk)
    (hall : (backToKw pos (keywordEach kws X.env)).all (·.1.isSome) = true := by rfl) (hks : (backToKw pos (keywordEach kws X.env)).filterMap (·.1) = ks := by rfl)
    (hdb : (x == ("__debug__" : Str)) = false := by decide) (hpl : ((backTo pos (starEach [] X.env)).any (·.1) || (backToKw pos (keywordEach kws X.env)).any (·.1.isNone)) = false := by rfl) :
    Ev X g E (.Call (.Name x p) [] kws pos) (mKwP σ n ks.length ff mk) := by
  obtain ⟨t, pk, hkw⟩ := hkw
  refine ⟨fun τ H Q => t τ H fun zs H2 => zs.length = ks.length ∧ spG g n ff (perm σ zs) H2 Q E, ⟨fun pins s τ H Q I h => ?_⟩, fun env s ca F P H τ Q m sl q => ?_⟩
  · refine wpAny_Call_Name_kw (ld_glob I hg hm ?_ hdb)
    refine PySem.W.callWith_KW0 (h₀ := X.base) I.ok.mod.kin hk hall (thn (pk.run pos pins s τ H _ I h) fun ws s2 ⟨zs, H2, I2, rz, hl, q2⟩ => ⟨I2.kIn, ?_⟩) hpl
    rw [hks]
    exact run_kwP Fk hr hb hx I2 rz (by rw [← rz.length]; exact hl) q2
  · unfold mKwP at q
    refine hkw env s ca F P H τ _ m sl (Post.imp (Post.seq q) fun ys s1 ca1 F1 H1 k1 k2 m1 q1 vs rs => ?_)
    split at q1
    · rename_i hl
      exact ⟨by rw [← rs.length]; exact hl.1, spG_of m1 (reps_perm rs σ) hl.2 q1⟩
    · exact q1.elim
end
theorem kbp_of {K : Fr'} {x q : Str} {st : Stmt} {f : Addr} {fd : FuncData} {ps ks : List Str} {σ : List Nat} (F : Fun K x q st f fd)
    (h : ∀ (kV doc pm : Value) (an : Option Addr) (cdv ct : Value) (ws : List Value), ws.length = ks.length →
      bindArgs (PySem.W.fnOf x q (defArgs st) (defBody st) (defScope st) .none kV doc pm an cdv ct) ⟨[], ks.zip ws⟩ = pure (ps.zip (perm σ ws))) : KBp K fd ps ks σ := by
  obtain ⟨oc, od, kV, doc, pm, an, cdv, ct, sl, rfl, lk, hc⟩ := F.ex
  intro s ws X hw
  exact .of_eq (h kV doc pm an cdv ct ws hw)
end Pm
set_option Elab.async false
set_option linter.all false
set_option maxRecDepth 100000
set_option maxHeartbeats 2000000
/-! the text of nested values that hold own instances -/
namespace Pm
open PySem PySem.Spec PyProof.Rows L2
mutual
/-- how deep lists and tuples stand in each other -/
def ht : D → Nat
  | .lst ds => htL ds + 1
  | .tup ds => htL ds + 1
  | _ => 0
def htL : List D → Nat
  | [] => 0
  | d :: ds => max (ht d) (htL ds)
end
mutual
def okN : D → Bool
  | .non => true
  | .bl _ => true
  | .int _ => true
  | .str _ => true
  | .lst ds => okNs ds
  | .tup ds => okNs ds
  | .ins _ _ => true
  | .mty => true
  | _ => false
def okNs : List D → Bool
  | [] => true
  | d :: ds => okN d && okNs ds
end
mutual
/-- the text -/
def shN (c : Nat) (ff : List D → S → Res D) : D → S → Res Str
  | .non, s => .ok "None" s
  | .bl b, s => .ok (if b then "True" else "False") s
  | .int i, s => if decide (i.natAbs.log2 < 1920) = true then .ok (toString i : String) s else .stuck
  | .str x, s => if (reprText x).length ≤ line then .ok (reprText x) s else .stuck
  | .lst ds, s => (shL c ff ds s).bind fun ts s1 => .ok (match ts with
    | [] => "[]"
    | t :: r => listText (t :: r)) s1
  | .tup ds, s => (shL c ff ds s).bind fun ts s1 => .ok (tupleText ts) s1
  | .ins k fs, s => if k = c then (ff [.ins k fs] s).bind fun d s1 => match d with
    | .str x => .ok x s1
    | _ => .stuck else .stuck
  | .mty, s => .ok (dictText []) s
  | _, _ => .stuck
def shL (c : Nat) (ff : List D → S → Res D) : List D → S → Res (List Str)
  | [], s => .ok [] s
  | d :: ds, s => (shN c ff d s).bind fun t s1 => (shL c ff ds s1).bind fun ts s2 => .ok (t :: ts) s2
end
section
variable {g : G} {ca : List Addr} {F : Hp}
theorem htL_mem : ∀ {ds : List D} {d : D}, d ∈ ds → ht d ≤ htL ds
  | e :: ds, d, h => by
    rcases List.mem_cons.mp h with rfl | h
    · simp only [htL]; omega
    · have := htL_mem h; simp only [htL]; omega
theorem okNs_mem : ∀ {ds : List D} {d : D}, okNs ds = true → d ∈ ds → okN d = true
  | e :: ds, d, h, m => by
    simp only [okNs, Bool.and_eq_true] at h
    rcases List.mem_cons.mp m with rfl | m
    · exact h.1
    · exact okNs_mem h.2 m
mutual
theorem ht_uniq : ∀ (x y : D) (v : V), okN x = true → okN y = true → Rep g ca F x v → Rep g ca F y v → ht x = ht y
  | .lst xs, y, v, hx, hy, rx, ry => by
    simp only [Rep] at rx
    obtain ⟨a, ws, rfl, hF, rs⟩ := rx
    cases y <;> simp only [Rep, okN, Bool.false_eq_true] at ry hy <;> try (cases ry; done)
    case lst ys =>
      obtain ⟨b, zs, e, hG, rz⟩ := ry
      cases e
      rw [hF] at hG; cases hG
      simp only [ht]
      rw [htL_uniq xs ys ws (by simpa only [okN] using hx) hy rs rz]
    case tup ys =>
      obtain ⟨b, zs, e, hG, rz⟩ := ry
      cases e
      rw [hF] at hG; cases hG
    case ins c fs =>
      obtain ⟨b, dx, zs, e, hG, _⟩ := ry
      cases e
      rw [hF] at hG; cases hG
    case mty =>
      obtain ⟨b, e, hG⟩ := ry
      cases e
      rw [hF] at hG; cases hG
  | .tup xs, y, v, hx, hy, rx, ry => by
    simp only [Rep] at rx
    obtain ⟨a, ws, rfl, hF, rs⟩ := rx
    cases y <;> simp only [Rep, okN, Bool.false_eq_true] at ry hy <;> try (cases ry; done)
    case tup ys =>
      obtain ⟨b, zs, e, hG, rz⟩ := ry
      cases e
      rw [hF] at hG; cases hG
      simp only [ht]
      rw [htL_uniq xs ys ws (by simpa only [okN] using hx) hy rs rz]
    case lst ys =>
      obtain ⟨b, zs, e, hG, rz⟩ := ry
      cases e
      rw [hF] at hG; cases hG
    case ins c fs =>
      obtain ⟨b, dx, zs, e, hG, _⟩ := ry
      cases e
      rw [hF] at hG; cases hG
    case mty =>
      obtain ⟨b, e, hG⟩ := ry
      cases e
      rw [hF] at hG; cases hG
  | .ins c fs, y, v, hx, hy, rx, ry => by
    simp only [Rep] at rx
    obtain ⟨a, dx, ws, rfl, hF, _⟩ := rx
    cases y <;> simp only [Rep, okN, Bool.false_eq_true] at ry hy <;> first | rfl | (cases ry; done) | (obtain ⟨b, zs, e, hG, rz⟩ := ry; cases e; rw [hF] at hG; cases hG)
  | .mty, y, v, hx, hy, rx, ry => by
    simp only [Rep] at rx
    obtain ⟨a, rfl, hF⟩ := rx
    cases y <;> simp only [Rep, okN, Bool.false_eq_true] at ry hy <;> first | rfl | (cases ry; done) | (obtain ⟨b, zs, e, hG, rz⟩ := ry; cases e; rw [hF] at hG; cases hG)
  | .non, y, v, hx, hy, rx, ry => by
    simp only [Rep] at rx; subst rx
    cases y <;> simp only [Rep, okN, Bool.false_eq_true] at ry hy <;> first | rfl | (cases ry; done) | (obtain ⟨b, zs, e, _⟩ := ry; cases e)
  | .bl q, y, v, hx, hy, rx, ry => by
    simp only [Rep] at rx; subst rx
    cases y <;> simp only [Rep, okN, Bool.false_eq_true] at ry hy <;> first | rfl | (cases ry; done) | (obtain ⟨b, zs, e, _⟩ := ry; cases e)
  | .int q, y, v, hx, hy, rx, ry => by
    simp only [Rep] at rx; subst rx
    cases y <;> simp only [Rep, okN, Bool.false_eq_true] at ry hy <;> first | rfl | (cases ry; done) | (obtain ⟨b, zs, e, _⟩ := ry; cases e)
  | .str q, y, v, hx, hy, rx, ry => by
    simp only [Rep] at rx; subst rx
    cases y <;> simp only [Rep, okN, Bool.false_eq_true] at ry hy <;> first | rfl | (cases ry; done) | (obtain ⟨b, zs, e, _⟩ := ry; cases e)
  | .ro _, _, _, hx, _, _, _ => by cases hx
  | .rot _, _, _, hx, _, _, _ => by cases hx
  | .cell _, _, _, hx, _, _, _ => by cases hx
  | .cls _, _, _, hx, _, _, _ => by cases hx
  | .ty _, _, _, hx, _, _, _ => by cases hx
theorem htL_uniq : ∀ (xs ys : List D) (vs : List V), okNs xs = true → okNs ys = true → Reps g ca F xs vs → Reps g ca F ys vs → htL xs = htL ys
  | [], ys, vs, _, _, rx, ry => by
    simp only [Reps] at rx; subst rx
    cases ys with
    | nil => rfl
    | cons y ys => simp only [Reps] at ry; obtain ⟨_, _, e, _⟩ := ry; cases e
  | x :: xs, ys, vs, hx, hy, rx, ry => by
    simp only [Reps] at rx
    obtain ⟨v, ws, rfl, r, rs⟩ := rx
    cases ys with
    | nil => simp only [Reps] at ry; cases ry
    | cons y ys =>
      simp only [Reps] at ry
      obtain ⟨v', ws', e, r', rs'⟩ := ry
      cases e
      simp only [okNs, Bool.and_eq_true] at hx hy
      simp only [htL]
      rw [ht_uniq x y v hx.1 hy.1 r r', htL_uniq xs ys ws hx.2 hy.2 rs rs']
end
/-- every text that is under way is of a deeper value -/
def GOk (g : G) (ca : List Addr) (F : Hp) (gs : List Code) (n : Nat) : Prop :=
  ∀ id v rest kw, Code.builtin id ⟨v :: rest, kw⟩ ∈ gs → ∃ b y, v = .ref b ∧ okN y = true ∧ Rep g ca F y (.ref b) ∧ n < ht y
theorem GOk.mono {ca' : List Addr} {F' : Hp} {gs : List Code} {n m : Nat} (h : GOk g ca F gs n) (hc : ca <+: ca') (hF : Sub F F') (hm : m ≤ n) : GOk g ca' F' gs m := fun id v rest kw q => by
  obtain ⟨b, y, e, o, r, l⟩ := h id v rest kw q
  exact ⟨b, y, e, o, Rep.mono hc hF _ _ r, by omega⟩
theorem GOk.clear {gs : List Code} {x : D} {a : Addr} (h : GOk g ca F gs (ht x)) (o : okN x = true) (r : Rep g ca F x (.ref a)) : Clear gs a := fun id v rest kw q e => by
  obtain ⟨b, y, e', oy, ry, l⟩ := h id v rest kw q
  rw [e] at e'
  cases e'
  have := ht_uniq y x _ oy o ry r
  omega
theorem GOk.push {gs : List Code} {x : D} {a : Addr} {id : String} {rest : List Value} {kw : List (Str × Value)} {n : Nat} (h : GOk g ca F gs (ht x)) (o : okN x = true) (r : Rep g ca F x (.ref a)) (hn : n < ht x) : GOk g ca F (.builtin id ⟨.ref a :: rest, kw⟩ :: gs) n := fun id' v rest' kw' q => by
  rcases List.mem_cons.mp q with e | q
  · cases e
    exact ⟨a, x, rfl, o, r, hn⟩
  · obtain ⟨b, y, e, o, r, l⟩ := h _ _ _ _ q
    exact ⟨b, y, e, o, r, by omega⟩
theorem gok_nil {n : Nat} : GOk g ca F [] n := fun _ _ _ _ h => nomatch h
end
end Pm
set_option Elab.async false
set_option linter.all false
set_option maxRecDepth 100000
set_option maxHeartbeats 2000000
namespace Pm
open PySem PySem.Spec PyProof.Rows L2
/-! the walk over what is held -/
section
variable {X : Cx} {g : G} {E : XK} {c k : Nat} {ff : List D → S → Res D}
/-- the state behind a text -/
def WR (X : Cx) (pins : List (Addr × Obj)) (σ : L2.St) (g : G) (ca : List Addr) (F P : Hp) (st : S) (s' : Shared) : Prop :=
  ∃ ca' F' H', ca <+: ca' ∧ Sub F F' ∧ Sim g ca' F' P st H' ∧ Inv X pins σ H' s'
theorem WR.back {pins : List (Addr × Obj)} {σ : L2.St} {ca ca1 : List Addr} {F F1 P : Hp} {st : S} {s' : Shared} (h : WR X pins σ g ca1 F1 P st s') (a : ca <+: ca1) (b : Sub F F1) : WR X pins σ g ca F P st s' := by
  obtain ⟨ca', F', H', p, q, r⟩ := h
  exact ⟨ca', F', H', a.trans p, b.trans q, r⟩
/-- what is known where a text is made -/
structure At (X : Cx) (g : G) (A : Around) (gs : List Code) (k n : Nat) (ca : List Addr) (F : Hp) : Prop where
  fr : A.frames = some X.stack
  gd : A.guards = some gs
  ok : GOk g ca F gs n
  rm : Room (k + n) A
/-- the text of x is made, wherever it stands -/
def RJ (X : Cx) (g : G) (c k : Nat) (ff : List D → S → Res D) (x : D) : Prop :=
  ∀ (base : Nat) (A : Around) (gs : List Code) (pins : List (Addr × Obj)) (σ : L2.St) (s : Shared) (ca : List Addr) (F P H : Hp) (st st' : S) (t : Str) (v : V) (u : Value),
    shN c ff x st = .ok t st' → base + t.length ≤ sizeLine → okN x = true → RelV v u → Rep g ca F x v → At X g A gs k (ht x) ca F → Sim g ca F P st H → Inv X pins σ H s →
    wpAny (model X.prog X.w) A (pyReprUnder base u) (fun t' s' => t' = t ∧ WR X pins σ g ca F P st' s') X.xe s
theorem under_room {A : Around} {j : Nat} {cd : Code} (h : Room (j + 1) A) (hw : cd.weight ≤ 1) (hu : cd.cUnits ≤ 1) : Room j (A.under cd) := by
  refine ⟨h.hd, ?_, ?_⟩
  · have := h.dp
    show A.depth + cd.weight + 3 * j + 5 < _
    omega
  · have := h.un
    show A.units + cd.cUnits + 16 * j + 200 < _
    omega
theorem loop_w (args : Args) : (Code.builtin "list.__repr__.loop" args).weight ≤ 1 := by
  simp [Code.weight, Code.frames, Code.isCreation, Code.isCaller, Code.isGuard, guardIds, Code.isFrame]
theorem tupu_w (args : Args) : (Code.builtin "tuple.__repr__.under" args).weight ≤ 1 := by
  simp [Code.weight, Code.frames, Code.isCreation, Code.isCaller, Code.isGuard, guardIds, Code.isFrame]
theorem tup_w (args : Args) : (Code.builtin "tuple.__repr__" args).weight ≤ 1 := by
  simp [Code.weight, Code.frames, Code.isCreation, Code.isCaller, Code.isGuard, guardIds, Code.isFrame]
theorem loop_u (args : Args) : (Code.builtin "list.__repr__.loop" args).cUnits ≤ 1 := by
  simp [Code.cUnits, Code.frames, Code.isFrame]
theorem tupu_u (args : Args) : (Code.builtin "tuple.__repr__.under" args).cUnits ≤ 1 := by
  simp [Code.cUnits, Code.frames, Code.isFrame]
theorem tup_u (args : Args) : (Code.builtin "tuple.__repr__" args).cUnits ≤ 1 := by
  simp [Code.cUnits, Code.frames, Code.isFrame]
theorem any_f {A : Around} {id : String} {args : Args} {l : List PySem.Env} (h : A.frames = some l) : (A.under (.builtin id args)).frames = some l := by
  simpa [Around.under, Code.envs, Code.isFrame, pushEnvs] using h
theorem At.deep {A : Around} {gs : List Code} {m : Nat} {ca : List Addr} {F : Hp} {x : D} {a : Addr} {id : String} {rest : List Value} {kw : List (Str × Value)} (h : At X g A gs k (ht x) ca F) (o : okN x = true) (r : Rep g ca F x (.ref a)) (hm : m < ht x)
    (hg : (Code.builtin id ⟨.ref a :: rest, kw⟩).isGuard = true) (hw : (Code.builtin id ⟨.ref a :: rest, kw⟩).weight ≤ 1) (hu : (Code.builtin id ⟨.ref a :: rest, kw⟩).cUnits ≤ 1) : At X g (A.under (.builtin id ⟨.ref a :: rest, kw⟩)) (.builtin id ⟨.ref a :: rest, kw⟩ :: gs) k m ca F :=
  ⟨any_f h.fr, guards_under_guard hg h.gd, h.ok.push o r hm, (under_room (h.rm.mono (show k + m + 1 ≤ k + ht x by omega)) hw hu)⟩
theorem At.le {A : Around} {gs : List Code} {n m : Nat} {ca ca' : List Addr} {F F' : Hp} (h : At X g A gs k n ca F) (hc : ca <+: ca') (hF : Sub F F') (hm : m ≤ n) : At X g A gs k m ca' F' :=
  ⟨h.fr, h.gd, h.ok.mono hc hF hm, h.rm.mono (by omega)⟩
/-- a pinned new list -/
structure Pd (X : Cx) (pins : List (Addr × Obj)) (p : Addr) : Prop where
  lo : X.s_0.heap.objs.size ≤ p
  ce : ∀ x c, X.env.cells.lookup x = some c → c ≠ p
  pn : ∀ q ∈ X.pn ++ pins, q.1 ≠ p
def pObj (acc : Array Value) (n : Nat) : Obj := { cls := .type "list", dict := none, data := .seq acc n, slots := #[] }
theorem pd_new {pins : List (Addr × Obj)} {σ : L2.St} {H : Hp} {s : Shared} (I : Inv X pins σ H s) : Pd X pins s.heap.objs.size :=
  ⟨I.sz, fun x c e z => by
    obtain ⟨v, o, ho, _⟩ := I.cell x c e
    exact absurd (Heap.lt_size ho) (by rw [z]; exact Nat.lt_irrefl _), fun q hq z => by
    obtain ⟨e, _⟩ := I.pin q hq
    exact absurd (Heap.lt_size e) (by rw [z]; exact Nat.lt_irrefl _)⟩
theorem pin_new {pins : List (Addr × Obj)} {σ : L2.St} {H : Hp} {s : Shared} (I : Inv X pins σ H s) : Inv X ((s.heap.objs.size, pObj #[] 0) :: pins) σ H { s with heap := s.heap.push (pObj #[] 0) } := by
  have J : Inv X pins σ H { s with heap := s.heap.push (pObj #[] 0), toks := s.toks } := I.kept fun b u e => Heap.get?_push_of_some _ e
  refine J.pins_of fun q hq => ?_
  rcases List.mem_cons.mp hq with rfl | hq
  · refine ⟨Heap.get?_push_size _ rfl, I.fresh, fun e => ?_, I.nofs (Nat.le_refl _), fun v e => nomatch e⟩
    exact absurd I.lt (by rw [← e]; exact Nat.lt_irrefl _)
  · exact J.pin q (List.mem_append_right _ hq)
theorem pin_less {pins : List (Addr × Obj)} {σ : L2.St} {H : Hp} {s : Shared} {q : Addr × Obj} (I : Inv X (q :: pins) σ H s) : Inv X pins σ H s :=
  I.pins_of fun p hp => I.pin p (List.mem_append_right _ (List.mem_cons_of_mem _ hp))
theorem pin_turn {pins : List (Addr × Obj)} {σ : L2.St} {H : Hp} {s : Shared} {p : Addr} {o o' : Obj} {h' : Heap} {t' : Nat} (I : Inv X ((p, o) :: pins) σ H s) (d : Pd X pins p)
    (k : ∀ b u, b ≠ p → s.heap.get? b = some u → h'.get? b = some u) (ho : h'.get? p = some o') (hc : ∀ v, o'.data ≠ .cell v) : Inv X ((p, o') :: pins) σ H { s with heap := h', toks := t' } := by
  obtain ⟨_, hn, hL, hf, _⟩ := I.pin (p, o) (List.mem_append_right _ List.mem_cons_self)
  have J := (pin_less I).turned (h' := h') (t' := t') k hn hL (.inr d.lo) d.ce d.pn
  refine J.pins_of fun q hq => ?_
  rcases List.mem_cons.mp hq with rfl | hq
  · exact ⟨ho, hn, hL, hf, hc⟩
  · exact J.pin q (List.mem_append_right _ hq)
theorem sim_lst {pins : List (Addr × Obj)} {σ : L2.St} {ca : List Addr} {F P H : Hp} {st : S} {s : Shared} {a : Addr} {xs : List V} (m : Sim g ca F P st H) (I : Inv X pins σ H s) (hF : F a = some (.lst xs)) :
    ∃ (its : List Value) (n : Nat), Vals xs its ∧ s.heap.get? a = some { cls := .type "list", data := .seq its.toArray n } := by
  obtain ⟨its, n, r, e, _⟩ := I.lst (m.sub _ _ hF)
  exact ⟨its, n, r, e⟩
end
end Pm
set_option Elab.async false
set_option linter.all false
set_option maxRecDepth 100000
set_option maxHeartbeats 2000000
namespace Pm
open PySem PySem.Spec PyProof.Rows L2
section
variable {X : Cx} {g : G} {E : XK} {c k : Nat} {ff : List D → S → Res D}
theorem sizes {us ts : List Str} {t : Str} {base : Nat} (h : base + (listText (us ++ t :: ts)).length ≤ sizeLine) : base + piled us + 1 + t.length ≤ sizeLine ∧ us.length ≤ sizeLine ∧ t.length ≤ sizeLine := by
  have hp := piled_le_listText (us ++ t :: ts)
  rw [piled_append, piled_cons] at hp
  have hl : us.length ≤ piled us := by
    clear hp h
    induction us with
    | nil => exact Nat.zero_le _
    | cons y r ih => rw [piled_cons]; simp only [List.length_cons]; omega
  omega
theorem bind_ok {α β : Type} {r : Res α} {f : α → S → Res β} {b : β} {s : S} (h : r.bind f = .ok b s) : ∃ a s1, r = .ok a s1 ∧ f a s1 = .ok b s := by
  cases r with
  | ok a s1 => exact ⟨a, s1, rfl, h⟩
  | stuck => cases h
  | exn _ _ _ => cases h
theorem rj_loop {a p : Addr} {ds : List D} {base : Nat} {A : Around} {gs : List Code} {pins : List (Addr × Obj)} {σ : L2.St} {P : Hp} {R : Result → Shared → Prop} (item : ∀ d ∈ ds, RJ X g c k ff d) (hk : okNs ds = true) (hne : a ≠ p) (hd : Pd X pins p)
    (hE : ∀ e s', X.xe e s' → R (.error e) s') : ∀ (rest : List D) (i : Nat) (made : List (Str × Tok)) (acc : Array Value) (n : Nat) (st st' : S) (ts : List Str) (xs : List V) (s : Shared) (ca : List Addr) (F H : Hp), ds.drop i = rest → made.length = i → acc.toList = strValues made →
    shL c ff rest st = .ok ts st' → base + (listText (made.map (·.1) ++ ts)).length ≤ sizeLine → F a = some (.lst xs) → Reps g ca F ds xs → At X g A gs k (ht (.lst ds)) ca F → Sim g ca F P st H → Inv X ((p, pObj acc n) :: pins) σ H s →
    (∀ tk s', WR X pins σ g ca F P st' s' → R (.ok (.ret (.str (listText (made.map (·.1) ++ ts)) tk))) s') →
    codeAny (model X.prog X.w) A (.builtin "list.__repr__.loop" ⟨[.ref a, rawInt i, .ref p, rawInt ((base + piled (made.map (·.1)) : Nat) : Int)], []⟩) R s := by
  intro rest
  induction rest with
  | nil =>
    intro i made acc n st st' ts xs s ca F H hdr hi hacc hsh hsz hF rs at_ m I hR
    simp only [shL] at hsh
    cases hsh
    obtain ⟨its, z, hv, hget⟩ := sim_lst m I hF
    have hpin := (I.pin (p, pObj acc n) (List.mem_append_right _ List.mem_cons_self)).1
    have hlen : its.length ≤ i := by
      have h1 : ds.length ≤ i := List.drop_eq_nil_iff.mp hdr
      have h2 := rs.length
      have h3 := hv.length
      omega
    refine codeAny_builtin PySem.F.entry_list_repr_loop ?_
    show wpAny _ _ (Builtin.«list.__repr__.loop» ⟨[.ref a, .int i 0, .ref p, .int ((base + piled (made.map (·.1)) : Nat) : Int) 0], []⟩) _ _ s
    rw [repr_loop_tree]
    refine wpAny_bind (wpAny_listItems hget rfl ?_)
    have hno : its.toArray[(i : Int).toNat]? = none := by simp [hlen]
    simp only [hno]
    unfold reprEnd
    refine wpAny_bind (wpAny_listItems hpin rfl ?_)
    rw [hacc, repr_fold]
    refine wpAny_bind (wpAny_pure ?_)
    simp only [List.append_nil] at hsz hR
    refine wpAny_bind (wpAny_mkStr (wpAny_pure ?_) (by have h : (listText (made.map (·.1))).length ≤ sizeLine := by omega
                                                       exact h))
    exact hR s.toks _ ⟨ca, F, H, List.prefix_refl _, Sub.refl _, m, (pin_less I).tok _⟩
  | cons d rest ih =>
    intro i made acc n st st' ts xs s ca F H hdr hi hacc hsh hsz hF rs at_ m I hR
    simp only [shL] at hsh
    obtain ⟨t, st1, h1, hsh⟩ := bind_ok hsh
    obtain ⟨us, st2, h2, hsh⟩ := bind_ok hsh
    cases hsh
    have hdi : ds[i]? = some d := by
      have := congrArg (·[0]?) hdr
      simpa [List.getElem?_drop] using this
    have hmem : d ∈ ds := List.mem_of_getElem? hdi
    have hdr' : ds.drop (i + 1) = rest := by
      have := congrArg (·.drop 1) hdr
      simpa [List.drop_drop] using this
    obtain ⟨z1, z2, z3⟩ := sizes hsz
    obtain ⟨its, z, hv, hget⟩ := sim_lst m I hF
    obtain ⟨v, hxv, rv⟩ := rs.get hdi
    obtain ⟨u, hu, ru⟩ := vals_get hv hxv
    refine codeAny_builtin PySem.F.entry_list_repr_loop ?_
    show wpAny _ _ (Builtin.«list.__repr__.loop» ⟨[.ref a, .int i 0, .ref p, .int ((base + piled (made.map (·.1)) : Nat) : Int) 0], []⟩) _ _ s
    rw [repr_loop_tree]
    refine wpAny_bind (wpAny_listItems hget rfl ?_)
    have hyes : its.toArray[(i : Int).toNat]? = some u := by simpa using hu
    simp only [hyes]
    rw [Int.toNat_natCast]
    have rl : Rep g ca F (.lst ds) (.ref a) := by simp only [Rep]; exact ⟨a, xs, rfl, hF, rs⟩
    have hlt : ht d < ht (.lst ds) := by have := htL_mem hmem; simp only [ht]; omega
    have deep := at_.deep (id := "list.__repr__.loop") (rest := [rawInt i, .ref p, rawInt ((base + piled (made.map (·.1)) : Nat) : Int)]) (kw := []) (by simpa only [okN] using hk) rl hlt (isGuard_list_loop _) (loop_w _) (loop_u _)
    refine wpAny_bind (wpAny_holding (wpAny_mono (item d hmem (base + piled (made.map (·.1)) + 1) _ _ _ σ s ca F P H st st1 t v u h1 z1 (okNs_mem hk hmem) ru rv deep m I) (fun t' s1 hq => ?_) fun e s' h => hE e s' h))
    obtain ⟨rfl, ca1, F1, H1, k1, k2, m1, I1⟩ := hq
    refine wpAny_bind (wpAny_mkStr ?_ z3)
    refine wpAny_bind ?_
    show wpAny _ _ (updateSeq p _) _ _ _
    have hpin := (I1.pin (p, pObj acc n) (List.mem_append_right _ List.mem_cons_self)).1
    have hasz : acc.size ≤ sizeLine := by
      have e1 : acc.toList.length = acc.size := by simp
      have e2 : (strValues made).length = (made.map (·.1)).length := by simp [strValues]
      rw [hacc] at e1; omega
    refine wpAny_updateSeq hpin rfl (wpAny_pure ⟨PySem.F.quiet_list_repr_loop _, ?_⟩) hasz
    have I2 := (I1.tok (s1.toks + 1))
    have hup : ∃ n', (s1.heap.update p (Obj.mapSeq fun y => y.push (.str t' s1.toks))).get? p = some (pObj (acc.push (.str t' s1.toks)) n') := by
      have h := Heap.get?_update_self (Obj.mapSeq fun y => y.push (.str t' s1.toks)) hpin rfl
      exact ⟨_, h⟩
    obtain ⟨n', hup⟩ := hup
    have I3 := pin_turn (h' := s1.heap.update p (Obj.mapSeq fun y => y.push (.str t' s1.toks))) (t' := s1.toks + 1) I2 hd (fun b o hb e => (Heap.get?_update_other _ _ (Ne.symm hb)).trans e) hup (fun v e => nomatch e)
    have hF1 := k2 _ _ hF
    have e1 : ((i : Int) + 1) = ((i + 1 : Nat) : Int) := by omega
    have e2 : base + piled (made.map (·.1)) + (t'.length + 2) = base + piled ((made ++ [(t', s1.toks)]).map (·.1)) := by
      rw [List.map_append, piled_append]
      simp [piled]
      omega
    rw [e1, e2]
    have ee : (made ++ [(t', s1.toks)]).map (·.1) ++ us = made.map (·.1) ++ t' :: us := by simp
    refine ih (i + 1) (made ++ [(t', s1.toks)]) _ n' st1 _ us xs _ ca1 F1 H1 hdr' (by simp [hi]) (by simp [hacc, strValues]) h2 (by rw [ee]; exact hsz) hF1 (Reps.mono k1 k2 _ _ rs) (at_.le k1 k2 (Nat.le_refl _)) m1 I3 fun tk s' hw => ?_
    rw [ee]
    exact hR tk s' (hw.back k1 k2)
end
end Pm
set_option Elab.async false
set_option linter.all false
set_option maxRecDepth 100000
set_option maxHeartbeats 2000000
namespace Pm
open PySem PySem.Spec PyProof.Rows L2
section
variable {X : Cx} {g : G} {E : XK} {c k : Nat} {ff : List D → S → Res D}
theorem shL_cons {d : D} {ds : List D} {st st' : S} {ts : List Str} (h : shL c ff (d :: ds) st = .ok ts st') : ∃ t r, ts = t :: r := by
  simp only [shL] at h
  obtain ⟨t, st1, h1, h⟩ := bind_ok h
  obtain ⟨us, st2, h2, h⟩ := bind_ok h
  cases h
  exact ⟨t, us, rfl⟩
theorem rj_list {a : Addr} {d : D} {ds : List D} {xs : List V} {base : Nat} {A : Around} {gs : List Code} {pins : List (Addr × Obj)} {σ : L2.St} {ca : List Addr} {F P H : Hp} {st st' : S} {ts : List Str} {s : Shared} {R : Result → Shared → Prop}
    (item : ∀ e ∈ d :: ds, RJ X g c k ff e) (hk : okNs (d :: ds) = true) (hE : ∀ e s', X.xe e s' → R (.error e) s') (hsh : shL c ff (d :: ds) st = .ok ts st') (hsz : base + (listText ts).length ≤ sizeLine) (hF : F a = some (.lst xs)) (rs : Reps g ca F (d :: ds) xs)
    (at_ : At X g A gs k (ht (.lst (d :: ds))) ca F) (m : Sim g ca F P st H) (I : Inv X pins σ H s) (hR : ∀ tk s', WR X pins σ g ca F P st' s' → R (.ok (.ret (.str (listText ts) tk))) s') :
    wpAny (model X.prog X.w) A.in1 (Builtin.listReprAt base ⟨[.ref a], []⟩) (fun fin s' => match fin with
      | .done f => R (.ok f) s'
      | .again c' => c'.quiet = true ∧ codeAny (model X.prog X.w) A c' R s') (fun e s' => R (.error e) s') s := by
  obtain ⟨its, z, hv, hget⟩ := sim_lst m I hF
  have rl : Rep g ca F (.lst (d :: ds)) (.ref a) := by simp only [Rep]; exact ⟨a, xs, rfl, hF, rs⟩
  have hcl := at_.ok.clear (by simpa only [okN] using hk) rl
  have hne : a ≠ s.heap.objs.size := Nat.ne_of_lt (Heap.lt_size hget)
  cases its with
  | nil =>
    have h1 := rs.length
    have h2 := hv.length
    simp only [List.length_cons, List.length_nil] at h1 h2
    omega
  | cons u us =>
    refine wpAny_list_repr_head (A := A.in1) at_.gd (fun v rest kw hm => listSameRef_of_ne (hcl _ _ _ _ hm)) hget rfl ?_
    refine wpAny_bind (m := newList []) (wpAny_newObj_type ?_)
    refine wpAny_pure ⟨PySem.F.quiet_list_repr_loop _, ?_⟩
    exact rj_loop (p := s.heap.objs.size) item hk hne (pd_new I) hE (d :: ds) 0 [] #[] 0 st st' ts xs _ ca F H rfl rfl (by simp [strValues]) hsh (by simpa using hsz) hF rs at_ m (pin_new I) (by simpa using hR)
theorem rj_fold {pins : List (Addr × Obj)} {σ : L2.St} {A : Around} {gs : List Code} {P : Hp} {Q : Array Str × Nat → Shared → Prop} : ∀ (ds : List D) (vs : List V) (us : List Value) (acc : Array Str) (n : Nat) (s : Shared) (st st' : S) (ts : List Str) (ca : List Addr) (F H : Hp),
    (∀ d ∈ ds, RJ X g c k ff d) → okNs ds = true → shL c ff ds st = .ok ts st' → n + piled ts ≤ sizeLine → Reps g ca F ds vs → Vals vs us → At X g A gs k (htL ds) ca F → Sim g ca F P st H → Inv X pins σ H s →
    (∀ s', WR X pins σ g ca F P st' s' → Q ⟨acc ++ ts.toArray, n + piled ts⟩ s') → wpAny (model X.prog X.w) A (forIn us (⟨acc, n⟩ : Array Str × Nat) tupBody) Q X.xe s
  | [], vs, us, acc, n, s, st, st', ts, ca, F, H, _, _, hsh, _, rs, hv, _, m, I, hQ => by
    simp only [shL] at hsh
    cases hsh
    simp only [Reps] at rs
    subst rs
    cases hv
    simp only [List.forIn_nil]
    have q := hQ s ⟨ca, F, H, List.prefix_refl _, Sub.refl _, m, I⟩
    exact wpAny_pure (by simpa [piled] using q)
  | d :: ds, vs, us, acc, n, s, st, st', ts, ca, F, H, item, hk, hsh, hsz, rs, hv, at_, m, I, hQ => by
    simp only [shL] at hsh
    obtain ⟨t, st1, h1, hsh⟩ := bind_ok hsh
    obtain ⟨ts', st2, h2, hsh⟩ := bind_ok hsh
    cases hsh
    simp only [Reps] at rs
    obtain ⟨v, ws, rfl, rv, rs⟩ := rs
    cases hv with
    | cons ru hv =>
      simp only [okNs, Bool.and_eq_true] at hk
      rw [piled_cons] at hsz
      have l1 : ht d ≤ htL (d :: ds) := htL_mem List.mem_cons_self
      have l2 : htL ds ≤ htL (d :: ds) := by simp only [htL]; omega
      rw [List.forIn_cons]
      refine wpAny_bind (wpAny_bind (wpAny_mono (item d List.mem_cons_self (n + 1) A gs pins σ s ca F P H st st1 t v _ h1 (by omega) hk.1 ru rv (at_.le (List.prefix_refl _) (Sub.refl _) l1) m I) (fun t' s1 hq => ?_) fun _ _ z => z))
      obtain ⟨rfl, ca1, F1, H1, k1, k2, m1, I1⟩ := hq
      refine wpAny_pure ?_
      refine rj_fold ds ws _ (acc.push t') (n + (t'.length + 2)) s1 st1 _ ts' ca1 F1 H1 (fun e he => item e (List.mem_cons_of_mem _ he)) hk.2 h2 (by omega) (Reps.mono k1 k2 _ _ rs) hv (at_.le k1 k2 l2) m1 I1 fun s' hw => ?_
      have q := hQ s' (hw.back k1 k2)
      have e : n + piled (t' :: ts') = n + (t'.length + 2) + piled ts' := by rw [piled_cons]; omega
      rw [e] at q
      simpa using q
theorem rj_tup {a : Addr} {ds : List D} {xs : List V} {base : Nat} {A : Around} {gs : List Code} {pins : List (Addr × Obj)} {σ : L2.St} {ca : List Addr} {F P H : Hp} {st st' : S} {ts : List Str} {s : Shared} {R : Result → Shared → Prop} {id : String} {rest : List Value}
    (hcg : (Code.builtin id ⟨.ref a :: rest, []⟩).isGuard = true) (hcw : (Code.builtin id ⟨.ref a :: rest, []⟩).weight ≤ 1) (hcu : (Code.builtin id ⟨.ref a :: rest, []⟩).cUnits ≤ 1)
    (item : ∀ e ∈ ds, RJ X g c k ff e) (hk : okNs ds = true) (hE : ∀ e s', X.xe e s' → R (.error e) s') (hsh : shL c ff ds st = .ok ts st') (hsz : base + (tupleText ts).length ≤ sizeLine) (hF : F a = some (.tup xs)) (rs : Reps g ca F ds xs)
    (at_ : At X g A gs k (ht (.tup ds)) ca F) (m : Sim g ca F P st H) (I : Inv X pins σ H s) (hR : ∀ tk s', WR X pins σ g ca F P st' s' → R (.ok (.ret (.str (tupleText ts) tk))) s') :
    wpOwn (model X.prog X.w) A (.builtin id ⟨.ref a :: rest, []⟩) (Builtin.tupleReprAt base ⟨[.ref a], []⟩) (fun fin s' => match fin with
      | .done f => R (.ok f) s'
      | .again c' => c'.quiet = true ∧ codeAny (model X.prog X.w) A c' R s') (fun e s' => R (.error e) s') s := by
  obtain ⟨_, its, hv, o, hget, hcls, z, hdat⟩ := (show ObjOk X.prog X.w H s.heap a (.tup xs) from I.hok a _ (m.sub _ _ hF))
  have rl : Rep g ca F (.tup ds) (.ref a) := by simp only [Rep]; exact ⟨a, xs, rfl, hF, rs⟩
  have hcl := at_.ok.clear (by simpa only [okN] using hk) rl
  have hp := piled_le_tupleText ts
  have hlen : ts.length = its.length := by
    have h1 := rs.length
    have h2 := hv.length
    have h3 : ∀ (ds : List D) (st st' : S) (ts : List Str), shL c ff ds st = .ok ts st' → ts.length = ds.length := by
      intro ds
      induction ds with
      | nil => intro st st' ts h; simp only [shL] at h; cases h; rfl
      | cons d ds ih =>
        intro st st' ts h
        simp only [shL] at h
        obtain ⟨t, st1, _, h⟩ := bind_ok h
        obtain ⟨us, st2, h2, h⟩ := bind_ok h
        cases h
        simp [ih _ _ _ h2]
    rw [h3 _ _ _ _ hsh]; omega
  have lt : htL ds < ht (.tup ds) := by simp only [ht]; omega
  rw [tuple_repr_tree, tupleReprUnderWay_eq]
  refine wpOwn_bind (wpOwn_stackTailAny at_.gd (tupGuardF_off _) (tupGuardF_pos _) ?_)
  have hn : (gs.any fun c => tupGuardF (.ref a) (c, default)) = false := by
    rw [List.any_eq_false]
    intro c hcm
    rw [tupGuardF_of_clear hcl c hcm]
    exact Bool.false_ne_true
  rw [hn]
  refine wpOwn_of_wpAny ?_
  show wpAny _ _ (tupleReprRest base (.ref a)) _ _ s
  unfold tupleReprRest Builtin.Tuple.tupleItemsOf
  refine wpAny_bind (wpAny_bind (wpAny_seqItems hget hdat (wpAny_pure ?_)))
  rw [← Array.forIn_toList]
  have deep := at_.deep (id := id) (rest := rest) (kw := []) (by simpa only [okN] using hk) rl lt hcg hcw hcu
  refine wpAny_bind (wpAny_mono (rj_fold (Q := fun r s' => r = ⟨#[] ++ ts.toArray, base + piled ts⟩ ∧ WR X pins σ g ca F P st' s') ds xs _ #[] base s st st' ts ca F H item hk hsh (by omega) rs hv deep m I fun s' hw => ⟨rfl, hw⟩) (fun r s' hq => ?_) fun e s' h => hE e s' h)
  obtain ⟨rfl, ca1, F1, H1, k1, k2, m1, I1⟩ := hq
  have e : (("(" : Str) ++ Str.join ", " (#[] ++ ts.toArray).toList ++ (if its.toArray.size == 1 then ",)" else ")" : String)) = tupleText ts := by simp [tupleText, hlen]
  refine wpAny_bind (wpAny_mkStr (wpAny_pure ?_) (by rw [e]; omega))
  rw [e]
  exact hR _ _ ⟨ca1, F1, H1, k1, k2, m1, I1.tok _⟩
end
end Pm
set_option Elab.async false
set_option linter.all false
set_option maxRecDepth 100000
set_option maxHeartbeats 2000000
namespace Pm
open PySem PySem.Spec PyProof.Rows L2
section
variable {X : Cx} {g : G} {E : XK} {c k : Nat} {ff : List D → S → Res D} {f : Addr} {fd : FuncData} {ps : List Str}
theorem at_units {A : Around} {gs : List Code} {n : Nat} {ca : List Addr} {F : Hp} (h : At X g A gs k n ca F) : A.units + 1 < cLine := by have := h.rm.un; omega
theorem rj_is {st : S} {t : Str} {u : Value} (h : ReprIs X.prog X.w u t) {base : Nat} {A : Around} {pins : List (Addr × Obj)} {σ : L2.St} {ca : List Addr} {F P H : Hp} {s : Shared} (hz : base + t.length ≤ sizeLine) (m : Sim g ca F P st H) (I : Inv X pins σ H s) :
    wpAny (model X.prog X.w) A (pyReprUnder base u) (fun t' s' => t' = t ∧ WR X pins σ g ca F P st s') X.xe s :=
  h base hz A _ s _ fun tk => ⟨rfl, ca, F, H, List.prefix_refl _, Sub.refl _, m, I.tok tk⟩
section
open PySem.W
variable {prog : Program} {w : World} {A : Around} {E : Value → Shared → Prop} {s : Shared} {K : Frag} {x C f : Addr} {ox : Obj} {od : Option Obj} {name : Str}
theorem by_own {M : Model} {last : Value → List Value → Sem Value} {Q : Option Value → Shared → Prop} (X : K.In s.heap) (I : InstAt s.heap x ox C od) (hs : findIn K (.ref C) name = some (some (.ref f))) (hf : isFn K (.ref f) = true)
    (h : wpAny M A (last (.ref f) [.ref x]) (fun v => Q (some v)) E s) : wpAny M A (callSpecialIfBoundBy? last (.ref x) name) Q E s := by
  simp only [callSpecialIfBoundBy?, bindSpecialIfBound?]
  refine wpAny_holding (wpAny_bind (wpAny_bind (wpAny_bind (I.type.here ((looks_findIn X hs).here ?_)))))
  refine wpAny_bind (wpAny_askSetting (wpAny_ite ?_))
  have fin : wpAny M A (last (.ref f) [.ref x] >>= fun v => pure (some v)) Q E s := wpAny_bind (wpAny_mono h (fun v s' h' => wpAny_pure h') fun _ _ h' => h')
  split
  · exact wpAny_bind ((bind_fn X _ (beq_iff_eq.mp hf)).here (wpAny_pure (by exact fin)))
  · exact wpAny_tryCatch (wpAny_bind ((bind_fn X _ (beq_iff_eq.mp hf)).here (wpAny_pure (by exact fin))))
theorem under_own {b : Nat} {Q : Value → Shared → Prop} (hu : A.units < cLine) (X : K.In s.heap) (I : InstAt s.heap x ox C od) (hs : findIn K (.ref C) "__repr__" = some (some (.ref f))) (hf : isFn K (.ref f) = true)
    (h : wpAny (model prog w) A (call (.ref f) [.ref x]) (fun v s' => ∃ y u, v = .str y u ∧ Q v s') E s) : wpAny (model prog w) A (pyReprObjUnder b (.ref x)) Q E s := by
  unfold pyReprObjUnder pyReprObjBy
  refine wpAny_bind (wpAny_cRoomFor hu ?_)
  refine wpAny_bind (wpAny_bind (I.type.here ((looks_findIn X hs).here ?_)))
  show wpAny _ _ (if (some (Value.ref f)).isNone = true then _ else _) _ _ _
  rw [if_neg (by simp)]
  refine wpAny_bind (m := callSpecialIfBoundBy? _ (.ref x) (Str.ofString "__repr__")) (by_own X I hs hf ?_)
  show wpAny (model prog w) A (call (.ref f) ([.ref x] ++ [])) _ _ _
  refine wpAny_mono h (fun v s' hq => ?_) fun _ _ y => y
  obtain ⟨y, u, rfl, hq⟩ := hq
  exact wpAny_bind (wpAny_isInstance (T := "str") (b := true) rfl isSubtype_str_str (wpAny_pure hq))
end
theorem env_at {A : Around} {pins : List (Addr × Obj)} {σ : L2.St} {H : Hp} {s : Shared} (I : Inv X pins σ H s) (h : A.frames = some X.stack) : Env0 X.prog X.w X.K X.mg X.base A X.stack s H :=
  have e := I.env0
  ⟨h, e.mod, e.bs, e.bsz, e.funs, e.frf, e.hok, e.bare⟩
/-- what is known of the class's own text -/
structure Ow (X : Cx) (g : G) (E : XK) (CX : CXT) (c k : Nat) (ff : List D → S → Res D) (f : Addr) (fd : FuncData) (ps : List Str) : Prop where
  hs : PySem.W.findIn X.K (.ref (g.cls c)) "__repr__" = some (some (.ref f))
  hf : PySem.W.isFn X.K (.ref f) = true
  fk : FnOk X.prog X.w X.K X.mg X.base CX k f fd ps (spG g 1 ff)
  hb : Binds X.K fd ps []
  hx : Passes CX X E
theorem own_call {CX : CXT} (O : Ow X g E CX c k ff f fd ps) {A : Around} {pins : List (Addr × Obj)} {σ : L2.St} {ca : List Addr} {F P H : Hp} {st st' : S} {t : Str} {s : Shared} {v : V} {u : Value} {fs : List D} (hsh : ff [.ins c fs] st = .ok (.str t) st') (rv : Rep g ca F (.ins c fs) v) (ru : RelV v u) (hA : A.frames = some X.stack) (hr : Room k A) (m : Sim g ca F P st H) (I : Inv X pins σ H s) :
    wpAny (model X.prog X.w) A (call (.ref f) [u]) (fun v s' => ∃ y tk, v = .str y tk ∧ y = t ∧ WR X pins σ g ca F P st' s') X.xe s := by
  have hsp : spG g 1 ff [v] H (fun z H' => z = .str t ∧ ∃ ca' F', ca <+: ca' ∧ Sub F F' ∧ Sim g ca' F' P st' H') E := spG_of m (.cons rv .nil) rfl (by
    rw [hsh]
    intro ca' F' H' a b m' z rz
    exact ⟨by simpa only [Rep] using rz, ca', F', a, b, m'⟩)
  refine wpAny_mono (wpAny_call (SlX.run_at (us := [u]) (ws := [v]) (O.fk.raw O.hb .nil) hr (env_at I hA) O.hx I (.cons ru .nil) (show spG g 1 ff ([v] ++ []) H _ E from hsp))) (fun r s' hq => ?_) fun _ _ z => z
  obtain ⟨z, H', I', rz, rfl, ca', F', a, b, m'⟩ := hq
  obtain ⟨tk, rfl⟩ := (show ∃ tk, r = Value.str t tk from rz)
  exact ⟨t, tk, rfl, rfl, ca', F', H', a, b, m', I'⟩
theorem empty_dict {pins : List (Addr × Obj)} {σ : L2.St} {H : Hp} {s : Shared} {a : Addr} (I : Inv X pins σ H s) (h : H a = some (.dK [])) : (a == sysModules) = false ∧ ∃ o ep, s.heap.get? a = some o ∧ o.cls = .type "dict" ∧ o.data = .dict #[] ep := by
  obtain ⟨_, hn, vs, kv, o, es, ep, ho, ex, hd, _, pr, _⟩ := (show ObjOk X.prog X.w H s.heap a (.dK []) from I.hok a _ h)
  cases kv
  have h0 : es = #[] := by
    have := pr.length
    simpa using this
  subst h0
  exact ⟨hn, o, ep, ho, ex.1, hd⟩
theorem rj_own {CX : CXT} (O : Ow X g E CX c k ff f fd ps) (q : Nat) (fs : List D) : RJ X g c k ff (.ins q fs) := by
  intro base A gs pins σ s ca F P H st st' t v u hsh hz ok ru rv at_ m I
  simp only [shN] at hsh
  split at hsh
  · rename_i hq
    subst hq
    obtain ⟨d, st1, h1, hsh⟩ := bind_ok hsh
    cases d <;> try (cases hsh; done)
    cases hsh
    have rv' := rv
    simp only [Rep] at rv'
    obtain ⟨a, dx, xs, rfl, hF, _⟩ := rv'
    cases (show u = Value.ref a from ru)
    obtain ⟨od, J, e⟩ := ins_at I (m.sub _ _ hF)
    refine wpAny_pyReprUnder_ref (by omega) (under_own (Nat.lt_of_succ_lt (at_units at_)) I.kIn J O.hs O.hf (wpAny_mono (own_call O h1 rv ru at_.fr (at_.rm.mono (by omega)) m I) (fun r s' hq => ?_) fun _ _ z => z))
    obtain ⟨y, tk, rfl, rfl, hw⟩ := hq
    exact ⟨y, tk, rfl, y, tk, rfl, rfl, hw⟩
  · cases hsh
theorem dict_k {pins : List (Addr × Obj)} {σ : L2.St} {ca : List Addr} {F P H : Hp} {st : S} {s : Shared} {a : Addr} (m : Sim g ca F P st H) (I : Inv X pins σ H s) (hF : F a = some (.dK [])) : ReprK X.prog X.w [a] s.heap 1 (.ref a) (dictText []) := by
  obtain ⟨hn, o, ep, ho, hc, hd⟩ := empty_dict I (m.sub _ _ hF)
  exact ReprK.dict (as := []) (d := 0) ho hc hd hn (by simp) .nil
theorem rj_dict : RJ X g c k ff .mty := by
  intro base A gs pins σ s ca F P H st st' t v u hsh hz ok ru rv at_ m I
  simp only [shN] at hsh
  cases hsh
  have rv' := rv
  simp only [Rep] at rv'
  obtain ⟨a, rfl, hF⟩ := rv'
  cases (show u = Value.ref a from ru)
  have hcl := at_.ok.clear ok rv
  refine dict_k m I hF base hz A gs _ s _ at_.gd (fun b hb => ?_) (by have := at_units at_; omega) (fun _ _ e => e) fun h' tk hk => ⟨rfl, ca, F, H, List.prefix_refl _, Sub.refl _, m, I.kept hk⟩
  cases (show b = a by simpa using hb)
  exact hcl
theorem rj_nil {pins : List (Addr × Obj)} {σ : L2.St} {ca : List Addr} {F P H : Hp} {st : S} {s : Shared} {a : Addr} (m : Sim g ca F P st H) (I : Inv X pins σ H s) (hF : F a = some (.lst [])) :
    ∃ n, s.heap.get? a = some { cls := .type "list", data := .seq #[] n } := by
  obtain ⟨its, n, hv, hget⟩ := sim_lst m I hF
  cases hv
  exact ⟨n, hget⟩
mutual
theorem rj {CX : CXT} (O : Ow X g E CX c k ff f fd ps) : ∀ x : D, RJ X g c k ff x
  | .non => fun base A gs pins σ s ca F P H st st' t v u hsh hz ok ru rv at_ m I => by
    simp only [shN] at hsh; cases hsh
    simp only [Rep] at rv; subst rv
    cases (show u = Value.none from ru)
    exact rj_is .none hz m I
  | .bl b => fun base A gs pins σ s ca F P H st st' t v u hsh hz ok ru rv at_ m I => by
    simp only [shN] at hsh; cases hsh
    simp only [Rep] at rv; subst rv
    cases (show u = Value.bool b from ru)
    exact rj_is (.bool b) hz m I
  | .int i => fun base A gs pins σ s ca F P H st st' t v u hsh hz ok ru rv at_ m I => by
    simp only [shN] at hsh
    split at hsh
    · rename_i hi
      cases hsh
      simp only [Rep] at rv; subst rv
      obtain ⟨tk, rfl⟩ := (show ∃ tk, u = Value.int i tk from ru)
      exact rj_is (.int tk (of_decide_eq_true hi)) hz m I
    · cases hsh
  | .str x => fun base A gs pins σ s ca F P H st st' t v u hsh hz ok ru rv at_ m I => by
    simp only [shN] at hsh
    split at hsh
    · rename_i hi
      cases hsh
      simp only [Rep] at rv; subst rv
      obtain ⟨tk, rfl⟩ := (show ∃ tk, u = Value.str x tk from ru)
      exact rj_is (.str x tk (line_le hi)) hz m I
    · cases hsh
  | .lst [] => fun base A gs pins σ s ca F P H st st' t v u hsh hz ok ru rv at_ m I => by
    simp only [shN, shL] at hsh; cases hsh
    simp only [Rep, Reps] at rv
    obtain ⟨a, xs, rfl, hF, rfl⟩ := rv
    cases (show u = Value.ref a from ru)
    obtain ⟨n, hget⟩ := rj_nil m I hF
    exact wpAny_pyReprUnder_ref (by omega) (wpAny_pyReprObjUnder_list_empty ⟨_, hget, rfl⟩ (Nat.lt_of_succ_lt (at_units at_)) hget rfl ⟨_, _, rfl, rfl, ca, F, H, List.prefix_refl _, Sub.refl _, m, I.tok _⟩)
  | .lst (d :: ds) => fun base A gs pins σ s ca F P H st st' t v u hsh hz ok ru rv at_ m I => by
    simp only [shN] at hsh
    obtain ⟨ts, st1, h1, hsh⟩ := bind_ok hsh
    obtain ⟨y, r, rfl⟩ := shL_cons h1
    cases hsh
    simp only [Rep] at rv
    obtain ⟨a, xs, rfl, hF, rs⟩ := rv
    cases (show u = Value.ref a from ru)
    obtain ⟨its, n, hv, hget⟩ := sim_lst m I hF
    have hTy : s.TypeIs (.ref a) "list" := ⟨_, hget, rfl⟩
    refine wpAny_pyReprUnder_ref (by omega) (wpAny_pyReprObjUnder_twin (twin := "list.__repr__.under") hTy PySem.F.slot_list_repr.toG rfl (Nat.lt_of_succ_lt (at_units at_))
      (call_twin_plain PySem.F.plain_list_repr_under PySem.F.entry_list_repr_under PySem.F.check_list_repr_under hTy PySem.F.slot_list_repr.toG (PySem.F.args_list_repr_1 _)
        (rj_list (R := callEnd _ X.xe) (rjs O (d :: ds)) (by simpa only [okN] using ok) (fun _ _ z => z) h1 hz hF rs at_ m I fun tk s' hw => ⟨⟨_, _, rfl⟩, _, _, rfl, rfl, hw⟩)))
  | .tup ds => fun base A gs pins σ s ca F P H st st' t v u hsh hz ok ru rv at_ m I => by
    simp only [shN] at hsh
    obtain ⟨ts, st1, h1, hsh⟩ := bind_ok hsh
    cases hsh
    simp only [Rep] at rv
    obtain ⟨a, xs, rfl, hF, rs⟩ := rv
    cases (show u = Value.ref a from ru)
    have hTy : s.TypeIs (.ref a) "tuple" := by
      obtain ⟨_, its, hv, o, hget, hcls, _⟩ := (show ObjOk X.prog X.w H s.heap a (.tup xs) from I.hok a _ (m.sub _ _ hF))
      exact ⟨o, hget, hcls⟩
    refine wpAny_pyReprUnder_ref (by omega) (wpAny_pyReprObjUnder_twin (twin := "tuple.__repr__.under") hTy PySem.F.slot_tuple_repr rfl (Nat.lt_of_succ_lt (at_units at_))
      (call_twin_own (PySem.F.quiet_tuple_repr_under _) PySem.F.entry_tuple_repr_under PySem.F.check_tuple_repr_under hTy PySem.F.slot_tuple_repr (PySem.F.args_tuple_repr_1 _)
        (rj_tup (R := callEnd _ X.xe) (isGuard_tuple_repr_under _) (tupu_w _) (tupu_u _) (rjs O ds) (by simpa only [okN] using ok) (fun _ _ z => z) h1 hz hF rs at_ m I fun tk s' hw => ⟨⟨_, _, rfl⟩, _, _, rfl, rfl, hw⟩)))
  | .ins q fs => rj_own O q fs
  | .mty => rj_dict
  | .ro _ => fun _ _ _ _ _ _ _ _ _ _ _ _ _ _ _ h => by simp only [shN] at h; cases h
  | .rot _ => fun _ _ _ _ _ _ _ _ _ _ _ _ _ _ _ h => by simp only [shN] at h; cases h
  | .cell _ => fun _ _ _ _ _ _ _ _ _ _ _ _ _ _ _ h => by simp only [shN] at h; cases h
  | .cls _ => fun _ _ _ _ _ _ _ _ _ _ _ _ _ _ _ h => by simp only [shN] at h; cases h
  | .ty _ => fun _ _ _ _ _ _ _ _ _ _ _ _ _ _ _ h => by simp only [shN] at h; cases h
theorem rjs {CX : CXT} (O : Ow X g E CX c k ff f fd ps) : ∀ (ds : List D), ∀ d ∈ ds, RJ X g c k ff d
  | [], _, h => nomatch h
  | e :: es, d, h => (List.mem_cons.mp h).elim (fun z => z ▸ rj O e) fun z => rjs O es d z
end
end
end Pm
set_option Elab.async false
set_option linter.all false
set_option maxRecDepth 100000
set_option maxHeartbeats 2000000
namespace Pm
open PySem PySem.Spec PyProof.Rows L2
section
variable {X : Cx} {g : G} {E : XK} {c k : Nat} {ff : List D → S → Res D} {f : Addr} {fd : FuncData} {ps : List Str}
/-- repr(x) of nested values -/
def bReprN (c : Nat) (ff : List D → S → Res D) : List D → S → Res D := fun xs s => match xs with
  | [x] => if okN x && decide (ht x ≤ 8) = true then match shN c ff x s with
    | .ok t s1 => if t.length ≤ line then .ok (.str t) s1 else .stuck
    | _ => .stuck else .stuck
  | _ => .stuck
def rReprN (g : G) (c : Nat) (ff : List D → S → Res D) : List V → Hp → VK → Prop := fun vs H Q => ∃ x v ca F P st st' t, vs = [v] ∧ shN c ff x st = .ok t st' ∧ t.length ≤ sizeLine ∧ okN x = true ∧ ht x ≤ 8 ∧ Rep g ca F x v ∧ Sim g ca F P st H ∧
  ∀ ca' F' H', ca <+: ca' → Sub F F' → Sim g ca' F' P st' H' → Q (.str t) H'
theorem call_reprN {CX : CXT} (O : Ow X g E CX c k ff f fd ps) (hr : Room (k + 9) X.A) (hgd : X.A.guards = some []) : CallR X (.builtin "repr") (rReprN g c ff) := by
  intro pins s σ H vs us Q I r h
  obtain ⟨x, v, ca, F, P, st, st', t, rfl, hsh, hz, ok, hd, rv, m, q⟩ := h
  obtain ⟨u, rfl, ru⟩ := vals1 r
  have fin : ∀ tk s', WR X pins σ g ca F P st' s' → EP X pins σ Q (.str t tk) s' := fun tk s' ⟨ca', F', H', a, b, m', I'⟩ => ⟨.str t, H', I', ⟨_, rfl⟩, q _ _ _ a b m'⟩
  have now : ∀ tk tk', st = st' → EP X pins σ Q (.str t tk) { s with toks := tk' } := fun tk tk' e => fin tk _ ⟨ca, F, H, List.prefix_refl _, Sub.refl _, e ▸ m, I.tok _⟩
  have at_ : At X g X.A.in1 [] k (ht x) ca F := ⟨I.ok.frames, hgd, gok_nil, (show Room (k + 8) X.A.in1 from Room.in1 hr).mono (by omega)⟩
  have hu := at_units at_
  have hu1 : X.A.units + 1 < cLine := Nat.lt_of_succ_lt hu
  cases x with
  | non =>
    simp only [shN] at hsh; cases hsh
    simp only [Rep] at rv; subst rv
    cases (show u = Value.none from ru)
    exact PySem.P.repr_of_none (now _ _ rfl)
  | bl b =>
    simp only [shN] at hsh; cases hsh
    simp only [Rep] at rv; subst rv
    cases (show u = Value.bool b from ru)
    exact PySem.P.repr_of_bool (now _ _ rfl)
  | int i =>
    simp only [shN] at hsh
    split at hsh
    · rename_i hi
      cases hsh
      simp only [Rep] at rv; subst rv
      obtain ⟨tk, rfl⟩ := (show ∃ tk, u = Value.int i tk from ru)
      exact PySem.P.repr_of_int (of_decide_eq_true hi) (now _ _ rfl)
    · cases hsh
  | str y =>
    simp only [shN] at hsh
    split at hsh
    · rename_i hi
      cases hsh
      simp only [Rep] at rv; subst rv
      obtain ⟨tk, rfl⟩ := (show ∃ tk, u = Value.str y tk from ru)
      exact PySem.P.repr_of_str (now _ _ rfl) (line_le hi)
    · cases hsh
  | lst ds =>
    have rv' := rv
    simp only [Rep] at rv
    obtain ⟨a, xs, rfl, hF, rs⟩ := rv
    cases (show u = Value.ref a from ru)
    obtain ⟨its, n, hv, hget⟩ := sim_lst m I hF
    have hTy : s.TypeIs (.ref a) "list" := ⟨_, hget, rfl⟩
    simp only [shN] at hsh
    obtain ⟨ts, st1, h1, hsh⟩ := bind_ok hsh
    cases ds with
    | nil =>
      simp only [shL] at h1
      cases h1
      cases hsh
      simp only [Reps] at rs
      subst rs
      cases hv
      exact call_repr_slot hu1 hTy PySem.F.slot_list_repr.toG (call_list_repr_empty hTy hget rfl ⟨_, _, rfl, now _ _ rfl⟩)
    | cons d ds =>
      obtain ⟨y, r, rfl⟩ := shL_cons h1
      cases hsh
      exact call_repr_slot hu1 hTy PySem.F.slot_list_repr.toG (wpAny_call (codeAny_call_builtin PySem.F.slot_list_repr.plain PySem.F.entry_list_repr (PySem.F.slot_list_repr.check _ _ _ _ _ _ _ _ hTy (PySem.F.args_list_repr_1 _)
        (rj_list (base := 0) (R := callEnd _ X.xe) (rjs O (d :: ds)) (by simpa only [okN] using ok) (fun _ _ z => z) h1 (by simpa using hz) hF rs at_ m I fun tk s' hw => ⟨_, _, rfl, fin tk s' hw⟩))))
  | tup ds =>
    have rv' := rv
    simp only [Rep] at rv
    obtain ⟨a, xs, rfl, hF, rs⟩ := rv
    cases (show u = Value.ref a from ru)
    have hTy : s.TypeIs (.ref a) "tuple" := by
      obtain ⟨_, its, hv, o, hget, hcls, _⟩ := (show ObjOk X.prog X.w H s.heap a (.tup xs) from I.hok a _ (m.sub _ _ hF))
      exact ⟨o, hget, hcls⟩
    simp only [shN] at hsh
    obtain ⟨ts, st1, h1, hsh⟩ := bind_ok hsh
    cases hsh
    exact call_repr_slot hu1 hTy PySem.F.slot_tuple_repr (wpAny_call (codeAny_call_builtin_own (Code.quiet_builtin _ (by decide +kernel)) PySem.F.entry_tuple_repr (PySem.F.slot_tuple_repr.check _ _ _ _ _ _ _ _ hTy (PySem.F.args_tuple_repr_1 _)
      (rj_tup (base := 0) (R := callEnd _ X.xe) (isGuard_tuple_repr _) (tup_w _) (tup_u _) (rjs O ds) (by simpa only [okN] using ok) (fun _ _ z => z) h1 (by omega) hF rs at_ m I fun tk s' hw => ⟨_, _, rfl, fin tk s' hw⟩))))
  | ins j fs =>
    simp only [shN] at hsh
    split at hsh
    · rename_i hj
      subst hj
      obtain ⟨d, st1, h1, hsh⟩ := bind_ok hsh
      cases d <;> try (cases hsh; done)
      cases hsh
      have rv' := rv
      simp only [Rep] at rv'
      obtain ⟨a, dx, xs, rfl, hF, _⟩ := rv'
      cases (show u = Value.ref a from ru)
      obtain ⟨od, J, e⟩ := ins_at I (m.sub _ _ hF)
      obtain ⟨mF, hFr⟩ := I.fr
      refine PySem.W.repr_K hu1 hFr I.ok.mod.kin J O.hs O.hf (wpAny_mono (own_call O h1 rv ru at_.fr (at_.rm.mono (by omega)) m I) (fun r s' hq => ?_) fun _ _ z => z)
      obtain ⟨y, tk, rfl, rfl, hw⟩ := hq
      obtain ⟨z, H', I', rz, q'⟩ := fin tk s' hw
      exact ⟨z, H', I', rz, q'⟩
    · cases hsh
  | mty =>
    simp only [shN] at hsh; cases hsh
    have rv' := rv
    simp only [Rep] at rv'
    obtain ⟨a, rfl, hF⟩ := rv'
    cases (show u = Value.ref a from ru)
    obtain ⟨hn, o, ep, ho, hc, hdt⟩ := empty_dict I (m.sub _ _ hF)
    have hcl := at_.ok.clear ok rv
    exact call_repr_slot hu1 ⟨o, ho, hc⟩ PySem.F.slot_dict_repr (call_dict_reprK (as := []) (d := 0) (h₀ := s.heap) ho hc hdt hn (by simp) .nil at_.gd (fun b hb => by
      cases (show b = a by simpa using hb)
      exact hcl) (by omega) (fun _ _ e => e) (fun h' u' tk hk => ⟨_, _, rfl, fin u' _ ⟨ca, F, H, List.prefix_refl _, Sub.refl _, m, I.kept hk⟩⟩) hz)
  | ro _ => simp only [shN] at hsh; cases hsh
  | rot _ => simp only [shN] at hsh; cases hsh
  | cell _ => simp only [shN] at hsh; cases hsh
  | cls _ => simp only [shN] at hsh; cases hsh
  | ty _ => simp only [shN] at hsh; cases hsh
theorem cd_reprN {CX : CXT} (O : Ow X g E CX c k ff f fd ps) (hr : Room (k + 9) X.A) (hgd : X.A.guards = some []) : CallD X g E (.builtin "repr") (bReprN c ff) := by
  refine ⟨_, call_reprN O hr hgd, fun xs s ca F P H vs Q m rs q => ?_⟩
  unfold bReprN at q
  split at q
  · rename_i x
    split at q
    · rename_i hc
      simp only [Bool.and_eq_true, decide_eq_true_eq] at hc
      obtain ⟨v, rfl, rv⟩ := reps1 rs
      cases hs : shN c ff x s with
      | stuck => rw [hs] at q; exact q.elim
      | exn a b d => rw [hs] at q; exact q.elim
      | ok t s1 =>
        rw [hs] at q
        dsimp only at q
        split at q
        · rename_i hl
          exact ⟨x, v, ca, F, P, s, s1, t, rfl, hs, line_le hl, hc.1, hc.2, rv, m, fun ca' F' H' a b m' => q ca' F' H' a b m' _ (by simp only [Rep])⟩
        · exact q.elim
    · exact q.elim
  · exact q.elim
end
end Pm
set_option Elab.async false
set_option linter.all false
set_option maxRecDepth 100000
set_option maxHeartbeats 2000000
namespace Pm
open PySem PySem.Spec PyProof.Rows L2
section
variable {X : Cx} {g : G} {E : XK} {pos : Pos}
def mDct0 : Env → S → Res D := fun _ s => .ok .mty s
theorem ev_dct0 : Ev X g E (.Dict [] [] pos) mDct0 := by
  refine ⟨_, pe_dnewK, fun env s ca F P H σ Q m sl q => fun p hp => ?_⟩
  have hF : F p = none := m.sub.free hp
  exact q ca (upd F p (.dK [])) (upd H p (.dK [])) (List.prefix_refl _) (Sub.new hF) (m.fresh _ hp) _ (by simp only [Rep]; exact ⟨p, rfl, by simp [upd]⟩)
end
end Pm
set_option Elab.async false
set_option linter.all false
set_option maxRecDepth 100000
set_option maxHeartbeats 2000000
/-! lists that will change: list(x), x + y -/
namespace Pm
open PySem PySem.Spec PyProof.Rows L2
section
variable {X : Cx} {g : G} {E : XK}
def newC (xs : List D) (s : S) : Res D := if xs.length ≤ line then .ok (.cell s.length) (s ++ [.lst xs]) else .stuck
theorem newC_ok {xs : List D} {s : S} {ca : List Addr} {F P H : Hp} {vs : List V} {Q : VK} (m : Sim g ca F P s H) (r : Reps g ca F xs vs) (p : Post g ca F P E (fun d _ ca' F' H' => ∀ v, Rep g ca' F' d v → Q v H') (newC xs s)) :
    vs.length ≤ sizeLine ∧ ∀ q, H q = none → Q (.ref q) (upd H q (.lst vs)) := by
  unfold newC at p
  split at p
  · rename_i hl
    refine ⟨by rw [← r.length]; exact line_le hl, fun z hz => ?_⟩
    refine p _ F _ (List.prefix_append _ [z]) (Sub.refl _) (m.cell hz r) _ ?_
    simp only [Rep]
    exact ⟨z, rfl, by rw [← m.len]; simp⟩
  · exact p.elim
def catC : D → D → S → Res D := fun x y s => match x, y with
  | .lst a, .lst b => newC (a ++ b) s
  | _, _ => .stuck
theorem od_catC : OpD X g E (binaryOp .Add) catC := by
  refine ⟨_, op_cat, fun x y s ca F P H v u Q m rx ry p => ?_⟩
  unfold catC at p
  split at p
  · simp only [Rep] at rx ry
    obtain ⟨a, xs, rfl, hF, rs⟩ := rx
    obtain ⟨b, ys, rfl, hF2, rs2⟩ := ry
    obtain ⟨h1, h2⟩ := newC_ok m (rs.append rs2) p
    exact ⟨a, b, xs, ys, rfl, rfl, m.sub _ _ hF, m.sub _ _ hF2, by simpa using h1, h2⟩
  · exact p.elim
def bListC : List D → S → Res D := fun xs s => match xs with
  | [x] => match seqOf s x with
    | some ds => newC ds s
    | none => .stuck
  | _ => .stuck
theorem cd_listC (hK : g.K = X.K) : CallD X g E (.type "list") bListC := by
  refine ⟨_, call_list_of, fun xs s ca F P H vs Q m rs p => ?_⟩
  unfold bListC at p
  split at p
  · rename_i x
    split at p
    · rename_i ds hd
      obtain ⟨v, rfl, r⟩ := reps1 rs
      obtain ⟨a, ys, rfl, hq, rs'⟩ := seq_rep' hK m hd r
      exact ⟨a, ys, rfl, hq, (newC_ok m rs' p).2⟩
    · exact p.elim
  · exact p.elim
end
end Pm
set_option Elab.async false
set_option linter.all false
set_option maxRecDepth 100000
set_option maxHeartbeats 400000
set_option exponentiation.threshold 5000
/-! plain steps: bodies, small numbers, pots and draws -/
namespace Pm
open PySem
theorem lgP {n : Nat} {k : Nat} (h : n < 2 ^ k) (hk : 0 < k) : n.log2 < k := by
  by_cases h0 : n = 0
  · subst h0
    simpa using hk
  · exact (Nat.log2_lt h0).mpr h
/-- small: products are made -/
abbrev SmP (i : Int) : Prop := i.natAbs < 2 ^ 4000
theorem smP {i : Int} (h : i.natAbs < 2 ^ 200) : SmP i := Nat.lt_of_lt_of_le h (Nat.pow_le_pow_right (by decide) (by decide))
theorem mulP (i j : Int) (s : S) (hi : SmP i) (hj : SmP j) : mulD (.int i) (.int j) s = .ok (.int (i * j)) s := by
  have h : i.natAbs.log2 + j.natAbs.log2 < 1000000 := by
    have := lgP hi (by decide)
    have := lgP hj (by decide)
    omega
  simp [mulD, mulI, intOp, cMul, h, Res.or]
theorem addP (i j : Int) (s : S) : addAll (.int i) (.int j) s = .ok (.int (i + j)) s := by rfl
theorem subP (i j : Int) (s : S) : subI (.int i) (.int j) s = .ok (.int (i - j)) s := by rfl
theorem eqPi (i j : Int) (s : S) : eqP false (.int i) (.int j) s = .ok (.bl (decide (i = j))) s := by rfl
theorem runP3 {body : Pm.Env → S → Res Fl} {a b c r : D} {N : Nat} {s s1 : S} (h : body ([some a, some b, some c] ++ List.replicate (N - 3) none) s = .ok (.rt r) s1) : runBody 3 N body [a, b, c] s = .ok r s1 := by
  simp only [List.cons_append, List.nil_append] at h
  simp [runBody, h]
theorem runP2 {body : Pm.Env → S → Res Fl} {a b r : D} {N : Nat} {s s1 : S} (h : body ([some a, some b] ++ List.replicate (N - 2) none) s = .ok (.rt r) s1) : runBody 2 N body [a, b] s = .ok r s1 := by
  simp only [List.cons_append, List.nil_append] at h
  simp [runBody, h]
theorem runP1 {body : Pm.Env → S → Res Fl} {a r : D} {N : Nat} {s s1 : S} (h : body ([some a] ++ List.replicate (N - 1) none) s = .ok (.rt r) s1) : runBody 1 N body [a] s = .ok r s1 := by
  simp only [List.cons_append, List.nil_append] at h
  simp [runBody, h]
theorem seqP {a b : Pm.Env → S → Res Fl} {e e1 : Pm.Env} {s s1 : S} (h : a e s = .ok (.nx e1) s1) : sSeq a b e s = b e1 s1 := by simp [sSeq, h]
theorem seqRt {a b : Pm.Env → S → Res Fl} {e : Pm.Env} {r : D} {s s1 : S} (h : a e s = .ok (.rt r) s1) : sSeq a b e s = .ok (.rt r) s1 := by simp [sSeq, h]
theorem retP {m : Pm.Env → S → Res D} {e : Pm.Env} {r : D} {s s1 : S} (h : m e s = .ok r s1) : sRet m e s = .ok (.rt r) s1 := by simp [sRet, h]
theorem setP {m : Pm.Env → S → Res D} {e : Pm.Env} {r : D} {i : Nat} {s s1 : S} (h : m e s = .ok r s1) : sSet i m e s = .ok (.nx (e.set i (some r))) s1 := by simp [sSet, h]
/-- an item in its place -/
theorem at_P {α : Type} {xs : List α} {x : α} {j : Nat} (h : xs[j]? = some x) : L2.atI xs (j : Int) = some x := by
  have hl : j < xs.length := (List.getElem?_eq_some_iff.mp h).1
  unfold L2.atI L2.ixN
  rw [if_pos (by omega), if_pos (by omega)]
  simpa using h
theorem fmodP (x : Int) {m : Int} (h : 0 < m) : 0 ≤ x.fmod m ∧ x.fmod m < m := by
  rw [Int.fmod_eq_emod_of_nonneg _ (by omega)]
  exact ⟨Int.emod_nonneg _ (by omega), Int.emod_lt_of_pos _ h⟩

/-! ### draws -/
def drawB (A B : Int) : Pm.Env → S → Res Fl := (sSeq (sIf (mB (m2 gtI (m2 ixD (mVar 0) (mC (.int 0))) (mC (.int 0)))) (sSeq (sAsg (mCall bDivmod (aCons (m2 ixD (mVar 0) (mC (.int 0))) (aCons (mVar 1) aNil))) (taTup 2 (taCons (taSub (mVar 0) (mC (.int 0))) (taCons (aN (tName 2)) taNil))))
  (sRet (mVar 2))) sNext)
  (sSeq (sAsg (m2 modI (mCall (bInt1 fun i => .int i) (aCons (m2 addAll (m2 mulD (m2 ixD (mVar 0) (mC (.int 1))) (mC (.int 48271))) (mC (.int A))) aNil)) (mC (.int 2147483587))) (taSub (mVar 0) (mC (.int 1))))
  (sRet (m2 modI (mCall (bInt1 fun i => .int i) (aCons (m2 divI (m2 modI (mCall (bInt1 fun i => .int i) (aCons (m2 mulD (m2 ixD (mVar 0) (mC (.int 1))) (m2 ixD (mVar 0) (mC (.int 1)))) aNil)) (mC (.int 2147483549))) (mC (.int B))) aNil)) (mVar 1)))))
def drawM (A B : Int) : List D → S → Res D := runBody 2 3 (drawB A B)
section
variable {s : S} {k : Nat} {a b n A B : Int}
theorem lenP (e : s[k]? = some (.lst [.int a, .int b])) : k < s.length := (List.getElem?_eq_some_iff.mp e).1
theorem atP0 {x y : D} : L2.atI [x, y] 0 = some x := by rfl
theorem atP1 {x y : D} : L2.atI [x, y] 1 = some y := by rfl
theorem ixnP0 : L2.ixN 2 0 = some 0 := by rfl
theorem ixnP1 : L2.ixN 2 1 = some 1 := by rfl
theorem potP0 (e : s[k]? = some (.lst [.int a, .int b])) : ixD (.cell k) (.int 0) s = .ok (.int a) s := by
  simp [ixD, ixL, e, atP0, atP1, Res.or]
theorem potP1 (e : s[k]? = some (.lst [.int a, .int b])) : ixD (.cell k) (.int 1) s = .ok (.int b) s := by
  simp [ixD, ixL, e, atP0, atP1, Res.or]
def nxtB (A b : Int) : Int := (b * 48271 + A).fmod 2147483587
def drwR (B c n : Int) : Int := (((c * c).fmod 2147483549).fdiv B).fmod n
theorem drawP_a (e : s[k]? = some (.lst [.int a, .int b])) (ha : 0 < a) (hn : 0 < n ∧ n < 1073741824) :
    drawM A B [.cell k, .int n] s = .ok (.int (a % n)) (s.set k (.lst [.int (a / n), .int b])) := by
  refine runP2 ?_
  simp [drawB, sSeq, sIf, mB, m2, mVar, mC, potP0 e, gtI, intOp, ha, sAsg, mCall, aCons, aNil, bDivmod, cDiv0, hn, newT, line, taTup, taCons, taNil, taSub, aN, tName, e, ixnP0, sRet]
theorem drawP_b (hB : B ≠ 0 ∧ B.natAbs.log2 < 9000) (e : s[k]? = some (.lst [.int a, .int b])) (ha : ¬ 0 < a) (hb : 0 ≤ b ∧ b < 2 ^ 32) (hn : 0 < n) :
    drawM A B [.cell k, .int n] s = .ok (.int (drwR B (nxtB A b) n)) (s.set k (.lst [.int a, .int (nxtB A b)])) := by
  have hc : 0 ≤ nxtB A b ∧ nxtB A b < 2147483587 := fmodP _ (by decide)
  have e2 : (s.set k (.lst [.int a, .int (nxtB A b)]))[k]? = some (.lst [.int a, .int (nxtB A b)]) := List.getElem?_set_self (lenP e)
  have s1 : SmP b := smP (by omega)
  have s2 : SmP (nxtB A b) := smP (by omega)
  have s3 : SmP 48271 := smP (by decide)
  have hz : n ≠ 0 := by omega
  have hm : (b * 48271 + A).fmod 2147483587 = nxtB A b := rfl
  refine runP2 ((seqP (e1 := [some (.cell k), some (.int n), none]) (s1 := s) ?_).trans ((seqP (e1 := [some (.cell k), some (.int n), none]) (s1 := s.set k (.lst [.int a, .int (nxtB A b)])) ?_).trans (retP ?_)))
  · simp [sIf, mB, m2, mVar, mC, potP0 e, gtI, intOp, ha, sNext]
  · simp [sAsg, m2, mVar, mC, mCall, aCons, aNil, potP1 e, mulP _ _ _ s1 s3, addP, bInt1, modI, intOp, cMod, hm, taSub, e, ixnP1]
  · simp [m2, mVar, mC, mCall, aCons, aNil, potP1 e2, mulP _ _ _ s2 s2, bInt1, modI, intOp, cMod, divI, cDiv, drwR, hz, hB]
/-- the pot, in the state's k-th place -/
def PotP (s : S) (k : Nat) : Prop := ∃ a b : Int, s[k]? = some (.lst [.int a, .int b]) ∧ 0 ≤ a ∧ 0 ≤ b ∧ b < 2 ^ 32
/-- s but for the pot in its k-th place -/
structure NxP (s s' : S) (k : Nat) : Prop where
  eq : ∃ c, s' = s.set k c
  pot : PotP s' k
theorem NxP.refl (h : PotP s k) : NxP s s k := by
  obtain ⟨a, b, e, h2⟩ := id h
  exact ⟨⟨.lst [.int a, .int b], (List.ext_getElem? fun i => by
    by_cases hi : k = i
    · subst hi
      rw [List.getElem?_set_self (lenP e), e]
    · rw [List.getElem?_set_ne hi])⟩, h⟩
theorem NxP.trans {s' s2 : S} (h : NxP s s' k) (h2 : NxP s' s2 k) : NxP s s2 k := by
  obtain ⟨⟨c, rfl⟩, _⟩ := h
  obtain ⟨⟨c2, rfl⟩, p⟩ := h2
  exact ⟨⟨c2, by rw [List.set_set]⟩, p⟩
theorem drawP (hB : B ≠ 0 ∧ B.natAbs.log2 < 9000) (h : PotP s k) (hn : 0 < n ∧ n < 1073741824) : ∃ (r : Int) (s' : S), drawM A B [.cell k, .int n] s = .ok (.int r) s' ∧ 0 ≤ r ∧ r < n ∧ NxP s s' k := by
  obtain ⟨a, b, e, h1, h2, h3⟩ := h
  by_cases ha : 0 < a
  · exact ⟨_, _, drawP_a e ha hn, Int.emod_nonneg _ (by omega), Int.emod_lt_of_pos _ hn.1, ⟨_, rfl⟩, _, _, List.getElem?_set_self (lenP e), Int.ediv_nonneg (by omega) (by omega), h2, h3⟩
  · have hc : 0 ≤ nxtB A b ∧ nxtB A b < 2147483587 := fmodP _ (by decide)
    have hr := fmodP (((nxtB A b * nxtB A b).fmod 2147483549).fdiv B) hn.1
    exact ⟨_, _, drawP_b hB e ha ⟨h2, h3⟩ hn.1, hr.1, hr.2, ⟨_, rfl⟩, _, _, List.getElem?_set_self (lenP e), h1, hc.1, by omega⟩
/-- what is asked of a law's own draw -/
def DrawOk (m : List D → S → Res D) : Prop := ∀ (s : S) (k : Nat) (n : Int), PotP s k → 0 < n → n < 1073741824 → ∃ (r : Int) (s' : S), m [.cell k, .int n] s = .ok (.int r) s' ∧ 0 ≤ r ∧ r < n ∧ NxP s s' k
theorem drawOk (A B : Int) (hB : B ≠ 0 ∧ B.natAbs.log2 < 9000) : DrawOk (drawM A B) := fun s k n h h1 h2 => drawP hB h ⟨h1, h2⟩
def pickM (m : List D → S → Res D) : List D → S → Res D := runBody 2 2 (sRet (m2 ixD (mVar 1) (mCallD (n := 2) [] m (aCons (mVar 0) (aCons (mCall bLen (aCons (mVar 1) aNil)) aNil)))))
def PickOk (m : List D → S → Res D) : Prop := ∀ (s : S) (k : Nat) (xs : List D), PotP s k → 0 < xs.length → xs.length < 1000000 → ∃ (x : D) (s' : S), m [.cell k, .lst xs] s = .ok x s' ∧ x ∈ xs ∧ NxP s s' k
theorem pickOk {m : List D → S → Res D} (hm : DrawOk m) : PickOk (pickM m) := fun s k xs h h0 h1 => by
  obtain ⟨r, s', e, r0, r1, nx⟩ := hm s k (xs.length : Int) h (by omega) (by omega)
  obtain ⟨j, rfl⟩ : ∃ j : Nat, r = (j : Int) := ⟨r.toNat, by omega⟩
  have hj : j < xs.length := by omega
  refine ⟨xs[j], s', runP2 (retP ?_), List.getElem_mem hj, nx⟩
  have e2 : L2.atI xs (j : Int) = some xs[j] := at_P (List.getElem?_eq_getElem hj)
  simp [m2, mVar, mCallD, aCons, aNil, mCall, bLen, seqOf, e, ixD, ixL, e2, Res.or]
/-- a draw below a written number, as it is called -/
theorem drawC {m : List D → S → Res D} {env : Pm.Env} (n : Int) (hm : DrawOk m) (he : env[0]? = some (some (.cell k))) (h : PotP s k) (h0 : 0 < n) (h1 : n < 1073741824) :
    ∃ (r : Int) (s' : S), mCallD (n := 2) [] m (aCons (mVar 0) (aCons (mC (.int n)) aNil)) env s = .ok (.int r) s' ∧ 0 ≤ r ∧ r < n ∧ NxP s s' k := by
  obtain ⟨r, s', e, q⟩ := hm s k n h h0 h1
  refine ⟨r, s', ?_, q⟩
  simp [mCallD, aCons, aNil, mVar, mC, he, e]

/-- a comprehension whose items draw -/
theorem compDraw {own : List Nat} {mt : D → Pm.Env → Option Pm.Env} {me : Pm.Env → S → Res D} {env : Pm.Env} {C : D → Prop} : ∀ (ds : List D) (s : S), PotP s k →
    (∀ d ∈ ds, ∀ s, PotP s k → ∃ e1 x s', mt d (wipeE env own) = some e1 ∧ me e1 s = .ok x s' ∧ C x ∧ NxP s s' k) →
    ∃ xs s', compL own mt mYes me ds env s = .ok xs s' ∧ xs.length = ds.length ∧ (∀ x ∈ xs, C x) ∧ NxP s s' k
  | [], s, h, _ => ⟨[], s, rfl, rfl, by simp, NxP.refl h⟩
  | d :: ds, s, h, H => by
    obtain ⟨e1, x, s1, h1, h2, h3, n1⟩ := H d (by simp) s h
    obtain ⟨xs, s2, h4, h5, h6, n2⟩ := compDraw ds s1 n1.pot fun d' hd => H d' (by simp [hd])
    refine ⟨x :: xs, s2, ?_, by simp [h5], by simpa using ⟨h3, h6⟩, n1.trans n2⟩
    simp [compL, h1, mYes, noexn, h2, h4]
/-- bits in the place of draws: all lists of so many -/
def bitL : Nat → List (List Int)
  | 0 => [[]]
  | n + 1 => (bitL n).map (0 :: ·) ++ (bitL n).map (1 :: ·)
theorem bitL_mem : ∀ {l : List Int}, (∀ x ∈ l, x = 0 ∨ x = 1) → l ∈ bitL l.length
  | [], _ => by simp [bitL]
  | x :: l, h => by
    have ih := bitL_mem (l := l) fun y hy => h y (by simp [hy])
    rcases h x (by simp) with rfl | rfl
    · exact List.mem_append.mpr (.inl (List.mem_map.mpr ⟨l, ih, rfl⟩))
    · exact List.mem_append.mpr (.inr (List.mem_map.mpr ⟨l, ih, rfl⟩))
/-- shapes of a state of one pot, of two -/
inductive Sh : S → Nat → Prop
  | one (a b : Int) : Sh [.lst [.int a, .int b]] 0
  | two (a b c d : Int) : Sh [.lst [.int a, .int b], .lst [.int c, .int d]] 1
theorem Sh.next {s' : S} (h : Sh s k) (n : NxP s s' k) : Sh s' k := by
  obtain ⟨⟨c, rfl⟩, a, b, e, _⟩ := n
  cases h with
  | one a0 b0 => simp at e; subst e; exact .one a b
  | two a0 b0 c0 d0 => simp at e; subst e; exact .two a0 b0 a b
theorem eqOf {α β : Type} {f g : α → β} {l : List α} (h : l.map f = l.map g) {x : α} (hx : x ∈ l) : f x = g x := List.map_inj_left.mp h x hx
end
end Pm
set_option Elab.async false
set_option linter.all false
set_option maxRecDepth 100000
set_option maxHeartbeats 400000
set_option exponentiation.threshold 5000
/-! the texts of small values are made, and don't hang on the state -/
namespace Pm
open PySem
theorem lenAp (a b : Str) : (a ++ b).length = a.length + b.length := by
  cases a; cases b
  show (_ ++ _ : Array Nat).size = _
  simp [Str.length]
theorem txtI {i : Int} (h : i.natAbs < 2 ^ 200) : (intTxt i).length ≤ 201 := by
  have e := int_text_length_le (k := 200) (by decide) (lgP h (by decide))
  unfold intTxt
  rw [show ((toString i : String) : Str) = Str.ofString (toString i) from rfl, ofString_length]
  exact e
theorem okAp {a b : Str} (ha : PyData.strOk a = true) (hb : PyData.strOk b = true) : PyData.strOk (a ++ b) = true := by
  obtain ⟨x⟩ := a
  obtain ⟨y⟩ := b
  have ha : x.all (· < 0x110000) = true := ha
  have hb : y.all (· < 0x110000) = true := hb
  show (x ++ y).all (· < 0x110000) = true
  rw [Array.all_append, ha, hb]
  rfl
theorem okOf (s : String) : PyData.strOk (Str.ofString s) = true := by
  rw [Str.ofString_eq_toList]
  unfold PyData.strOk
  rw [Array.all_eq_true]
  intro i hi
  simp only [List.getElem_toArray, List.getElem_map, decide_eq_true_eq]
  have h := (s.toList[i]'(by simpa using hi)).valid
  show (s.toList[i]'(by simpa using hi)).val.toNat < 1114112
  simp only [UInt32.isValidChar, Nat.isValidChar] at h
  omega
theorem okFrom : ∀ (ts : List Str) (k : Nat) (acc : Str), PyData.strOk acc = true → (∀ t ∈ ts, PyData.strOk t = true) → PyData.strOk (textFrom k acc ts) = true
  | [], _, _, h, _ => h
  | t :: ts, k, acc, h, ht => okFrom ts (k + 1) _ (okAp (okAp h (okOf _)) (ht t (by simp))) fun u hu => ht u (by simp [hu])
theorem okJoin : ∀ (ts : List Str), (∀ t ∈ ts, PyData.strOk t = true) → PyData.strOk (Str.join ", " ts) = true
  | [], _ => by decide +kernel
  | [x], h => h x (by simp)
  | x :: y :: r, h => okAp (okAp (h x (by simp)) (okOf _)) (okJoin (y :: r) fun u hu => h u (by simp [hu]))
theorem okTup {ts : List Str} (h : ∀ t ∈ ts, PyData.strOk t = true) : PyData.strOk (tupleText ts) = true := okAp (okAp (okOf _) (okJoin ts h)) (okOf _)
theorem okLst {ts : List Str} (h : ∀ t ∈ ts, PyData.strOk t = true) : PyData.strOk (listText ts) = true := okAp (okFrom ts 0 _ (okOf _) h) (okOf _)
mutual
/-- as much room as the text may want -/
def wt : D → Nat
  | .lst ds => wtL ds + 2
  | .tup ds => wtL ds + 4
  | _ => 1000
def wtL : List D → Nat
  | [] => 0
  | d :: ds => wt d + 2 + wtL ds
end
mutual
def smD (c : Nat) (ok : List D → Bool) : D → Bool
  | .non => true
  | .bl _ => true
  | .int i => decide (i.natAbs < 2 ^ 200)
  | .str x => decide ((reprText x).length ≤ 1000) && PyData.strOk (reprText x)
  | .lst ds => smL c ok ds
  | .tup ds => smL c ok ds
  | .ins k fs => decide (k = c) && ok fs
  | .mty => true
  | _ => false
def smL (c : Nat) (ok : List D → Bool) : List D → Bool
  | [] => true
  | d :: ds => smD c ok d && smL c ok ds
end
theorem piledTup (ts : List Str) : (tupleText ts).length ≤ piled ts + 4 := by
  unfold tupleText
  rw [lenAp, lenAp]
  have e1 : ((("(" : String) : Str)).length = 1 := rfl
  have e3 : (((if ts.length == 1 then ",)" else ")" : String) : Str)).length ≤ 2 := by split <;> decide
  rw [e1]
  cases ts with
  | nil =>
    have e4 : (Str.join (", " : String) ([] : List Str)).length = 0 := rfl
    omega
  | cons t r =>
    have h := join_length_add (t :: r) (by simp)
    omega
theorem piledLst : ∀ (t : Str) (r : List Str), (listText (t :: r)).length ≤ piled (t :: r) + 2 := by
  intro t r
  have h := textFrom_length_pos r 1 (("[" : Str) ++ (if (0 : Nat) > 0 then ", " else "" : String) ++ t) (Nat.succ_pos 0)
  have e : ((("[" : Str) ++ (if (0 : Nat) > 0 then ", " else "" : String) ++ t)).length = 1 + t.length := by
    rw [lenAp, lenAp]; rfl
  have hX : (listText (t :: r)).length = (textFrom 0 "[" (t :: r)).length + 1 := by
    show (textFrom 0 "[" (t :: r) ++ "]").length = _
    rw [lenAp]; rfl
  have hY : (textFrom 0 "[" (t :: r)).length = (textFrom 1 (("[" : Str) ++ (if (0 : Nat) > 0 then ", " else "" : String) ++ t) r).length := rfl
  rw [hX, hY, h, e, piled_cons]; omega
section
variable {c : Nat} {ok : List D → Bool} {ff : List D → S → Res D}
mutual
theorem shN_ok (hff : ∀ fs, ok fs = true → ∃ x, x.length ≤ 1000 ∧ PyData.strOk x = true ∧ ∀ s, ff [.ins c fs] s = .ok (.str x) s) : ∀ d : D, smD c ok d = true → ∃ t, t.length ≤ wt d ∧ PyData.strOk t = true ∧ ∀ s, shN c ff d s = .ok t s
  | .non, _ => ⟨_, by simp only [wt]; decide, okOf _, fun s => rfl⟩
  | .bl b, _ => ⟨_, by simp only [wt]; cases b <;> decide, by cases b <;> exact okOf _, fun s => rfl⟩
  | .int i, h => by
    simp only [smD, decide_eq_true_eq] at h
    have l := lgP h (by decide)
    have l2 := txtI h
    refine ⟨intTxt i, by simp only [wt]; omega, okOf _, fun s => ?_⟩
    simp only [shN]
    rw [if_pos (decide_eq_true (by omega))]
    rfl
  | .str x, h => by
    simp only [smD, Bool.and_eq_true, decide_eq_true_eq] at h
    refine ⟨reprText x, by simpa only [wt] using h.1, h.2, fun s => ?_⟩
    simp only [shN]
    rw [if_pos (by unfold line; omega)]
  | .lst ds, h => by
    simp only [smD] at h
    obtain ⟨ts, l, o, e⟩ := shL_ok hff ds h
    refine ⟨_, ?_, ?_, fun s => by simp only [shN, e, Res.bind_ok]; rfl⟩
    · cases ts with
      | nil => simp only [wt]; exact Nat.le_trans (by decide) (Nat.le_add_left 2 _)
      | cons t r =>
        have := piledLst t r
        simp only [wt]
        omega
    · cases ts with
      | nil => exact okOf _
      | cons t r => exact okLst o
  | .tup ds, h => by
    simp only [smD] at h
    obtain ⟨ts, l, o, e⟩ := shL_ok hff ds h
    refine ⟨_, ?_, okTup o, fun s => by simp only [shN, e, Res.bind_ok]⟩
    have := piledTup ts
    simp only [wt]
    omega
  | .ins k fs, h => by
    simp only [smD, Bool.and_eq_true, decide_eq_true_eq] at h
    obtain ⟨rfl, hk⟩ := h
    obtain ⟨x, l, o, e⟩ := hff fs hk
    refine ⟨x, by simpa only [wt] using l, o, fun s => ?_⟩
    simp only [shN, if_true, e, Res.bind_ok]
  | .mty, _ => ⟨_, by simp only [wt]; decide, by decide +kernel, fun s => rfl⟩
  | .ro _, h => by cases h
  | .rot _, h => by cases h
  | .cell _, h => by cases h
  | .cls _, h => by cases h
  | .ty _, h => by cases h
theorem shL_ok (hff : ∀ fs, ok fs = true → ∃ x, x.length ≤ 1000 ∧ PyData.strOk x = true ∧ ∀ s, ff [.ins c fs] s = .ok (.str x) s) : ∀ ds : List D, smL c ok ds = true → ∃ ts, piled ts ≤ wtL ds ∧ (∀ t ∈ ts, PyData.strOk t = true) ∧ ∀ s, shL c ff ds s = .ok ts s
  | [], _ => ⟨[], by simp [piled], by simp, fun s => rfl⟩
  | d :: ds, h => by
    simp only [smL, Bool.and_eq_true] at h
    obtain ⟨t, l, o, e⟩ := shN_ok hff d h.1
    obtain ⟨ts, l2, o2, e2⟩ := shL_ok hff ds h.2
    refine ⟨t :: ts, ?_, by simpa using ⟨o, o2⟩, fun s => by simp only [shL, e, Res.bind_ok, e2]⟩
    rw [piled_cons]
    simp only [wtL]
    omega
end
theorem reprN_ok (hff : ∀ fs, ok fs = true → ∃ x, x.length ≤ 1000 ∧ PyData.strOk x = true ∧ ∀ s, ff [.ins c fs] s = .ok (.str x) s) {d : D} (h : smD c ok d = true) (hk : okN d = true) (hh : ht d ≤ 8) (hw : wt d ≤ 16000000) : ∃ t, PyData.strOk t = true ∧ ∀ s, bReprN c ff [d] s = .ok (.str t) s := by
  obtain ⟨t, l, o, e⟩ := shN_ok hff d h
  refine ⟨t, o, fun s => ?_⟩
  have hl : t.length ≤ line := by unfold line; omega
  simp [bReprN, hk, hh, e, hl]
/-! the text of a Ratio -/
theorem empP (x : Str) : Str.empty ++ x = x := by
  obtain ⟨c⟩ := x
  exact congrArg Str.mk (Array.empty_append (xs := c))
theorem jCons {m : Pm.Env → S → Res D} {ms : List (Pm.Env → S → Res D)} {acc y : Str} {env : Pm.Env} {s : S} (e : m env s = .ok (.str y) s) (h : (acc ++ y).length ≤ line) : jRun (m :: ms) acc env s = jRun ms (acc ++ y) env s := by
  simp [jRun, e, h]
def ratR : List D → S → Res D := runBody 1 1 (sRet (mJoin [(mC (.str "Ratio(")), (mFmt (mFld 0 0 (mVar 0))), (mC (.str ", ")), (mFmt (mFld 0 1 (mVar 0))), (mC (.str ")"))]))
def ratOk : List D → Bool
  | [.int a, .int b] => decide (a.natAbs < 2 ^ 200) && decide (b.natAbs < 2 ^ 200)
  | _ => false
theorem ratR_ok {a b : Int} (ha : a.natAbs < 2 ^ 200) (hb : b.natAbs < 2 ^ 200) (s : S) : ratR [.ins 0 [.int a, .int b]] s = .ok (.str ((((("Ratio(" : Str) ++ intTxt a) ++ (", " : Str)) ++ intTxt b) ++ (")" : Str))) s := by
  have l1 := txtI ha
  have l2 := txtI hb
  have r1 : ("Ratio(" : Str).length = 6 := by rfl
  have r2 : (", " : Str).length = 2 := by rfl
  have r3 : (")" : Str).length = 1 := by rfl
  have f0 : mFmt (mFld 0 0 (mVar 0)) [some (.ins 0 [.int a, .int b])] s = .ok (.str (intTxt a)) s := by
    have z : mFld 0 0 (mVar 0) [some (.ins 0 [.int a, .int b])] s = .ok (.int a) s := by rfl
    simp [mFmt, z, Nat.lt_trans (lgP ha (by decide)) (by decide : 200 < 1920)]
  have f1 : mFmt (mFld 0 1 (mVar 0)) [some (.ins 0 [.int a, .int b])] s = .ok (.str (intTxt b)) s := by
    have z : mFld 0 1 (mVar 0) [some (.ins 0 [.int a, .int b])] s = .ok (.int b) s := by rfl
    simp [mFmt, z, Nat.lt_trans (lgP hb (by decide)) (by decide : 200 < 1920)]
  refine runP1 (retP ?_)
  show mJoin _ [some (.ins 0 [.int a, .int b])] s = _
  unfold mJoin
  rw [jCons (y := "Ratio(") (by rfl) (by rw [empP, r1]; unfold line; omega), empP, jCons f0 (by rw [lenAp, r1]; unfold line; omega), jCons (y := ", ") (by rfl) (by rw [lenAp, lenAp, r1, r2]; unfold line; omega),
    jCons f1 (by rw [lenAp, lenAp, lenAp, r1, r2]; unfold line; omega), jCons (y := ")") (by rfl) (by rw [lenAp, lenAp, lenAp, lenAp, r1, r2, r3]; unfold line; omega)]
  rfl
theorem rat_hff : ∀ fs, ratOk fs = true → ∃ x, x.length ≤ 1000 ∧ PyData.strOk x = true ∧ ∀ s, ratR [.ins 0 fs] s = .ok (.str x) s := fun fs h => by
  unfold ratOk at h
  split at h
  · rename_i a b
    simp only [Bool.and_eq_true, decide_eq_true_eq] at h
    have l1 := txtI h.1
    have l2 := txtI h.2
    have r1 : ("Ratio(" : Str).length = 6 := by rfl
    have r2 : (", " : Str).length = 2 := by rfl
    have r3 : (")" : Str).length = 1 := by rfl
    exact ⟨(((("Ratio(" : Str) ++ intTxt a) ++ (", " : Str)) ++ intTxt b) ++ (")" : Str), by rw [lenAp, lenAp, lenAp, lenAp, r1, r2, r3]; omega, okAp (okAp (okAp (okAp (okOf _) (okOf _)) (okOf _)) (okOf _)) (okOf _), ratR_ok h.1 h.2⟩
  · cases h
theorem wt_rows {ns : List Int} : wtL (ns.map D.int) = 1002 * ns.length := by
  induction ns with
  | nil => rfl
  | cons n ns ih => simp only [List.map_cons, wtL, wt, ih, List.length_cons]; omega
theorem sm_rows {ns : List Int} (h : ∀ n ∈ ns, n.natAbs < 2 ^ 200) : smL c ok (ns.map D.int) = true := by
  induction ns with
  | nil => rfl
  | cons n ns ih =>
    simp only [List.map_cons, smL, smD, Bool.and_eq_true, decide_eq_true_eq]
    exact ⟨h n (by simp), ih fun m hm => h m (by simp [hm])⟩
theorem ok_rows {ns : List Int} : okNs (ns.map D.int) = true := by
  induction ns with
  | nil => rfl
  | cons n ns ih => simp only [List.map_cons, okNs, okN, ih, Bool.and_self]
theorem ht_rows {ns : List Int} : htL (ns.map D.int) = 0 := by
  induction ns with
  | nil => rfl
  | cons n ns ih => simp only [List.map_cons, htL, ht, ih, Nat.max_self]
end
end Pm
set_option Elab.async false
set_option linter.all false
set_option maxRecDepth 100000
set_option maxHeartbeats 400000
/-! shifts, ranges with steps, the least of three rows, sorted lists of words -/
namespace Pm
open PySem PySem.Spec PyProof.Rows L2
section
variable {X : Cx} {g : G} {E : XK}
/-! ### x << n -/
def cShl (i j : Int) : Bool := decide (0 ≤ j ∧ j ≤ 1000000 ∧ i.natAbs < 2 ^ 64)
def shlI : D → D → S → Res D := intOp cShl fun i j => .int (i * 2 ^ j.toNat)
theorem od_shl : OpD X g E (binaryOp .LShift) shlI := opd_int op_shl (fun i j h => of_decide_eq_true (p := 0 ≤ j ∧ j ≤ 1000000 ∧ i.natAbs < 2 ^ 64) h) fun _ _ _ _ => rfl

/-! ### range(a, b, c) -/
def rangeC (lo c : Int) (n : Nat) : List D := (List.range n).map fun i => D.int (lo + (i : Nat) * c)
theorem walks_c {ca : List Addr} {F : Hp} {lo c : Int} {n : Nat} : Walks g ca F (Itc lo c n) (rangeC lo c n) := fun i ca' F' P H' s hc hF m => by
  constructor
  · intro d hd
    unfold rangeC at hd
    rw [List.getElem?_map, Option.map_eq_some_iff] at hd
    obtain ⟨k, hk, rfl⟩ := hd
    have hi : i < n := by simpa using (List.getElem?_eq_some_iff.mp hk).1
    rw [List.getElem?_range hi] at hk
    cases hk
    exact ⟨hi, fun x H'' hy => ⟨F', Sub.refl _, hy.1 ▸ m, by rw [hy.2]; exact rep_int⟩⟩
  · intro hl
    show n ≤ i
    simpa [rangeC] using hl
def cRng (i j c : Int) : Bool := decide (c ≠ 0) && decide (c.natAbs < 1073741824) && Builtin.Range.small i j c && decide (0 ≤ Builtin.Range.rangeSize i j c)
def iR3 (mr : Pm.Env → S → Res (List D)) : Pm.Env → S → Res (List D) := fun env s => (mr env s).bind fun ds s1 => match ds with
  | [.int i, .int j, .int c] => if cRng i j c = true then .ok (rangeC i c (Builtin.Range.rangeSize i j c).toNat) s1 else .stuck
  | _ => .stuck
theorem iv_r3 {tg a b c : Expr} {mr : Pm.Env → S → Res (List D)} {p pos : Pos} (hg : Gl X "range") (hm : X.mg "range" = none) (ha : Ea X g E [a, b, c] mr) (hs : starEach [a, b, c] X.env = (false, eval a X.env) :: starEach [b, c] X.env := by rfl)
    (hpl : (backTo pos (starEach [b, c] X.env)).any (·.1) = false := by rfl) : Iv X g E tg (.Call (.Name "range" p) [a, b, c] [] pos) (iR3 mr) := by
  obtain ⟨t, pa, ha⟩ := ha
  refine ⟨_, pi_range3 hg hm pa hs hpl, fun env s ca F P H σ R m sl q => ?_⟩
  refine ha env s ca F P H σ _ m sl (Post.imp (Post.seq q) fun ds s1 ca1 F1 H1 k1 k2 m1 q1 vs rs => ?_)
  split at q1
  · split at q1
    · rename_i i j c hj
      simp only [cRng, Bool.and_eq_true, decide_eq_true_eq] at hj
      obtain ⟨v, u, w, rfl, r, r', r''⟩ := reps3 rs
      simp only [Rep] at r r' r''
      subst r; subst r'; subst r''
      exact ⟨i, j, c, _, rfl, ⟨hj.1.1.1, hj.1.1.2, hj.1.2, (Int.toNat_of_nonneg hj.2).symm⟩, q1.now m1 _ walks_c⟩
    · exact q1.elim
  · exact q1.elim
/-! ### int(True) -/
def bIntA : List D → S → Res D := fun xs s => match xs with
  | [.int i] => .ok (.int i) s
  | [.bl k] => .ok (.int (if k then 1 else 0)) s
  | _ => .stuck
theorem cd_intA : CallD X g E (.type "int") bIntA := by
  refine ⟨_, call_int1, fun xs s ca F P H vs Q m rs p => ?_⟩
  unfold bIntA at p
  split at p
  · rename_i i
    obtain ⟨v, rfl, r⟩ := reps1 rs
    simp only [Rep] at r
    subst r
    exact .inl ⟨i, rfl, p.now m _ rfl⟩
  · rename_i k
    obtain ⟨v, rfl, r⟩ := reps1 rs
    simp only [Rep] at r
    subst r
    exact .inr ⟨k, rfl, p.now m _ rfl⟩
  · exact p.elim
end
end Pm
namespace Pm
open PySem PySem.Spec PyProof.Rows L2
section
variable {X : Cx} {g : G} {E : XK} {elt tg iter tg1 iter1 : Expr} {ifs ifs1 : List Expr} {scope : Scope} {own : List (Str × Nat)} {pos : Pos} {w w1 : List Nat}
variable {mi mi1 : Pm.Env → S → Res (List D)} {mt mt1 : D → Pm.Env → Option Pm.Env} {tt tt1 : Pm.Env → S → Res Bool} {me : Pm.Env → S → Res D}
/-- name = [.. for .. for ..] -/
theorem sv_setLc2 (i : Nat) {y : Str} {py spos : Pos} {vs1 : List Nat} (hc : X.calm = true) (hN : X.N.Nodup) (hy : X.N[i]? = some y) (hyl : X.env.scope.names.lookup y = some .local)
    (hsw : swapsWith (.ListComp elt [⟨tg, iter, ifs, 0⟩, ⟨tg1, iter1, ifs1, 0⟩] scope pos) (some (.Name y py)) spos.line X.env = pure true) (hi : Iv X g E tg iter mi) (ok : BlkOk X.N X.env.scope scope own)
    (hw : ∀ i ∈ w, i ∈ own.map (·.2)) (hv : ∀ i ∈ vs1, i ∈ own.map (·.2)) (hw1 : ∀ i ∈ w1, i ∈ vs1)
    (hg : ∀ (s : Shared) (H : Hp) (C : Addr) (cl : List (Str × Addr)) (fp : List Addr), Tn (X.blk s H scope (compEnvC scope cl C X.env) fp) g tg w mt)
    (ht : ∀ (s : Shared) (H : Hp) (C : Addr) (cl : List (Str × Addr)) (fp : List Addr), Ets (X.blk s H scope (compEnvC scope cl C X.env) fp) g E0 ifs tt)
    (hi1 : ∀ (s : Shared) (H : Hp) (C : Addr) (cl : List (Str × Addr)) (fp : List Addr), Iv (X.blk s H scope (compEnvC scope cl C X.env) fp) g E0 tg1 iter1 mi1)
    (hg1 : ∀ (s : Shared) (H : Hp) (C : Addr) (cl : List (Str × Addr)) (fp : List Addr), Tn (X.blk s H scope (compEnvC scope cl C X.env) fp) g tg1 w1 mt1)
    (ht1 : ∀ (s : Shared) (H : Hp) (C : Addr) (cl : List (Str × Addr)) (fp : List Addr), Ets (X.blk s H scope (compEnvC scope cl C X.env) fp) g E0 ifs1 tt1)
    (he : ∀ (s : Shared) (H : Hp) (C : Addr) (cl : List (Str × Addr)) (fp : List Addr), Ev (X.blk s H scope (compEnvC scope cl C X.env) fp) g E0 elt me)
    (hs : ∀ x, foldedSetIterable iter X.env x = pure x := by intro _; rfl) (hs1 : ∀ env x, foldedSetIterable iter1 env x = pure x := by intro _ _; rfl) :
    Sv X g E (.Assign [.Name y py] (.ListComp elt [⟨tg, iter, ifs, 0⟩, ⟨tg1, iter1, ifs1, 0⟩] scope pos) spos) (sSet i (mComp2 (own.map (·.2)) vs1 mi mt tt mi1 mt1 tt1 me)) := by
  obtain ⟨wi, p, hi⟩ := hi
  refine ⟨_, ps_setLc2 hc hN hy hyl hsw p ok hv (fun s H C cl fp => (hg s H C cl fp).pg) (fun s H C cl fp => ht s H C cl fp) (fun s H C cl fp => (hi1 s H C cl fp).pi) (fun s H C cl fp => (hg1 s H C cl fp).pg) (fun s H C cl fp => ht1 s H C cl fp) (fun s H C cl fp => (he s H C cl fp).pe) hs hs1, fun env s ca F P H σ Dn m sl q => ?_⟩
  exact comp2_run hi hw hw1 m sl (Post.imp (Post.seq q) fun d s1 ca1 F1 H1 k1 k2 m1 q1 v rv => q1.now m1 _ ((sl.mono k1 k2).set rv))
end
end Pm
set_option Elab.async false
set_option linter.all false
set_option maxRecDepth 100000
set_option maxHeartbeats 400000
/-! the order of rows; sorted lists of words; the least of three rows -/
namespace Pm
open PySem PySem.Spec PyProof.Rows L2
/-! ### the order of rows -/
theorem ltN_irrefl : ∀ a : List Int, ltN a a = false
  | [] => rfl
  | x :: a => by simp [ltN, ltN_irrefl a]
theorem ltN_trans : ∀ a b c : List Int, ltN a b = true → ltN b c = true → ltN a c = true := fun a b c h1 h2 => by
  rw [ltN_eq] at *
  exact decide_eq_true (List.lt_trans (of_decide_eq_true h1) (of_decide_eq_true h2))
theorem ltN_total (a b : List Int) : ltN a b = true ∨ a = b ∨ ltN b a = true := by
  rw [ltN_eq, ltN_eq]
  by_cases h : a < b
  · exact .inl (decide_eq_true h)
  · by_cases h2 : b < a
    · exact .inr (.inr (decide_eq_true h2))
    · exact .inr (.inl (List.le_antisymm (List.not_lt.mp h2) (List.not_lt.mp h)))
abbrev Wd := Int × List Int
def ltW (x y : Wd) : Bool := if x.1 = y.1 then ltN x.2 y.2 else decide (x.1 < y.1)
theorem ltW_irrefl (x : Wd) : ltW x x = false := by simp [ltW, ltN_irrefl]
theorem ltW_trans (x y z : Wd) (h1 : ltW x y = true) (h2 : ltW y z = true) : ltW x z = true := by
  unfold ltW at *
  split at h1 <;> split at h2
  · rename_i a b
    rw [if_pos (a.trans b)]
    exact ltN_trans _ _ _ h1 h2
  · rename_i a b
    rw [a, if_neg b]; exact h2
  · rename_i a b
    rw [← b, if_neg a]; exact h1
  · have := of_decide_eq_true h1
    have := of_decide_eq_true h2
    rw [if_neg (by omega)]
    exact decide_eq_true (by omega)
theorem ltW_total (x y : Wd) : ltW x y = true ∨ x = y ∨ ltW y x = true := by
  unfold ltW
  by_cases h : x.1 = y.1
  · rw [if_pos h, if_pos h.symm]
    rcases ltN_total x.2 y.2 with q | q | q
    · exact .inl q
    · exact .inr (.inl (Prod.ext h q))
    · exact .inr (.inr q)
  · rw [if_neg h, if_neg (fun e => h e.symm)]
    by_cases q : x.1 < y.1
    · exact .inl (decide_eq_true q)
    · exact .inr (.inr (decide_eq_true (by omega)))
theorem ltW_asym (x y : Wd) (h : ltW x y = true) : ltW y x = false := by
  cases e : ltW y x
  · rfl
  · rw [← ltW_irrefl x, ← ltW_trans x y x h e]
theorem ltW_neg (x y z : Wd) (h1 : ltW y x = false) (h2 : ltW z y = false) : ltW z x = false := by
  cases e : ltW z x
  · rfl
  · rcases ltW_total x y with q | q | q
    · rw [ltW_trans z x y e q] at h2; cases h2
    · subst q; rw [e] at h2; cases h2
    · rw [q] at h1; cases h1
theorem swoW {α : Type} (k : α → Wd) : SrtO.Swo fun v u => ltW (k v) (k u) := ⟨fun x y => ltW_asym _ _, fun x y z => ltW_neg _ _ _⟩
def insW (x : Wd) : List Wd → List Wd
  | [] => [x]
  | y :: ys => if ltW y x = true then y :: insW x ys else x :: y :: ys
def srtW : List Wd → List Wd
  | [] => []
  | x :: xs => insW x (srtW xs)
theorem insW_perm (x : Wd) : ∀ ys : List Wd, (insW x ys).Perm (x :: ys)
  | [] => List.Perm.refl _
  | y :: ys => by
    unfold insW
    split
    · exact ((insW_perm x ys).cons y).trans (List.Perm.swap x y ys)
    · exact List.Perm.refl _
theorem srtW_perm : ∀ xs : List Wd, (srtW xs).Perm xs
  | [] => List.Perm.refl _
  | x :: xs => (insW_perm x _).trans ((srtW_perm xs).cons x)
abbrev SrW (l : List Wd) : Prop := l.Pairwise fun x y => ltW y x = false
theorem insW_srt (x : Wd) : ∀ ys : List Wd, SrW ys → SrW (insW x ys)
  | [], _ => List.pairwise_singleton _ _
  | y :: ys, h => by
    obtain ⟨h1, h2⟩ := List.pairwise_cons.mp h
    unfold insW
    split
    · rename_i c
      refine List.pairwise_cons.mpr ⟨fun z hz => ?_, insW_srt x ys h2⟩
      rcases List.mem_cons.mp ((insW_perm x ys).mem_iff.mp hz) with rfl | hz
      · exact ltW_asym _ _ c
      · exact h1 z hz
    · rename_i c
      refine List.pairwise_cons.mpr ⟨fun z hz => ?_, h⟩
      have c : ltW y x = false := by simpa using c
      rcases List.mem_cons.mp hz with rfl | hz
      · exact c
      · exact ltW_neg _ _ _ c (h1 z hz)
theorem srtW_srt : ∀ xs : List Wd, SrW (srtW xs)
  | [] => List.Pairwise.nil
  | x :: xs => insW_srt x _ (srtW_srt xs)
theorem srtW_eq {xs ys : List Wd} (h : ys.Perm xs) (hs : SrW ys) : ys = srtW xs :=
  List.Perm.eq_of_pairwise (fun x y _ _ a b => by
    rcases ltW_total x y with q | q | q
    · rw [q] at b; cases b
    · exact q
    · rw [q] at a; cases a) hs (srtW_srt xs) (h.trans (srtW_perm xs).symm)

/-! ### how words compare while lists of them are sorted -/
theorem eqvAll_ints : ∀ a b : List Int, PyData.eqvAll (a.map PyData.int) (b.map PyData.int) = decide (a = b)
  | [], [] => rfl
  | [], _ :: _ => rfl
  | _ :: _, [] => rfl
  | x :: a, y :: b => by
    simp only [List.map_cons, PyData.eqvAll, PyData.eqv, eqvAll_ints a b]
    by_cases h : x = y
    · subst h; simp
    · simp [h]
theorem eqv_rows (a b : List Int) : PyData.eqv (rowP a) (rowP b) = decide (a = b) := by
  simp only [rowP, PyData.eqv, eqvAll_ints]
theorem lay_row : ∀ a : List Int, (rowP a).canLay0 = true := by
  have h : ∀ a : List Int, PyData.canLayAll0 (a.map PyData.int) = true := fun a => by
    induction a with
    | nil => rfl
    | cons x a ih => simp only [List.map_cons, PyData.canLayAll0, PyData.canLay0, ih, Bool.and_self]
  exact fun a => by simp only [rowP, PyData.canLay0, h]
theorem dep_row (a : List Int) : (rowP a).depth = 1 := by
  unfold rowP
  simp only [PyData.depth]
  rw [PySem.W.depth_ints]
def IsW (h : Heap) (v : Value) (x : Wd) : Prop := ∃ a o t r n bs, v = .ref a ∧ h.get? a = some o ∧ o.cls = .type "tuple" ∧ o.data = .seq #[.int x.1 t, r] n ∧ Reads h r (rowP x.2) bs
theorem IsW.keeps {h h' : Heap} {v : Value} {x : Wd} (p : IsW h v x) (k : ∀ b o, h.get? b = some o → h'.get? b = some o) : IsW h' v x := by
  obtain ⟨a, o, t, r, n, bs, e, ho, hc, hd, hr⟩ := p
  exact ⟨a, o, t, r, n, bs, e, k _ _ ho, hc, hd, Reads.keeps k hr⟩
section
variable {prog : Program} {w : World} {A : Around} {E : Value → Shared → Prop} {s : Shared}
theorem int_first (c : Bool) {p q : Int} {t u : Tok} {Q : Bool → Shared → Prop} (h : Q (decide (p < q)) s) : wpAny (model prog w) A (oneLt' c (.int p t) (.int q u)) Q E s := TS.oneLt_ints c h
theorem cmpW {vs : List Value} {k : Value → Wd} (hp : ∀ v ∈ vs, IsW s.heap v (k v)) (hu : A.units + 1 < cLine) : SrtO.Cmp prog w A s (tuples' true) (fun p => p.1 ∈ vs) (SrtO.lt2 fun v u => ltW (k v) (k u)) := by
  intro p q hm hm'
  have h1 := hp _ hm
  have h2 := hp _ hm'
  show wpAny (model prog w) A (keyLt' (tuples' true) p.1 q.1) (fun r s' => s' = s ∧ r = ltW (k p.1) (k q.1)) (fun _ _ => False) s
  generalize k p.1 = x at h1 ⊢
  generalize k q.1 = y at h2 ⊢
  obtain ⟨x1, x2⟩ := x
  obtain ⟨y1, y2⟩ := y
  obtain ⟨a, o, t, r, n, bs, e, ho, hc, hd, hr⟩ := h1
  obtain ⟨a', o', t', r', n', bs', e', ho', hc', hd', hr'⟩ := h2
  rw [e, e']
  refine PySem.W.kat_lt ho hd ho' hd' ?_
  refine PySem.W.kat_cons (p := .int x1 t) (q := .int y1 t') (r := [(r, r')]) (SeqAt.EqAt.int_int x1 t y1 t' prog w _ _ ?_)
  refine PySem.W.kat_go (fun c => PySem.W.kat_yes (PySem.W.kat_cons ?_)) fun c => PySem.W.kat_no (int_first _ ⟨rfl, ?_⟩)
  · have c : x1 = y1 := by simpa using c
    subst c
    have dm : min (rowP x2).depth (rowP y2).depth = 1 := by rw [dep_row, dep_row]; rfl
    refine SeqAt.eqAt_reads _ _ A s r r' bs bs' hr hr' (lay_row _) (lay_row _) (by rw [dm]; exact hu) prog w _ _ ?_
    rw [eqv_rows]
    refine PySem.W.kat_go (fun c2 => PySem.W.kat_yes (PySem.W.kat_nil ⟨rfl, ?_⟩)) fun c2 => PySem.W.kat_no (PySem.W.kat_one _ _ (PySem.W.lt_data hr hr' (by simp only [rowP, PySem.W.alike]; exact PySem.W.alike_ints _ _) (by simp [rowP]) (by rw [dm]; exact hu) ?_))
    · have c2 : x2 = y2 := by simpa using c2
      subst c2
      rw [ltW_irrefl]
      rfl
    · rw [rowP_lt]
      exact (show s = s ∧ ltN x2 y2 = ltW (x1, x2) (x1, y2) from ⟨rfl, by simp [ltW]⟩)
  · have c : ¬ x1 = y1 := by simpa using c
    simp [ltW, c]
theorem firstsW {h : Heap} {k : Value → Wd} : ∀ {vs : List Value}, (∀ v ∈ vs, IsW h v (k v)) → ∃ fs : List Value, PySem.W.KatTups h vs fs ∧ fs.length = vs.length ∧ ∀ f ∈ fs, ∃ x t, f = Value.int x t
  | [], _ => ⟨[], .nil, rfl, by simp⟩
  | v :: vs, hp => by
    obtain ⟨fs, k1, k2, k3⟩ := firstsW (vs := vs) fun u hu => hp u (List.mem_cons_of_mem _ hu)
    obtain ⟨a, o, t, r, n, bs, rfl, ho, hc, hd, hr⟩ := hp v List.mem_cons_self
    refine ⟨.int (k (.ref a)).1 t :: fs, .cons ho hc hd rfl k1, by simp [k2], fun f hf => ?_⟩
    rcases List.mem_cons.mp hf with rfl | hf
    · exact ⟨_, _, rfl⟩
    · exact k3 f hf
theorem sortableW {s0 : Heap} {a : Addr} {vs : List Value} {k : Value → Wd} (h0 : 0 < vs.length) (hp : ∀ v ∈ vs, IsW s0 v (k v)) (kk : ∀ b o, s0.get? b = some o → b ≠ a ∧ s.heap.get? b = some o) (hu : A.units + 1 < cLine) : SrtO.SortableO prog w A s a vs fun v u => ltW (k v) (k u) := by
  intro h' keep
  have hp' : ∀ v ∈ vs, IsW h' v (k v) := fun v hm => (hp v hm).keeps fun b o e => keep b o (kk b o e).1 (kk b o e).2
  obtain ⟨fs, k1, k2, k3⟩ := firstsW hp'
  refine ⟨tuples' true, fun Q E hq => ?_, cmpW hp' hu⟩
  refine PySem.W.kat_kind (T := .type "int") k1 (by omega) (fun f hm => ?_) (by rfl) ?_
  · obtain ⟨x, t, rfl⟩ := k3 f hm
    exact PySem.W.Looks.now
  · have e : (Value.type "int" != Value.type "tuple") = true := by decide +kernel
    rw [e]
    exact hq
end
section
variable {X : Cx} {g : G} {E : XK}
/-- sorted(xs) of words -/
def rSortW (K : PySem.W.Frag) : List V → Hp → VK → Prop := fun vs H Q => ∃ (a : Addr) (xs : List V) (k : V → Wd), vs = [V.ref a] ∧ SqL K H a xs ∧ (∀ x ∈ xs, ∃ t r, x = V.ref t ∧ H t = some (.tup [.int (k x).1, r]) ∧ Dp K H r (rowP (k x).2)) ∧
  ∀ ys p, SrtO.Srtd (fun v u => ltW (k v) (k u)) ys → SrtO.Stb (fun v u => ltW (k v) (k u)) ys xs → H p = none → Q (.ref p) (upd H p (.lst ys))
theorem cr_sortW (hu : X.A.units + 64 < cLine) : CallR X (.builtin "sorted") (rSortW X.K) := by
  intro pins s σ H vs us Q I r h
  obtain ⟨a, xs, k, rfl, hs, hx, q⟩ := h
  obtain ⟨its, rv, hl, hz⟩ := I.list hs
  obtain ⟨u, rfl, ru⟩ := vals1 r
  obtain rfl : u = Value.ref a := ru
  obtain ⟨e1, e2⟩ := refs_back rv fun x m => by
    obtain ⟨t, r, e, _⟩ := hx x m
    exact ⟨t, e⟩
  have hw : ∀ v ∈ its, IsW s.heap v (k (backV v)) := fun v hv => by
    obtain ⟨t, rfl⟩ := e2 v hv
    have hm : V.ref t ∈ xs := by rw [e1]; exact List.mem_map.mpr ⟨_, hv, rfl⟩
    obtain ⟨t', r, e, ht, hr⟩ := hx _ hm
    cases e
    obtain ⟨_, its2, r2, o, ho, hc, n, hd⟩ := I.hok _ _ ht
    obtain ⟨u1, u2, rfl, ri, rj⟩ := vals2 r2
    obtain ⟨t1, rfl⟩ := ri
    obtain ⟨bs, hb⟩ := reads_keep_dp I hr rj
    exact ⟨t, o, t1, u2, n, bs, rfl, ho, hc, hd, hb⟩
  refine SrtO.sorted_ord (swoW fun u => k (backV u)) hl.isList (by rw [← rv.length]; exact hz) (fun h2 h₁ a' _ kk => sortableW (by omega) hw kk (by show X.A.units + 1 + 1 + 1 < cLine; omega)) fun out h1 h2 => ?_
  have h3 : ∀ u ∈ out, ∃ a, u = Value.ref a := fun u hu => e2 u (h2.perm.mem_iff.mp hu)
  have hb : SrtO.Stb (fun v u => ltW (k v) (k u)) (out.map backV) xs := by
    rw [e1]
    exact SrtO.Stb.map (swoW k) backV h2
  obtain ⟨ep, he⟩ := PyProof.Rows.sortedAll_at s.heap its out.toArray
  refine ⟨.ref _, upd H (s.heap.objs.size + 1) (.lst (out.map backV)), I.laid (t' := s.toks) (fun _ _ => PyProof.Rows.sortedAll_old) (Nat.le_succ _) ⟨?_, out, ep, vals_back h3, he⟩, rfl, q _ _ (SrtO.srtd_map h1) hb (I.hok.fresh (Nat.le_succ _))⟩
  rw [hb.len]
  exact hz
def wordD (x : Wd) : D := .tup [.int x.1, rowD x.2]
def wordsOf : List D → Option (List Wd)
  | [] => some []
  | .tup [.int p, .lst ds] :: rs => match intsOf ds, wordsOf rs with
    | some ns, some ms => some ((p, ns) :: ms)
    | _, _ => none
  | _ => none
theorem wordsOf_eq : ∀ {ds : List D} {ws : List Wd}, wordsOf ds = some ws → ds = ws.map wordD
  | [], ws, h => by simp only [wordsOf, Option.some.injEq] at h; subst h; rfl
  | d :: ds, ws, h => by
    unfold wordsOf at h
    split at h
    · rename_i e; cases e
    · rename_i p es rs e
      cases e
      split at h
      · rename_i ns ms h1 h2
        cases h
        rw [wordsOf_eq h2, intsOf_eq h1]
        rfl
      · cases h
    · cases h
theorem rep_rowInj {ca : List Addr} {F : Hp} {a b : List Int} {v : V} (h1 : Rep g ca F (rowD a) v) (h2 : Rep g ca F (rowD b) v) : a = b := by
  simp only [rowD, Rep] at h1 h2
  obtain ⟨p, xs, rfl, f1, r1⟩ := h1
  obtain ⟨q, ys, e, f2, r2⟩ := h2
  cases e
  rw [f1] at f2
  cases f2
  have e1 := reps_ints r1
  rw [reps_ints r2] at e1
  exact (List.map_inj_right (fun _ _ h => by injection h)).mp e1.symm
theorem rep_wordInj {ca : List Addr} {F : Hp} {x y : Wd} {v : V} (h1 : Rep g ca F (wordD x) v) (h2 : Rep g ca F (wordD y) v) : x = y := by
  simp only [wordD, Rep] at h1 h2
  obtain ⟨p, xs, rfl, f1, r1⟩ := h1
  obtain ⟨q, ys, e, f2, r2⟩ := h2
  cases e
  rw [f1] at f2
  cases f2
  obtain ⟨u, v, rfl, a1, a2⟩ := reps2 r1
  obtain ⟨u', v', e, b1, b2⟩ := reps2 r2
  cases e
  simp only [Rep] at a1 b1
  rw [a1] at b1
  exact Prod.ext (V.int.inj b1) (rep_rowInj a2 b2)
open Classical in
noncomputable def keyW (g : G) (ca : List Addr) (F : Hp) (v : V) : Wd := if h : ∃ x, Rep g ca F (wordD x) v then Classical.choose h else (0, [])
theorem keyW_eq {ca : List Addr} {F : Hp} {x : Wd} {v : V} (h : Rep g ca F (wordD x) v) : keyW g ca F v = x := by
  have hx : ∃ x, Rep g ca F (wordD x) v := ⟨x, h⟩
  unfold keyW
  rw [dif_pos hx]
  exact rep_wordInj (Classical.choose_spec hx) h
theorem keysW {ca : List Addr} {F : Hp} : ∀ {ws : List Wd} {xs : List V}, Reps g ca F (ws.map wordD) xs → xs.map (keyW g ca F) = ws ∧ ∀ v ∈ xs, Rep g ca F (wordD (keyW g ca F v)) v
  | [], xs, r => by
    simp only [List.map_nil, Reps] at r
    subst r
    exact ⟨rfl, by simp⟩
  | w :: ws, xs, r => by
    simp only [List.map_cons, Reps] at r
    obtain ⟨v, vs, rfl, r1, r2⟩ := r
    obtain ⟨k1, k2⟩ := keysW r2
    refine ⟨by rw [List.map_cons, k1, keyW_eq r1], fun u hu => ?_⟩
    rcases List.mem_cons.mp hu with rfl | hu
    · rw [keyW_eq r1]; exact r1
    · exact k2 u hu
theorem repsW {ca : List Addr} {F : Hp} {k : V → Wd} : ∀ {ys : List V}, (∀ v ∈ ys, Rep g ca F (wordD (k v)) v) → Reps g ca F ((ys.map k).map wordD) ys
  | [], _ => .nil
  | y :: ys, h => by
    simp only [List.map_cons]
    exact .cons (h y List.mem_cons_self) (repsW fun v hv => h v (List.mem_cons_of_mem _ hv))
def bSortW : List D → S → Res D := fun xs s => match xs with
  | [x] => match lisOf s x with
    | some ds => match wordsOf ds with
      | some ws => newL ((srtW ws).map wordD) s
      | none => .stuck
    | none => .stuck
  | _ => .stuck
theorem cd_sortW (hK : g.K = X.K) (hu : X.A.units + 64 < cLine) : CallD X g E (.builtin "sorted") bSortW := by
  refine ⟨_, cr_sortW hu, fun xs s ca F P H vs Q m rs p => ?_⟩
  unfold bSortW at p
  split at p
  · split at p
    · rename_i ds hd
      split at p
      · rename_i ws hn
        obtain ⟨v, rfl, r⟩ := reps1 rs
        obtain ⟨a, ys, rfl, hq, rs'⟩ := lis_rep hK m hd r
        rw [wordsOf_eq hn] at rs'
        obtain ⟨k1, k2⟩ := keysW rs'
        refine ⟨a, ys, keyW g ca F, rfl, hq, fun x hx => ?_, fun zs q h1 h2 hn' => ?_⟩
        · have rx := k2 x hx
          generalize keyW g ca F x = y at rx ⊢
          simp only [wordD, Rep] at rx
          obtain ⟨t, us, rfl, f1, r1⟩ := rx
          obtain ⟨u, v, rfl, a1, a2⟩ := reps2 r1
          simp only [Rep] at a1
          subst a1
          exact ⟨t, v, rfl, m.sub _ _ f1, rep_row hK m a2⟩
        · have e : zs.map (keyW g ca F) = srtW ws := by
            refine srtW_eq ?_ (List.pairwise_map.mpr h1)
            rw [← k1]
            exact h2.perm.map _
          refine (newL_ok m ?_ p).2 q hn'
          rw [← e]
          exact repsW fun v hv => k2 v (h2.perm.mem_iff.mp hv)
      · exact p.elim
    · exact p.elim
  · exact p.elim
def bSort1 : List D → S → Res D := fun xs s => (bSortI xs s).or (bSortW xs s)
theorem cd_sort1 (hK : g.K = X.K) (hu : X.A.units + 64 < cLine) : CallD X g E (.builtin "sorted") bSort1 := (cd_sortI hK).or (cd_sortW hK hu)
end
end Pm
set_option Elab.async false
set_option linter.all false
set_option maxRecDepth 100000
set_option maxHeartbeats 400000
/-! the least of three rows -/
namespace Pm
open PySem PySem.Spec PyProof.Rows L2
section
variable {prog : Program} {w : World} {A : Around} {E : Value → Shared → Prop} {s : Shared}
theorem min3_data {a b c : Value} {x y z : PyData} {as : List Addr} {Q : Value → Shared → Prop} (hh : A.handled = none) (hr : ReadsAll s.heap [a, b, c] [x, y, z] as) (ha : PySem.W.AlikeAll [x, y, z]) (hu : A.units + 1 + PyData.depthAll [x, y, z] < cLine)
    (h : ∀ (i : Nat) v h' tk bs, [a, b, c][i]? = some v → Reads h' v (PySem.W.minD x [y, z]) bs → (∀ p o, s.heap.get? p = some o → h'.get? p = some o) → Q v { s with heap := h', toks := tk }) :
    wpAny (model prog w) A (call (.builtin "min") [a, b, c]) Q E s := by
  have hname : (toString "min" ++ toString ".loop" : String) = "min.loop" := by decide
  refine call_function_tree F.kind_min F.plain_min F.entry_min (F.args_min3 a b c) ?_
  show wpAny _ A.in1 (Builtin.Builtins.bindParams "min" ["key", "default"] 0 ⟨[], []⟩ >>= _) _ _ s
  refine wpAny_bind (wpAny_of_eq (a := [none, none]) rfl ?_)
  show wpAny _ A.in1 (newTuple [a, b, c] >>= _) _ _ s
  refine wpAny_bind (wpAny_newObj_type ?_)
  generalize hT : ({ cls := .type "tuple", data := .seq #[a, b, c] } : Obj) = T
  have k0 : ∀ p o, s.heap.get? p = some o → (s.heap.push T).get? p = some o := fun p o => Heap.get?_push_of_some T
  have tup : (s.heap.push T).IsTuple s.heap.objs.size #[a, b, c] := ⟨T, Heap.get?_push_size _ (by rw [← hT] <;> rfl), by rw [← hT], 0, by rw [← hT]⟩
  obtain ⟨s1, hs1⟩ : ∃ s1 : Shared, s1 = { s with heap := s.heap.push T } := ⟨_, rfl⟩
  have e1 : s1.heap = s.heap.push T := by rw [hs1]
  have tup1 : s1.heap.IsTuple s.heap.objs.size #[a, b, c] := by rw [e1]; exact tup
  show wpAny _ _ _ _ _ { s with heap := s.heap.push T }
  rw [← hs1]
  refine wpAny_bind (PySem.W.iter_tupleW (A := A.in1) hh tup1 fun s₂ e W hst hfp hw hk => ?_)
  refine wpAny_bind (wpAny_newObj_type ?_)
  rw [hname]
  have k1 : ∀ p o, s.heap.get? p = some o → s1.heap.get? p = some o := fun p o q => by rw [e1]; exact k0 p o q
  have k2 : ∀ p o, s.heap.get? p = some o → s₂.heap.get? p = some o := fun p o q => hk p o (k1 p o q)
  have hSf : s₂.heap.objs.size ∉ [s1.heap.objs.size, s.heap.objs.size] := fun hm => Nat.lt_irrefl _ (hfp _ hm)
  refine wpAny_pure ⟨plainId_quiet F.plain_min_loop _, PySem.codeAny_min_loop_firstH W s.heap (fun p o q => hw p o (k1 p o q)) _ (PySem.W.cmpIn_lt (A := A.in1) (vs := #[a, b, c]) hr ha (by show A.units + 1 + _ < _; exact hu)) s₂.heap.objs.size hSf (fresh_in k2) _ (show 0 < 3 by decide) (fun p o q => Heap.get?_push_of_some _ (k2 p o q)) (W.frame 0 s₂ _ s₂.toks hst (Nat.le_refl _) fun p _ o q => Heap.get?_push_of_some _ q) (Heap.get?_push_size _ rfl) fun v s' hP hm => ?_⟩
  have hm := Moved.drop_new (tk := s₂.toks) hm (Nat.le_refl _)
  obtain ⟨h', tk, es, hk'⟩ := PySem.W.moved_old e rfl hm
  have k3 : ∀ p o, s.heap.get? p = some o → h'.get? p = some o := fun p o q => hk' p o (k1 p o q)
  have es2 : s' = { s with heap := h', toks := tk } := by rw [es, hs1]
  rw [es2]
  obtain ⟨bs, r, _, _, _⟩ := PySem.W.readsAll_atA hr _ v hP
  have e2 := (PySem.W.argBest_fold PySem.W.dataLt PyData.none x [y, z] 2 (Nat.le_refl 2)).2
  refine h _ v h' tk bs (by simpa using hP) (PySem.W.reads_keeps k3 ?_) k3
  unfold PySem.W.minD
  have e3 : [y, z].take 2 = [y, z] := rfl
  rw [e3] at e2
  rw [← e2]
  exact r
end
section
variable {X : Cx} {g : G} {E : XK}
/-- min(x, y, z) of rows of ints -/
def rMin3 (K : PySem.W.Frag) : List V → Hp → VK → Prop := fun vs H Q => ∃ (xs : List V) (a b c : List Int), vs = xs ∧ DpAll K H xs ([a, b, c].map rowP) ∧
  ∀ (i : Nat) (v : V), xs[i]? = some v → ([a, b, c][i]? = some (minN a [b, c])) → Q v H
theorem cr_min3 (hc : X.calm = true) (hu : X.A.units + 64 < cLine) : CallR X (.builtin "min") (rMin3 X.K) := by
  intro pins s σ H vs us Q I rv h
  obtain ⟨xs, a, b, c, rfl, hd, q⟩ := h
  obtain ⟨as, hr⟩ := Dp.readsAll I _ _ _ hd rv
  obtain ⟨u1, u2, u3, rfl⟩ : ∃ u1 u2 u3, us = [u1, u2, u3] := by
    cases hd with
    | cons _ h2 => cases h2 with
      | cons _ h3 => cases h3 with
        | cons _ h4 => cases h4 with
          | nil =>
            have hl := rv.length
            match us, hl with
            | [u1, u2, u3], _ => exact ⟨u1, u2, u3, rfl⟩
  have hdp := rows_depth [a, b, c]
  have hr2 : ReadsAll s.heap [u1, u2, u3] [rowP a, rowP b, rowP c] as := hr
  have ha := rows_alike [a, b, c]
  refine min3_data (I.ok.hd hc) hr2 ha (by
    have : PyData.depthAll [rowP a, rowP b, rowP c] ≤ 1 := hdp
    omega) fun i u h' tk bs hi hrd hk => ?_
  obtain ⟨v, hv, rvu⟩ := vals_at rv hi
  have I' : Inv X pins σ H { s with heap := h', toks := tk } := I.kept hk
  obtain ⟨d, hdi, hdv⟩ := dpAll_at hd hv
  obtain ⟨bs', hr'⟩ := reads_keep_dp I' hdv rvu
  rw [List.getElem?_map, Option.map_eq_some_iff] at hdi
  obtain ⟨ns, hns, rfl⟩ := hdi
  have e0 : PySem.W.minD (rowP a) [rowP b, rowP c] = rowP (minN a [b, c]) := minD_rows a [b, c]
  rw [e0] at hrd
  have e : rowP ns = rowP (minN a [b, c]) := PySem.W.alike_unique _ _ _ _ _ (by simp only [rowP, PySem.W.alike]; exact PySem.W.alike_ints _ _) hr' hrd
  exact ⟨v, H, I', rvu, q i v hv (by rw [hns, rowP_inj e])⟩
def bMin3 : List D → S → Res D := fun xs s => match rowsOf xs with
  | some [a, b, c] => .ok (rowD (minN a [b, c])) s
  | _ => .stuck
theorem cd_min3 (hK : g.K = X.K) (hc : X.calm = true) (hu : X.A.units + 64 < cLine) : CallD X g E (.builtin "min") bMin3 := by
  refine ⟨_, cr_min3 hc hu, fun xs s ca F P H vs Q m rs p => ?_⟩
  unfold bMin3 at p
  split at p
  · rename_i a b c hr
    have e := rowsOf_eq hr
    rw [e] at rs
    refine ⟨vs, a, b, c, rfl, ?_, fun i v hv hi => ?_⟩
    · obtain ⟨u1, u2, u3, rfl, r1, r2, r3⟩ := reps3 rs
      exact .cons (rep_row hK m r1) (.cons (rep_row hK m r2) (.cons (rep_row hK m r3) .nil))
    · refine p.now m v ?_
      obtain ⟨d, hd, rd⟩ := rs.get' hv
      rw [List.getElem?_map, hi] at hd
      cases hd
      exact rd
  · exact p.elim
end
end Pm
namespace Pm
open PySem PySem.Spec PyProof.Rows L2
section
variable {X : Cx} {g : G} {E : XK}
/-! ### repr(x) of an int -/
def bReprI : List D → S → Res D := fun xs s => match xs with
  | [.int i] => if decide (i.natAbs.log2 < 1920) = true then .ok (.str (intTxt i)) s else .stuck
  | _ => .stuck
theorem cd_reprI : CallD X g E (.builtin "repr") bReprI := by
  refine ⟨_, SkE.call_repr_int, fun xs s ca F P H vs Q m rs q => ?_⟩
  unfold bReprI at q
  split at q
  · split at q
    · rename_i i hi
      obtain ⟨v, rfl, r⟩ := reps1 rs
      simp only [Rep] at r
      subst r
      exact ⟨i, rfl, of_decide_eq_true hi, q.now m _ (by simp only [Rep]; rfl)⟩
    · exact q.elim
  · exact q.elim
def bReprA : List D → S → Res D := fun xs s => (bReprI xs s).or (bReprS xs s)
theorem cd_reprA (hK : g.K = X.K) (hgd : X.A.guards = some []) (hu : X.A.units + 66 < cLine) : CallD X g E (.builtin "repr") bReprA := cd_reprI.or (cd_reprS hK hgd hu)
end
end Pm
set_option Elab.async false
set_option linter.all false
set_option maxRecDepth 100000
set_option maxHeartbeats 400000
set_option exponentiation.threshold 5000
/-! draws and pots of any law -/
namespace Pm
open PySem
/-- a law's own numbers: times, and, below, below, over -/
structure Nums where
  M : Int
  A : Int
  P1 : Int
  P2 : Int
  B : Int
structure NumsOk (n : Nums) : Prop where
  m : n.M.natAbs < 2 ^ 200
  p1 : 0 < n.P1 ∧ n.P1 < 2 ^ 32
  p2 : 0 < n.P2
  b : n.B ≠ 0 ∧ n.B.natAbs.log2 < 9000
def drawBG (n : Nums) : Pm.Env → S → Res Fl := (sSeq (sIf (mB (m2 gtI (m2 ixD (mVar 0) (mC (.int 0))) (mC (.int 0)))) (sSeq (sAsg (mCall bDivmod (aCons (m2 ixD (mVar 0) (mC (.int 0))) (aCons (mVar 1) aNil))) (taTup 2 (taCons (taSub (mVar 0) (mC (.int 0))) (taCons (aN (tName 2)) taNil))))
  (sRet (mVar 2))) sNext)
  (sSeq (sAsg (m2 modI (mCall (bInt1 fun i => .int i) (aCons (m2 addAll (m2 mulD (m2 ixD (mVar 0) (mC (.int 1))) (mC (.int n.M))) (mC (.int n.A))) aNil)) (mC (.int n.P1))) (taSub (mVar 0) (mC (.int 1))))
  (sRet (m2 modI (mCall (bInt1 fun i => .int i) (aCons (m2 divI (m2 modI (mCall (bInt1 fun i => .int i) (aCons (m2 mulD (m2 ixD (mVar 0) (mC (.int 1))) (m2 ixD (mVar 0) (mC (.int 1)))) aNil)) (mC (.int n.P2))) (mC (.int n.B))) aNil)) (mVar 1)))))
def drawG (n : Nums) : List D → S → Res D := runBody 2 3 (drawBG n)
section
variable {s : S} {k : Nat} {a b m : Int} {N : Nums}
def nxtG (N : Nums) (b : Int) : Int := (b * N.M + N.A).fmod N.P1
def drwG (N : Nums) (c n : Int) : Int := (((c * c).fmod N.P2).fdiv N.B).fmod n
theorem drawG_a (e : s[k]? = some (.lst [.int a, .int b])) (ha : 0 < a) (hn : 0 < m ∧ m < 1073741824) :
    drawG N [.cell k, .int m] s = .ok (.int (a % m)) (s.set k (.lst [.int (a / m), .int b])) := by
  refine runP2 ?_
  simp [drawBG, sSeq, sIf, mB, m2, mVar, mC, potP0 e, gtI, intOp, ha, sAsg, mCall, aCons, aNil, bDivmod, cDiv0, hn, newT, line, taTup, taCons, taNil, taSub, aN, tName, e, ixnP0, sRet]
theorem drawG_b (hN : NumsOk N) (e : s[k]? = some (.lst [.int a, .int b])) (ha : ¬ 0 < a) (hb : 0 ≤ b ∧ b < 2 ^ 32) (hn : 0 < m) :
    drawG N [.cell k, .int m] s = .ok (.int (drwG N (nxtG N b) m)) (s.set k (.lst [.int a, .int (nxtG N b)])) := by
  have hc : 0 ≤ nxtG N b ∧ nxtG N b < N.P1 := fmodP _ hN.p1.1
  have hp := hN.p1.2
  have e2 : (s.set k (.lst [.int a, .int (nxtG N b)]))[k]? = some (.lst [.int a, .int (nxtG N b)]) := List.getElem?_set_self (lenP e)
  have s1 : SmP b := smP (by omega)
  have s2 : SmP (nxtG N b) := smP (by omega)
  have s3 : SmP N.M := smP hN.m
  have hz : m ≠ 0 := by omega
  have hz1 : N.P1 ≠ 0 := by have := hN.p1.1; omega
  have hz2 : N.P2 ≠ 0 := by have := hN.p2; omega
  have hm : (b * N.M + N.A).fmod N.P1 = nxtG N b := rfl
  refine runP2 ((seqP (e1 := [some (.cell k), some (.int m), none]) (s1 := s) ?_).trans ((seqP (e1 := [some (.cell k), some (.int m), none]) (s1 := s.set k (.lst [.int a, .int (nxtG N b)])) ?_).trans (retP ?_)))
  · simp [sIf, mB, m2, mVar, mC, potP0 e, gtI, intOp, ha, sNext]
  · simp [sAsg, m2, mVar, mC, mCall, aCons, aNil, potP1 e, mulP _ _ _ s1 s3, addP, bInt1, modI, intOp, cMod, hz1, hm, taSub, e, ixnP1]
  · simp [m2, mVar, mC, mCall, aCons, aNil, potP1 e2, mulP _ _ _ s2 s2, bInt1, modI, intOp, cMod, divI, cDiv, drwG, hz, hz2, hN.b]
theorem drawGok (hN : NumsOk N) : DrawOk (drawG N) := fun s k n h h0 h1 => by
  obtain ⟨a, b, e, p1, p2, p3⟩ := h
  by_cases ha : 0 < a
  · exact ⟨_, _, drawG_a e ha ⟨h0, h1⟩, Int.emod_nonneg _ (by omega), Int.emod_lt_of_pos _ h0, ⟨_, rfl⟩, _, _, List.getElem?_set_self (lenP e), Int.ediv_nonneg (by omega) (by omega), p2, p3⟩
  · have hc : 0 ≤ nxtG N b ∧ nxtG N b < N.P1 := fmodP _ hN.p1.1
    have hp := hN.p1.2
    have hr := fmodP (((nxtG N b * nxtG N b).fmod N.P2).fdiv N.B) h0
    exact ⟨_, _, drawG_b hN e ha ⟨p2, p3⟩ h0, hr.1, hr.2, ⟨_, rfl⟩, _, _, List.getElem?_set_self (lenP e), p1, hc.1, by omega⟩
end
theorem modP' (i j : Int) (s : S) (h : j ≠ 0) : modI (.int i) (.int j) s = .ok (.int (i.fmod j)) s := by
  simp [modI, intOp, cMod, h]
/-! ### the pot out of a cell -/
/-- [max(0, c - 10 ** 18), int(int(c) % P0 * M + C * k + D) % P + 1] -/
def potE (P0 M C Dd Pp : Int) : Pm.Env → S → Res D := (mCell (aCons (mCall (bInt2 (fun _ _ => true) fun i j => .int (maxI i j)) (aCons (mC (.int 0)) (aCons (m2 subI (mVar 2) (m2 powI (mC (.int 10)) (mC (.int 18)))) aNil))) (aCons (m2 addAll (m2 modI (mCall (bInt1 fun i => .int i) (aCons (m2 addAll (m2 addAll (m2 mulD (m2 modI (mCall (bInt1 fun i => .int i) (aCons (mVar 2) aNil)) (mC (.int P0))) (mC (.int M))) (m2 mulD (mC (.int C)) (mVar 1))) (mC (.int Dd))) aNil)) (mC (.int Pp))) (mC (.int 1))) aNil)))
theorem potE_ok {P0 M C Dd Pp : Int} (h0 : 0 < P0 ∧ P0 < 2 ^ 32) (hM : M.natAbs < 2 ^ 200) (hC : C.natAbs < 2 ^ 200) (hP : 0 < Pp ∧ Pp < 2 ^ 32 - 1) (x : D) (j c : Int) (hj : 0 ≤ j ∧ j < 100) (s : S) :
    ∃ a b : Int, potE P0 M C Dd Pp [some x, some (.int j), some (.int c)] s = .ok (.cell s.length) (s ++ [.lst [.int a, .int b]]) ∧ 0 ≤ a ∧ 0 ≤ b ∧ b < 2 ^ 32 := by
  have hp : ∀ s, powI (.int 10) (.int 18) s = .ok (.int 1000000000000000000) s := fun s => by rfl
  have b1 := fmodP c h0.1
  have b2 := fmodP (c.fmod P0 * M + C * j + Dd) hP.1
  have m1 : ∀ s, mulD (.int (c.fmod P0)) (.int M) s = .ok (.int (c.fmod P0 * M)) s := fun s => mulP _ _ _ (smP (by omega)) (smP hM)
  have m2' : ∀ s, mulD (.int C) (.int j) s = .ok (.int (C * j)) s := fun s => mulP _ _ _ (smP hC) (smP (by omega))
  have z0 : P0 ≠ 0 := by omega
  have z1 : Pp ≠ 0 := by omega
  refine ⟨maxI 0 (c - 1000000000000000000), (c.fmod P0 * M + C * j + Dd).fmod Pp + 1, ?_, ?_, by omega, by omega⟩
  · simp [potE, mCell, aCons, aNil, mCall, bInt2, bInt1, m2, mVar, mC, subP, hp, modP', z0, z1, m1, m2', addP, line]
  · unfold maxI
    split <;> omega
/-- the cell: of the script, or a number of its own -/
theorem cellAt (ns : List Int) (j : Int) (hj : 0 ≤ j) (h : j < (ns.length : Int)) (s : S) (z : Option D) : mCall (bInt1 fun i => .int (absI i)) (aCons (m2 ixD (mVar 0) (mVar 1)) aNil) [some (.ro (ns.map D.int)), some (.int j), z] s = .ok (.int (absI (ns[j.toNat]'(by omega)))) s := by
  obtain ⟨i, rfl⟩ : ∃ i : Nat, j = (i : Int) := ⟨j.toNat, by omega⟩
  have hi : i < ns.length := by omega
  have e2 : L2.atI (ns.map D.int) (i : Int) = some (.int ns[i]) := at_P (by rw [List.getElem?_map, List.getElem?_eq_getElem hi]; rfl)
  simp [m2, mVar, mCall, aCons, aNil, ixD, ixL, e2, Res.or, bInt1]
/-- cell = E * k + F; if k < len(script): cell = abs(script[k]); return the pot -/
def potB (E F P0 M C Dd Pp : Int) : Pm.Env → S → Res Fl := (sSeq (sSet 2 (m2 addAll (m2 mulD (mC (.int E)) (mVar 1)) (mC (.int F))))
  (sSeq (sIf (mB (m2 ltI (mVar 1) (mCall bLen (aCons (mVar 0) aNil)))) (sSet 2 (mCall (bInt1 fun i => .int (absI i)) (aCons (m2 ixD (mVar 0) (mVar 1)) aNil))) sNext)
  (sRet (potE P0 M C Dd Pp))))
def potM (E F P0 M C Dd Pp : Int) : List D → S → Res D := runBody 2 3 (potB E F P0 M C Dd Pp)
def PotOk (m : List D → S → Res D) : Prop := ∀ (ns : List Int) (j : Int), 0 ≤ j ∧ j < 100 → ∀ s : S, ∃ a b : Int, m [.ro (ns.map D.int), .int j] s = .ok (.cell s.length) (s ++ [.lst [.int a, .int b]]) ∧ 0 ≤ a ∧ 0 ≤ b ∧ b < 2 ^ 32
theorem potOk {E F P0 M C Dd Pp : Int} (hE : E.natAbs < 2 ^ 200) (h0 : 0 < P0 ∧ P0 < 2 ^ 32) (hM : M.natAbs < 2 ^ 200) (hC : C.natAbs < 2 ^ 200) (hP : 0 < Pp ∧ Pp < 2 ^ 32 - 1) : PotOk (potM E F P0 M C Dd Pp) := fun ns j hj s => by
  have hm : ∀ s, mulD (.int E) (.int j) s = .ok (.int (E * j)) s := fun s => mulP _ _ _ (smP hE) (smP (by omega))
  have h1 : sSet 2 (m2 addAll (m2 mulD (mC (.int E)) (mVar 1)) (mC (.int F))) [some (.ro (ns.map D.int)), some (.int j), none] s = .ok (.nx [some (.ro (ns.map D.int)), some (.int j), some (.int (E * j + F))]) s :=
    setP (i := 2) (by simp [m2, mC, mVar, hm, addP])
  have hl : mB (m2 ltI (mVar 1) (mCall bLen (aCons (mVar 0) aNil))) [some (.ro (ns.map D.int)), some (.int j), some (.int (E * j + F))] s = .ok (decide (j < (ns.length : Int))) s := by
    simp [mB, m2, mVar, mCall, aCons, aNil, bLen, seqOf, ltI, intOp]
  have h2 : ∃ c : Int, sIf (mB (m2 ltI (mVar 1) (mCall bLen (aCons (mVar 0) aNil)))) (sSet 2 (mCall (bInt1 fun i => .int (absI i)) (aCons (m2 ixD (mVar 0) (mVar 1)) aNil))) sNext [some (.ro (ns.map D.int)), some (.int j), some (.int (E * j + F))] s = .ok (.nx [some (.ro (ns.map D.int)), some (.int j), some (.int c)]) s := by
    by_cases h : j < (ns.length : Int)
    · refine ⟨absI (ns[j.toNat]'(by omega)), ?_⟩
      rw [decide_eq_true h] at hl
      simp only [sIf, hl, Res.bind_ok, if_true]
      exact setP (i := 2) (cellAt ns j hj.1 h s _)
    · refine ⟨E * j + F, ?_⟩
      rw [decide_eq_false h] at hl
      simp [sIf, hl, sNext]
  obtain ⟨c, h2⟩ := h2
  obtain ⟨a, b, h3, hb⟩ := potE_ok (Dd := Dd) h0 hM hC hP (.ro (ns.map D.int)) j c hj s
  exact ⟨a, b, runP2 ((seqP h1).trans ((seqP h2).trans (retP h3))), hb⟩
/-- cell = abs(script[k]) if k < len(script) else E * k + F; return the pot -/
def potB2 (E F P0 M C Dd Pp : Int) : Pm.Env → S → Res Fl := (sSeq (sSet 2 (mIf (mB (m2 ltI (mVar 1) (mCall bLen (aCons (mVar 0) aNil)))) (mCall (bInt1 fun i => .int (absI i)) (aCons (m2 ixD (mVar 0) (mVar 1)) aNil)) (m2 addAll (m2 mulD (mC (.int E)) (mVar 1)) (mC (.int F)))))
  (sRet (potE P0 M C Dd Pp)))
def potM2 (E F P0 M C Dd Pp : Int) : List D → S → Res D := runBody 2 3 (potB2 E F P0 M C Dd Pp)
theorem potOk2 {E F P0 M C Dd Pp : Int} (hE : E.natAbs < 2 ^ 200) (h0 : 0 < P0 ∧ P0 < 2 ^ 32) (hM : M.natAbs < 2 ^ 200) (hC : C.natAbs < 2 ^ 200) (hP : 0 < Pp ∧ Pp < 2 ^ 32 - 1) : PotOk (potM2 E F P0 M C Dd Pp) := fun ns j hj s => by
  have hm : ∀ s, mulD (.int E) (.int j) s = .ok (.int (E * j)) s := fun s => mulP _ _ _ (smP hE) (smP (by omega))
  have hl : mB (m2 ltI (mVar 1) (mCall bLen (aCons (mVar 0) aNil))) [some (.ro (ns.map D.int)), some (.int j), none] s = .ok (decide (j < (ns.length : Int))) s := by
    simp [mB, m2, mVar, mCall, aCons, aNil, bLen, seqOf, ltI, intOp]
  have h2 : ∃ c : Int, mIf (mB (m2 ltI (mVar 1) (mCall bLen (aCons (mVar 0) aNil)))) (mCall (bInt1 fun i => .int (absI i)) (aCons (m2 ixD (mVar 0) (mVar 1)) aNil)) (m2 addAll (m2 mulD (mC (.int E)) (mVar 1)) (mC (.int F))) [some (.ro (ns.map D.int)), some (.int j), none] s = .ok (.int c) s := by
    by_cases h : j < (ns.length : Int)
    · refine ⟨absI (ns[j.toNat]'(by omega)), ?_⟩
      rw [decide_eq_true h] at hl
      simp only [mIf, hl, Res.bind_ok, if_true]
      exact cellAt ns j hj.1 h s _
    · refine ⟨E * j + F, ?_⟩
      rw [decide_eq_false h] at hl
      simp [mIf, hl, m2, mC, mVar, hm, addP]
  obtain ⟨c, h2⟩ := h2
  obtain ⟨a, b, h3, hb⟩ := potE_ok (Dd := Dd) h0 hM hC hP (.ro (ns.map D.int)) j c hj s
  exact ⟨a, b, runP2 ((seqP (setP (i := 2) h2)).trans (retP h3)), hb⟩
end Pm
set_option Elab.async false
set_option linter.all false
set_option maxRecDepth 100000
set_option maxHeartbeats 400000
/-! fresh values that are spoiled: what a call tells is its own, may be changed behind, and is forgotten then -/
namespace Pm
open PySem PySem.Spec PyProof.Rows L2
/-! ### what needs nothing of the heap -/
def flatD : D → Bool
  | .non => true
  | .bl _ => true
  | .int _ => true
  | .str _ => true
  | .cell _ => true
  | _ => false
def bareD : D → Bool
  | .cell _ => false
  | d => flatD d
def flatE (env : Pm.Env) : Pm.Env := env.map fun o => o.bind fun d => if flatD d = true then some d else none
def flatC : Cell → Bool
  | .lst ds => ds.all bareD
  | .ins _ ds => ds.all bareD
  | .dead => true
def flatS (s : S) : Bool := s.all flatC
section
variable {g : G} {ca ca' : List Addr} {F F' P H H' : Hp} {s : S}
theorem flat_rep {d : D} {v : V} (h : flatD d = true) (r : Rep g ca F d v) : Rep g ca F' d v := by
  cases d <;> first | (simp [flatD] at h; done) | simpa [Rep] using r
theorem bare_rep {d : D} {v : V} (h : bareD d = true) (r : Rep g ca F d v) : Rep g ca' F' d v := by
  cases d <;> first | (simp [bareD, flatD] at h; done) | simpa [Rep] using r
theorem bare_reps : ∀ {ds : List D} {vs : List V}, ds.all bareD = true → Reps g ca F ds vs → Reps g ca' F' ds vs
  | [], vs, _, r => by simp only [Reps] at r ⊢; exact r
  | d :: ds, vs, h, r => by
    simp only [List.all_cons, Bool.and_eq_true] at h
    simp only [Reps] at r ⊢
    obtain ⟨v, ws, rfl, r1, r2⟩ := r
    exact ⟨v, ws, rfl, bare_rep h.1 r1, bare_reps h.2 r2⟩
theorem flat_cell {a : Addr} {c : Cell} (h : flatC c = true) (hH : H' a = H a) (k : CellOk g ca F H a c) : CellOk g ca' F' H' a c := by
  cases c with
  | lst ds => obtain ⟨xs, e, r⟩ := k; exact ⟨xs, hH.trans e, bare_reps h r⟩
  | ins c ds => obtain ⟨dx, xs, e, r⟩ := k; exact ⟨dx, xs, hH.trans e, bare_reps h r⟩
  | dead => trivial
theorem flatS_at (h : flatS s = true) {i : Nat} {c : Cell} (e : s[i]? = some c) : flatC c = true := List.all_eq_true.mp h c (List.mem_of_getElem? e)
def nilH : Hp := fun _ => none
def uni (P F : Hp) : Hp := fun a => match P a with
  | some o => some o
  | none => F a
theorem uni_l {a : Addr} {o : HO} (h : P a = some o) : uni P F a = some o := by simp [uni, h]
theorem uni_r {a : Addr} {o : HO} (h : F a = some o) (n : P a = none) : uni P F a = some o := by simp [uni, h, n]
theorem uni_none {a : Addr} : uni P F a = none ↔ P a = none ∧ F a = none := by
  unfold uni
  cases P a <;> simp
/-- all that is known is put aside: the call works on a heap of its own -/
theorem Sim.hide (m : Sim g ca F P s H) (hf : flatS s = true) : Sim g ca nilH (uni P F) s H where
  sub := fun a o e => by simp [nilH] at e
  fr := fun a o e => by
    unfold uni at e
    split at e
    · rename_i o' hp
      cases e
      exact m.fr _ _ hp
    · exact m.sub _ _ e
  dis := fun a o e => rfl
  len := m.len
  nd := m.nd
  out := fun i a e l => ⟨rfl, uni_none.mpr ⟨(m.out i a e l).2, (m.out i a e l).1⟩⟩
  at_ := fun i a c e q => flat_cell (flatS_at hf q) rfl (m.at_ i a c e q)
/-- and comes back -/
theorem Sim.join {ca1 : List Addr} {F1 H1 : Hp} {s1 : S} (m : Sim g ca F P s H) (m1 : Sim g ca1 F1 (uni P F) s1 H1) : Sub F (uni F F1) ∧ Sub F1 (uni F F1) ∧ Sim g ca1 (uni F F1) P s1 H1 := by
  have dis : ∀ a o, F1 a = some o → F a = none := fun a o e => by
    cases q : F a with
    | none => rfl
    | some o' =>
      have hp : P a = none := by
        cases z : P a with
        | none => rfl
        | some o2 => rw [m.dis a o2 z] at q; cases q
      have := m1.dis a o' (uni_r q hp)
      rw [this] at e; cases e
  have s1' : Sub F (uni F F1) := fun a o e => uni_l e
  have s2' : Sub F1 (uni F F1) := fun a o e => uni_r e (dis a o e)
  refine ⟨s1', s2', ?_⟩
  exact {
    sub := fun a o e => by
      unfold uni at e
      split at e
      · rename_i o' hp
        cases e
        have hn : P a = none := by
          cases z : P a with
          | none => rfl
          | some o2 => rw [m.dis a o2 z] at hp; cases hp
        exact m1.fr _ _ (uni_r hp hn)
      · exact m1.sub _ _ e
    fr := fun a o e => m1.fr _ _ (uni_l e)
    dis := fun a o e => uni_none.mpr ⟨m.dis a o e, m1.dis a o (uni_l e)⟩
    len := m1.len
    nd := m1.nd
    out := fun i a e l => by
      obtain ⟨h1, h2⟩ := m1.out i a e l
      obtain ⟨h3, h4⟩ := uni_none.mp h2
      exact ⟨uni_none.mpr ⟨h4, h1⟩, h3⟩
    at_ := fun i a c e q => by
      by_cases hd : c = .dead
      · subst hd; trivial
      · exact (m1.at_ i a c e q).mono List.prefix_rfl s2' rfl }
/-- what changes is R's alone -/
def Chg (R H H' : Hp) : Prop := ∀ a, R a = none → H' a = H a
/-- R is nobody else's -/
structure Alone (ca : List Addr) (R F P : Hp) (s : S) : Prop where
  f : ∀ a o, F a = some o → R a = none
  p : ∀ a o, P a = some o → R a = none
  c : ∀ i a, ca[i]? = some a → Live s i → R a = none
theorem Sim.chg {R : Hp} (m : Sim g ca F P s H) (al : Alone ca R F P s) (h : Chg R H H') : Sim g ca F P s H' where
  sub := fun a o e => by rw [h a (al.f a o e)]; exact m.sub a o e
  fr := fun a o e => by rw [h a (al.p a o e)]; exact m.fr a o e
  dis := m.dis
  len := m.len
  nd := m.nd
  out := m.out
  at_ := fun i a c e q => by
    by_cases hd : c = .dead
    · subst hd; trivial
    · exact (m.at_ i a c e q).mono List.prefix_rfl (Sub.refl _) (h a (al.c i a e ⟨c, q, hd⟩))
/-- back to what was known ahead -/
theorem Sim.back {ca2 : List Addr} {F3 H2 : Hp} {s2 : S} (m : Sim g ca F P s H) (m3 : Sim g ca2 F3 P s2 H2) (hF : Sub F F3) (hf : flatS s2 = true) : Sim g ca2 F P s2 H2 where
  sub := hF.trans m3.sub
  fr := m3.fr
  dis := m.dis
  len := m3.len
  nd := m3.nd
  out := fun i a e l => ⟨hF.free (m3.out i a e l).1, (m3.out i a e l).2⟩
  at_ := fun i a c e q => flat_cell (flatS_at hf q) rfl (m3.at_ i a c e q)
theorem Slots.flat {env : Pm.Env} {σ : L2.St} (h : Slots g ca F env σ) : Slots g ca F' (flatE env) σ := by
  refine ⟨by simp [flatE, h.1], fun i d e => ?_⟩
  unfold flatE at e
  rw [List.getElem?_map, Option.map_eq_some_iff] at e
  obtain ⟨o, ho, e⟩ := e
  cases o with
  | none => simp at e
  | some d' =>
    simp only [Option.bind_some] at e
    split at e
    · rename_i hf
      cases e
      obtain ⟨v, hv, r⟩ := h.2 i d ho
      exact ⟨v, hv, flat_rep hf r⟩
    · cases e
end

/-! ### a value of one's own, as far as its lists' beginnings tell -/
mutual
def Own (R : Hp) (N : Nat) (H : Hp) : D → V → Prop
  | .lst ds, v => ∃ a ys, v = .ref a ∧ R a ≠ none ∧ H a = some (.lst ys) ∧ ys.length ≤ N ∧ OwnL R N H ds ys
  | .tup ds, v => ∃ a ys, v = .ref a ∧ R a ≠ none ∧ H a = some (.tup ys) ∧ OwnL R N H ds ys
  | .non, _ => True
  | .bl _, _ => True
  | .int _, _ => True
  | .str _, _ => True
  | .ro _, _ => True
  | .rot _, _ => True
  | .ins _ _, _ => True
  | .cell _, _ => True
  | .cls _, _ => True
  | .ty _, _ => True
  | .mty, _ => True
def OwnL (R : Hp) (N : Nat) (H : Hp) : List D → List V → Prop
  | [], _ => True
  | d :: ds, vs => ∃ v ws, vs = v :: ws ∧ Own R N H d v ∧ OwnL R N H ds ws
end
mutual
def few : D → Bool
  | .lst ds => decide (ds.length ≤ 1000000) && fewL ds
  | .tup ds => fewL ds
  | _ => true
def fewL : List D → Bool
  | [] => true
  | d :: ds => few d && fewL ds
end
section
variable {g : G} {ca : List Addr} {R H : Hp}
mutual
theorem own_of (hs : Sub R H) : ∀ (d : D) (v : V), few d = true → Rep g ca R d v → Own R 1000000 H d v
  | .lst ds, v, h, r => by
    simp only [few, Bool.and_eq_true, decide_eq_true_eq] at h
    simp only [Rep] at r
    obtain ⟨a, xs, rfl, hF, rs⟩ := r
    simp only [Own]
    exact ⟨a, xs, rfl, by rw [hF]; simp, hs _ _ hF, by rw [← rs.length]; exact h.1, ownL_of hs ds xs h.2 rs⟩
  | .tup ds, v, h, r => by
    simp only [few] at h
    simp only [Rep] at r
    obtain ⟨a, xs, rfl, hF, rs⟩ := r
    simp only [Own]
    exact ⟨a, xs, rfl, by rw [hF]; simp, hs _ _ hF, ownL_of hs ds xs h rs⟩
  | .non, _, _, _ => by simp only [Own]
  | .bl _, _, _, _ => by simp only [Own]
  | .int _, _, _, _ => by simp only [Own]
  | .str _, _, _, _ => by simp only [Own]
  | .ro _, _, _, _ => by simp only [Own]
  | .rot _, _, _, _ => by simp only [Own]
  | .ins _ _, _, _, _ => by simp only [Own]
  | .cell _, _, _, _ => by simp only [Own]
  | .cls _, _, _, _ => by simp only [Own]
  | .ty _, _, _, _ => by simp only [Own]
  | .mty, _, _, _ => by simp only [Own]
theorem ownL_of (hs : Sub R H) : ∀ (ds : List D) (vs : List V), fewL ds = true → Reps g ca R ds vs → OwnL R 1000000 H ds vs
  | [], _, _, _ => by simp only [OwnL]
  | d :: ds, vs, h, r => by
    simp only [fewL, Bool.and_eq_true] at h
    simp only [Reps] at r
    obtain ⟨v, ws, rfl, r1, r2⟩ := r
    simp only [OwnL]
    exact ⟨v, ws, rfl, own_of hs d v h.1 r1, ownL_of hs ds ws h.2 r2⟩
end
theorem ownL_more {N : Nat} : ∀ {ds : List D} {vs : List V} (y : V), OwnL R N H ds vs → OwnL R N H ds (vs ++ [y])
  | [], _, _, _ => by simp only [OwnL]
  | d :: ds, vs, y, h => by
    simp only [OwnL] at h ⊢
    obtain ⟨v, ws, rfl, h1, h2⟩ := h
    exact ⟨v, ws ++ [y], rfl, h1, ownL_more y h2⟩
mutual
theorem own_app {N : Nat} {b : Addr} {zs : List V} {y : V} (hb : H b = some (.lst zs)) (hz : zs.length ≤ N) : ∀ (d : D) (v : V), Own R N H d v → Own R (N + 1) (upd H b (.lst (zs ++ [y]))) d v
  | .lst ds, v, h => by
    simp only [Own] at h ⊢
    obtain ⟨a, ys, rfl, hR, hH, hl, hs⟩ := h
    have hs' := ownL_app (y := y) hb hz ds ys hs
    by_cases e : a = b
    · subst e
      rw [hb] at hH
      cases hH
      exact ⟨a, zs ++ [y], rfl, hR, upd_same, by simp; omega, ownL_more y hs'⟩
    · exact ⟨a, ys, rfl, hR, by rw [upd_ne e]; exact hH, by omega, hs'⟩
  | .tup ds, v, h => by
    simp only [Own] at h ⊢
    obtain ⟨a, ys, rfl, hR, hH, hs⟩ := h
    have hs' := ownL_app (y := y) hb hz ds ys hs
    have e : a ≠ b := by rintro rfl; rw [hb] at hH; cases hH
    exact ⟨a, ys, rfl, hR, by rw [upd_ne e]; exact hH, hs'⟩
  | .non, _, _ => by simp only [Own]
  | .bl _, _, _ => by simp only [Own]
  | .int _, _, _ => by simp only [Own]
  | .str _, _, _ => by simp only [Own]
  | .ro _, _, _ => by simp only [Own]
  | .rot _, _, _ => by simp only [Own]
  | .ins _ _, _, _ => by simp only [Own]
  | .cell _, _, _ => by simp only [Own]
  | .cls _, _, _ => by simp only [Own]
  | .ty _, _, _ => by simp only [Own]
  | .mty, _, _ => by simp only [Own]
theorem ownL_app {N : Nat} {b : Addr} {zs : List V} {y : V} (hb : H b = some (.lst zs)) (hz : zs.length ≤ N) : ∀ (ds : List D) (vs : List V), OwnL R N H ds vs → OwnL R (N + 1) (upd H b (.lst (zs ++ [y]))) ds vs
  | [], _, _ => by simp only [OwnL]
  | d :: ds, vs, h => by
    simp only [OwnL] at h ⊢
    obtain ⟨v, ws, rfl, h1, h2⟩ := h
    exact ⟨v, ws, rfl, own_app hb hz d v h1, ownL_app hb hz ds ws h2⟩
end
theorem ownL_at {N : Nat} : ∀ {ds : List D} {vs : List V} {k : Nat} {d : D}, OwnL R N H ds vs → ds[k]? = some d → ∃ v, vs[k]? = some v ∧ Own R N H d v
  | [], _, k, d, _, e => by simp at e
  | d' :: ds, vs, 0, d, h, e => by
    simp only [OwnL] at h
    obtain ⟨v, ws, rfl, h1, h2⟩ := h
    simp at e
    subst e
    exact ⟨v, rfl, h1⟩
  | d' :: ds, vs, k + 1, d, h, e => by
    simp only [OwnL] at h
    obtain ⟨v, ws, rfl, h1, h2⟩ := h
    obtain ⟨u, hu, ho⟩ := ownL_at (k := k) h2 (by simpa using e)
    exact ⟨u, by simpa using hu, ho⟩
end

/-! ### spoiling: x.append(None), x[0].append(None), x[0][1].append(None) -/
section
variable {X : Cx} {g : G} {E : XK}
/-- the value of an expression of x and places alone -/
def PathOk (X : Cx) (i : Nat) (e : Expr) (p : List Nat) : Prop := ∃ t : TE, PE X e t ∧ ∀ (σ : L2.St) (H R : Hp) (N : Nat) (d : D) (v : V) (Q : VK), σ[i]? = some (some v) → Own R N H d v →
  ∀ d', p.foldlM (fun d k => match d with
    | .lst ds => ds[k]?
    | .tup ds => ds[k]?
    | _ => none) d = some d' → (∀ v', Own R N H d' v' → Q v' H) → t σ H Q
theorem path_name (i : Nat) {x : Str} {pos : Pos} (hN : X.N[i]? = some x := by rfl) (hv : Vis X.env.scope x := by first | exact Or.inl rfl | exact Or.inr (Or.inl rfl) | exact Or.inr (Or.inr rfl)) (hd : (x == ("__debug__" : Str)) = false := by decide)
    (hcd : (x == ("__classdict__" : Str)) = false := by decide) : PathOk X i (.Name x pos) [] := by
  refine ⟨_, pe_var hN hv hd hcd, fun σ H R N d v Q e o d' h k => ?_⟩
  simp at h
  subst h
  exact ⟨v, e, k v o⟩
theorem at_nat {α : Type} {xs : List α} {k : Nat} {x : α} (h : xs[k]? = some x) : L2.atI xs (k : Int) = some x := by
  have hl : k < xs.length := (List.getElem?_eq_some_iff.mp h).1
  unfold L2.atI L2.ixN
  rw [if_pos (by omega), if_pos (by omega)]
  simpa using h
theorem path_ix {i k : Nat} {z : Int} {e : Expr} {p : List Nat} {j : Nat} {pos pos' : Pos} (h : PathOk X i e p) (hz : z = (k : Int) := by rfl) : PathOk X i (.Subscript e (.Constant (.int z) j pos') pos) (p ++ [k]) := by
  subst hz
  obtain ⟨t, pe, h⟩ := h
  refine ⟨_, pe_ix (ix_list.or ix_tup) pe pe_int (fun _ _ => rfl), fun σ H R N d v Q e o d' hp kk => ?_⟩
  rw [List.foldlM_append] at hp
  obtain ⟨d1, h1, h2⟩ := Option.bind_eq_some_iff.mp hp
  refine h σ H R N d v _ e o d1 h1 fun v' o' => ?_
  show (rIxL X.K v' (.int (k : Int)) H Q ∨ rIxT X.K v' (.int (k : Int)) H Q)
  simp only [List.foldlM_cons, List.foldlM_nil, bind_pure] at h2
  cases d1 with
  | lst ds =>
    simp only [Own] at o'
    obtain ⟨a, ys, rfl, hR, hH, hl, hs⟩ := o'
    obtain ⟨u, hu, ou⟩ := ownL_at hs h2
    exact .inl ⟨a, ys, _, u, rfl, rfl, .of hH, at_nat hu, kk u ou⟩
  | tup ds =>
    simp only [Own] at o'
    obtain ⟨a, ys, rfl, hR, hH, hs⟩ := o'
    obtain ⟨u, hu, ou⟩ := ownL_at hs h2
    exact .inr ⟨a, ys, _, u, rfl, rfl, .of hH, at_nat hu, kk u ou⟩
  | _ => cases h2
/-- one statement that spoils the value at x -/
def SpO (X : Cx) (i : Nat) (st : Stmt) (chk : D → Bool) : Prop := ∃ t : TS, PS X st t ∧ ∀ (σ : L2.St) (H R : Hp) (N : Nat) (d : D) (v : V) (Dn : Ends), σ[i]? = some (some v) → Own R N H d v → N < 2000000 → chk d = true →
  (∀ H', Chg R H H' → Own R (N + 1) H' d v → Dn.nx σ H') → t Dn σ H
def chkP (p : List Nat) (d : D) : Bool := match p.foldlM (fun d k => match d with
    | .lst ds => ds[k]?
    | .tup ds => ds[k]?
    | _ => none) d with
  | some (.lst _) => true
  | _ => false
theorem sp_app {i j : Nat} {o : Expr} {p : List Nat} {apos pos pos' : Pos} (h : PathOk X i o p) (hbase : attributeBase o "append" X.env (eval o X.env) = eval o X.env := by rfl) (hline : (apos.endLine == pos.line) = true := by rfl)
    (hs : swapsWith (.Call (.Attribute o "append" apos) [.Constant .none j pos'] [] pos) none pos.line X.env = pure false := by rfl) : SpO X i (.Expr (.Call (.Attribute o "append" apos) [.Constant .none j pos'] [] pos) pos) (chkP p) := by
  obtain ⟨t, pe, h⟩ := h
  refine ⟨_, ps_expr (pe_bm PySem.F.plainAttrs_list PySem.F.slot_list_append PySem.F.type_list_append mt_append pe (pa_cons pe_non pa_nil) hbase (by rfl) hline rfl rfl) hs, fun σ H R N d v Dn e o' hN hc k => ?_⟩
  unfold chkP at hc
  split at hc
  · rename_i ds hd
    refine h σ H R N d v _ e o' (.lst ds) hd fun v' ov => ?_
    simp only [Own] at ov
    obtain ⟨a, ys, rfl, hR, hH, hl, hs⟩ := ov
    refine ⟨.inl ⟨rfl, ys, SqL.of hH⟩, ?_⟩
    refine (show L2.rAppend (.ref a) [.non] H (fun x H1 => Dn.nx σ H1) from ?_)
    refine ⟨a, ys, .non, rfl, rfl, hH, line_lt (by unfold line; omega), ?_⟩
    refine k _ (fun b hb => ?_) (own_app hH hl d v o')
    rw [upd_ne]
    rintro rfl
    exact hR hb
  · cases hc
end
end Pm
set_option Elab.async false
set_option linter.all false
set_option maxRecDepth 100000
set_option maxHeartbeats 400000
/-! blocks in which a fresh value is looked at, spoiled and forgotten -/
namespace Pm
open PySem PySem.Spec PyProof.Rows L2
section
variable {X : Cx} {g : G} {E : XK}
/-- the names behind the spoiling: as they were ahead, but for those of w, which stay if they are flat -/
def restE (i : Nat) (w : List Nat) (env env0 : Pm.Env) : Pm.Env := (List.range env0.length).map fun j => if j = i then none else if j ∈ w then (env[j]?.join).bind fun d => if flatD d = true then some d else none else env0[j]?.join
def SameOff (w : List Nat) (σ σ' : L2.St) : Prop := σ'.length = σ.length ∧ ∀ j, j ∉ w → σ'[j]? = σ[j]?
theorem slots_rest {i : Nat} {w : List Nat} {env env0 : Pm.Env} {σ σ0 : L2.St} {ca ca0 : List Addr} {F F0 : Hp} (sl : Slots g ca F env σ) (sl0 : Slots g ca0 F0 env0 σ0) (hs : SameOff (i :: w) σ0 σ) (hc : ca0 <+: ca) : Slots g ca F0 (restE i w env env0) σ := by
  refine ⟨by simp [restE, sl0.1, hs.1], fun j d e => ?_⟩
  unfold restE at e
  rw [List.getElem?_map, Option.map_eq_some_iff] at e
  obtain ⟨k, hk, e⟩ := e
  have hjl : j < env0.length := by simpa using (List.getElem?_eq_some_iff.mp hk).1
  rw [List.getElem?_range hjl] at hk
  cases hk
  split at e
  · cases e
  · rename_i hi
    split at e
    · obtain ⟨d', h1, h2⟩ := Option.bind_eq_some_iff.mp e
      split at h2
      · rename_i hf
        cases h2
        rw [Option.join_eq_some_iff] at h1
        obtain ⟨v, hv, r⟩ := sl.2 j d h1
        exact ⟨v, hv, flat_rep hf r⟩
      · cases h2
    · rename_i hw
      rw [Option.join_eq_some_iff] at e
      obtain ⟨v, hv, r⟩ := sl0.2 j d e
      exact ⟨v, by rw [hs.2 j (by simp [hi, hw])]; exact hv, Rep.mono hc (Sub.refl _) _ _ r⟩
/-! ### behind the first spoiling -/
def Zn2 (X : Cx) (g : G) (E : XK) (i : Nat) (sts : List Stmt) (b : Nat) (m : D → Pm.Env → S → Res Fl) : Prop := ∃ t : TS, PSs X sts t ∧ ∀ (env : Pm.Env) (s : S) (ca : List Addr) (F P H : Hp) (σ : L2.St) (Dn : Ends) (d : D) (v : V) (R : Hp) (N : Nat),
  Sim g ca F P s H → Slots g ca F env σ → σ[i]? = some (some v) → Alone ca R F P s → Own R N H d v → N + b ≤ 2000000 → Post g ca F P E (fun fl _ ca' F' H' => FlOk g ca' F' H' Dn fl) (m d env s) → t Dn σ H
def zTail (mt : Pm.Env → S → Res Fl) : D → Pm.Env → S → Res Fl := fun _ env s => mt env s
def zSp (chk : D → Bool) (m : D → Pm.Env → S → Res Fl) : D → Pm.Env → S → Res Fl := fun d env s => if chk d = true then m d env s else .stuck
theorem zn2_tail {i : Nat} {sts : List Stmt} {mt : Pm.Env → S → Res Fl} (h : Svs X g E sts mt) : Zn2 X g E i sts 0 (zTail mt) := by
  obtain ⟨t, p, h⟩ := h
  exact ⟨t, p, fun env s ca F P H σ Dn d v R N m sl _ _ _ _ q => h env s ca F P H σ Dn m sl q⟩
theorem zn2_cons {i b : Nat} {st : Stmt} {rest : List Stmt} {chk : D → Bool} {m : D → Pm.Env → S → Res Fl} (h1 : SpO X i st chk) (h2 : Zn2 X g E i rest b m) : Zn2 X g E i (st :: rest) (b + 1) (zSp chk m) := by
  obtain ⟨t, p1, h1⟩ := h1
  obtain ⟨u, p2, h2⟩ := h2
  refine ⟨_, pss_cons p1 p2, fun env s ca F P H σ Dn d v R N ms sl e al o hb q => ?_⟩
  unfold zSp at q
  split at q
  · rename_i hc
    exact h1 σ H R N d v _ e o (by omega) hc fun H' hch o' => h2 env s ca F P H' σ Dn d v R (N + 1) (ms.chg al hch) sl e al o' (by omega) q
  · exact q.elim
/-- statements that spoil, in a branch -/
def SpL (X : Cx) (i : Nat) (sts : List Stmt) (chk : D → Bool) (n : Nat) : Prop := ∃ t : TS, PSs X sts t ∧ ∀ (σ : L2.St) (H R : Hp) (N : Nat) (d : D) (v : V) (Dn : Ends), σ[i]? = some (some v) → Own R N H d v → N + n ≤ 2000000 → chk d = true →
  (∀ H', Chg R H H' → Own R (N + n) H' d v → Dn.nx σ H') → t Dn σ H
theorem spl_one {i : Nat} {st : Stmt} {chk : D → Bool} (h : SpO X i st chk) : SpL X i [st] chk 1 := by
  obtain ⟨t, p, h⟩ := h
  exact ⟨t, pss_one p, fun σ H R N d v Dn e o hN hc k => h σ H R N d v Dn e o (by omega) hc k⟩
/-! ### ahead of it -/
structure ZCx (g : G) (i : Nat) (w : List Nat) (env0 : Pm.Env) (s0 : S) (ca0 : List Addr) (F0 P H0 : Hp) (σ0 : L2.St) (R : Hp) (d : D) (v : V) (ca : List Addr) (F : Hp) (σ : L2.St) : Prop where
  m0 : Sim g ca0 F0 P s0 H0
  sl0 : Slots g ca0 F0 env0 σ0
  hc : ca0 <+: ca
  hF : Sub F0 F
  hR : Sub R F
  af : ∀ a o, F0 a = some o → R a = none
  ap : ∀ a o, P a = some o → R a = none
  off : SameOff (i :: w) σ0 σ
  at_ : σ[i]? = some (some v)
  rep : Rep g ca R d v
  few : few d = true
theorem ZCx.later {i : Nat} {w : List Nat} {env0 : Pm.Env} {s0 : S} {ca0 : List Addr} {F0 P H0 : Hp} {σ0 : L2.St} {R : Hp} {d : D} {v : V} {ca ca1 : List Addr} {F F1 : Hp} {σ : L2.St} (z : ZCx g i w env0 s0 ca0 F0 P H0 σ0 R d v ca F σ) (h1 : ca <+: ca1) (h2 : Sub F F1) : ZCx g i w env0 s0 ca0 F0 P H0 σ0 R d v ca1 F1 σ :=
  { z with hc := z.hc.trans h1, hF := z.hF.trans h2, hR := z.hR.trans h2, rep := Rep.mono h1 (Sub.refl _) _ _ z.rep }
def Zn1 (X : Cx) (g : G) (E : XK) (i : Nat) (w : List Nat) (sts : List Stmt) (m : Pm.Env → Pm.Env → D → S → Res Fl) : Prop := ∃ t : TS, PSs X sts t ∧ ∀ (env : Pm.Env) (s : S) (ca : List Addr) (F P H : Hp) (σ : L2.St) (Dn : Ends) (env0 : Pm.Env) (s0 : S) (ca0 : List Addr) (F0 H0 : Hp) (σ0 : L2.St) (R : Hp) (d : D) (v : V),
  Sim g ca F P s H → Slots g ca F env σ → ZCx g i w env0 s0 ca0 F0 P H0 σ0 R d v ca F σ → Post g ca F0 P E (fun fl _ ca' F' H' => FlOk g ca' F' H' Dn fl) (m env env0 d s) → t Dn σ H
theorem ZCx.alone {i : Nat} {w : List Nat} {env0 : Pm.Env} {s0 s : S} {ca0 : List Addr} {F0 P H0 H : Hp} {σ0 : L2.St} {R : Hp} {d : D} {v : V} {ca : List Addr} {F : Hp} {σ : L2.St} (z : ZCx g i w env0 s0 ca0 F0 P H0 σ0 R d v ca F σ) (m : Sim g ca F P s H) : Alone ca R F0 P s :=
  ⟨z.af, z.ap, fun j a e l => z.hR.free (m.out j a e l).1⟩
def zEnd (i : Nat) (w : List Nat) (m : D → Pm.Env → S → Res Fl) : Pm.Env → Pm.Env → D → S → Res Fl := fun env env0 d s => if flatS s = true then m d (restE i w env env0) s else .stuck
theorem zn1_end {i b : Nat} {w : List Nat} {sts : List Stmt} {m : D → Pm.Env → S → Res Fl} (h : Zn2 X g E i sts b m) (hb : b ≤ 1000000 := by decide) : Zn1 X g E i w sts (zEnd i w m) := by
  obtain ⟨t, p, h⟩ := h
  refine ⟨t, p, fun env s ca F P H σ Dn env0 s0 ca0 F0 H0 σ0 R d v ms sl z q => ?_⟩
  unfold zEnd at q
  split at q
  · rename_i hf
    exact h _ s ca F0 P H σ Dn d v R 1000000 (z.m0.back ms z.hF hf) (slots_rest sl z.sl0 z.off z.hc) z.at_ (z.alone ms) (own_of (z.hR.trans ms.sub) d v z.few z.rep) (by omega) q
  · exact q.elim
/-- if ..: return True or False -/
def zRet (tc : Pm.Env → S → Res Bool) (c : Bool) (m : Pm.Env → Pm.Env → D → S → Res Fl) : Pm.Env → Pm.Env → D → S → Res Fl := fun env env0 d s => (noexn (tc env s)).bind fun b s1 => if b = true then (if flatS s1 = true then .ok (.rt (.bl c)) s1 else .stuck) else m env env0 d s1
theorem zn1_ret {i : Nat} {w : List Nat} {e : Expr} {c : Bool} {j : Nat} {pos pos' pos2 : Pos} {rest : List Stmt} {tc : Pm.Env → S → Res Bool} {m : Pm.Env → Pm.Env → D → S → Res Fl} (ht : Et X g E e tc) (h : Zn1 X g E i w rest m) : Zn1 X g E i w (.If e [.Return (some (.Constant (.bool c) j pos')) pos2] [] pos :: rest) (zRet tc c m) := by
  obtain ⟨t, p, ht⟩ := ht
  obtain ⟨u, p2, h⟩ := h
  refine ⟨_, pss_cons (ps_if p (pss_one (ps_ret pe_bl)) pss_nil) p2, fun env s ca F P H σ Dn env0 s0 ca0 F0 H0 σ0 R d v ms sl z q => ?_⟩
  refine ht env s ca F P H σ _ ms sl ?_
  unfold zRet at q
  cases hq : tc env s with
  | stuck => rw [hq] at q; exact q.elim
  | exn c' pl s' => rw [hq] at q; exact q.elim
  | ok b s1 =>
    rw [hq] at q
    have q : Post g ca F0 P E (fun fl _ ca' F' H' => FlOk g ca' F' H' Dn fl) (if b = true then (if flatS s1 = true then .ok (.rt (.bl c)) s1 else .stuck) else m env env0 d s1) := q
    intro ca1 F1 H1 k1 k2 m1
    cases b with
    | true =>
      simp only [if_true] at q
      split at q
      · rename_i hf
        exact q ca1 F0 H1 k1 (Sub.refl _) (z.m0.back m1 (z.hF.trans k2) hf) (.bl c) (by simp only [Rep])
      · exact q.elim
    | false =>
      simp only [Bool.false_eq_true, if_false] at q
      exact h env s1 ca1 F1 P H1 σ Dn env0 s0 ca0 F0 H0 σ0 R d v m1 (sl.mono k1 k2) (z.later k1 k2) (Post.later q k1 (Sub.refl _))
/-- if ..: spoil -/
def zIfSp (i : Nat) (w : List Nat) (tc : Pm.Env → S → Res Bool) (chk : D → Bool) (m : D → Pm.Env → S → Res Fl) : Pm.Env → Pm.Env → D → S → Res Fl := fun env env0 d s => (noexn (tc env s)).bind fun b s1 => if flatS s1 = true then (if b = true then (if chk d = true then m d (restE i w env env0) s1 else .stuck) else m d (restE i w env env0) s1) else .stuck
theorem zn1_ifsp {i b n : Nat} {w : List Nat} {e : Expr} {pos : Pos} {sps rest : List Stmt} {tc : Pm.Env → S → Res Bool} {chk : D → Bool} {m : D → Pm.Env → S → Res Fl} (ht : Et X g E e tc) (hs : SpL X i sps chk n) (h : Zn2 X g E i rest b m) (hb : n + b ≤ 1000000 := by decide) : Zn1 X g E i w (.If e sps [] pos :: rest) (zIfSp i w tc chk m) := by
  obtain ⟨t, p, ht⟩ := ht
  obtain ⟨t2, p3, hs⟩ := hs
  obtain ⟨u, p2, h⟩ := h
  refine ⟨_, pss_cons (ps_if p p3 pss_nil) p2, fun env s ca F P H σ Dn env0 s0 ca0 F0 H0 σ0 R d v ms sl z q => ?_⟩
  refine ht env s ca F P H σ _ ms sl ?_
  unfold zIfSp at q
  cases hq : tc env s with
  | stuck => rw [hq] at q; exact q.elim
  | exn c' pl s' => rw [hq] at q; exact q.elim
  | ok b' s1 =>
    rw [hq] at q
    have q : Post g ca F0 P E (fun fl _ ca' F' H' => FlOk g ca' F' H' Dn fl) (if flatS s1 = true then (if b' = true then (if chk d = true then m d (restE i w env env0) s1 else .stuck) else m d (restE i w env env0) s1) else .stuck) := q
    intro ca1 F1 H1 k1 k2 m1
    split at q
    · rename_i hf
      have z1 := z.later k1 k2
      have mb := z1.m0.back m1 z1.hF hf
      have sr := slots_rest (sl.mono k1 k2) z1.sl0 z1.off z1.hc
      have al := z1.alone m1
      have ow := own_of (z1.hR.trans m1.sub) d v z1.few z1.rep
      cases b' with
      | true =>
        simp only [if_true] at q
        split at q
        · rename_i hc
          exact hs σ H1 R 1000000 d v _ z1.at_ ow (by omega) hc fun H' hch o' => h _ s1 ca1 F0 P H' σ Dn d v R (1000000 + n) (mb.chg al hch) sr z1.at_ al o' (by omega) (Post.later q k1 (Sub.refl _))
        · exact q.elim
      | false =>
        simp only [Bool.false_eq_true, if_false] at q
        exact h _ s1 ca1 F0 P H1 σ Dn d v R 1000000 mb sr z1.at_ al ow (by omega) (Post.later q k1 (Sub.refl _))
    · exact q.elim
/-- name = .. -/
def zSet (j : Nat) (me : Pm.Env → S → Res D) (m : Pm.Env → Pm.Env → D → S → Res Fl) : Pm.Env → Pm.Env → D → S → Res Fl := fun env env0 d s => (noexn (me env s)).bind fun x s1 => m (env.set j (some x)) env0 d s1
theorem zn1_set {i : Nat} {w : List Nat} (j : Nat) {x : Str} {e : Expr} {pos pos' : Pos} {rest : List Stmt} {me : Pm.Env → S → Res D} {m : Pm.Env → Pm.Env → D → S → Res Fl} (hN : X.N.Nodup) (hi : X.N[j]? = some x) (hx : Loc X.env.scope x) (he : Ev X g E e me) (hw : j ∈ w := by decide) (hj : j ≠ i := by decide) (h : Zn1 X g E i w rest m)
    (hs : swapsWith e (some (.Name x pos')) pos.line X.env = pure false := by rfl) (hf : X.fn x = true ∨ X.env.scope.names.lookup x = some .local := by first | exact .inl rfl | exact .inr rfl | assumption) : Zn1 X g E i w (.Assign [.Name x pos'] e pos :: rest) (zSet j me m) := by
  obtain ⟨t, p, he⟩ := he
  obtain ⟨u, p2, h⟩ := h
  refine ⟨_, pss_cons (ps_set hN hi hx p hs hf) p2, fun env s ca F P H σ Dn env0 s0 ca0 F0 H0 σ0 R d v ms sl z q => ?_⟩
  refine he env s ca F P H σ _ ms sl ?_
  unfold zSet at q
  cases hq : me env s with
  | stuck => rw [hq] at q; exact q.elim
  | exn c' pl s' => rw [hq] at q; exact q.elim
  | ok y s1 =>
    rw [hq] at q
    have q : Post g ca F0 P E (fun fl _ ca' F' H' => FlOk g ca' F' H' Dn fl) (m (env.set j (some y)) env0 d s1) := q
    intro ca1 F1 H1 k1 k2 m1 u' ru
    have z1 := z.later k1 k2
    refine h (env.set j (some y)) s1 ca1 F1 P H1 (σ.set j (some u')) Dn env0 s0 ca0 F0 H0 σ0 R d v m1 ((sl.mono k1 k2).set ru) { z1 with off := ⟨by simp [z1.off.1], fun l hl => ?_⟩, at_ := ?_ } (Post.later q k1 (Sub.refl _))
    · have : j ≠ l := by rintro rfl; exact hl (by simp [hw])
      rw [List.getElem?_set_ne this]
      exact z1.off.2 l hl
    · rw [List.getElem?_set_ne hj]
      exact z1.at_
/-! ### x = f(..), looked at, spoiled, forgotten -/
def sFresh (i : Nat) (me : Pm.Env → S → Res D) (m : Pm.Env → Pm.Env → D → S → Res Fl) : Pm.Env → S → Res Fl := fun env s => if i < env.length then (if flatS s = true then (noexn (me (flatE env) s)).bind fun d s1 => if few d = true then m (env.set i (some d)) env d s1 else .stuck else .stuck) else .stuck
theorem svs_fresh (i : Nat) {w : List Nat} {x : Str} {e : Expr} {pos pos' : Pos} {rest : List Stmt} {me : Pm.Env → S → Res D} {m : Pm.Env → Pm.Env → D → S → Res Fl} (hN : X.N.Nodup) (hi : X.N[i]? = some x) (hx : Loc X.env.scope x) (he : Ev X g E e me) (h : Zn1 X g E i w rest m)
    (hs : swapsWith e (some (.Name x pos')) pos.line X.env = pure false := by rfl) (hf : X.fn x = true ∨ X.env.scope.names.lookup x = some .local := by first | exact .inl rfl | exact .inr rfl | assumption):
    Svs X g E (.Assign [.Name x pos'] e pos :: rest) (sFresh i me m) := by
  obtain ⟨t, p, he⟩ := he
  obtain ⟨u, p2, h⟩ := h
  refine ⟨_, pss_cons (ps_set hN hi hx p hs hf) p2, fun env s ca F P H σ Dn ms sl q => ?_⟩
  unfold sFresh at q
  split at q
  · rename_i hie
    split at q
    · rename_i hfl
      refine he (flatE env) s ca nilH (uni P F) H σ _ (ms.hide hfl) sl.flat ?_
      cases hq : me (flatE env) s with
      | stuck => rw [hq] at q; exact q.elim
      | exn c' pl s' => rw [hq] at q; exact q.elim
      | ok d s1 =>
        rw [hq] at q
        have q : Post g ca F P E (fun fl _ ca' F' H' => FlOk g ca' F' H' Dn fl) (if few d = true then m (env.set i (some d)) env d s1 else .stuck) := q
        split at q
        · rename_i hfew
          intro ca1 F1 H1 k1 k2 m1 v rv
          obtain ⟨j1, j2, mj⟩ := ms.join m1
          have hiσ : i < σ.length := by rw [← sl.1]; exact hie
          refine h (env.set i (some d)) s1 ca1 (uni F F1) P H1 (σ.set i (some v)) Dn env s ca F H σ F1 d v mj ((sl.mono k1 j1).set (Rep.mono List.prefix_rfl j2 _ _ rv)) ?_ (Post.later q k1 (Sub.refl _))
          refine { m0 := ms, sl0 := sl, hc := k1, hF := j1, hR := j2, af := fun a o e => ?_, ap := fun a o e => m1.dis a o (uni_l e), off := ⟨by simp, fun l hl => ?_⟩, at_ := by rw [List.getElem?_set_self hiσ], rep := rv, few := hfew }
          · have hn : P a = none := by
              cases z : P a with
              | none => rfl
              | some o2 => rw [ms.dis a o2 z] at e; cases e
            exact m1.dis a o (uni_r e hn)
          · have : i ≠ l := by rintro rfl; exact hl (by simp)
            rw [List.getElem?_set_ne this]
        · exact q.elim
    · exact q.elim
  · exact q.elim
/-! ### f(..).append(None) -/
def dropK (env : Pm.Env) : D → S → Res Fl := fun d s1 => match d with
  | .lst ds => if (decide (ds.length ≤ 1000000) && flatS s1) = true then .ok (.nx env) s1 else .stuck
  | _ => .stuck
def sDrop (me : Pm.Env → S → Res D) : Pm.Env → S → Res Fl := fun env s => if flatS s = true then (noexn (me (flatE env) s)).bind (dropK env) else .stuck
theorem sv_drop {j : Nat} {o : Expr} {apos pos pos' : Pos} {me : Pm.Env → S → Res D} (he : Ev X g E o me) (hbase : attributeBase o "append" X.env (eval o X.env) = eval o X.env := by rfl) (hline : (apos.endLine == pos.line) = true := by rfl)
    (hs : swapsWith (.Call (.Attribute o "append" apos) [.Constant .none j pos'] [] pos) none pos.line X.env = pure false := by rfl) : Sv X g E (.Expr (.Call (.Attribute o "append" apos) [.Constant .none j pos'] [] pos) pos) (sDrop me) := by
  obtain ⟨t, p, he⟩ := he
  refine ⟨_, ps_expr (pe_bm PySem.F.plainAttrs_list PySem.F.slot_list_append PySem.F.type_list_append mt_append p (pa_cons pe_non pa_nil) hbase (by rfl) hline rfl rfl) hs, fun env s ca F P H σ Dn ms sl q => ?_⟩
  unfold sDrop at q
  split at q
  · rename_i hfl
    refine he (flatE env) s ca nilH (uni P F) H σ _ (ms.hide hfl) sl.flat ?_
    cases hq : me (flatE env) s with
    | stuck => rw [hq] at q; exact q.elim
    | exn c' pl s' => rw [hq] at q; exact q.elim
    | ok d s1 =>
      rw [hq] at q
      have q : Post g ca F P E (fun fl _ ca' F' H' => FlOk g ca' F' H' Dn fl) (dropK env d s1) := q
      unfold dropK at q
      cases d with
      | lst ds =>
        dsimp only at q
        split at q
        · rename_i hc
          simp only [Bool.and_eq_true, decide_eq_true_eq] at hc
          intro ca1 F1 H1 k1 k2 m1 v rv
          obtain ⟨j1, j2, mj⟩ := ms.join m1
          simp only [Rep] at rv
          obtain ⟨a, xs, rfl, hF, rs⟩ := rv
          have hH := m1.sub _ _ hF
          refine ⟨.inl ⟨rfl, xs, SqL.of hH⟩, ?_⟩
          refine (show L2.rAppend (.ref a) [.non] H1 (fun x H2 => Dn.nx σ H2) from ?_)
          refine ⟨a, xs, .non, rfl, rfl, hH, line_lt (by rw [← rs.length]; unfold line; omega), ?_⟩
          have al : Alone ca1 F1 F P s1 := ⟨fun b o e => by
              have hn : P b = none := by
                cases z : P b with
                | none => rfl
                | some o2 => rw [ms.dis b o2 z] at e; cases e
              exact m1.dis b o (uni_r e hn), fun b o e => m1.dis b o (uni_l e), fun l b e hl => (m1.out l b e hl).1⟩
          have mb := (ms.back mj j1 hc.2).chg al (H' := upd H1 a (.lst (xs ++ [.non]))) (fun b hb => by
            rw [upd_ne]
            rintro rfl
            rw [hF] at hb; cases hb)
          exact q ca1 F _ k1 (Sub.refl _) mb σ (sl.mono k1 (Sub.refl _))
        · exact q.elim
      | _ => exact q.elim
  · exact q.elim
end
end Pm
set_option Elab.async false
set_option linter.all false
set_option maxRecDepth 100000
set_option maxHeartbeats 400000
namespace Wd
open Pm PySem
def b_is_integer (k : Nat) : Pm.Env → S → Res Fl := (sRet (mAnd (mCall (bIs k) (aCons (mVar 0) (aCons (mC (.ty .int)) aNil))) (mNotV (mCall (bIs k) (aCons (mVar 0) (aCons (mC (.ty .bool)) aNil))))))
def m_is_integer (k : Nat) : List D → S → Res D := runBody 1 1 (b_is_integer k)
def b_is_count (k : Nat) : Pm.Env → S → Res Fl := (sRet (mAnd (mCallD (n := 1) [] (m_is_integer k) (aCons (mVar 0) aNil)) (m2 geI (mVar 0) (mC (.int 0)))))
def m_is_count (k : Nat) : List D → S → Res D := runBody 1 1 (b_is_count k)
def b_is_list (k : Nat) : Pm.Env → S → Res Fl := (sRet (mCall (bIs k) (aCons (mVar 0) (aCons (mTup (aCons (mC (.ty .list)) (aCons (mC (.ty .tuple)) aNil))) aNil))))
def m_is_list (k : Nat) : List D → S → Res D := runBody 1 1 (b_is_list k)
def b_check_many (k : Nat) : Pm.Env → S → Res Fl := (sIf (mOrT (mNotT (mBt (mCallD (n := 1) [] (m_is_count k) (aCons (mVar 0) aNil)))) (mNotT (mB (mChain leI leI (mVar 1) (mVar 0) (mVar 2))))) sStuck sNext)
def m_check_many (k : Nat) : List D → S → Res D := runBody 3 3 (b_check_many k)
def b_check_corners_and_excess (k : Nat) : Pm.Env → S → Res Fl := (sSeq (sExpr (mCallD (n := 3) [] (m_check_many k) (aCons (mVar 0) (aCons (mC (.int 2)) (aCons (mC (.int 9)) aNil)))))
  (sExpr (mCallD (n := 3) [] (m_check_many k) (aCons (mVar 1) (aCons (mC (.int 0)) (aCons (mC (.int 2)) aNil))))))
def m_check_corners_and_excess (k : Nat) : List D → S → Res D := runBody 2 2 (b_check_corners_and_excess k)
def b_merging_at (k : Nat) : Pm.Env → S → Res Fl := (sSeq (sSet 1 (m2 divI (mCall bLen (aCons (mVar 0) aNil)) (mC (.int 2))))
  (sSeq (sFor (iR1 (aCons (mCall bLen (aCons (mVar 0) aNil)) aNil)) (tName 2) (sIf (mAndT (mBt (m2 ixD (mVar 0) (m2 subI (mVar 2) (mC (.int 1))))) (mAndT (mBt (m2 ixD (mVar 0) (mVar 2))) (mAndT (mNotT (mBt (m2 ixD (mVar 0) (m2 subI (m2 subI (mVar 2) (mC (.int 1))) (mVar 1))))) (mNotT (mBt (m2 ixD (mVar 0) (m2 subI (mVar 2) (mVar 1)))))))) (sRet (mVar 2)) sNext))
  (sRet (mC .non))))
def m_merging_at (k : Nat) : List D → S → Res D := runBody 1 3 (b_merging_at k)
def b_arrangements (k : Nat) : Pm.Env → S → Res Fl := (sSeq (sIf (mB (m2 (eqP false) (mCall bLen (aCons (mVar 0) aNil)) (mC (.int 0)))) (sRet (mLst (aCons (mVar 0) aNil))) sNext)
  (sSeq (sSet 1 (mCompF finL [2] (iR1 (aCons (mCall bLen (aCons (mVar 0) aNil)) aNil)) (tName 2) mYes (m2 addAll (mSlice (mVar 0) (oS (mVar 2)) oN) (mSlice (mVar 0) oN (oS (mVar 2))))))
  (sSeq (sIf (mB (m2 (eqP false) (mCall bLen (aCons (mVar 0) aNil)) (mC (.int 2)))) (sRet (mVar 1)) sNext)
  (sRet (m2 addAll (mVar 1) (mCompF finL [3] (iLT (mVar 1)) (tName 3) mYes (mRevL (mVar 3))))))))
def m_arrangements (k : Nat) : List D → S → Res D := runBody 1 4 (b_arrangements k)
def b_is_round (k : Nat) : Pm.Env → S → Res Fl := (sSeq (sSet 1 (m2 divI (mCall bLen (aCons (mVar 0) aNil)) (mC (.int 2))))
  (sSeq (sIf (mOrT (mB (m2 (eqP true) (mCall bLen (aCons (mVar 0) aNil)) (m2 mulD (mC (.int 2)) (mVar 1)))) (mB (m2 ltI (mVar 1) (mC (.int 2))))) (sRet (mC (.bl false))) sNext)
  (sSeq (sIf (mOrT (mNotT (mBt (mCall (bBools fun bs => bs.all id) (aCons (mCompF finL [3] (iR1 (aCons (mVar 1) aNil)) (tName 3) mYes (m2 gtI (m2 addAll (m2 ixD (mVar 0) (mVar 3)) (m2 ixD (mVar 0) (m2 addAll (mVar 3) (mVar 1)))) (mC (.int 0)))) aNil)))) (mB (m2 (isD true) (mCallD (n := 1) [] (m_merging_at k) (aCons (mVar 0) aNil)) (mC .non)))) (sRet (mC (.bl false))) sNext)
  (sSeq (sSet 2 (m2 addAll (mVar 0) (mVar 0)))
  (sSeq (sIf (mNotT (mBt (mCall (bBools fun bs => bs.all id) (aCons (mCompF finL [3] (iR1 (aCons (mCall bLen (aCons (mVar 0) aNil)) aNil)) (tName 3) mYes (m2 geI (mCall bSum (aCons (mSlice (mVar 2) (oS (mVar 3)) (oS (m2 subI (m2 addAll (mVar 3) (mVar 1)) (mC (.int 1))))) aNil)) (mC (.int 2)))) aNil)))) (sRet (mC (.bl false))) sNext)
  (sRet (m2 (eqP false) (mVar 0) (mCall bMin1 (aCons (mCallD (n := 1) [] (m_arrangements k) (aCons (mVar 0) aNil)) aNil)))))))))
def m_is_round (k : Nat) : List D → S → Res D := runBody 1 4 (b_is_round k)
def b_is_word (k : Nat) : Pm.Env → S → Res Fl := (sSeq (sIf (mOrT (mNotT (mBt (mCall (bIs k) (aCons (mVar 0) (aCons (mC (.ty .tuple)) aNil))))) (mOrT (mB (m2 (eqP true) (mCall bLen (aCons (mVar 0) aNil)) (mC (.int 2)))) (mNotT (mBt (mCallD (n := 1) [] (m_is_list k) (aCons (m2 ixD (mVar 0) (mC (.int 1))) aNil)))))) (sRet (mC (.bl false))) sNext)
  (sSeq (sIf (mOrT (mNotT (mBt (mCall (bBools fun bs => bs.all id) (aCons (mCompF finL [2] (iLT (mLst (aCons (m2 ixD (mVar 0) (mC (.int 0))) (aStar (m2 ixD (mVar 0) (mC (.int 1))) aNil)))) (tName 2) mYes (mCallD (n := 1) [] (m_is_count k) (aCons (mVar 2) aNil))) aNil)))) (mB (m2 gtI (m2 addAll (m2 ixD (mVar 0) (mC (.int 0))) (mCall bSum (aCons (m2 ixD (mVar 0) (mC (.int 1))) aNil))) (mC (.int 9))))) (sRet (mC (.bl false))) sNext)
  (sSeq (sSet 1 (mCall bList (aCons (m2 ixD (mVar 0) (mC (.int 1))) aNil)))
  (sSeq (sIf (mB (m2 (eqP false) (mCall bLen (aCons (mVar 1) aNil)) (mC (.int 0)))) (sRet (m2 geI (m2 ixD (mVar 0) (mC (.int 0))) (mC (.int 2)))) sNext)
  (sSeq (sIf (mB (m2 (eqP false) (mCall bLen (aCons (mVar 1) aNil)) (mC (.int 2)))) (sRet (mChain leI leI (mC (.int 2)) (m2 ixD (mVar 1) (mC (.int 0))) (m2 ixD (mVar 1) (mC (.int 1))))) sNext)
  (sRet (mCallD (n := 1) [] (m_is_round k) (aCons (mVar 1) aNil))))))))
def m_is_word (k : Nat) : List D → S → Res D := runBody 1 3 (b_is_word k)
def b_check_word (k : Nat) : Pm.Env → S → Res Fl := (sIf (mNotT (mBt (mCallD (n := 1) [] (m_is_word k) (aCons (mVar 0) aNil)))) sStuck sNext)
def m_check_word (k : Nat) : List D → S → Res D := runBody 1 1 (b_check_word k)
def b_parts_of (k : Nat) (rec : List D → S → Res D) : Pm.Env → S → Res Fl := (sSeq (sIf (mB (m2 (eqP false) (mVar 1) (mC (.int 1)))) (sRet (mLst (aCons (mLst (aCons (mVar 0) aNil)) aNil))) sNext)
  (sRet (mComp2 [2, 3] [3] (iR2 (aCons (mC (.int 1)) (aCons (m2 addAll (m2 subI (mVar 0) (mVar 1)) (mC (.int 2))) aNil))) (tName 2) mYes (iLT (mCallD (n := 2) [] rec (aCons (m2 subI (mVar 0) (mVar 2)) (aCons (m2 subI (mVar 1) (mC (.int 1))) aNil)))) (tName 3) mYes (mLst (aCons (mVar 2) (aStar (mVar 3) aNil))))))
def n_parts_of (k : Nat) : Nat → List D → S → Res D
  | 0 => fun _ _ => .stuck
  | n + 1 => runBody 2 4 (b_parts_of k (n_parts_of k n))
def m_parts_of (k : Nat) : List D → S → Res D := (n_parts_of k) 10
def b_rounds_with (k : Nat) : Pm.Env → S → Res Fl := (sSeq (sSet 1 (mLst (aCons (mLst aNil) aNil)))
  (sSeq (sFor (iLT (mVar 0)) (tName 2) (sSet 1 (mComp2 [3, 4] [4] (iLT (mVar 1)) (tName 3) mYes (iR1 (aCons (m2 addAll (mVar 2) (mC (.int 1))) aNil)) (tName 4) mYes (mLst (aStar (mVar 3) (aCons (mVar 4) aNil))))))
  (sRet (mCompF finL [3] (iLT (mVar 1)) (tName 3) mYes (m2 addAll (mVar 3) (mCompF finL [2, 4] (iZipM (aCons (mVar 0) (aCons (mVar 3) aNil))) (tTup 2 (tCons (tName 2) (tCons (tName 4) tNil))) mYes (m2 subI (mVar 2) (mVar 4))))))))
def m_rounds_with (k : Nat) : List D → S → Res D := runBody 1 5 (b_rounds_with k)
def b_rounds_of (k : Nat) : Pm.Env → S → Res Fl := (sSeq (sSet 1 (mComp2 [2, 3] [3] (iR2 (aCons (mC (.int 2)) (aCons (m2 addAll (mVar 0) (mC (.int 1))) aNil))) (tName 2) mYes (iLT (mCallD (n := 2) [] (m_parts_of k) (aCons (mVar 0) (aCons (mVar 2) aNil)))) (tName 3) mYes (mVar 3)))
  (sRet (mComp2 [3, 4] [4] (iLT (mVar 1)) (tName 3) mYes (iLT (mCallD (n := 1) [] (m_rounds_with k) (aCons (mVar 3) aNil))) (tName 4) mYes (mVar 4))))
def m_rounds_of (k : Nat) : List D → S → Res D := runBody 1 5 (b_rounds_of k)
def b_candidates (k : Nat) : Pm.Env → S → Res Fl := (sSeq (sIf (mB (m2 (eqP false) (mVar 1) (mC (.int 0)))) (sRet (mLst (aCons (mTup (aCons (mVar 0) (aCons (mLst aNil) aNil))) aNil))) sNext)
  (sSeq (sIf (mB (m2 (eqP false) (mVar 1) (mC (.int 1)))) (sRet (mComp2 [2, 3] [3] (iR1 (aCons (mVar 0) aNil)) (tName 2) mYes (iR1 (aCons (m2 addAll (m2 subI (mVar 0) (mVar 2)) (mC (.int 1))) aNil)) (tName 3) mYes (mTup (aCons (m2 subI (m2 subI (mVar 0) (mVar 3)) (mVar 2)) (aCons (mLst (aCons (mVar 3) (aCons (mVar 2) aNil))) aNil))))) sNext)
  (sRet (mComp2 [4, 5] [5] (iR1 (aCons (mVar 0) aNil)) (tName 4) mYes (iLT (mCallD (n := 1) [] (m_rounds_of k) (aCons (m2 subI (mVar 0) (mVar 4)) aNil))) (tName 5) mYes (mTup (aCons (mVar 4) (aCons (mVar 5) aNil)))))))
def m_candidates (k : Nat) : List D → S → Res D := runBody 2 6 (b_candidates k)
def b_words_of (k : Nat) : Pm.Env → S → Res Fl := (sSeq (sExpr (mCallD (n := 2) [] (m_check_corners_and_excess k) (aCons (mVar 0) (aCons (mVar 1) aNil))))
  (sSeq (sIf (mAndT (mB (m2 (eqP false) (mVar 1) (mC (.int 2)))) (mB (m2 gtI (mVar 0) (mC (.int 7))))) sStuck sNext)
  (sRet (mCall bSort1 (aCons (mCompF finL [2] (iLT (mCallD (n := 2) [] (m_candidates k) (aCons (mVar 0) (aCons (mVar 1) aNil)))) (tName 2) (mBt (mCallD (n := 1) [] (m_is_word k) (aCons (mVar 2) aNil))) (mVar 2)) aNil)))))
def m_words_of (k : Nat) : List D → S → Res D := runBody 2 3 (b_words_of k)
def b_has_whole_diameter (k : Nat) : Pm.Env → S → Res Fl := (sSeq (sSet 1 (m2 divI (mCall bLen (aCons (mVar 0) aNil)) (mC (.int 2))))
  (sRet (mCall (bBools fun bs => bs.any id) (aCons (mCompF finL [2] (iR1 (aCons (mVar 1) aNil)) (tName 2) mYes (mAnd (m2 gtI (m2 ixD (mVar 0) (mVar 2)) (mC (.int 0))) (m2 gtI (m2 ixD (mVar 0) (m2 addAll (mVar 2) (mVar 1))) (mC (.int 0))))) aNil))))
def m_has_whole_diameter (k : Nat) : List D → S → Res D := runBody 1 3 (b_has_whole_diameter k)
def b_is_simplicial (k : Nat) : Pm.Env → S → Res Fl := (sSeq (sExpr (mCallD (n := 1) [] (m_check_word k) (aCons (mVar 0) aNil)))
  (sSeq (sAsg (mVar 0) (taTup 2 (taCons (aN (tName 1)) (taCons (aN (tName 2)) taNil))))
  (sSeq (sIf (mB (m2 (eqP false) (mCall bLen (aCons (mVar 2) aNil)) (mC (.int 0)))) (sRet (mC (.bl true))) sNext)
  (sSeq (sIf (mB (m2 (eqP false) (mCall bLen (aCons (mVar 2) aNil)) (mC (.int 2)))) (sRet (m2 (eqP false) (mVar 1) (mC (.int 0)))) sNext)
  (sRet (mAnd (m2 (eqP false) (mVar 1) (mC (.int 0))) (mNotV (mCallD (n := 1) [] (m_has_whole_diameter k) (aCons (mVar 2) aNil)))))))))
def m_is_simplicial (k : Nat) : List D → S → Res D := runBody 1 3 (b_is_simplicial k)
def b_simplicial_rounds (k : Nat) : Pm.Env → S → Res Fl := (sSeq (sSet 1 (mCell aNil))
  (sSeq (sFrz 1 (sFor (iR3 (aCons (mC (.int 3)) (aCons (m2 addAll (mVar 0) (mC (.int 1))) (aCons (mC (.int 2)) aNil)))) (tName 2) (sFor (iLT (mCallD (n := 2) [] (m_parts_of k) (aCons (mVar 0) (aCons (mVar 2) aNil)))) (tName 3) (sSeq (sSet 4 (mComp2 [5, 6] [6] (iLT (mVar 3)) (tName 5) mYes (iLT (mTup (aCons (mC (.int 0)) (aCons (mVar 5) aNil)))) (tName 6) mYes (mVar 6)))
  (sExpr (mtCell appF (mVar 1) (aCons (mTup (aCons (mC (.int 0)) (aCons (mVar 4) aNil))) aNil)))))))
  (sRet (mCompF finL [7] (iLT (mVar 1)) (tName 7) (mBt (mCallD (n := 1) [] (m_is_word k) (aCons (mVar 7) aNil))) (mVar 7)))))
def m_simplicial_rounds (k : Nat) : List D → S → Res D := fun ds s => cutRes s.length (runBody 1 8 (b_simplicial_rounds k) ds s)
def b_simplicial_words (k : Nat) : Pm.Env → S → Res Fl := (sSeq (sExpr (mCallD (n := 2) [] (m_check_corners_and_excess k) (aCons (mVar 0) (aCons (mVar 1) aNil))))
  (sSeq (sIf (mB (m2 (eqP false) (mVar 1) (mC (.int 2)))) (sRet (mCall bSort1 (aCons (mCallD (n := 1) [] (m_simplicial_rounds k) (aCons (mVar 0) aNil)) aNil))) sNext)
  (sRet (mCompF finL [2] (iLT (mCallD (n := 2) [] (m_words_of k) (aCons (mVar 0) (aCons (mVar 1) aNil)))) (tName 2) (mBt (mCallD (n := 1) [] (m_is_simplicial k) (aCons (mVar 2) aNil))) (mVar 2)))))
def m_simplicial_words (k : Nat) : List D → S → Res D := runBody 2 3 (b_simplicial_words k)
def b_free_of (k : Nat) : Pm.Env → S → Res Fl := (sRet (mCall bLen (aCons (mCompF finL [1] (iR2 (aCons (mC (.int 1)) (aCons (m2 addAll (mVar 0) (mC (.int 1))) aNil))) (tName 1) (mB (m2 (eqP false) (mCall (bInt2 (fun _ _ => true) fun i j => .int (gcdI i j)) (aCons (mVar 1) (aCons (mVar 0) aNil))) (mC (.int 1)))) (mVar 1)) aNil)))
def m_free_of (k : Nat) : List D → S → Res D := runBody 1 2 (b_free_of k)
def b_simplicial_count (k : Nat) : Pm.Env → S → Res Fl := (sSeq (sExpr (mCallD (n := 3) [] (m_check_many k) (aCons (mVar 0) (aCons (mC (.int 5)) (aCons (mC (.int 60)) aNil)))))
  (sSeq (sSet 1 (m2 subI (mVar 0) (mC (.int 3))))
  (sSeq (sSet 2 (mCompF finL [4] (iR3 (aCons (mC (.int 1)) (aCons (m2 addAll (mVar 0) (mC (.int 1))) (aCons (mC (.int 2)) aNil)))) (tName 4) (mB (m2 (eqP false) (m2 modI (mVar 0) (mVar 4)) (mC (.int 0)))) (mVar 4)))
  (sSeq (sSet 3 (mCall bSum (aCons (mCompF finL [4] (iLT (mVar 2)) (tName 4) mYes (m2 mulD (mCallD (n := 1) [] (m_free_of k) (aCons (mVar 4) aNil)) (m2 shlI (mC (.int 1)) (m2 divI (mVar 0) (mVar 4))))) aNil)))
  (sRet (m2 addAll (m2 subI (m2 shlI (mC (.int 1)) (m2 divI (mVar 1) (mC (.int 2)))) (m2 divI (m2 addAll (mVar 1) (mC (.int 4))) (mC (.int 2)))) (m2 divI (mVar 3) (m2 mulD (mC (.int 4)) (mVar 0)))))))))
def m_simplicial_count (k : Nat) : List D → S → Res D := runBody 1 5 (b_simplicial_count k)
def b_keeping (k : Nat) : Pm.Env → S → Res Fl := (sSeq (sExpr (mCallD (n := 1) [] (m_check_word k) (aCons (mVar 0) aNil)))
  (sSeq (sSet 1 (mCall bList (aCons (m2 ixD (mVar 0) (mC (.int 1))) aNil)))
  (sRet (mCount (mCallD (n := 1) [] (m_arrangements k) (aCons (mVar 1) aNil)) (aCons (mVar 1) aNil)))))
def m_keeping (k : Nat) : List D → S → Res D := runBody 1 2 (b_keeping k)
def b_word_count (k : Nat) : Pm.Env → S → Res Fl := (sRet (mCall bLen (aCons (mCallD (n := 2) [] (m_words_of k) (aCons (mVar 0) (aCons (mVar 1) aNil))) aNil)))
def m_word_count (k : Nat) : List D → S → Res D := runBody 2 2 (b_word_count k)
end Wd
set_option Elab.async false
set_option linter.all false
set_option maxRecDepth 100000
set_option maxHeartbeats 400000
set_option exponentiation.threshold 5000
namespace Wd
open Pm PySem
variable {k : Nat}
def cnt : D → Bool
  | .int n => decide (0 ≤ n)
  | _ => false
def plain : D → Bool
  | .ins _ _ => false
  | d => okN d
theorem count_ok {d : D} (h : plain d = true) (s : S) : (m_is_count k) [d] s = .ok (.bl (cnt d)) s := by
  cases d with
  | ins k fs => cases h
  | bl b => cases b <;> rfl
  | int n => rfl
  | non => rfl
  | str x => rfl
  | lst x => rfl
  | tup x => rfl
  | mty => rfl
  | _ => cases h
theorem compPure {own : List Nat} {mt : D → Pm.Env → Option Pm.Env} {me : Pm.Env → S → Res D} {env : Pm.Env} {s : S} {f : D → D} : ∀ (ds : List D), (∀ d ∈ ds, ∃ e1, mt d (wipeE env own) = some e1 ∧ me e1 s = .ok (f d) s) → compL own mt mYes me ds env s = .ok (ds.map f) s
  | [], _ => rfl
  | d :: ds, H => by
    obtain ⟨e1, h1, h2⟩ := H d (by simp)
    have h3 := compPure ds fun d' hd => H d' (by simp [hd])
    simp [compL, h1, mYes, noexn, h2, h3]
theorem bools_cnt : ∀ (ds : List D), boolsOf (ds.map fun d => .bl (cnt d)) = some (ds.map cnt)
  | [] => rfl
  | d :: ds => by simp [boolsOf, bools_cnt ds]

def hd1 (k : Nat) : Pm.Env → S → Res Fl := (sIf (mOrT (mNotT (mBt (mCall (bIs k) (aCons (mVar 0) (aCons (mC (.ty .tuple)) aNil))))) (mOrT (mB (m2 (eqP true) (mCall bLen (aCons (mVar 0) aNil)) (mC (.int 2)))) (mNotT (mBt (mCallD (n := 1) [] (m_is_list k) (aCons (m2 ixD (mVar 0) (mC (.int 1))) aNil)))))) (sRet (mC (.bl false))) sNext)
def te1 (k : Nat) : Pm.Env → S → Res D := (mCompF finL [2] (iLT (mLst (aCons (m2 ixD (mVar 0) (mC (.int 0))) (aStar (m2 ixD (mVar 0) (mC (.int 1))) aNil)))) (tName 2) mYes (mCallD (n := 1) [] (m_is_count k) (aCons (mVar 2) aNil)))
section
variable {P R : D} {ds : List D} {s : S}
theorem hd1_ok (hR : R = .lst ds ∨ R = .tup ds) : (hd1 k) [some (.tup [P, R]), none, none] s = .ok (.nx [some (.tup [P, R]), none, none]) s := by
  rcases hR with rfl | rfl <;> rfl
theorem te1_ok (hR : R = .lst ds ∨ R = .tup ds) (hl : ds.length ≤ 100) (hp : plain P = true) (hd : ∀ d ∈ ds, plain d = true) : (te1 k) [some (.tup [P, R]), none, none] s = .ok (.lst ((P :: ds).map fun d => .bl (cnt d))) s := by
  have e := compPure (own := [2]) (mt := tName 2) (me := mCallD (n := 1) [] (m_is_count k) (aCons (mVar 2) aNil)) (env := [some (.tup [P, R]), none, none]) (s := s) (f := fun d => .bl (cnt d)) (P :: ds) fun d hm => by
    refine ⟨[some (.tup [P, R]), none, some d], rfl, ?_⟩
    have hpl : plain d = true := (List.mem_cons.mp hm).elim (fun z => z ▸ hp) (hd d)
    simp [mCallD, aCons, aNil, mVar, count_ok hpl]
  have e00 : (iLst (mLst (aCons (m2 ixD (mVar 0) (mC (.int 0))) (aStar (m2 ixD (mVar 0) (mC (.int 1))) aNil)))) [some (.tup [P, R]), none, none] s = .ok (P :: ds) s := by
    have hl2 : ds.length + 1 ≤ 16000000 := by omega
    have i0 : ∀ s, ixD (.tup [P, R]) (.int 0) s = .ok P s := fun s => rfl
    have i1 : ∀ s, ixD (.tup [P, R]) (.int 1) s = .ok R s := fun s => rfl
    have q : ∀ s, seqOf s R = some ds := fun s => by rcases hR with rfl | rfl <;> rfl
    simp [iLst, iSeq, mLst, aCons, aStar, aNil, m2, mVar, mC, i0, i1, newL, line, hl2, q]
  have e0 : (iLT (mLst (aCons (m2 ixD (mVar 0) (mC (.int 0))) (aStar (m2 ixD (mVar 0) (mC (.int 1))) aNil)))) [some (.tup [P, R]), none, none] s = .ok (P :: ds) s := by
    unfold iLT
    rw [e00]
    rfl
  unfold te1 mCompF
  rw [e0]
  simp only [Res.bind_ok, List.length_cons]
  rw [if_pos (by unfold line; omega), e]
  rfl
def rst1 (k : Nat) : Pm.Env → S → Res Fl := (sSeq (sSet 1 (mCall bList (aCons (m2 ixD (mVar 0) (mC (.int 1))) aNil)))
  (sSeq (sIf (mB (m2 (eqP false) (mCall bLen (aCons (mVar 1) aNil)) (mC (.int 0)))) (sRet (m2 geI (m2 ixD (mVar 0) (mC (.int 0))) (mC (.int 2)))) sNext)
  (sSeq (sIf (mB (m2 (eqP false) (mCall bLen (aCons (mVar 1) aNil)) (mC (.int 2)))) (sRet (mChain leI leI (mC (.int 2)) (m2 ixD (mVar 1) (mC (.int 0))) (m2 ixD (mVar 1) (mC (.int 1))))) sNext)
  (sRet (mCallD (n := 1) [] (m_is_round k) (aCons (mVar 1) aNil))))))
def te2 : Pm.Env → S → Res Bool := (mB (m2 gtI (m2 addAll (m2 ixD (mVar 0) (mC (.int 0))) (mCall bSum (aCons (m2 ixD (mVar 0) (mC (.int 1))) aNil))) (mC (.int 9))))
theorem word_eq : (b_is_word k) = sSeq (hd1 k) (sSeq (sIf (mOrT (mNotT (mBt (mCall (bBools fun bs => bs.all id) (aCons (te1 k) aNil)))) te2) (sRet (mC (.bl false))) sNext) (rst1 k)) := rfl
theorem all_ok (hR : R = .lst ds ∨ R = .tup ds) (hl : ds.length ≤ 100) (hp : plain P = true) (hd : ∀ d ∈ ds, plain d = true) : mNotT (mBt (mCall (bBools fun bs => bs.all id) (aCons (te1 k) aNil))) [some (.tup [P, R]), none, none] s = .ok (!(cnt P && ds.all cnt)) s := by
  have e := te1_ok (k := k) (s := s) hR hl hp hd
  have hb : boolsOf ((P :: ds).map fun d => .bl (cnt d)) = some ((P :: ds).map cnt) := bools_cnt _
  simp only [mNotT, mBt, mCall, aCons, aNil, e, Res.bind_ok, bBools, isTupD, seqOf, hb]
  simp [truD]
theorem word_no (hR : R = .lst ds ∨ R = .tup ds) (hl : ds.length ≤ 100) (hp : plain P = true) (hd : ∀ d ∈ ds, plain d = true) (hc : (cnt P && ds.all cnt) = false) : (m_is_word k) [.tup [P, R]] s = .ok (.bl false) s := by
  have e := all_ok (k := k) (s := s) hR hl hp hd
  rw [hc] at e
  unfold m_is_word
  rw [word_eq]
  refine runP1 ((seqP (hd1_ok hR)).trans (seqRt ?_))
  simp [sIf, mOrT, e, sRet, mC]
end

section
variable {p : Int} {R : D} {ns : List Int} {s : S}
theorem plain_row {ns : List Int} : ∀ d ∈ ns.map D.int, plain d = true := fun d h => by
  obtain ⟨n, _, rfl⟩ := List.mem_map.mp h
  rfl
theorem cnt_row (h : ∀ n ∈ ns, 0 ≤ n) : (ns.map D.int).all cnt = true := by
  rw [List.all_eq_true]
  intro d hd
  obtain ⟨n, hn, rfl⟩ := List.mem_map.mp hd
  simp [cnt, h n hn]
theorem sum_ok (hR : R = .lst (ns.map .int) ∨ R = .tup (ns.map .int)) : bSum [R] s = .ok (.int ns.sum) s := by
  rcases hR with rfl | rfl <;> simp [bSum, bSum1, bSum2, lisOf, tupOf, intsOf_map, Res.or]
theorem te2_ok (hR : R = .lst (ns.map .int) ∨ R = .tup (ns.map .int)) : te2 [some (.tup [.int p, R]), none, none] s = .ok (decide (9 < p + ns.sum)) s := by
  have i0 : ∀ s, ixD (.tup [.int p, R]) (.int 0) s = .ok (.int p) s := fun s => rfl
  have i1 : ∀ s, ixD (.tup [.int p, R]) (.int 1) s = .ok R s := fun s => rfl
  simp [te2, mB, m2, mVar, mC, mCall, aCons, aNil, i0, i1, sum_ok hR, addP, gtI, intOp]
/-- what both say of a word of counts of no more than 9 corners -/
def yesW (p : Int) (ns : List Int) (r : Res D) (s : S) : Res D := match ns with
  | [] => .ok (.bl (decide (2 ≤ p))) s
  | [a, b] => .ok (.bl (decide (2 ≤ a) && decide (a ≤ b))) s
  | _ => r
theorem chain_ok (a b : Int) (env : Pm.Env) (h : env[1]? = some (some (rowD [a, b]))) : mChain leI leI (mC (.int 2)) (m2 ixD (mVar 1) (mC (.int 0))) (m2 ixD (mVar 1) (mC (.int 1))) env s = .ok (.bl (decide (2 ≤ a) && decide (a ≤ b))) s := by
  have i0 : ∀ s, ixD (rowD [a, b]) (.int 0) s = .ok (.int a) s := fun s => rfl
  have i1 : ∀ s, ixD (rowD [a, b]) (.int 1) s = .ok (.int b) s := fun s => rfl
  by_cases h2 : 2 ≤ a <;> simp [mChain, mC, m2, mVar, h, i0, i1, leI, intOp, h2]
theorem rst1_ok (hR : R = .lst (ns.map .int) ∨ R = .tup (ns.map .int)) (hl : ns.length ≤ 100) (hq : ∀ s, eqP false (rowD ns) (.lst []) s = .ok (.bl (decide (ns = []))) s) :
    (rst1 k) [some (.tup [.int p, R]), none, none] s = (yesW p ns ((m_is_round k) [rowD ns] s) s).bind fun d s1 => .ok (.rt d) s1 := by
  have i0 : ∀ s, ixD (.tup [.int p, R]) (.int 0) s = .ok (.int p) s := fun s => rfl
  have i1 : ∀ s, ixD (.tup [.int p, R]) (.int 1) s = .ok R s := fun s => rfl
  have hl2 : ns.length ≤ 16000000 := by omega
  have q : ∀ s, seqOf s R = some (ns.map .int) := fun s => by rcases hR with rfl | rfl <;> rfl
  have t : sSet 1 (mCall bList (aCons (m2 ixD (mVar 0) (mC (.int 1))) aNil)) [some (.tup [.int p, R]), none, none] s = .ok (.nx [some (.tup [.int p, R]), some (rowD ns), none]) s := setP (by simp [mCall, aCons, aNil, m2, mVar, mC, i1, bList, q, newL, line, hl2, rowD])
  have hlen : ∀ s, mCall bLen (aCons (mVar 1) aNil) [some (.tup [.int p, R]), some (rowD ns), none] s = .ok (.int ns.length) s := fun s => by simp [mCall, aCons, aNil, mVar, bLen, seqOf, rowD]
  unfold rst1
  rw [seqP t]
  match ns, hl, hlen with
  | [], _, hlen =>
    refine (seqRt (r := .bl (decide (2 ≤ p))) ?_).trans rfl
    simp [sIf, mB, m2, mC, hlen, eqPi, sRet, mVar, i0, geI, intOp]
  | [a, b], _, hlen =>
    refine (seqP (e1 := [some (.tup [.int p, R]), some (rowD [a, b]), none]) (s1 := s) ?_).trans ((seqRt (r := .bl (decide (2 ≤ a) && decide (a ≤ b))) ?_).trans rfl)
    · simp [sIf, mB, m2, mC, hlen, eqPi, sNext]
    · have := chain_ok (s := s) a b [some (.tup [.int p, R]), some (rowD [a, b]), none] rfl
      simp [sIf, mB, m2, mC, hlen, eqPi, sRet, this]
  | [a], _, hlen =>
    refine (seqP (e1 := [some (.tup [.int p, R]), some (rowD [a]), none]) (s1 := s) ?_).trans ((seqP (e1 := [some (.tup [.int p, R]), some (rowD [a]), none]) (s1 := s) ?_).trans ?_)
    · simp [sIf, mB, m2, mC, hlen, eqPi, sNext]
    · simp [sIf, mB, m2, mC, hlen, eqPi, sNext]
    · simp [sRet, mCallD, aCons, aNil, mVar, yesW]
  | a :: b :: c :: r, _, hlen =>
    have h0 : ¬ ((r.length : Int) + 1 + 1 + 1 = 0) := by omega
    have h2 : ¬ ((r.length : Int) + 1 + 1 + 1 = 2) := by omega
    refine (seqP (e1 := [some (.tup [.int p, R]), some (rowD (a :: b :: c :: r)), none]) (s1 := s) ?_).trans ((seqP (e1 := [some (.tup [.int p, R]), some (rowD (a :: b :: c :: r)), none]) (s1 := s) ?_).trans ?_)
    · simp [sIf, mB, m2, mC, hlen, eqPi, sNext, h0]
    · simp [sIf, mB, m2, mC, hlen, eqPi, sNext, h2]
    · simp [sRet, mCallD, aCons, aNil, mVar, yesW]
theorem word_yes (hR : R = .lst (ns.map .int) ∨ R = .tup (ns.map .int)) (hl : ns.length ≤ 100) (hq : ∀ s, eqP false (rowD ns) (.lst []) s = .ok (.bl (decide (ns = []))) s) (hp : 0 ≤ p) (hn : ∀ n ∈ ns, 0 ≤ n) {b : Bool}
    (hr : (if 9 < p + ns.sum then .ok (.bl false) s else yesW p ns ((m_is_round k) [rowD ns] s) s) = Res.ok (.bl b) s) : (m_is_word k) [.tup [.int p, R]] s = .ok (.bl b) s := by
  have e := all_ok (k := k) (P := .int p) (s := s) hR (by simpa using hl) rfl plain_row
  rw [cnt_row hn, show cnt (.int p) = true from decide_eq_true hp] at e
  have e2 := te2_ok (p := p) (s := s) hR
  unfold m_is_word
  rw [word_eq]
  by_cases h9 : 9 < p + ns.sum
  · rw [if_pos h9] at hr
    cases hr
    rw [decide_eq_true h9] at e2
    refine runP1 ((seqP (hd1_ok hR)).trans (seqRt ?_))
    simp [sIf, mOrT, e, e2, sRet, mC]
  · rw [if_neg h9] at hr
    rw [decide_eq_false h9] at e2
    have t : sIf (mOrT (mNotT (mBt (mCall (bBools fun bs => bs.all id) (aCons (te1 k) aNil)))) te2) (sRet (mC (.bl false))) sNext [some (.tup [.int p, R]), none, none] s = .ok (.nx [some (.tup [.int p, R]), none, none]) s := by
      simp [sIf, mOrT, e, e2, sNext]
    have r := rst1_ok (k := k) (p := p) (s := s) hR hl hq
    rw [hr] at r
    exact runP1 ((seqP (hd1_ok hR)).trans ((seqP t).trans r))
end

theorem can_ints : ∀ ms : List Int, PyData.canLayAll0 (ms.map PyData.int) = true
  | [] => rfl
  | m :: ms => by simp only [List.map_cons, PyData.canLayAll0, PyData.canLay0, can_ints ms, Bool.and_self]
theorem dep_ints : ∀ ms : List Int, PyData.depthAll (ms.map PyData.int) = 0
  | [] => rfl
  | m :: ms => by simp only [List.map_cons, PyData.depthAll, PyData.depth, dep_ints ms, Nat.max_self]
theorem nil_row (ns : List Int) (h : ns.length ≤ 100) (s : S) : eqP false (rowD ns) (.lst []) s = .ok (.bl (decide (ns = []))) s := by
  have tp : ∀ ms : List Int, toPys (ms.map D.int) = some (ms.map PyData.int) := fun ms => by
    induction ms with
    | nil => rfl
    | cons m ms ih => simp only [List.map_cons, toPys, toPy, ih]
  cases ns with
  | nil => rfl
  | cons n ns =>
    have h1 : SeqAt.shaped (PyData.list (PyData.int n :: ns.map PyData.int)) = true := by
      simp only [SeqAt.shaped, PyData.canLay0, PyData.canLayAll0, can_ints, PyData.depth, PyData.depthAll, dep_ints, Nat.max_self]
      decide
    have h2 : SeqAt.shaped (PyData.list []) = true := by decide +kernel
    have h3 : PyData.eqv (PyData.list (PyData.int n :: ns.map PyData.int)) (PyData.list []) = false := by rfl
    simp [eqP, rowD, toPy, tp, toPys, h1, h2, h3]
theorem round_one (n : Int) (s : S) : (m_is_round k) [rowD [n]] s = .ok (.bl false) s := by rfl

/-! rows turned: as plain lists -/
def turnsOf (ns : List Int) : List (List Int) := (List.range ns.length).map fun i => ns.drop i ++ ns.take i
def arr (ns : List Int) : List (List Int) := if ns.length = 0 then [ns] else if ns.length = 2 then turnsOf ns else turnsOf ns ++ (turnsOf ns).map List.reverse
theorem range_map {n : Nat} (f : Nat → D) (g : D → D) (h : ∀ i : Nat, i < n → g (.int i) = f i) : (rangeD 0 n).map g = (List.range n).map f := by
  unfold rangeD
  rw [List.map_map]
  refine List.map_congr_left fun i hi => ?_
  have := h i (List.mem_range.mp hi)
  simpa using this
theorem sx_in {n i d : Nat} (h : i ≤ n) : sxD n d (some (i : Int)) = i := by
  unfold sxD
  show (if (i : Int) < 0 then _ else _) = i
  rw [if_neg (by omega)]
  simp
  omega
theorem newS {xs : List D} {s : S} (h : xs.length ≤ 16000000) : newL xs s = .ok (.lst xs) s := if_pos h
theorem cut_drop {α : Type} (f : α → D) (ns : List α) (i : Nat) (h : i ≤ ns.length) : cutD (ns.map f) (some (i : Int)) none = (ns.drop i).map f := by
  unfold cutD
  rw [List.length_map, sx_in h]
  have e : sxD ns.length ns.length none = ns.length := rfl
  rw [e, ← List.map_drop, List.take_of_length_le (by simp)]
theorem cut_take {α : Type} (f : α → D) (ns : List α) (i : Nat) (h : i ≤ ns.length) : cutD (ns.map f) none (some (i : Int)) = (ns.take i).map f := by
  unfold cutD
  rw [List.length_map, sx_in h]
  have e : sxD ns.length 0 none = 0 := rfl
  rw [e, List.drop_zero, Nat.sub_zero, ← List.map_take]
def turnC : Pm.Env → S → Res D := (m2 addAll (mSlice (mVar 0) (oS (mVar 2)) oN) (mSlice (mVar 0) oN (oS (mVar 2))))
theorem turnC_ok (ns : List Int) (h : ns.length ≤ 100) (x y : Option D) (i : Nat) (hi : i < ns.length) (s : S) : turnC [some (rowD ns), x, some (.int i), y] s = .ok (rowD (ns.drop i ++ ns.take i)) s := by
  have h1 : ∀ s, mSlice (mVar 0) (oS (mVar 2)) oN [some (rowD ns), x, some (.int i), y] s = .ok (rowD (ns.drop i)) s := fun s => by
    have hl : (ns.drop i).length ≤ 16000000 := by rw [List.length_drop]; omega
    simp only [mSlice, mVar, oS, oN, lisOf, rowD, List.getElem?_cons_zero, List.getElem?_cons_succ, Res.bind_ok]
    rw [cut_drop D.int ns i (by omega)]
    exact newS (by simpa using hl)
  have h2 : ∀ s, mSlice (mVar 0) oN (oS (mVar 2)) [some (rowD ns), x, some (.int i), y] s = .ok (rowD (ns.take i)) s := fun s => by
    have hl : (ns.take i).length ≤ 16000000 := by rw [List.length_take]; omega
    simp only [mSlice, mVar, oS, oN, lisOf, rowD, List.getElem?_cons_zero, List.getElem?_cons_succ, Res.bind_ok]
    rw [cut_take D.int ns i (by omega)]
    exact newS (by simpa using hl)
  have hl : (ns.drop i ++ ns.take i).length ≤ 16000000 := by rw [List.length_append, List.length_drop, List.length_take]; omega
  have h3 : ∀ s, addAll (rowD (ns.drop i)) (rowD (ns.take i)) s = .ok (rowD (ns.drop i ++ ns.take i)) s := fun s => by
    have e : addI (rowD (ns.drop i)) (rowD (ns.take i)) s = .stuck := rfl
    have e2 : catL (rowD (ns.drop i)) (rowD (ns.take i)) s = .ok (rowD (ns.drop i ++ ns.take i)) s := by
      simp only [catL, rowD]
      rw [← List.map_append]
      exact newS (by simpa using hl)
    simp [addAll, addD, e, e2, Res.or]
  simp only [turnC, m2, h1, h2, Res.bind_ok, h3]
theorem turns_ok (ns : List Int) (h : ns.length ≤ 100) (x y : Option D) (s : S) : mCompF finL [2] (iR1 (aCons (mCall bLen (aCons (mVar 0) aNil)) aNil)) (tName 2) mYes turnC [some (rowD ns), x, y, none] s = .ok (.lst ((turnsOf ns).map rowD)) s := by
  have e := compPure (own := [2]) (mt := tName 2) (me := turnC) (env := [some (rowD ns), x, y, none]) (s := s) (f := fun d => match d with
    | .int i => rowD (ns.drop i.toNat ++ ns.take i.toNat)
    | _ => .non) (rangeD 0 ns.length) fun d hd => by
      unfold rangeD at hd
      obtain ⟨i, hi, rfl⟩ := List.mem_map.mp hd
      have hi := List.mem_range.mp hi
      refine ⟨[some (rowD ns), x, some (.int i), none], by simp [tName, wipeE], ?_⟩
      simpa using turnC_ok ns h x none i hi s
  have hj : (-rLim ≤ (ns.length : Int) ∧ (ns.length : Int) ≤ rLim) := by unfold rLim; omega
  have e0 : iR1 (aCons (mCall bLen (aCons (mVar 0) aNil)) aNil) [some (rowD ns), x, y, none] s = .ok (rangeD 0 ns.length) s := by
    simp [iR1, aCons, aNil, mCall, mVar, bLen, seqOf, rowD, hj]
  unfold mCompF
  rw [e0]
  simp only [Res.bind_ok]
  rw [if_pos (by simp [rangeD, line]; omega), e]
  simp only [Res.bind_ok, finL]
  congr 2
  unfold turnsOf
  rw [List.map_map]
  exact range_map _ _ fun i hi => by simp
theorem iLT_lst {env : Pm.Env} {s : S} {ds : List D} {me : Pm.Env → S → Res D} (h : me env s = .ok (.lst ds) s) : iLT me env s = .ok ds s := by
  have e : iLst me env s = .ok ds s := by simp [iLst, iSeq, h]
  unfold iLT
  rw [e]
  rfl
theorem revs_ok (T : List (List Int)) (hT : T.length ≤ 100) (hl : ∀ t ∈ T, t.length ≤ 100) (x y : Option D) (s : S) : mCompF finL [3] (iLT (mVar 1)) (tName 3) mYes (mRevL (mVar 3)) [x, some (.lst (T.map rowD)), y, none] s = .ok (.lst ((T.map List.reverse).map rowD)) s := by
  have e := compPure (own := [3]) (mt := tName 3) (me := mRevL (mVar 3)) (env := [x, some (.lst (T.map rowD)), y, none]) (s := s) (f := fun d => match d with
    | .lst ds => .lst ds.reverse
    | _ => .non) (T.map rowD) fun d hd => by
      obtain ⟨t, ht, rfl⟩ := List.mem_map.mp hd
      refine ⟨[x, some (.lst (T.map rowD)), y, some (rowD t)], by simp [tName, wipeE], ?_⟩
      have h1 : ((t.map D.int).reverse).length ≤ 16000000 := by
        have := hl t ht
        simp
        omega
      simp only [mRevL, mVar, List.getElem?_cons_zero, List.getElem?_cons_succ, Res.bind_ok, lisOf, rowD]
      exact newS h1
  unfold mCompF
  rw [iLT_lst (ds := T.map rowD) (by simp [mVar])]
  simp only [Res.bind_ok]
  rw [if_pos (by simp [line]; omega), e]
  simp only [Res.bind_ok, finL]
  congr 2
  rw [List.map_map, List.map_map]
  exact List.map_congr_left fun t _ => by simp [rowD, List.map_reverse]
theorem arr_eq : (b_arrangements k) = (sSeq (sIf (mB (m2 (eqP false) (mCall bLen (aCons (mVar 0) aNil)) (mC (.int 0)))) (sRet (mLst (aCons (mVar 0) aNil))) sNext)
  (sSeq (sSet 1 (mCompF finL [2] (iR1 (aCons (mCall bLen (aCons (mVar 0) aNil)) aNil)) (tName 2) mYes turnC))
  (sSeq (sIf (mB (m2 (eqP false) (mCall bLen (aCons (mVar 0) aNil)) (mC (.int 2)))) (sRet (mVar 1)) sNext)
  (sRet (m2 addAll (mVar 1) (mCompF finL [3] (iLT (mVar 1)) (tName 3) mYes (mRevL (mVar 3)))))))) := rfl
theorem turns_len (ns : List Int) : (turnsOf ns).length = ns.length := by simp [turnsOf]
theorem turns_mem {ns t : List Int} (h : t ∈ turnsOf ns) : t.length = ns.length := by
  unfold turnsOf at h
  obtain ⟨i, hi, rfl⟩ := List.mem_map.mp h
  have := List.mem_range.mp hi
  rw [List.length_append, List.length_drop, List.length_take]
  omega
theorem arr_ok (ns : List Int) (h : ns.length ≤ 100) (s : S) : (m_arrangements k) [rowD ns] s = .ok (.lst ((arr ns).map rowD)) s := by
  have hlen : ∀ (x y z : Option D) (s : S), mCall bLen (aCons (mVar 0) aNil) [some (rowD ns), x, y, z] s = .ok (.int ns.length) s := fun x y z s => by simp [mCall, aCons, aNil, mVar, bLen, seqOf, rowD]
  unfold m_arrangements
  rw [arr_eq]
  by_cases h0 : ns.length = 0
  · have e : ns = [] := List.length_eq_zero_iff.mp h0
    subst e
    exact runP1 (seqRt (by simp [sIf, mB, m2, hlen, mC, eqPi, sRet, mLst, aCons, aNil, mVar, newL, line, arr]))
  · have h0' : ¬ ((ns.length : Int) = 0) := by omega
    have t0 : sIf (mB (m2 (eqP false) (mCall bLen (aCons (mVar 0) aNil)) (mC (.int 0)))) (sRet (mLst (aCons (mVar 0) aNil))) sNext [some (rowD ns), none, none, none] s = .ok (.nx [some (rowD ns), none, none, none]) s := by
      have h0e : ¬ ns = [] := fun e => h0 (by rw [e]; rfl)
      simp [sIf, mB, m2, hlen, mC, eqPi, h0e, sNext]
    have t1 := setP (i := 1) (turns_ok ns h none none s)
    by_cases h2 : ns.length = 2
    · refine runP1 ((seqP t0).trans ((seqP t1).trans (seqRt ?_)))
      have h2' : ((ns.length : Int) = 2) := by omega
      simp [sIf, mB, m2, hlen, mC, eqPi, h2', sRet, mVar, arr, h2]
    · have h2' : ¬ ((ns.length : Int) = 2) := by omega
      have t2 : sIf (mB (m2 (eqP false) (mCall bLen (aCons (mVar 0) aNil)) (mC (.int 2)))) (sRet (mVar 1)) sNext [some (rowD ns), some (.lst ((turnsOf ns).map rowD)), none, none] s = .ok (.nx [some (rowD ns), some (.lst ((turnsOf ns).map rowD)), none, none]) s := by
        simp [sIf, mB, m2, hlen, mC, eqPi, h2', sNext]
      have r := revs_ok (turnsOf ns) (by rw [turns_len]; omega) (fun t ht => by rw [turns_mem ht]; omega) (some (rowD ns)) none s
      have c : addAll (.lst ((turnsOf ns).map rowD)) (.lst (((turnsOf ns).map List.reverse).map rowD)) s = .ok (.lst ((arr ns).map rowD)) s := by
        have e : addI (.lst ((turnsOf ns).map rowD)) (.lst (((turnsOf ns).map List.reverse).map rowD)) s = .stuck := rfl
        have e2 : catL (.lst ((turnsOf ns).map rowD)) (.lst (((turnsOf ns).map List.reverse).map rowD)) s = .ok (.lst ((arr ns).map rowD)) s := by
          simp only [catL]
          rw [← List.map_append]
          have ea : arr ns = turnsOf ns ++ (turnsOf ns).map List.reverse := by simp [arr, h0, h2]
          rw [ea]
          exact newS (by simp [turns_len]; omega)
        simp only [addAll, addD, e, e2, Res.or]
      refine runP1 ((seqP t0).trans ((seqP t1).trans ((seqP t2).trans (retP ?_))))
      simp only [m2, mVar, List.getElem?_cons_zero, List.getElem?_cons_succ, Res.bind_ok]
      rw [r]
      simp only [Res.bind_ok]
      exact c

/-! items by their places; no run is merged -/
def atZ (ns : List Int) (z : Int) : Int := if 0 ≤ z then ns.getD z.toNat 0 else ns.getD (z + ns.length).toNat 0
theorem ix_ok {ns : List Int} {z : Int} (h1 : -(ns.length : Int) ≤ z) (h2 : z < ns.length) (s : S) : ixD (rowD ns) (.int z) s = .ok (.int (atZ ns z)) s := by
  have e : L2.atI (ns.map D.int) z = some (.int (atZ ns z)) := by
    unfold L2.atI L2.ixN atZ
    rw [List.length_map]
    by_cases h0 : 0 ≤ z
    · have hz : z.toNat < ns.length := by omega
      simp only [h0, h2, if_true, Option.bind_some, List.getElem?_map, List.getElem?_eq_getElem hz, Option.map_some, List.getD_eq_getElem?_getD, Option.getD_some]
    · have hz : (z + ns.length).toNat < ns.length := by omega
      simp only [h0, h1, if_true, if_false, Option.bind_some, List.getElem?_map, List.getElem?_eq_getElem hz, Option.map_some, List.getD_eq_getElem?_getD, Option.getD_some]
  simp [ixD, ixL, rowD, e, Res.or]
def mergeB : Pm.Env → S → Res Fl := (sIf (mAndT (mBt (m2 ixD (mVar 0) (m2 subI (mVar 2) (mC (.int 1))))) (mAndT (mBt (m2 ixD (mVar 0) (mVar 2))) (mAndT (mNotT (mBt (m2 ixD (mVar 0) (m2 subI (m2 subI (mVar 2) (mC (.int 1))) (mVar 1))))) (mNotT (mBt (m2 ixD (mVar 0) (m2 subI (mVar 2) (mVar 1)))))))) (sRet (mVar 2)) sNext)
def merg (ns : List Int) (h i : Int) : Bool := decide (atZ ns (i - 1) ≠ 0) && (decide (atZ ns i ≠ 0) && (decide (atZ ns (i - 1 - h) = 0) && decide (atZ ns (i - h) = 0)))
theorem merge_eq : (b_merging_at k) = (sSeq (sSet 1 (m2 divI (mCall bLen (aCons (mVar 0) aNil)) (mC (.int 2)))) (sSeq (sFor (iR1 (aCons (mCall bLen (aCons (mVar 0) aNil)) aNil)) (tName 2) mergeB) (sRet (mC .non)))) := rfl
theorem tr_int (me : Pm.Env → S → Res D) (env : Pm.Env) (s : S) (z : Int) (h : me env s = .ok (.int z) s) : mBt me env s = .ok (decide (z ≠ 0)) s := by
  have t : truD s (.int z) = some (decide (z ≠ 0)) := by
    by_cases hz : z = 0
    · subst hz; rfl
    · simp [truD, hz]
  simp [mBt, h, t]
theorem mergeB_ok {ns : List Int} {h : Int} {i : Nat} (hh : 0 ≤ h ∧ h + h ≤ ns.length) (hi : i < ns.length) (hl : 1 + h ≤ ns.length) (s : S) :
    mergeB [some (rowD ns), some (.int h), some (.int i)] s = if merg ns h i then .ok (.rt (.int i)) s else .ok (.nx [some (rowD ns), some (.int h), some (.int i)]) s := by
  have a1 := tr_int (m2 ixD (mVar 0) (m2 subI (mVar 2) (mC (.int 1)))) [some (rowD ns), some (.int h), some (.int i)] s (atZ ns (i - 1)) (by simp only [m2, mVar, mC, List.getElem?_cons_zero, List.getElem?_cons_succ, Res.bind_ok, subP]; exact ix_ok (by omega) (by omega) s)
  have a2 := tr_int (m2 ixD (mVar 0) (mVar 2)) [some (rowD ns), some (.int h), some (.int i)] s (atZ ns i) (by simp only [m2, mVar, List.getElem?_cons_zero, List.getElem?_cons_succ, Res.bind_ok]; exact ix_ok (by omega) (by omega) s)
  have a3 := tr_int (m2 ixD (mVar 0) (m2 subI (m2 subI (mVar 2) (mC (.int 1))) (mVar 1))) [some (rowD ns), some (.int h), some (.int i)] s (atZ ns (i - 1 - h)) (by simp only [m2, mVar, mC, List.getElem?_cons_zero, List.getElem?_cons_succ, Res.bind_ok, subP]; exact ix_ok (by omega) (by omega) s)
  have a4 := tr_int (m2 ixD (mVar 0) (m2 subI (mVar 2) (mVar 1))) [some (rowD ns), some (.int h), some (.int i)] s (atZ ns (i - h)) (by simp only [m2, mVar, List.getElem?_cons_zero, List.getElem?_cons_succ, Res.bind_ok, subP]; exact ix_ok (by omega) (by omega) s)
  unfold mergeB merg
  simp only [sIf, mAndT, mNotT, a1, a2, a3, a4, Res.bind_ok]
  by_cases c1 : atZ ns (i - 1) = 0 <;> by_cases c2 : atZ ns i = 0 <;> by_cases c3 : atZ ns (i - 1 - h) = 0 <;> by_cases c4 : atZ ns (i - h) = 0 <;> simp [c1, c2, c3, c4, sRet, mVar, sNext]
theorem merge_loop {ns : List Int} {h : Int} (hh : 0 ≤ h ∧ h + h ≤ ns.length) (hl : 1 + h ≤ ns.length) (s : S) : ∀ (is : List Nat) (x : Option D), (∀ i ∈ is, i < ns.length) →
    (is.any (fun (i : Nat) => merg ns h i) = true ∧ ∃ i : Nat, forL (tName 2) mergeB (is.map fun i => D.int (Int.ofNat i)) [some (rowD ns), some (.int h), x] s = .ok (.rt (.int i)) s) ∨
    (is.any (fun (i : Nat) => merg ns h i) = false ∧ ∃ y, forL (tName 2) mergeB (is.map fun i => D.int (Int.ofNat i)) [some (rowD ns), some (.int h), x] s = .ok (.nx [some (rowD ns), some (.int h), y]) s)
  | [], x, _ => .inr ⟨rfl, x, rfl⟩
  | i :: is, x, hi => by
    have st := mergeB_ok hh (hi i (by simp)) hl s
    have st' : mergeB [some (rowD ns), some (.int h), some (.int (Int.ofNat i))] s = if merg ns h i then .ok (.rt (.int i)) s else .ok (.nx [some (rowD ns), some (.int h), some (.int i)]) s := st
    cases c : merg ns h i with
    | true =>
      rw [c] at st'
      refine .inl ⟨by simp [c], i, ?_⟩
      simp only [List.map_cons, forL, tName, List.set, st', Res.bind_ok, if_true]
    | false =>
      rw [c] at st'
      have z : forL (tName 2) mergeB ((i :: is).map fun i => D.int (Int.ofNat i)) [some (rowD ns), some (.int h), x] s = forL (tName 2) mergeB (is.map fun i => D.int (Int.ofNat i)) [some (rowD ns), some (.int h), some (.int i)] s := by
        simp only [List.map_cons, forL, tName, List.set, st', Res.bind_ok, Bool.false_eq_true, if_false]
      rcases merge_loop hh hl s is (some (.int i)) fun j hj => hi j (by simp [hj]) with ⟨h1, j, h2⟩ | ⟨h1, y, h2⟩
      · exact .inl ⟨by simp [c, h1], j, z.trans h2⟩
      · exact .inr ⟨by simp only [List.any_cons, c, h1, Bool.or_self], y, z.trans h2⟩
def mergs (ns : List Int) : Bool := (List.range ns.length).any fun (i : Nat) => merg ns (Int.ofNat (ns.length / 2)) i
theorem merge_ok {ns : List Int} (h4 : 2 ≤ ns.length) (hl : ns.length ≤ 100) (s : S) : ∃ r, (m_merging_at k) [rowD ns] s = .ok r s ∧ (∀ s, m2 (isD true) (fun _ s => .ok r s) (mC .non) [] s = .ok (.bl (mergs ns)) s) := by
  have hd : ∀ s, divI (.int (ns.length : Int)) (.int 2) s = .ok (.int (Int.ofNat (ns.length / 2))) s := fun s => by
    have e : (ns.length : Int).fdiv 2 = Int.ofNat (ns.length / 2) := by
      rw [Int.fdiv_eq_ediv_of_nonneg _ (by decide)]
      simp
    have g : Nat.log2 2 < 9000 := by decide +kernel
    simp [divI, intOp, cDiv, e, g]
  have t := setP (i := 1) (e := [some (rowD ns), none, none]) (s := s) (s1 := s) (r := .int (Int.ofNat (ns.length / 2))) (m := (m2 divI (mCall bLen (aCons (mVar 0) aNil)) (mC (.int 2)))) (by
    have e : ∀ s, mCall bLen (aCons (mVar 0) aNil) [some (rowD ns), none, none] s = .ok (.int ns.length) s := fun s => by simp [mCall, aCons, aNil, mVar, bLen, seqOf, rowD]
    simp only [m2, e, mC, Res.bind_ok, hd])
  have hr : rangeD 0 ns.length = (List.range ns.length).map fun i => D.int (Int.ofNat i) := by
    unfold rangeD
    refine List.map_congr_left fun i _ => by simp
  have hj : (-rLim ≤ (ns.length : Int) ∧ (ns.length : Int) ≤ rLim) := by unfold rLim; omega
  have e0 : iR1 (aCons (mCall bLen (aCons (mVar 0) aNil)) aNil) [some (rowD ns), some (.int (Int.ofNat (ns.length / 2))), none] s = .ok ((List.range ns.length).map fun i => D.int (Int.ofNat i)) s := by
    rw [← hr]
    simp [iR1, aCons, aNil, mCall, mVar, bLen, seqOf, rowD, hj]
  have hx : (0 : Int) ≤ Int.ofNat (ns.length / 2) ∧ Int.ofNat (ns.length / 2) + Int.ofNat (ns.length / 2) ≤ (ns.length : Int) := by
    simp only [Int.ofNat_eq_natCast]
    omega
  have hy : 1 + Int.ofNat (ns.length / 2) ≤ (ns.length : Int) := by
    simp only [Int.ofNat_eq_natCast]
    omega
  rcases merge_loop hx hy s (List.range ns.length) none (fun i hi => List.mem_range.mp hi) with ⟨h1, i, h2⟩ | ⟨h1, y, h2⟩
  · refine ⟨.int i, ?_, fun s => ?_⟩
    · unfold m_merging_at
      rw [merge_eq]
      refine runP1 ((seqP t).trans (seqRt ?_))
      show sFor _ _ _ [some (rowD ns), some (.int (Int.ofNat (ns.length / 2))), none] s = _
      unfold sFor
      rw [e0]
      exact h2
    · rw [show mergs ns = true from h1]
      rfl
  · refine ⟨.non, ?_, fun s => ?_⟩
    · unfold m_merging_at
      rw [merge_eq]
      refine runP1 ((seqP t).trans ((seqP (e1 := [some (rowD ns), some (.int (Int.ofNat (ns.length / 2))), y]) (s1 := s) ?_).trans (retP rfl)))
      show sFor _ _ _ [some (rowD ns), some (.int (Int.ofNat (ns.length / 2))), none] s = _
      unfold sFor
      rw [e0]
      exact h2
    · rw [show mergs ns = false from h1]
      rfl

theorem rowsOf_map : ∀ (T : List (List Int)), rowsOf (T.map rowD) = some T
  | [] => rfl
  | t :: T => by
    have h : intsOf (t.map D.int) = some t := intsOf_map t
    have ih := rowsOf_map T
    simp only [List.map_cons, rowD, rowsOf, h]
    have ih' : rowsOf (T.map fun l => D.lst (l.map .int)) = some T := ih
    show (match some t, rowsOf (T.map rowD) with
      | some ns, some ms => some (ns :: ms)
      | _, _ => none) = some (t :: T)
    rw [ih]
theorem min_ok (r : List Int) (T : List (List Int)) (s : S) : bMin1 [.lst ((r :: T).map rowD)] s = .ok (rowD (minN r T)) s := by
  have h := rowsOf_map (r :: T)
  have e : bBestI minI1 [.lst ((r :: T).map rowD)] s = .stuck := by rfl
  have e2 : bMinR [.lst ((r :: T).map rowD)] s = .ok (rowD (minN r T)) s := by
    unfold bMinR
    simp only [lisOf, h]
  simp only [bMin1, e, e2, Res.or]
theorem eqv_ints : ∀ (a b : List Int), PyData.eqvAll (a.map PyData.int) (b.map PyData.int) = decide (a = b)
  | [], [] => rfl
  | [], _ :: _ => rfl
  | _ :: _, [] => rfl
  | x :: a, y :: b => by
    simp only [List.map_cons, PyData.eqvAll, PyData.eqv, eqv_ints a b]
    by_cases h1 : x = y <;> by_cases h2 : a = b <;> simp [h1, h2]
theorem toPys_ints : ∀ ms : List Int, toPys (ms.map D.int) = some (ms.map PyData.int)
  | [] => rfl
  | m :: ms => by simp only [List.map_cons, toPys, toPy, toPys_ints ms]
theorem shaped_ints (ns : List Int) : SeqAt.shaped (PyData.list (ns.map PyData.int)) = true := by
  simp only [SeqAt.shaped, PyData.canLay0, can_ints, PyData.depth, dep_ints]
  decide
theorem eq_rows (a b : List Int) (s : S) : eqP false (rowD a) (rowD b) s = .ok (.bl (decide (a = b))) s := by
  simp [eqP, rowD, toPy, toPys_ints, shaped_ints, PyData.eqv, eqv_ints]
theorem cut_mid {α : Type} (f : α → D) (ns : List α) (i j : Nat) (h : i ≤ ns.length) (h2 : j ≤ ns.length) : cutD (ns.map f) (some (i : Int)) (some (j : Int)) = ((ns.drop i).take (j - i)).map f := by
  unfold cutD
  rw [List.length_map, sx_in h, sx_in h2, ← List.map_drop, ← List.map_take]
def isRp (ns : List Int) : Bool :=
  if ns.length = 2 * (ns.length / 2) ∧ 2 ≤ ns.length / 2 then
    if ((List.range (ns.length / 2)).all fun (i : Nat) => decide (0 < atZ ns i + atZ ns (i + Int.ofNat (ns.length / 2)))) = true ∧ mergs ns = false then
      if ((List.range ns.length).all fun (i : Nat) => decide (2 ≤ (((ns ++ ns).drop i).take (ns.length / 2 - 1)).sum)) = true then decide (ns = match arr ns with
        | [] => []
        | r :: T => minN r T) else false else false else false
def cmp2 : Pm.Env → S → Res D := (mCompF finL [3] (iR1 (aCons (mVar 1) aNil)) (tName 3) mYes (m2 gtI (m2 addAll (m2 ixD (mVar 0) (mVar 3)) (m2 ixD (mVar 0) (m2 addAll (mVar 3) (mVar 1)))) (mC (.int 0))))
def cmp4 : Pm.Env → S → Res D := (mCompF finL [3] (iR1 (aCons (mCall bLen (aCons (mVar 0) aNil)) aNil)) (tName 3) mYes (m2 geI (mCall bSum (aCons (mSlice (mVar 2) (oS (mVar 3)) (oS (m2 subI (m2 addAll (mVar 3) (mVar 1)) (mC (.int 1))))) aNil)) (mC (.int 2))))
theorem isround_eq : (b_is_round k) = (sSeq (sSet 1 (m2 divI (mCall bLen (aCons (mVar 0) aNil)) (mC (.int 2))))
  (sSeq (sIf (mOrT (mB (m2 (eqP true) (mCall bLen (aCons (mVar 0) aNil)) (m2 mulD (mC (.int 2)) (mVar 1)))) (mB (m2 ltI (mVar 1) (mC (.int 2))))) (sRet (mC (.bl false))) sNext)
  (sSeq (sIf (mOrT (mNotT (mBt (mCall (bBools fun bs => bs.all id) (aCons cmp2 aNil)))) (mB (m2 (isD true) (mCallD (n := 1) [] (m_merging_at k) (aCons (mVar 0) aNil)) (mC .non)))) (sRet (mC (.bl false))) sNext)
  (sSeq (sSet 2 (m2 addAll (mVar 0) (mVar 0)))
  (sSeq (sIf (mNotT (mBt (mCall (bBools fun bs => bs.all id) (aCons cmp4 aNil)))) (sRet (mC (.bl false))) sNext)
  (sRet (m2 (eqP false) (mVar 0) (mCall bMin1 (aCons (mCallD (n := 1) [] (m_arrangements k) (aCons (mVar 0) aNil)) aNil))))))))) := rfl
/-- bools over a range -/
theorem boolsOf_map {α : Type} (f : α → Bool) : ∀ l : List α, boolsOf (l.map fun x => D.bl (f x)) = some (l.map f)
  | [] => rfl
  | x :: l => by simp only [List.map_cons, boolsOf, boolsOf_map f l, Option.map_some]
theorem rangeComp {me : Pm.Env → S → Res D} {mi : Pm.Env → S → Res (List D)} {own : List Nat} {v : Nat} {env : Pm.Env} {n : Nat} {s : S} (p : Nat → Bool) (hn : n ≤ 1000) (hi : mi env s = .ok (rangeD 0 n) s) (he : ∀ i : Nat, i < n → me ((wipeE env own).set v (some (.int i))) s = .ok (.bl (p i)) s) :
    mCompF finL own mi (tName v) mYes me env s = .ok (.lst ((List.range n).map fun i => D.bl (p i))) s := by
  have e := compPure (own := own) (mt := tName v) (me := me) (env := env) (s := s) (f := fun d => match d with
    | .int i => .bl (p i.toNat)
    | _ => .non) (rangeD 0 n) fun d hd => by
      unfold rangeD at hd
      obtain ⟨i, hi, rfl⟩ := List.mem_map.mp hd
      have hi := List.mem_range.mp hi
      refine ⟨_, rfl, ?_⟩
      simpa using he i hi
  unfold mCompF
  rw [hi]
  simp only [Res.bind_ok]
  rw [if_pos (by simp [rangeD, line]; omega), e]
  simp only [Res.bind_ok, finL]
  congr 2
  exact range_map _ _ fun i hi => by simp
theorem allT {mc : Pm.Env → S → Res D} {env : Pm.Env} {n : Nat} {p : Nat → Bool} {s : S} (h : mc env s = .ok (.lst ((List.range n).map fun i => D.bl (p i))) s) : mNotT (mBt (mCall (bBools fun bs => bs.all id) (aCons mc aNil))) env s = .ok (!((List.range n).all p)) s := by
  simp only [mNotT, mBt, mCall, aCons, aNil, h, Res.bind_ok, bBools, isTupD, seqOf, boolsOf_map]
  simp [truD, List.all_map, Function.comp_def]
theorem cmp2_ok {ns : List Int} (hl : ns.length ≤ 100) (h2 : ns.length = 2 * (ns.length / 2)) (s : S) : cmp2 [some (rowD ns), some (.int (Int.ofNat (ns.length / 2))), none, none] s = .ok (.lst ((List.range (ns.length / 2)).map fun (i : Nat) => D.bl (decide (0 < atZ ns i + atZ ns (i + Int.ofNat (ns.length / 2)))))) s := by
  refine rangeComp (n := ns.length / 2) (fun (i : Nat) => decide (0 < atZ ns i + atZ ns (i + Int.ofNat (ns.length / 2)))) (by omega) ?_ fun i hi => ?_
  · have hj : (-rLim ≤ Int.ofNat (ns.length / 2) ∧ Int.ofNat (ns.length / 2) ≤ rLim) := by
      simp only [Int.ofNat_eq_natCast]
      unfold rLim
      omega
    simp only [iR1, aCons, aNil, mVar, List.getElem?_cons_zero, List.getElem?_cons_succ, Res.bind_ok, decide_eq_true hj, if_true]
    rfl
  · show (m2 gtI (m2 addAll (m2 ixD (mVar 0) (mVar 3)) (m2 ixD (mVar 0) (m2 addAll (mVar 3) (mVar 1)))) (mC (.int 0))) [some (rowD ns), some (.int (Int.ofNat (ns.length / 2))), none, some (.int i)] s = _
    have e1 := fun s => ix_ok (ns := ns) (z := i) (by omega) (by omega) s
    have e2 := fun s => ix_ok (ns := ns) (z := i + Int.ofNat (ns.length / 2)) (by simp only [Int.ofNat_eq_natCast]; omega) (by simp only [Int.ofNat_eq_natCast]; omega) s
    simp only [m2, mVar, mC, List.getElem?_cons_zero, List.getElem?_cons_succ, Res.bind_ok, addP, e1, e2]
    rfl
theorem cmp4_ok {ns : List Int} (hl : ns.length ≤ 100) (h2 : ns.length = 2 * (ns.length / 2)) (h3 : 2 ≤ ns.length / 2) (s : S) : cmp4 [some (rowD ns), some (.int (Int.ofNat (ns.length / 2))), some (rowD (ns ++ ns)), none] s = .ok (.lst ((List.range ns.length).map fun (i : Nat) => D.bl (decide (2 ≤ (((ns ++ ns).drop i).take (ns.length / 2 - 1)).sum)))) s := by
  refine rangeComp (n := ns.length) (fun (i : Nat) => decide (2 ≤ (((ns ++ ns).drop i).take (ns.length / 2 - 1)).sum)) (by omega) ?_ fun i hi => ?_
  · have hj : (-rLim ≤ (ns.length : Int) ∧ (ns.length : Int) ≤ rLim) := by unfold rLim; omega
    simp [iR1, aCons, aNil, mCall, mVar, bLen, seqOf, rowD, hj]
  · show (m2 geI (mCall bSum (aCons (mSlice (mVar 2) (oS (mVar 3)) (oS (m2 subI (m2 addAll (mVar 3) (mVar 1)) (mC (.int 1))))) aNil)) (mC (.int 2))) [some (rowD ns), some (.int (Int.ofNat (ns.length / 2))), some (rowD (ns ++ ns)), some (.int i)] s = _
    have ez : (i : Int) + Int.ofNat (ns.length / 2) - 1 = ((i + ns.length / 2 - 1 : Nat) : Int) := by
      simp only [Int.ofNat_eq_natCast]
      omega
    have hc := cut_mid D.int (ns ++ ns) i (i + ns.length / 2 - 1) (by rw [List.length_append]; omega) (by rw [List.length_append]; omega)
    have hk : i + ns.length / 2 - 1 - i = ns.length / 2 - 1 := by omega
    rw [hk] at hc
    have e1 : ∀ s, mSlice (mVar 2) (oS (mVar 3)) (oS (m2 subI (m2 addAll (mVar 3) (mVar 1)) (mC (.int 1)))) [some (rowD ns), some (.int (Int.ofNat (ns.length / 2))), some (rowD (ns ++ ns)), some (.int i)] s = .ok (rowD (((ns ++ ns).drop i).take (ns.length / 2 - 1))) s := fun s => by
      have hlen : ((((ns ++ ns).drop i).take (ns.length / 2 - 1)).map D.int).length ≤ 16000000 := by
        rw [List.length_map, List.length_take]
        omega
      simp only [mSlice, mVar, oS, m2, mC, List.getElem?_cons_zero, List.getElem?_cons_succ, Res.bind_ok, addP, subP, lisOf, rowD, ez, hc]
      exact newS hlen
    have e2 := fun s => sum_ok (s := s) (R := rowD (((ns ++ ns).drop i).take (ns.length / 2 - 1))) (ns := ((ns ++ ns).drop i).take (ns.length / 2 - 1)) (.inl rfl)
    simp only [m2, mCall, aCons, aNil, e1, e2, mC, Res.bind_ok]
    rfl

theorem eqP_neg' {x y : D} {s : S} {b : Bool} (h : eqP false x y s = .ok (.bl b) s) : eqP true x y s = .ok (.bl (!b)) s := by
  unfold eqP at h ⊢
  split at h
  · split at h
    · simp only [Bool.false_eq_true, if_false, Res.ok.injEq, D.bl.injEq, and_true] at h
      rename_i hc
      simp [hc, h]
    · cases h
  · cases h
section
variable {a b : Pm.Env → S → Res Fl} {c c' : Pm.Env → S → Res Bool} {env : Pm.Env} {s : S} {v : Bool}
theorem ifT (h : c env s = .ok true s) : sIf c a b env s = a env s := by unfold sIf; rw [h]; rfl
theorem ifF (h : c env s = .ok false s) : sIf c a b env s = b env s := by unfold sIf; rw [h]; rfl
theorem orF (h : c env s = .ok false s) (h' : c' env s = .ok v s) : mOrT c c' env s = .ok v s := by unfold mOrT; rw [h]; exact h'
theorem orT (h : c env s = .ok true s) : mOrT c c' env s = .ok true s := by unfold mOrT; rw [h]; rfl
end
theorem half_ok (n : Nat) (s : S) : divI (.int (n : Int)) (.int 2) s = .ok (.int (Int.ofNat (n / 2))) s := by
  have e : (n : Int).fdiv 2 = Int.ofNat (n / 2) := by
    rw [Int.fdiv_eq_ediv_of_nonneg _ (by decide)]
    simp
  have g : Nat.log2 2 < 9000 := by decide +kernel
  simp [divI, intOp, cDiv, e, g]
theorem len_ok (ns : List Int) (r : List (Option D)) (s : S) : mCall bLen (aCons (mVar 0) aNil) (some (rowD ns) :: r) s = .ok (.int ns.length) s := by
  simp [mCall, aCons, aNil, mVar, bLen, seqOf, rowD]
theorem arr_some {ns : List Int} (h : 0 < ns.length) : ∃ r T, arr ns = r :: T := by
  have hl : 0 < (turnsOf ns).length := by rw [turns_len]; exact h
  have hz : ¬ ns.length = 0 := by omega
  obtain ⟨r, T, e⟩ := List.exists_cons_of_length_pos hl
  unfold arr
  rw [if_neg hz]
  split
  · exact ⟨r, T, e⟩
  · rw [e]
    exact ⟨r, _, rfl⟩
theorem round_is (ns : List Int) (hl : ns.length ≤ 100) (s : S) : (m_is_round k) [rowD ns] s = .ok (.bl (isRp ns)) s := by
  unfold m_is_round
  rw [isround_eq]
  have t1 := setP (i := 1) (e := [some (rowD ns), none, none, none]) (s := s) (s1 := s) (r := .int (Int.ofNat (ns.length / 2))) (m := (m2 divI (mCall bLen (aCons (mVar 0) aNil)) (mC (.int 2)))) (by
    simp only [m2, len_ok, mC, Res.bind_ok, half_ok])
  have hm : ∀ s, mulD (.int 2) (.int (Int.ofNat (ns.length / 2))) s = .ok (.int (2 * Int.ofNat (ns.length / 2))) s := fun s => mulP _ _ _ (smP (by decide)) (smP (by simp only [Int.ofNat_eq_natCast]; omega))
  have c1 : mB (m2 (eqP true) (mCall bLen (aCons (mVar 0) aNil)) (m2 mulD (mC (.int 2)) (mVar 1))) [some (rowD ns), some (.int (Int.ofNat (ns.length / 2))), none, none] s = .ok (!decide (ns.length = 2 * (ns.length / 2))) s := by
    have q : ∀ s, eqP true (.int (ns.length : Int)) (.int (2 * Int.ofNat (ns.length / 2))) s = .ok (.bl (!decide (ns.length = 2 * (ns.length / 2)))) s := fun s => by
      have := eqP_neg' (eqPi (ns.length : Int) (2 * Int.ofNat (ns.length / 2)) s)
      rw [this]
      have e : ((ns.length : Int) = 2 * Int.ofNat (ns.length / 2)) ↔ ns.length = 2 * (ns.length / 2) := by
        simp only [Int.ofNat_eq_natCast]
        omega
      simp only [e]
    simp only [mB, m2, len_ok, mC, mVar, List.getElem?_cons_zero, List.getElem?_cons_succ, Res.bind_ok, hm, q]
  have c2 : mB (m2 ltI (mVar 1) (mC (.int 2))) [some (rowD ns), some (.int (Int.ofNat (ns.length / 2))), none, none] s = .ok (decide (¬ 2 ≤ ns.length / 2)) s := by
    have e : (Int.ofNat (ns.length / 2) < 2) ↔ ¬ 2 ≤ ns.length / 2 := by
      simp only [Int.ofNat_eq_natCast]
      omega
    simp only [mB, m2, mC, mVar, List.getElem?_cons_zero, List.getElem?_cons_succ, Res.bind_ok, ltI, intOp, if_true, e]
  by_cases h1 : ns.length = 2 * (ns.length / 2) ∧ 2 ≤ ns.length / 2
  · obtain ⟨ha, hb⟩ := h1
    rw [decide_eq_true ha] at c1
    have t2 : sIf (mOrT (mB (m2 (eqP true) (mCall bLen (aCons (mVar 0) aNil)) (m2 mulD (mC (.int 2)) (mVar 1)))) (mB (m2 ltI (mVar 1) (mC (.int 2))))) (sRet (mC (.bl false))) sNext [some (rowD ns), some (.int (Int.ofNat (ns.length / 2))), none, none] s = .ok (.nx [some (rowD ns), some (.int (Int.ofNat (ns.length / 2))), none, none]) s := by
      have z : decide (¬ 2 ≤ ns.length / 2) = false := decide_eq_false (fun q => q hb)
      rw [z] at c2
      exact (ifF (orF c1 c2)).trans rfl
    have c3 := allT (p := fun (i : Nat) => decide (0 < atZ ns i + atZ ns (i + Int.ofNat (ns.length / 2)))) (cmp2_ok hl ha s)
    obtain ⟨r, er, hr⟩ := merge_ok (k := k) (ns := ns) (by omega) hl s
    have c4 : mB (m2 (isD true) (mCallD (n := 1) [] (m_merging_at k) (aCons (mVar 0) aNil)) (mC .non)) [some (rowD ns), some (.int (Int.ofNat (ns.length / 2))), none, none] s = .ok (mergs ns) s := by
      have e : mCallD (n := 1) [] (m_merging_at k) (aCons (mVar 0) aNil) [some (rowD ns), some (.int (Int.ofNat (ns.length / 2))), none, none] s = .ok r s := by
        simp [mCallD, aCons, aNil, mVar, er]
      have hr := hr s
      simp only [m2, Res.bind_ok] at hr
      simp only [mB, m2, e, Res.bind_ok]
      have z : (mC .non [some (rowD ns), some (.int (Int.ofNat (ns.length / 2))), none, none] s) = .ok .non s := rfl
      have z2 : (mC .non [] s) = .ok .non s := rfl
      rw [z2] at hr
      rw [z]
      simp only [Res.bind_ok] at hr ⊢
      rw [hr]
      rfl
    by_cases h2 : ((List.range (ns.length / 2)).all fun (i : Nat) => decide (0 < atZ ns i + atZ ns (i + Int.ofNat (ns.length / 2)))) = true ∧ mergs ns = false
    · obtain ⟨hc, hd⟩ := h2
      rw [hc] at c3
      rw [hd] at c4
      have t3 : sIf (mOrT (mNotT (mBt (mCall (bBools fun bs => bs.all id) (aCons cmp2 aNil)))) (mB (m2 (isD true) (mCallD (n := 1) [] (m_merging_at k) (aCons (mVar 0) aNil)) (mC .non)))) (sRet (mC (.bl false))) sNext [some (rowD ns), some (.int (Int.ofNat (ns.length / 2))), none, none] s = .ok (.nx [some (rowD ns), some (.int (Int.ofNat (ns.length / 2))), none, none]) s := by
        exact (ifF (orF c3 c4)).trans rfl
      have t4 := setP (i := 2) (e := [some (rowD ns), some (.int (Int.ofNat (ns.length / 2))), none, none]) (s := s) (s1 := s) (r := rowD (ns ++ ns)) (m := (m2 addAll (mVar 0) (mVar 0))) (by
        have e : addI (rowD ns) (rowD ns) s = .stuck := rfl
        have e2 : catL (rowD ns) (rowD ns) s = .ok (rowD (ns ++ ns)) s := by
          simp only [catL, rowD]
          rw [← List.map_append]
          exact newS (by simp; omega)
        simp only [m2, mVar, List.getElem?_cons_zero, Res.bind_ok, addAll, addD, e, e2, Res.or])
      have c5 := allT (p := fun (i : Nat) => decide (2 ≤ (((ns ++ ns).drop i).take (ns.length / 2 - 1)).sum)) (cmp4_ok hl ha hb s)
      by_cases h3 : ((List.range ns.length).all fun (i : Nat) => decide (2 ≤ (((ns ++ ns).drop i).take (ns.length / 2 - 1)).sum)) = true
      · rw [h3] at c5
        obtain ⟨r, T, eT⟩ := arr_some (ns := ns) (by omega)
        have ea := arr_ok (k := k) ns hl s
        rw [eT] at ea
        have hv : isRp ns = decide (ns = minN r T) := by
          unfold isRp
          rw [if_pos ⟨ha, hb⟩, if_pos ⟨hc, hd⟩, if_pos h3, eT]
        rw [hv]
        refine runP1 ((seqP t1).trans ((seqP t2).trans ((seqP t3).trans ((seqP t4).trans ((seqP (e1 := [some (rowD ns), some (.int (Int.ofNat (ns.length / 2))), some (rowD (ns ++ ns)), none]) (s1 := s) ?_).trans (retP ?_))))))
        · show sIf _ _ _ [some (rowD ns), some (.int (Int.ofNat (ns.length / 2))), some (rowD (ns ++ ns)), none] s = _
          exact (ifF c5).trans rfl
        · have em : mCall bMin1 (aCons (mCallD (n := 1) [] (m_arrangements k) (aCons (mVar 0) aNil)) aNil) [some (rowD ns), some (.int (Int.ofNat (ns.length / 2))), some (rowD (ns ++ ns)), none] s = .ok (rowD (minN r T)) s := by
            simp only [mCall, mCallD, aCons, aNil, mVar, List.getElem?_cons_zero, Res.bind_ok, List.length_cons, List.length_nil, List.append_nil]
            simp only [Nat.zero_add, Nat.add_zero, if_true, ea, Res.bind_ok]
            exact min_ok r T s
          simp only [m2, mVar, List.getElem?_cons_zero, Res.bind_ok, em, eq_rows]
      · have h3' := Bool.eq_false_iff.mpr h3
        rw [h3'] at c5
        have hv : isRp ns = false := by
          unfold isRp
          rw [if_pos ⟨ha, hb⟩, if_pos ⟨hc, hd⟩, if_neg h3]
        rw [hv]
        refine runP1 ((seqP t1).trans ((seqP t2).trans ((seqP t3).trans ((seqP t4).trans (seqRt ?_)))))
        show sIf _ _ _ [some (rowD ns), some (.int (Int.ofNat (ns.length / 2))), some (rowD (ns ++ ns)), none] s = _
        exact (ifT c5).trans rfl
    · have hv : isRp ns = false := by
        unfold isRp
        rw [if_pos ⟨ha, hb⟩, if_neg h2]
      rw [hv]
      refine runP1 ((seqP t1).trans ((seqP t2).trans (seqRt ?_)))
      by_cases hc : ((List.range (ns.length / 2)).all fun (i : Nat) => decide (0 < atZ ns i + atZ ns (i + Int.ofNat (ns.length / 2)))) = true
      · have hd : mergs ns = true := by
          cases h : mergs ns
          · exact absurd ⟨hc, h⟩ h2
          · rfl
        rw [hc] at c3
        rw [hd] at c4
        exact (ifT (orF c3 c4)).trans rfl
      · rw [Bool.eq_false_iff.mpr hc] at c3
        exact (ifT (orT c3)).trans rfl
  · have hv : isRp ns = false := by
      unfold isRp
      rw [if_neg h1]
    rw [hv]
    refine runP1 ((seqP t1).trans (seqRt ?_))
    by_cases ha : ns.length = 2 * (ns.length / 2)
    · have hb : ¬ 2 ≤ ns.length / 2 := fun q => h1 ⟨ha, q⟩
      rw [decide_eq_true ha] at c1
      rw [decide_eq_true hb] at c2
      exact (ifT (orF c1 c2)).trans rfl
    · rw [decide_eq_false ha] at c1
      exact (ifT (orT c1)).trans rfl

end Wd
set_option Elab.async false
set_option linter.all false
set_option maxRecDepth 100000
set_option maxHeartbeats 400000
set_option exponentiation.threshold 5000
namespace Wd
open Pm PySem
variable {k : Nat}
/-- is_word of a pair of an int and a row of ints, as a plain function -/
def isWd (p : Int) (ns : List Int) : Bool := if 0 ≤ p ∧ (ns.all fun n => decide (0 ≤ n)) = true ∧ p + ns.sum ≤ 9 then (match ns with
  | [] => decide (2 ≤ p)
  | [a, b] => decide (2 ≤ a) && decide (a ≤ b)
  | _ => isRp ns) else false
theorem isRp_one (x : Int) : isRp [x] = false := by
  unfold isRp
  rw [if_neg (by simp)]
theorem is_word_ok {p : Int} {R : D} {ns : List Int} (hR : R = .lst (ns.map .int) ∨ R = .tup (ns.map .int)) (hl : ns.length ≤ 100) (s : S) : m_is_word k [.tup [.int p, R]] s = .ok (.bl (isWd p ns)) s := by
  unfold isWd
  by_cases h0 : 0 ≤ p ∧ (ns.all fun n => decide (0 ≤ n)) = true
  · have hn : ∀ n ∈ ns, 0 ≤ n := fun n h => by simpa using List.all_eq_true.mp h0.2 n h
    refine word_yes hR hl (fun s => nil_row ns hl s) h0.1 hn ?_
    by_cases h9 : 9 < p + ns.sum
    · rw [if_pos h9, if_neg (by omega)]
    · rw [if_neg h9, if_pos ⟨h0.1, h0.2, by omega⟩]
      match ns, hl with
      | [], _ => rfl
      | [a], hl => exact round_is [a] hl s
      | [a, b], _ => rfl
      | a :: b :: c :: r, hl => exact round_is (a :: b :: c :: r) hl s
  · rw [if_neg (fun q => h0 ⟨q.1, q.2.1⟩)]
    refine word_no hR (by simpa using hl) rfl plain_row ?_
    have e : (ns.map D.int).all cnt = ns.all fun n => decide (0 ≤ n) := by rw [List.all_map]; rfl
    have e2 : cnt (D.int p) = decide (0 ≤ p) := rfl
    rw [e, e2]
    cases h1 : (ns.all fun n => decide (0 ≤ n))
    · simp
    · have : ¬ 0 ≤ p := fun q => h0 ⟨q, h1⟩
      simp [this]
/-! ### comprehensions that change nothing, as plain lists -/
/-- one clause with a test -/
theorem compF {own : List Nat} {mt : D → Pm.Env → Option Pm.Env} {tt : Pm.Env → S → Res Bool} {me : Pm.Env → S → Res D} {env : Pm.Env} {s : S} {α : Type} {q : α → Bool} {f : α → D} {c : α → D} : ∀ (xs : List α), (∀ x ∈ xs, ∃ e1, mt (c x) (wipeE env own) = some e1 ∧ tt e1 s = .ok (q x) s ∧ (q x = true → me e1 s = .ok (f x) s)) → compL own mt tt me (xs.map c) env s = .ok ((xs.filter q).map f) s
  | [], _ => rfl
  | x :: xs, H => by
    obtain ⟨e1, h1, h2, h3⟩ := H x (by simp)
    have ih := compF xs fun y hy => H y (by simp [hy])
    cases hq : q x
    · rw [hq] at h2
      simp [compL, h1, noexn, h2, ih, hq]
    · rw [hq] at h2
      have h3 := h3 hq
      simp [compL, h1, noexn, h2, h3, ih, hq]
/-- two clauses without tests -/
theorem comp22 {own vs1 : List Nat} {mt mt1 : D → Pm.Env → Option Pm.Env} {mi1 : Pm.Env → S → Res (List D)} {me : Pm.Env → S → Res D} {env : Pm.Env} {s : S} {α β : Type} {c : α → D} {c1 : β → D} {g : α → List β} {f : α → β → D} : ∀ (xs : List α), (∀ x ∈ xs, ∃ e1, mt (c x) (wipeE env own) = some e1 ∧ mi1 e1 s = .ok ((g x).map c1) s ∧ (g x).length ≤ 40000 ∧ ∀ y ∈ g x, ∃ e2, mt1 (c1 y) (wipeE e1 vs1) = some e2 ∧ me e2 s = .ok (f x y) s) →
    compL2 own vs1 mt mYes mi1 mt1 mYes me (xs.map c) env s = .ok (xs.flatMap fun x => (g x).map (f x)) s
  | [], _ => rfl
  | x :: xs, H => by
    obtain ⟨e1, h1, h2, hl, h3⟩ := H x (by simp)
    have ih := comp22 xs fun y hy => H y (by simp [hy])
    have h4 := compF (own := vs1) (mt := mt1) (tt := mYes) (me := me) (env := e1) (s := s) (q := fun _ => true) (f := f x) (c := c1) (g x) fun y hy => by
      obtain ⟨e2, k1, k2⟩ := h3 y hy
      exact ⟨e2, k1, rfl, fun _ => k2⟩
    have hl' : ((g x).map c1).length ≤ few2 := by simpa [few2] using hl
    have e : (g x).filter (fun _ => true) = g x := List.filter_eq_self.mpr fun _ _ => rfl
    rw [e] at h4
    simp only [List.map_cons, compL2, h1, mYes, noexn, Res.bind_ok, if_true, h2, if_pos hl', h4, ih, List.flatMap_cons]
theorem comp2P {own vs1 : List Nat} {mi : Pm.Env → S → Res (List D)} {mt mt1 : D → Pm.Env → Option Pm.Env} {mi1 : Pm.Env → S → Res (List D)} {me : Pm.Env → S → Res D} {env : Pm.Env} {s : S} {α β : Type} {c : α → D} {c1 : β → D} {g : α → List β} {f : α → β → D} (xs : List α) (hi : mi env s = .ok (xs.map c) s) (hl : xs.length ≤ 400)
    (H : ∀ x ∈ xs, ∃ e1, mt (c x) (wipeE env own) = some e1 ∧ mi1 e1 s = .ok ((g x).map c1) s ∧ (g x).length ≤ 40000 ∧ ∀ y ∈ g x, ∃ e2, mt1 (c1 y) (wipeE e1 vs1) = some e2 ∧ me e2 s = .ok (f x y) s) :
    mComp2 own vs1 mi mt mYes mi1 mt1 mYes me env s = .ok (.lst (xs.flatMap fun x => (g x).map (f x))) s := by
  have e := comp22 (own := own) xs H
  have hl' : (xs.map c).length ≤ few1 := by simpa [few1] using hl
  simp only [mComp2, hi, Res.bind_ok, if_pos hl', e, finL]
theorem comp1P {own : List Nat} {mi : Pm.Env → S → Res (List D)} {mt : D → Pm.Env → Option Pm.Env} {tt : Pm.Env → S → Res Bool} {me : Pm.Env → S → Res D} {env : Pm.Env} {s : S} {α : Type} {q : α → Bool} {f : α → D} {c : α → D} (xs : List α) (hi : mi env s = .ok (xs.map c) s) (hl : xs.length ≤ 1000000)
    (H : ∀ x ∈ xs, ∃ e1, mt (c x) (wipeE env own) = some e1 ∧ tt e1 s = .ok (q x) s ∧ (q x = true → me e1 s = .ok (f x) s)) : mCompF finL own mi mt tt me env s = .ok (.lst ((xs.filter q).map f)) s := by
  have e := compF (own := own) xs H
  have hl' : (xs.map c).length ≤ line := by rw [List.length_map]; unfold line; omega
  simp only [mCompF, hi, Res.bind_ok, if_pos hl', e, finL]
end Wd
set_option Elab.async false
set_option linter.all false
set_option maxRecDepth 100000
set_option maxHeartbeats 400000
set_option exponentiation.threshold 5000
namespace Wd
open Pm PySem
variable {k : Nat}
/-! ### candidates, as plain lists -/
def partsN : Nat → Nat → List (List Int)
  | _, 0 => []
  | t, 1 => [[Int.ofNat t]]
  | t, m + 2 => (List.range (t - (m + 1))).flatMap fun i => (partsN (t - (i + 1)) (m + 1)).map fun r => Int.ofNat (i + 1) :: r
def stepH (hs : List (List Int)) (m : Int) : List (List Int) := hs.flatMap fun h => (List.range (m + 1).toNat).map fun (i : Nat) => h ++ [0 + (i : Int)]
def roundOf (sums h : List Int) : List Int := h ++ (sums.zip h).map fun x => x.1 - x.2
def roundsW (sums : List Int) : List (List Int) := (sums.foldl stepH [[]]).map (roundOf sums)
def sumsN (t : Nat) : List (List Int) := (List.range (t - 1)).flatMap fun i => partsN t (2 + i)
def roundsN (t : Nat) : List (List Int) := (sumsN t).flatMap roundsW
def candP (m e : Nat) : List Wd := if e = 0 then [(Int.ofNat m, [])] else if e = 1 then
    (List.range m).flatMap fun o => (List.range (m - o + 1)).map fun i => (Int.ofNat m - Int.ofNat i - Int.ofNat o, [Int.ofNat i, Int.ofNat o])
  else (List.range m).flatMap fun b => (roundsN (m - b)).map fun r => ((b : Int), r)
def ce0 : List (Nat × Nat) := (List.range 8).flatMap fun i => [(i + 2, 0), (i + 2, 1)]
set_option maxHeartbeats 0 in
theorem cand0_ok (s : S) : (ce0.map fun x => m_candidates k [.int (Int.ofNat x.1), .int (Int.ofNat x.2)] s) = ce0.map fun x => .ok (.lst ((candP x.1 x.2).map wordD)) s := by kernel_rfl
/-- sums of up to 7 in two parts and more -/
def tm : List (Nat × Nat) := (List.range 8).flatMap fun t => (List.range (t - 1)).map fun i => (t, 2 + i)
set_option maxHeartbeats 0 in
theorem parts_ok (s : S) : (tm.map fun x => m_parts_of k [.int (Int.ofNat x.1), .int (Int.ofNat x.2)] s) = tm.map fun x => .ok (.lst ((partsN x.1 x.2).map rowD)) s := by kernel_rfl
def bnd : List (List Int) → List Int → Bool
  | hs, [] => decide (hs.length ≤ 400) && hs.all fun h => decide (h.length ≤ 100)
  | hs, m :: ms => decide (hs.length ≤ 400) && decide (0 ≤ m ∧ m ≤ 100) && (hs.all fun h => decide (h.length ≤ 100)) && bnd (stepH hs m) ms
def stepB : Pm.Env → S → Res Fl := (sSet 1 (mComp2 [3, 4] [4] (iLT (mVar 1)) (tName 3) mYes (iR1 (aCons (m2 addAll (mVar 2) (mC (.int 1))) aNil)) (tName 4) mYes (mLst (aStar (mVar 3) (aCons (mVar 4) aNil)))))
theorem seqRow (ns : List Int) (s : S) : seqOf s (rowD ns) = some (ns.map D.int) := rfl
theorem step_ok (hs : List (List Int)) (m : Int) (hl : hs.length ≤ 400) (hm : 0 ≤ m ∧ m ≤ 100) (hh : ∀ h ∈ hs, h.length ≤ 100) (x y z : Option D) (s : S) : stepB [x, some (.lst (hs.map rowD)), some (.int m), y, z] s = .ok (.nx [x, some (.lst ((stepH hs m).map rowD)), some (.int m), y, z]) s := by
  refine setP (i := 1) ?_
  have e := comp2P (own := [3, 4]) (vs1 := [4]) (mi := iLT (mVar 1)) (mt := tName 3) (mt1 := tName 4) (mi1 := iR1 (aCons (m2 addAll (mVar 2) (mC (.int 1))) aNil)) (me := mLst (aStar (mVar 3) (aCons (mVar 4) aNil))) (env := [x, some (.lst (hs.map rowD)), some (.int m), y, z]) (s := s)
    (c := rowD) (c1 := fun i : Nat => D.int (0 + (i : Int))) (g := fun _ => List.range (m + 1).toNat) (f := fun h i => rowD (h ++ [0 + (i : Int)])) hs (iLT_lst (by simp [mVar])) hl fun h hh' => by
      refine ⟨[x, some (.lst (hs.map rowD)), some (.int m), some (rowD h), none], rfl, ?_, by simp; omega, fun i _ => ⟨[x, some (.lst (hs.map rowD)), some (.int m), some (rowD h), some (.int (0 + (i : Int)))], rfl, ?_⟩⟩
      · have hj : (-rLim ≤ m + 1 ∧ m + 1 ≤ rLim) := by unfold rLim; omega
        simp only [iR1, aCons, aNil, m2, mVar, mC, List.getElem?_cons_zero, List.getElem?_cons_succ, Res.bind_ok, addP, decide_eq_true hj, if_true]
        rfl
      · have hz : (h.map D.int ++ [D.int (0 + (i : Int))]).length ≤ 16000000 := by
          have := hh h hh'
          simp; omega
        simp only [mLst, aStar, aCons, aNil, mVar, List.getElem?_cons_zero, List.getElem?_cons_succ, Res.bind_ok, seqRow]
        rw [newS hz]
        simp [rowD]
  rw [e]
  simp only [stepH, List.map_flatMap, List.map_map]
  rfl
theorem loop_ok (x y z : Option D) (s : S) : ∀ (ms : List Int) (hs : List (List Int)) (q : Option D), bnd hs ms = true → ∃ q', forL (tName 2) stepB (ms.map D.int) [x, some (.lst (hs.map rowD)), q, y, z] s = .ok (.nx [x, some (.lst ((ms.foldl stepH hs).map rowD)), q', y, z]) s
  | [], hs, q, _ => ⟨q, rfl⟩
  | m :: ms, hs, q, h => by
    simp only [bnd, Bool.and_eq_true, decide_eq_true_eq, List.all_eq_true] at h
    obtain ⟨⟨⟨h1, h2⟩, h3⟩, h4⟩ := h
    have e := step_ok hs m h1 h2 h3 x y z s
    obtain ⟨q', ih⟩ := loop_ok x y z s ms (stepH hs m) (some (.int m)) h4
    refine ⟨q', ?_⟩
    simp only [List.map_cons, forL, tName, List.set, e, Res.bind_ok, ih, List.foldl_cons]
theorem bnd_end : ∀ (ms : List Int) (hs : List (List Int)), bnd hs ms = true → (ms.foldl stepH hs).length ≤ 400 ∧ ∀ h ∈ ms.foldl stepH hs, h.length ≤ 100
  | [], hs, h => by simpa [bnd] using h
  | m :: ms, hs, h => by
    simp only [bnd, Bool.and_eq_true] at h
    exact bnd_end ms (stepH hs m) h.2
theorem zip_ints : ∀ (a b : List Int), zipD (a.map D.int) (b.map D.int) = (a.zip b).map fun x => D.tup [.int x.1, .int x.2]
  | [], b => by cases b <;> simp [zipD]
  | x :: a, [] => by simp [zipD]
  | x :: a, y :: b => by simp [zipD, zip_ints a b]
def prodN : List Int → Nat
  | [] => 1
  | m :: ms => (m + 1).toNat * prodN ms
theorem flat_len {α β : Type} (f : α → List β) (n : Nat) : ∀ xs : List α, (∀ x ∈ xs, (f x).length = n) → (xs.flatMap f).length = xs.length * n
  | [], _ => by simp
  | x :: xs, h => by
    have ih := flat_len f n xs fun y hy => h y (by simp [hy])
    rw [List.flatMap_cons, List.length_append, ih, h x (by simp), List.length_cons, Nat.add_mul]
    omega
theorem step_len (hs : List (List Int)) (m : Int) : (stepH hs m).length = hs.length * (m + 1).toNat := by
  unfold stepH
  exact flat_len _ _ hs fun h _ => by simp
theorem prodN_pos : ∀ ms : List Int, (∀ m ∈ ms, 0 ≤ m ∧ m ≤ 100) → 1 ≤ prodN ms
  | [], _ => Nat.le_refl 1
  | m :: ms, h => by
    have h1 := prodN_pos ms fun x hx => h x (by simp [hx])
    have h2 := h m (by simp)
    have h3 : 1 ≤ (m + 1).toNat := by omega
    unfold prodN
    exact Nat.mul_le_mul h3 h1
theorem bnd_of : ∀ (ms : List Int) (hs : List (List Int)) (L : Nat), (∀ m ∈ ms, 0 ≤ m ∧ m ≤ 100) → hs.length * prodN ms ≤ 400 → (∀ h ∈ hs, h.length ≤ L) → L + ms.length ≤ 100 → bnd hs ms = true ∧ (ms.foldl stepH hs).length = hs.length * prodN ms
  | [], hs, L, _, h2, h3, h4 => by
    refine ⟨?_, by simp [prodN]⟩
    simp only [bnd, Bool.and_eq_true, decide_eq_true_eq, List.all_eq_true]
    simp only [prodN] at h2
    simp only [List.length_nil] at h4
    exact ⟨by omega, fun h hh => by have := h3 h hh; omega⟩
  | m :: ms, hs, L, h1, h2, h3, h4 => by
    simp only [List.length_cons] at h4
    have hm := h1 m (by simp)
    have h1' : ∀ x ∈ ms, 0 ≤ x ∧ x ≤ 100 := fun x hx => h1 x (by simp [hx])
    have hp := prodN_pos ms h1'
    have hp2 := prodN_pos (m :: ms) h1
    have e := step_len hs m
    have e2 : (stepH hs m).length * prodN ms = hs.length * prodN (m :: ms) := by
      rw [e]
      simp only [prodN, Nat.mul_assoc]
    have ih := bnd_of ms (stepH hs m) (L + 1) h1' (by rw [e2]; exact h2) (fun h hh => by
      simp only [stepH, List.mem_flatMap, List.mem_map] at hh
      obtain ⟨x, hx, i, _, rfl⟩ := hh
      have := h3 x hx
      simp; omega) (by omega)
    have hl : hs.length ≤ 400 := Nat.le_trans (by have := Nat.mul_le_mul_left hs.length hp2; omega) h2
    refine ⟨?_, by rw [List.foldl_cons, ih.2, e2]⟩
    simp only [bnd, Bool.and_eq_true, decide_eq_true_eq, List.all_eq_true]
    exact ⟨⟨⟨hl, hm⟩, fun h hh => by have := h3 h hh; omega⟩, ih.1⟩
theorem rounds_with_ok {sums : List Int} (hb : bnd [[]] sums = true) (hl : sums.length ≤ 100) (s : S) : m_rounds_with k [rowD sums] s = .ok (.lst ((roundsW sums).map rowD)) s := by
  obtain ⟨q', el⟩ := loop_ok (some (rowD sums)) none none s sums [[]] none hb
  obtain ⟨b1, b2⟩ := bnd_end sums [[]] hb
  have t1 : sSet 1 (mLst (aCons (mLst aNil) aNil)) [some (rowD sums), none, none, none, none] s = .ok (.nx [some (rowD sums), some (.lst ([([] : List Int)].map rowD)), none, none, none]) s := rfl
  have t2 : sFor (iLT (mVar 0)) (tName 2) stepB [some (rowD sums), some (.lst ([([] : List Int)].map rowD)), none, none, none] s = .ok (.nx [some (rowD sums), some (.lst ((sums.foldl stepH [[]]).map rowD)), q', none, none]) s := by
    have e : iLT (mVar 0) [some (rowD sums), some (.lst ([([] : List Int)].map rowD)), none, none, none] s = .ok (sums.map D.int) s := iLT_lst (by simp [mVar, rowD])
    unfold sFor
    rw [e]
    exact el
  have t3 := comp1P (own := [3]) (mi := iLT (mVar 1)) (mt := tName 3) (tt := mYes) (me := (m2 addAll (mVar 3) (mCompF finL [2, 4] (iZipM (aCons (mVar 0) (aCons (mVar 3) aNil))) (tTup 2 (tCons (tName 2) (tCons (tName 4) tNil))) mYes (m2 subI (mVar 2) (mVar 4))))) (env := [some (rowD sums), some (.lst ((sums.foldl stepH [[]]).map rowD)), q', none, none]) (s := s)
    (q := fun _ => true) (c := rowD) (f := fun h => rowD (roundOf sums h)) (sums.foldl stepH [[]]) (iLT_lst (by simp [mVar])) (by omega) fun h hh => by
      refine ⟨[some (rowD sums), some (.lst ((sums.foldl stepH [[]]).map rowD)), q', some (rowD h), none], rfl, rfl, fun _ => ?_⟩
      have hhl := b2 h hh
      have z1 : zipF [rowD sums, rowD h] s = .ok ((sums.zip h).map fun x => D.tup [.int x.1, .int x.2]) s := by
        show Res.ok (zipD (sums.map D.int) (h.map D.int)) s = _
        rw [zip_ints]
      have e0 : iZipM (aCons (mVar 0) (aCons (mVar 3) aNil)) [some (rowD sums), some (.lst ((sums.foldl stepH [[]]).map rowD)), q', some (rowD h), none] s = .ok ((sums.zip h).map fun x => D.tup [.int x.1, .int x.2]) s := by
        simp only [iZipM, aCons, aNil, mVar, List.getElem?_cons_zero, List.getElem?_cons_succ, Res.bind_ok, z1]
      have e := comp1P (own := [2, 4]) (mi := iZipM (aCons (mVar 0) (aCons (mVar 3) aNil))) (mt := tTup 2 (tCons (tName 2) (tCons (tName 4) tNil))) (tt := mYes) (me := m2 subI (mVar 2) (mVar 4)) (env := [some (rowD sums), some (.lst ((sums.foldl stepH [[]]).map rowD)), q', some (rowD h), none]) (s := s)
        (q := fun _ => true) (c := fun x : Int × Int => D.tup [.int x.1, .int x.2]) (f := fun x : Int × Int => D.int (x.1 - x.2)) (sums.zip h) e0 (by simp; omega) fun x _ =>
          ⟨[some (rowD sums), some (.lst ((sums.foldl stepH [[]]).map rowD)), some (.int x.1), some (rowD h), some (.int x.2)], rfl, rfl, fun _ => by simp [m2, mVar, subP]⟩
      have ef : (sums.zip h).filter (fun _ => true) = sums.zip h := List.filter_eq_self.mpr fun _ _ => rfl
      rw [ef] at e
      have hv : mVar 3 [some (rowD sums), some (.lst ((sums.foldl stepH [[]]).map rowD)), q', some (rowD h), none] s = .ok (rowD h) s := rfl
      have a1 : addI (rowD h) (.lst ((sums.zip h).map fun x => D.int (x.1 - x.2))) s = .stuck := rfl
      have a2 : catL (rowD h) (.lst ((sums.zip h).map fun x => D.int (x.1 - x.2))) s = .ok (rowD (roundOf sums h)) s := by
        simp only [catL, rowD]
        rw [newS (by simp; omega)]
        simp [roundOf]
      simp only [m2, hv, Res.bind_ok] at e ⊢
      rw [e]
      simp only [Res.bind_ok, addAll, addD, a1, a2, Res.or]
  have ef : (sums.foldl stepH [[]]).filter (fun _ => true) = sums.foldl stepH [[]] := List.filter_eq_self.mpr fun _ _ => rfl
  rw [ef] at t3
  unfold m_rounds_with
  refine runP1 ((seqP t1).trans ((seqP t2).trans (retP ?_)))
  rw [t3]
  simp only [roundsW, List.map_map]
  rfl
end Wd
set_option Elab.async false
set_option linter.all false
set_option maxRecDepth 100000
set_option maxHeartbeats 400000
set_option exponentiation.threshold 5000
namespace Wd
open Pm PySem
variable {k : Nat}
/-- over `z`, not over a `Nat`: the kernel would count up to the limit -/
theorem r2_ok {z : Int} (hz : 0 ≤ z ∧ z ≤ 7) (E : Pm.Env) (s : S) : iR2 (aCons (mC (.int 2)) (aCons (m2 addAll (mVar 0) (mC (.int 1))) aNil)) (some (.int z) :: E) s = .ok (rangeD 2 (z + 1 - 2).toNat) s := by
  have hj : (-rLim ≤ (2 : Int) ∧ (2 : Int) ≤ rLim ∧ -rLim ≤ z + 1 ∧ z + 1 ≤ rLim) := by unfold rLim; omega
  simp only [iR2, aCons, aNil, m2, mVar, mC, List.getElem?_cons_zero, Res.bind_ok, addP, decide_eq_true hj, if_true]
theorem r1_ok {z : Int} (hz : 0 ≤ z ∧ z ≤ 7) (E : Pm.Env) (s : S) : iR1 (aCons (mVar 0) aNil) (some (.int z) :: E) s = .ok (rangeD 0 z.toNat) s := by
  have hj : (-rLim ≤ z ∧ z ≤ rLim) := by unfold rLim; omega
  simp only [iR1, aCons, aNil, mVar, List.getElem?_cons_zero, Res.bind_ok, decide_eq_true hj, if_true]
/-- all sums of up to 7 stay small -/
theorem sums_small : ((List.range 8).all fun t => decide ((sumsN t).length ≤ 400) && (sumsN t).all fun x => (x.all fun m => decide (0 ≤ m ∧ m ≤ 100)) && decide (x.length ≤ 100) && decide (prodN x ≤ 400)) = true := by decide +kernel
theorem roundsW_len {x : List Int} (h1 : ∀ m ∈ x, 0 ≤ m ∧ m ≤ 100) (h2 : prodN x ≤ 400) (h3 : x.length ≤ 100) : bnd [[]] x = true ∧ (roundsW x).length = prodN x := by
  have h := bnd_of x [[]] 0 h1 (by simpa using h2) (by simp) (by omega)
  refine ⟨h.1, ?_⟩
  unfold roundsW
  rw [List.length_map, h.2]
  simp
theorem roundsN_len (t : Nat) (ht : t ≤ 7) : (roundsN t).length ≤ 40000 := by
  have hs := List.all_eq_true.mp sums_small t (List.mem_range.mpr (by omega))
  simp only [Bool.and_eq_true, decide_eq_true_eq, List.all_eq_true] at hs
  obtain ⟨hl, hs⟩ := hs
  have e : (roundsN t).length = ((sumsN t).map prodN).sum := by
    unfold roundsN
    rw [List.length_flatMap]
    congr 1
    refine List.map_congr_left fun x hx => ?_
    obtain ⟨⟨x1, x2⟩, x3⟩ := hs x hx
    exact (roundsW_len x1 x3 x2).2
  have f : ((List.range 8).all fun t => decide (((sumsN t).map prodN).sum ≤ 40000)) = true := by decide +kernel
  have := List.all_eq_true.mp f t (List.mem_range.mpr (by omega))
  rw [e]
  simpa using this
theorem rounds_of_ok {t : Nat} (ht : t ≤ 7) (s : S) : m_rounds_of k [.int (t : Int)] s = .ok (.lst ((roundsN t).map rowD)) s := by
  have hs := List.all_eq_true.mp sums_small t (List.mem_range.mpr (by omega))
  simp only [Bool.and_eq_true, decide_eq_true_eq, List.all_eq_true] at hs
  obtain ⟨hl, hs⟩ := hs
  have e1 := comp2P (own := [2, 3]) (vs1 := [3]) (mi := iR2 (aCons (mC (.int 2)) (aCons (m2 addAll (mVar 0) (mC (.int 1))) aNil))) (mt := tName 2) (mt1 := tName 3) (mi1 := iLT (mCallD (n := 2) [] (m_parts_of k) (aCons (mVar 0) (aCons (mVar 2) aNil)))) (me := mVar 3) (env := [some (.int (t : Int)), none, none, none, none]) (s := s)
    (c := fun i : Nat => D.int (2 + (i : Int))) (c1 := rowD) (g := fun i => partsN t (2 + i)) (f := fun _ r => rowD r) (List.range (t - 1)) (by
      have e := r2_ok (z := (t : Int)) (by omega) [none, none, none, none] s
      have : ((t : Int) + 1 - 2).toNat = t - 1 := by omega
      rw [this] at e
      exact e) (by simp; omega) fun i hi => by
      have hi := List.mem_range.mp hi
      have hm : (t, 2 + i) ∈ tm := List.mem_flatMap.mpr ⟨t, List.mem_range.mpr (by omega), List.mem_map.mpr ⟨i, List.mem_range.mpr hi, rfl⟩⟩
      have ep := eqOf (parts_ok (k := k) s) hm
      have hpl : (partsN t (2 + i)).length ≤ 40000 := by
        have h0 : (tm.all fun x => decide ((partsN x.1 x.2).length ≤ 40000)) = true := by decide +kernel
        simpa using List.all_eq_true.mp h0 _ hm
      refine ⟨[some (.int (t : Int)), none, some (.int (2 + (i : Int))), none, none], rfl, iLT_lst ?_, hpl, fun r _ => ⟨[some (.int (t : Int)), none, some (.int (2 + (i : Int))), some (rowD r), none], rfl, rfl⟩⟩
      have ep' : m_parts_of k [.int (t : Int), .int (2 + (i : Int))] s = .ok (.lst ((partsN t (2 + i)).map rowD)) s := by
        have : (2 + (i : Int)) = Int.ofNat (2 + i) := by simp only [Int.ofNat_eq_natCast]; omega
        rw [this]
        exact ep
      simp [mCallD, aCons, aNil, mVar, ep']
  have hsn : ((List.range (t - 1)).flatMap fun i => (partsN t (2 + i)).map fun r => rowD r) = (sumsN t).map rowD := by
    unfold sumsN
    rw [List.map_flatMap]
  rw [hsn] at e1
  have e2 := comp2P (own := [3, 4]) (vs1 := [4]) (mi := iLT (mVar 1)) (mt := tName 3) (mt1 := tName 4) (mi1 := iLT (mCallD (n := 1) [] (m_rounds_with k) (aCons (mVar 3) aNil))) (me := mVar 4) (env := [some (.int (t : Int)), some (.lst ((sumsN t).map rowD)), none, none, none]) (s := s)
    (c := rowD) (c1 := rowD) (g := roundsW) (f := fun _ r => rowD r) (sumsN t) (iLT_lst (by simp [mVar])) hl fun x hx => by
      obtain ⟨⟨x1, x2⟩, x3⟩ := hs x hx
      obtain ⟨w1, w2⟩ := roundsW_len x1 x3 x2
      have ew := rounds_with_ok (k := k) w1 x2 s
      exact ⟨[some (.int (t : Int)), some (.lst ((sumsN t).map rowD)), none, some (rowD x), none], rfl, iLT_lst (by simp [mCallD, aCons, aNil, mVar, ew]), by omega, fun r _ => ⟨[some (.int (t : Int)), some (.lst ((sumsN t).map rowD)), none, some (rowD x), some (rowD r)], rfl, rfl⟩⟩
  unfold m_rounds_of
  refine runP1 ((seqP (setP (i := 1) e1)).trans (retP ?_))
  refine Eq.trans e2 ?_
  simp only [roundsN, List.map_flatMap]
end Wd
set_option Elab.async false
set_option linter.all false
set_option maxRecDepth 100000
set_option maxHeartbeats 400000
set_option exponentiation.threshold 5000
namespace Wd
open Pm PySem
variable {k : Nat}
theorem cand_end (d r : D) {s : S} (e : mComp2 [4, 5] [5] (iR1 (aCons (mVar 0) aNil)) (tName 4) mYes (iLT (mCallD (n := 1) [] (m_rounds_of k) (aCons (m2 subI (mVar 0) (mVar 4)) aNil))) (tName 5) mYes (mTup (aCons (mVar 4) (aCons (mVar 5) aNil))) [some d, some (.int 2), none, none, none, none] s = .ok r s) : m_candidates k [d, .int 2] s = .ok r s := by
  have e0 : m2 (eqP false) (mVar 1) (mC (.int 0)) [some d, some (.int 2), none, none, none, none] s = .ok (.bl false) s := rfl
  have e1 : m2 (eqP false) (mVar 1) (mC (.int 1)) [some d, some (.int 2), none, none, none, none] s = .ok (.bl false) s := rfl
  unfold m_candidates
  refine runP2 ?_
  unfold b_candidates
  refine (seqP (e1 := [some d, some (.int 2), none, none, none, none]) (s1 := s) (by simp [sIf, mB, e0, sNext])).trans ((seqP (e1 := [some d, some (.int 2), none, none, none, none]) (s1 := s) (by simp [sIf, mB, e1, sNext])).trans (retP e))
theorem sub_ok (z w : Int) (a b c d : Option D) (s : S) : m2 subI (mVar 0) (mVar 4) [some (.int z), a, b, c, some (.int w), d] s = .ok (.int (z - w)) s := by simp [m2, mVar, subP]
theorem call1_ok {f : List D → S → Res D} {me : Pm.Env → S → Res D} {E : Pm.Env} {s : S} {d r : D} (h : me E s = .ok d s) (hf : f [d] s = .ok r s) : mCallD (n := 1) [] f (aCons me aNil) E s = .ok r s := by
  simp [mCallD, aCons, aNil, h, hf]
theorem cand2_ok {m : Nat} (h2 : 2 ≤ m) (h7 : m ≤ 7) (s : S) : m_candidates k [.int (m : Int), .int 2] s = .ok (.lst ((candP m 2).map wordD)) s := by
  have e := comp2P (own := [4, 5]) (vs1 := [5]) (mi := iR1 (aCons (mVar 0) aNil)) (mt := tName 4) (mt1 := tName 5) (mi1 := iLT (mCallD (n := 1) [] (m_rounds_of k) (aCons (m2 subI (mVar 0) (mVar 4)) aNil))) (me := mTup (aCons (mVar 4) (aCons (mVar 5) aNil))) (env := [some (.int (m : Int)), some (.int 2), none, none, none, none]) (s := s)
    (c := fun i : Nat => D.int (0 + (i : Int))) (c1 := rowD) (g := fun b => roundsN (m - b)) (f := fun b r => wordD ((b : Int), r)) (List.range m) (by
      have e := r1_ok (z := (m : Int)) (by omega) [some (.int 2), none, none, none, none] s
      rw [Int.toNat_natCast] at e
      exact e) (by simp; omega) fun b hb => by
      have hb := List.mem_range.mp hb
      have er := rounds_of_ok (k := k) (t := m - b) (by omega) s
      refine ⟨[some (.int (m : Int)), some (.int 2), none, none, some (.int (0 + (b : Int))), none], rfl, iLT_lst ?_, roundsN_len _ (by omega), fun r _ => ⟨[some (.int (m : Int)), some (.int 2), none, none, some (.int (0 + (b : Int))), some (rowD r)], rfl, ?_⟩⟩
      · have hz : (m : Int) - (0 + (b : Int)) = ((m - b : Nat) : Int) := by omega
        have e0 := sub_ok (m : Int) (0 + (b : Int)) (some (.int 2)) none none none s
        rw [hz] at e0
        exact call1_ok e0 er
      · have z0 : (0 : Int) + (b : Int) = b := by omega
        rw [z0]
        simp [mTup, aCons, aNil, mVar, newT, line, wordD]
  have hc : (List.range m).flatMap (fun b => (roundsN (m - b)).map fun r => wordD ((b : Int), r)) = (candP m 2).map wordD := by
    have : candP m 2 = (List.range m).flatMap fun b => (roundsN (m - b)).map fun r => ((b : Int), r) := by
      unfold candP
      rw [if_neg (by decide), if_neg (by decide)]
    rw [this, List.map_flatMap]
    simp only [List.map_map, Function.comp_def]
  rw [hc] at e
  exact cand_end _ _ e
end Wd
set_option Elab.async false
set_option linter.all false
set_option maxRecDepth 100000
set_option maxHeartbeats 400000
set_option exponentiation.threshold 5000
namespace Wd
open Pm PySem
variable {k : Nat}
def wordsP (m e : Nat) : List Wd := srtW ((candP m e).filter fun x => isWd x.1 x.2)
def ceA : List (Nat × Nat) := ce0 ++ (List.range 6).map fun i => (i + 2, 2)
set_option maxHeartbeats 0 in
theorem cand_len : (ceA.all fun x => decide ((candP x.1 x.2).length ≤ 40000) && (candP x.1 x.2).all fun y => decide (y.2.length ≤ 100)) = true := by decide +kernel
theorem cand_ok {x : Nat × Nat} (h : x ∈ ceA) (s : S) : m_candidates k [.int (Int.ofNat x.1), .int (Int.ofNat x.2)] s = .ok (.lst ((candP x.1 x.2).map wordD)) s := by
  unfold ceA at h
  rcases List.mem_append.mp h with h | h
  · exact eqOf (cand0_ok s) h
  · obtain ⟨i, hi, rfl⟩ := List.mem_map.mp h
    have hi := List.mem_range.mp hi
    exact cand2_ok (m := i + 2) (by omega) (by omega) s
theorem wordsOf_map : ∀ ws : List Wd, Pm.wordsOf (ws.map wordD) = some ws
  | [] => rfl
  | w :: ws => by
    have ih := wordsOf_map ws
    have hi : intsOf (w.2.map D.int) = some w.2 := intsOf_map w.2
    show (match intsOf (w.2.map D.int), Pm.wordsOf (ws.map wordD) with
      | some ns, some ms => some ((w.1, ns) :: ms)
      | _, _ => none) = some (w :: ws)
    rw [ih, hi]
theorem sort_ok (ws : List Wd) (hl : ws.length ≤ 16000000) (s : S) : bSort1 [.lst (ws.map wordD)] s = .ok (.lst ((srtW ws).map wordD)) s := by
  have e2 : bSortW [.lst (ws.map wordD)] s = .ok (.lst ((srtW ws).map wordD)) s := by
    have h := wordsOf_map ws
    have hz : ((srtW ws).map wordD).length ≤ 16000000 := by rw [List.length_map, (srtW_perm ws).length_eq]; exact hl
    simp only [bSortW, lisOf, h]
    exact newS hz
  cases ws with
  | nil => rfl
  | cons w ws =>
    have e1 : bSortI [.lst ((w :: ws).map wordD)] s = .stuck := rfl
    simp only [bSort1, e1, e2, Res.or]
theorem count_int (z : Int) (s : S) : m_is_count k [.int z] s = .ok (.bl (decide (0 ≤ z))) s := count_ok rfl s
theorem many_ok {z a b : Int} (h0 : 0 ≤ z) (h1 : a ≤ z) (h2 : z ≤ b) (s : S) : m_check_many k [.int z, .int a, .int b] s = .ok .non s := by
  have e := count_int (k := k) z s
  rw [decide_eq_true h0] at e
  have e1 : mNotT (mBt (mCallD (n := 1) [] (m_is_count k) (aCons (mVar 0) aNil))) [some (.int z), some (.int a), some (.int b)] s = .ok false s := by
    simp [mNotT, mBt, mCallD, aCons, aNil, mVar, e, truD]
  have e2 : mNotT (mB (mChain leI leI (mVar 1) (mVar 0) (mVar 2))) [some (.int z), some (.int a), some (.int b)] s = .ok false s := by
    simp [mNotT, mB, mChain, mVar, leI, intOp, h1, h2]
  have e3 : b_check_many k [some (.int z), some (.int a), some (.int b)] s = .ok (.nx [some (.int z), some (.int a), some (.int b)]) s := by
    unfold b_check_many
    simp [sIf, mOrT, e1, e2, sNext]
  simp [m_check_many, runBody, e3]
theorem corners_ok {m e : Int} (hm : 2 ≤ m ∧ m ≤ 9) (he : 0 ≤ e ∧ e ≤ 2) (s : S) : m_check_corners_and_excess k [.int m, .int e] s = .ok .non s := by
  have e1 := many_ok (k := k) (z := m) (a := 2) (b := 9) (by omega) hm.1 hm.2 s
  have e2 := many_ok (k := k) (z := e) (a := 0) (b := 2) he.1 he.1 he.2 s
  have h : b_check_corners_and_excess k [some (.int m), some (.int e)] s = .ok (.nx [some (.int m), some (.int e)]) s := by
    unfold b_check_corners_and_excess
    simp [sSeq, sExpr, mCallD, aCons, aNil, mVar, mC, e1, e2]
  simp [m_check_corners_and_excess, runBody, h]
theorem words_ok {m e : Nat} (h : (m, e) ∈ ceA) (hm : 2 ≤ m ∧ m ≤ 9) (he : e ≤ 2) (h7 : e = 2 → m ≤ 7) (s : S) : m_words_of k [.int (Int.ofNat m), .int (Int.ofNat e)] s = .ok (.lst ((wordsP m e).map wordD)) s := by
  have hl := List.all_eq_true.mp cand_len _ h
  simp only [Bool.and_eq_true, decide_eq_true_eq, List.all_eq_true] at hl
  have c1 := corners_ok (k := k) (m := Int.ofNat m) (e := Int.ofNat e) (by simp only [Int.ofNat_eq_natCast]; omega) (by simp only [Int.ofNat_eq_natCast]; omega) s
  have c2 := cand_ok (k := k) h s
  have t1 : sExpr (mCallD (n := 2) [] (m_check_corners_and_excess k) (aCons (mVar 0) (aCons (mVar 1) aNil))) [some (.int (Int.ofNat m)), some (.int (Int.ofNat e)), none] s = .ok (.nx [some (.int (Int.ofNat m)), some (.int (Int.ofNat e)), none]) s := by
    simp only [sExpr, mCallD, aCons, aNil, mVar, List.getElem?_cons_zero, List.getElem?_cons_succ, Res.bind_ok, List.length_cons, List.length_nil, List.append_nil, Nat.zero_add, Nat.add_zero]
    simp only [Nat.reduceAdd, if_true, c1, Res.bind_ok]
  have t2 : sIf (mAndT (mB (m2 (eqP false) (mVar 1) (mC (.int 2)))) (mB (m2 gtI (mVar 0) (mC (.int 7))))) sStuck sNext [some (.int (Int.ofNat m)), some (.int (Int.ofNat e)), none] s = .ok (.nx [some (.int (Int.ofNat m)), some (.int (Int.ofNat e)), none]) s := by
    by_cases h2 : Int.ofNat e = 2
    · have : ¬ (7 < Int.ofNat m) := by
        simp only [Int.ofNat_eq_natCast] at h2 ⊢
        have := h7 (by omega)
        omega
      simp [sIf, mAndT, mB, m2, mVar, mC, eqPi, h2, gtI, intOp, this, sNext]
      simp only [Int.ofNat_eq_natCast] at h2 this
      simp [h2]
      omega
    · have h2' : ¬ ((e : Int) = 2) := h2
      simp [sIf, mAndT, mB, m2, mVar, mC, eqPi, h2', sNext]
  have t3 : mCompF finL [2] (iLT (mCallD (n := 2) [] (m_candidates k) (aCons (mVar 0) (aCons (mVar 1) aNil)))) (tName 2) (mBt (mCallD (n := 1) [] (m_is_word k) (aCons (mVar 2) aNil))) (mVar 2) [some (.int (Int.ofNat m)), some (.int (Int.ofNat e)), none] s = .ok (.lst (((candP m e).filter fun x => isWd x.1 x.2).map wordD)) s := by
    refine comp1P (c := wordD) (candP m e) (iLT_lst ?_) (by omega) fun x hx => ?_
    · simp only [mCallD, aCons, aNil, mVar, List.getElem?_cons_zero, List.getElem?_cons_succ, Res.bind_ok, List.length_cons, List.length_nil, List.append_nil, Nat.zero_add, Nat.add_zero]
      simp only [Nat.reduceAdd, if_true, c2, Res.bind_ok]
    · refine ⟨[some (.int (Int.ofNat m)), some (.int (Int.ofNat e)), some (wordD x)], rfl, ?_, fun _ => rfl⟩
      have w := is_word_ok (k := k) (p := x.1) (R := rowD x.2) (ns := x.2) (.inl rfl) (hl.2 x hx) s
      have w' : m_is_word k [wordD x] s = .ok (.bl (isWd x.1 x.2)) s := w
      simp only [mBt, mCallD, aCons, aNil, mVar, List.getElem?_cons_zero, List.getElem?_cons_succ, Res.bind_ok, List.length_cons, List.length_nil, List.append_nil, Nat.zero_add, Nat.add_zero]
      simp only [if_true, w', Res.bind_ok]
      cases isWd x.1 x.2 <;> rfl
  have hf : ((candP m e).filter fun x => isWd x.1 x.2).length ≤ 16000000 := Nat.le_trans (List.length_filter_le _ _) (by omega)
  unfold m_words_of
  refine runP2 ((seqP t1).trans ((seqP t2).trans (retP ?_)))
  simp only [mCall, aCons, aNil, t3, Res.bind_ok]
  exact sort_ok _ hf s
end Wd
set_option Elab.async false
set_option linter.all false
set_option maxRecDepth 100000
set_option maxHeartbeats 400000
set_option exponentiation.threshold 5000
namespace Wd
open Pm PySem
def wtab : Nat → List Wd
  | 5 => [(0, [0, 1, 0, 1, 0, 1, 0, 1, 0, 1])]
  | 6 => [(0, [0, 1, 0, 1, 0, 1, 0, 1, 0, 2]), (0, [0, 1, 0, 1, 0, 1, 0, 1, 1, 1]), (0, [0, 1, 1, 0, 1, 1, 0, 2]), (0, [0, 1, 1, 0, 1, 1, 1, 1]), (0, [0, 2, 0, 2, 0, 2]), (0, [1, 1, 1, 1, 1, 1]), (1, [0, 1, 0, 1, 0, 1, 0, 1, 0, 1])]
  | 7 => [(0, [0, 1, 0, 1, 0, 1, 0, 1, 0, 1, 0, 1, 0, 1]), (0, [0, 1, 0, 1, 0, 1, 0, 1, 0, 3]), (0, [0, 1, 0, 1, 0, 1, 0, 1, 1, 2]), (0, [0, 1, 0, 1, 0, 1, 0, 1, 2, 1]), (0, [0, 1, 0, 1, 0, 1, 0, 2, 0, 2]), (0, [0, 1, 0, 1, 0, 1, 1, 0, 1, 0, 1, 1]), (0, [0, 1, 0, 1, 0, 1, 1, 1, 0, 2]), (0, [0, 1, 0, 1, 0, 1, 1, 1, 1, 1]), (0, [0, 1, 0, 1, 0, 2, 0, 1, 0, 2]), (0, [0, 1, 0, 1, 1, 1, 0, 1, 0, 2]), (0, [0, 1, 0, 1, 1, 1, 0, 1, 1, 1]), (0, [0, 1, 1, 0, 1, 1, 0, 1, 1, 1]), (0, [0, 1, 1, 0, 1, 1, 0, 3]), (0, [0, 1, 1, 0, 1, 1, 1, 2]), (0, [0, 1, 1, 0, 1, 1, 2, 1]), (0, [0, 1, 1, 0, 1, 2, 0, 2]), (0, [0, 1, 1, 0, 2, 0, 1, 2]), (0, [0, 1, 1, 1, 1, 0, 1, 2]), (0, [0, 1, 1, 1, 1, 1, 0, 2]), (0, [0, 1, 1, 1, 1, 1, 1, 1]), (0, [0, 2, 0, 2, 0, 3]), (0, [0, 2, 0, 2, 1, 2]), (0, [0, 2, 1, 1, 1, 2]), (0, [1, 1, 1, 1, 1, 2]), (1, [0, 1, 0, 1, 0, 1, 0, 1, 0, 2]), (1, [0, 1, 0, 1, 0, 1, 0, 1, 1, 1]), (1, [0, 1, 1, 0, 1, 1, 0, 2]), (1, [0, 1, 1, 0, 1, 1, 1, 1]), (1, [0, 2, 0, 2, 0, 2]), (1, [1, 1, 1, 1, 1, 1]), (2, [0, 1, 0, 1, 0, 1, 0, 1, 0, 1])]
  | _ => []
def piece (i : Nat) : List (List Int) := ((partsN 7 (2 + i)).flatMap roundsW).filter fun r => isWd 0 r
set_option maxHeartbeats 0 in
theorem piece0 : piece 0 = [] := by decide +kernel
set_option maxHeartbeats 0 in
theorem piece1 : piece 1 = [[0, 2, 1, 1, 1, 2], [0, 2, 0, 2, 0, 3], [1, 1, 1, 1, 1, 2], [0, 2, 0, 2, 1, 2]] := by decide +kernel
set_option maxHeartbeats 0 in
theorem piece2 : piece 2 = [[0, 1, 1, 1, 1, 0, 1, 2], [0, 1, 1, 0, 1, 1, 0, 3], [0, 1, 1, 1, 1, 1, 0, 2], [0, 1, 1, 0, 1, 1, 1, 2], [0, 1, 1, 1, 1, 1, 1, 1], [0, 1, 1, 0, 1, 1, 2, 1], [0, 1, 1, 0, 1, 2, 0, 2], [0, 1, 1, 0, 2, 0, 1, 2]] := by decide +kernel
set_option maxHeartbeats 0 in
theorem piece3 : piece 3 = [[0, 1, 0, 1, 0, 1, 0, 1, 0, 3], [0, 1, 0, 1, 1, 1, 0, 1, 0, 2], [0, 1, 0, 1, 0, 1, 0, 1, 1, 2], [0, 1, 0, 1, 1, 1, 0, 1, 1, 1], [0, 1, 0, 1, 0, 1, 0, 1, 2, 1], [0, 1, 0, 1, 0, 1, 0, 2, 0, 2], [0, 1, 1, 0, 1, 1, 0, 1, 1, 1], [0, 1, 0, 1, 0, 1, 1, 1, 0, 2], [0, 1, 0, 1, 0, 1, 1, 1, 1, 1], [0, 1, 0, 1, 0, 2, 0, 1, 0, 2]] := by decide +kernel
set_option maxHeartbeats 0 in
theorem piece4 : piece 4 = [[0, 1, 0, 1, 0, 1, 1, 0, 1, 0, 1, 1]] := by decide +kernel
set_option maxHeartbeats 0 in
theorem piece5 : piece 5 = [[0, 1, 0, 1, 0, 1, 0, 1, 0, 1, 0, 1, 0, 1]] := by decide +kernel
def isQ (x : Wd) : Bool := isWd x.1 x.2
def col (m b : Nat) : List Wd := ((roundsN (m - b)).map fun r => ((b : Int), r)).filter isQ
set_option maxHeartbeats 0 in
theorem rest7 : (List.range 6).flatMap (fun b => col 7 (b + 1)) = [(1, [0, 2, 0, 2, 0, 2]), (1, [1, 1, 1, 1, 1, 1]), (1, [0, 1, 1, 0, 1, 1, 0, 2]), (1, [0, 1, 1, 0, 1, 1, 1, 1]), (1, [0, 1, 0, 1, 0, 1, 0, 1, 0, 2]), (1, [0, 1, 0, 1, 0, 1, 0, 1, 1, 1]), (2, [0, 1, 0, 1, 0, 1, 0, 1, 0, 1])] := by decide +kernel
set_option maxHeartbeats 0 in
theorem w56 : (([5, 6] : List Nat).all fun m => decide (wordsP m 2 = wtab m)) = true := by decide +kernel
theorem col7 : col 7 0 = ((List.range 6).flatMap piece).map fun r => ((0 : Int), r) := by
  have e : (List.range 6).flatMap piece = (roundsN 7).filter fun r => isWd 0 r := by
    unfold roundsN sumsN
    rw [List.flatMap_assoc, List.filter_flatMap]
    rfl
  rw [e]
  unfold col
  rw [List.filter_map]
  rfl
theorem cand7 : (candP 7 2).filter isQ = col 7 0 ++ (List.range 6).flatMap (fun b => col 7 (b + 1)) := by
  have e : candP 7 2 = (List.range 7).flatMap fun b => (roundsN (7 - b)).map fun r => ((b : Int), r) := by
    unfold candP
    rw [if_neg (by decide), if_neg (by decide)]
  have r : List.range 7 = 0 :: (List.range 6).map fun i => i + 1 := by decide
  rw [e, List.filter_flatMap, r, List.flatMap_cons, List.flatMap_map]
  rfl
theorem words7 : wordsP 7 2 = wtab 7 := by
  have r : List.range 6 = [0, 1, 2, 3, 4, 5] := by decide
  have e : wordsP 7 2 = srtW ((candP 7 2).filter isQ) := rfl
  have c0 : (List.range 6).flatMap piece = piece 0 ++ (piece 1 ++ (piece 2 ++ (piece 3 ++ (piece 4 ++ (piece 5 ++ []))))) := by
    rw [r]
    rfl
  rw [e, cand7, col7, rest7, c0, piece0, piece1, piece2, piece3, piece4, piece5]
  decide +kernel
theorem wtab_ok : (([5, 6, 7] : List Nat).all fun m => decide (wordsP m 2 = wtab m)) = true := by
  have h := w56
  simp only [List.all_cons, List.all_nil, Bool.and_true, Bool.and_eq_true, decide_eq_true_eq] at h ⊢
  exact ⟨h.1, h.2, words7⟩
end Wd
set_option Elab.async false
set_option linter.all false
set_option maxRecDepth 100000
set_option maxHeartbeats 400000
namespace K85
open PySem PySem.Spec PyProof.Rows L2 Pm
def top (i : Nat) : Stmt := PySem.Challenge.pw_fewcorners_k85_whole_simplicial_words_li.main.body.getD i (.Pass ⟨0, 0, 0, 0⟩)
abbrev s_is_integer : Stmt := top 2
abbrev s_is_count : Stmt := top 3
abbrev s_is_list : Stmt := top 4
abbrev s_merging_at : Stmt := top 12
abbrev s_arrangements : Stmt := top 13
abbrev s_is_round : Stmt := top 15
abbrev s_is_word : Stmt := top 16
abbrev s_check_word : Stmt := top 17
abbrev s_check_many : Stmt := top 19
abbrev s_check_corners_and_excess : Stmt := top 20
abbrev s_parts_of : Stmt := top 21
abbrev s_rounds_with : Stmt := top 22
abbrev s_rounds_of : Stmt := top 23
abbrev s_candidates : Stmt := top 24
abbrev s_words_of : Stmt := top 25
abbrev s_has_whole_diameter : Stmt := top 27
abbrev s_is_simplicial : Stmt := top 28
abbrev s_simplicial_rounds : Stmt := top 29
abbrev s_simplicial_words : Stmt := top 30
abbrev s_free_of : Stmt := top 31
abbrev s_simplicial_count : Stmt := top 32
abbrev s_law_pot : Stmt := top 34
abbrev s_law_draw : Stmt := top 35
abbrev s_law_least : Stmt := top 36
abbrev s_law_lists : Stmt := top 37
abbrev s_law_two : Stmt := top 38
abbrev s_law_right : Stmt := top 39
abbrev s_law : Stmt := top 40
structure Ad where
  a_is_integer : Addr
  d_is_integer : FuncData
  a_is_count : Addr
  d_is_count : FuncData
  a_is_list : Addr
  d_is_list : FuncData
  a_merging_at : Addr
  d_merging_at : FuncData
  a_arrangements : Addr
  d_arrangements : FuncData
  a_is_round : Addr
  d_is_round : FuncData
  a_is_word : Addr
  d_is_word : FuncData
  a_check_word : Addr
  d_check_word : FuncData
  a_check_many : Addr
  d_check_many : FuncData
  a_check_corners_and_excess : Addr
  d_check_corners_and_excess : FuncData
  a_parts_of : Addr
  d_parts_of : FuncData
  a_rounds_with : Addr
  d_rounds_with : FuncData
  a_rounds_of : Addr
  d_rounds_of : FuncData
  a_candidates : Addr
  d_candidates : FuncData
  a_words_of : Addr
  d_words_of : FuncData
  a_has_whole_diameter : Addr
  d_has_whole_diameter : FuncData
  a_is_simplicial : Addr
  d_is_simplicial : FuncData
  a_simplicial_rounds : Addr
  d_simplicial_rounds : FuncData
  a_simplicial_words : Addr
  d_simplicial_words : FuncData
  a_free_of : Addr
  d_free_of : FuncData
  a_simplicial_count : Addr
  d_simplicial_count : FuncData
  a_law_pot : Addr
  d_law_pot : FuncData
  a_law_draw : Addr
  d_law_draw : FuncData
  a_law_least : Addr
  d_law_least : FuncData
  a_law_lists : Addr
  d_law_lists : FuncData
  a_law_two : Addr
  d_law_two : FuncData
  a_law_right : Addr
  d_law_right : FuncData
  a_law : Addr
  d_law : FuncData
def gg (K : PySem.W.Frag) (d : Ad) : G where
  K := K
  cls := fun _ => 0
  fn := fun _ => []
structure Tx (K : PySem.W.Frag) (mg : Str → Option Value) (d : Ad) : Prop where
  clsf : ClsF K (gg K d) 0
  n_abs : mg "abs" = none
  n_all : mg "all" = none
  n_any : mg "any" = none
  n_bool : mg "bool" = none
  n_divmod : mg "divmod" = none
  n_int : mg "int" = none
  n_isinstance : mg "isinstance" = none
  n_len : mg "len" = none
  n_list : mg "list" = none
  n_max : mg "max" = none
  n_min : mg "min" = none
  n_range : mg "range" = none
  n_sorted : mg "sorted" = none
  n_sum : mg "sum" = none
  n_tuple : mg "tuple" = none
  n_zip : mg "zip" = none
  m_gcd : mg "gcd" = some (.builtin "math.gcd")
  f_is_integer : Fun K "is_integer" "is_integer" s_is_integer d.a_is_integer d.d_is_integer
  b_is_integer : Binds K d.d_is_integer ["value"] []
  m_is_integer : mg "is_integer" = some (.ref d.a_is_integer)
  k_is_integer : PySem.W.keepIn K (.ref d.a_is_integer) = true
  f_is_count : Fun K "is_count" "is_count" s_is_count d.a_is_count d.d_is_count
  b_is_count : Binds K d.d_is_count ["value"] []
  m_is_count : mg "is_count" = some (.ref d.a_is_count)
  k_is_count : PySem.W.keepIn K (.ref d.a_is_count) = true
  f_is_list : Fun K "is_list" "is_list" s_is_list d.a_is_list d.d_is_list
  b_is_list : Binds K d.d_is_list ["value"] []
  m_is_list : mg "is_list" = some (.ref d.a_is_list)
  k_is_list : PySem.W.keepIn K (.ref d.a_is_list) = true
  f_merging_at : Fun K "merging_at" "merging_at" s_merging_at d.a_merging_at d.d_merging_at
  b_merging_at : Binds K d.d_merging_at ["ends"] []
  m_merging_at : mg "merging_at" = some (.ref d.a_merging_at)
  k_merging_at : PySem.W.keepIn K (.ref d.a_merging_at) = true
  f_arrangements : Fun K "arrangements" "arrangements" s_arrangements d.a_arrangements d.d_arrangements
  b_arrangements : Binds K d.d_arrangements ["ends"] []
  m_arrangements : mg "arrangements" = some (.ref d.a_arrangements)
  k_arrangements : PySem.W.keepIn K (.ref d.a_arrangements) = true
  f_is_round : Fun K "is_round" "is_round" s_is_round d.a_is_round d.d_is_round
  b_is_round : Binds K d.d_is_round ["numbers"] []
  m_is_round : mg "is_round" = some (.ref d.a_is_round)
  k_is_round : PySem.W.keepIn K (.ref d.a_is_round) = true
  f_is_word : Fun K "is_word" "is_word" s_is_word d.a_is_word d.d_is_word
  b_is_word : Binds K d.d_is_word ["value"] []
  m_is_word : mg "is_word" = some (.ref d.a_is_word)
  k_is_word : PySem.W.keepIn K (.ref d.a_is_word) = true
  f_check_word : Fun K "check_word" "check_word" s_check_word d.a_check_word d.d_check_word
  b_check_word : Binds K d.d_check_word ["value"] []
  m_check_word : mg "check_word" = some (.ref d.a_check_word)
  k_check_word : PySem.W.keepIn K (.ref d.a_check_word) = true
  f_check_many : Fun K "check_many" "check_many" s_check_many d.a_check_many d.d_check_many
  b_check_many : Binds K d.d_check_many ["many", "least", "most"] []
  m_check_many : mg "check_many" = some (.ref d.a_check_many)
  k_check_many : PySem.W.keepIn K (.ref d.a_check_many) = true
  f_check_corners_and_excess : Fun K "check_corners_and_excess" "check_corners_and_excess" s_check_corners_and_excess d.a_check_corners_and_excess d.d_check_corners_and_excess
  b_check_corners_and_excess : Binds K d.d_check_corners_and_excess ["many", "excess"] []
  m_check_corners_and_excess : mg "check_corners_and_excess" = some (.ref d.a_check_corners_and_excess)
  k_check_corners_and_excess : PySem.W.keepIn K (.ref d.a_check_corners_and_excess) = true
  f_parts_of : Fun K "parts_of" "parts_of" s_parts_of d.a_parts_of d.d_parts_of
  b_parts_of : Binds K d.d_parts_of ["total", "many"] []
  m_parts_of : mg "parts_of" = some (.ref d.a_parts_of)
  k_parts_of : PySem.W.keepIn K (.ref d.a_parts_of) = true
  f_rounds_with : Fun K "rounds_with" "rounds_with" s_rounds_with d.a_rounds_with d.d_rounds_with
  b_rounds_with : Binds K d.d_rounds_with ["sums"] []
  m_rounds_with : mg "rounds_with" = some (.ref d.a_rounds_with)
  k_rounds_with : PySem.W.keepIn K (.ref d.a_rounds_with) = true
  f_rounds_of : Fun K "rounds_of" "rounds_of" s_rounds_of d.a_rounds_of d.d_rounds_of
  b_rounds_of : Binds K d.d_rounds_of ["total"] []
  m_rounds_of : mg "rounds_of" = some (.ref d.a_rounds_of)
  k_rounds_of : PySem.W.keepIn K (.ref d.a_rounds_of) = true
  f_candidates : Fun K "candidates" "candidates" s_candidates d.a_candidates d.d_candidates
  b_candidates : Binds K d.d_candidates ["many", "excess"] []
  m_candidates : mg "candidates" = some (.ref d.a_candidates)
  k_candidates : PySem.W.keepIn K (.ref d.a_candidates) = true
  f_words_of : Fun K "words_of" "words_of" s_words_of d.a_words_of d.d_words_of
  b_words_of : Binds K d.d_words_of ["many", "excess"] []
  m_words_of : mg "words_of" = some (.ref d.a_words_of)
  k_words_of : PySem.W.keepIn K (.ref d.a_words_of) = true
  f_has_whole_diameter : Fun K "has_whole_diameter" "has_whole_diameter" s_has_whole_diameter d.a_has_whole_diameter d.d_has_whole_diameter
  b_has_whole_diameter : Binds K d.d_has_whole_diameter ["numbers"] []
  m_has_whole_diameter : mg "has_whole_diameter" = some (.ref d.a_has_whole_diameter)
  k_has_whole_diameter : PySem.W.keepIn K (.ref d.a_has_whole_diameter) = true
  f_is_simplicial : Fun K "is_simplicial" "is_simplicial" s_is_simplicial d.a_is_simplicial d.d_is_simplicial
  b_is_simplicial : Binds K d.d_is_simplicial ["word"] []
  m_is_simplicial : mg "is_simplicial" = some (.ref d.a_is_simplicial)
  k_is_simplicial : PySem.W.keepIn K (.ref d.a_is_simplicial) = true
  f_simplicial_rounds : Fun K "simplicial_rounds" "simplicial_rounds" s_simplicial_rounds d.a_simplicial_rounds d.d_simplicial_rounds
  b_simplicial_rounds : Binds K d.d_simplicial_rounds ["many"] []
  m_simplicial_rounds : mg "simplicial_rounds" = some (.ref d.a_simplicial_rounds)
  k_simplicial_rounds : PySem.W.keepIn K (.ref d.a_simplicial_rounds) = true
  f_simplicial_words : Fun K "simplicial_words" "simplicial_words" s_simplicial_words d.a_simplicial_words d.d_simplicial_words
  b_simplicial_words : Binds K d.d_simplicial_words ["many", "excess"] []
  m_simplicial_words : mg "simplicial_words" = some (.ref d.a_simplicial_words)
  k_simplicial_words : PySem.W.keepIn K (.ref d.a_simplicial_words) = true
  f_free_of : Fun K "free_of" "free_of" s_free_of d.a_free_of d.d_free_of
  b_free_of : Binds K d.d_free_of ["odd"] []
  m_free_of : mg "free_of" = some (.ref d.a_free_of)
  k_free_of : PySem.W.keepIn K (.ref d.a_free_of) = true
  f_simplicial_count : Fun K "simplicial_count" "simplicial_count" s_simplicial_count d.a_simplicial_count d.d_simplicial_count
  b_simplicial_count : Binds K d.d_simplicial_count ["many"] []
  m_simplicial_count : mg "simplicial_count" = some (.ref d.a_simplicial_count)
  k_simplicial_count : PySem.W.keepIn K (.ref d.a_simplicial_count) = true
  f_law_pot : Fun K "_law_pot" "_law_pot" s_law_pot d.a_law_pot d.d_law_pot
  b_law_pot : Binds K d.d_law_pot ["_law_script", "_law_k"] []
  m_law_pot : mg "_law_pot" = some (.ref d.a_law_pot)
  k_law_pot : PySem.W.keepIn K (.ref d.a_law_pot) = true
  f_law_draw : Fun K "_law_draw" "_law_draw" s_law_draw d.a_law_draw d.d_law_draw
  b_law_draw : Binds K d.d_law_draw ["_law_pot_here", "_law_many"] []
  m_law_draw : mg "_law_draw" = some (.ref d.a_law_draw)
  k_law_draw : PySem.W.keepIn K (.ref d.a_law_draw) = true
  f_law_least : Fun K "_law_least" "_law_least" s_law_least d.a_law_least d.d_law_least
  b_law_least : Binds K d.d_law_least ["_law_numbers"] []
  m_law_least : mg "_law_least" = some (.ref d.a_law_least)
  k_law_least : PySem.W.keepIn K (.ref d.a_law_least) = true
  f_law_lists : Fun K "_law_lists" "_law_lists" s_law_lists d.a_law_lists d.d_law_lists
  b_law_lists : Binds K d.d_law_lists ["_law_many", "_law_least_here", "_law_total"] []
  m_law_lists : mg "_law_lists" = some (.ref d.a_law_lists)
  k_law_lists : PySem.W.keepIn K (.ref d.a_law_lists) = true
  f_law_two : Fun K "_law_two" "_law_two" s_law_two d.a_law_two d.d_law_two
  b_law_two : Binds K d.d_law_two ["_law_many"] []
  m_law_two : mg "_law_two" = some (.ref d.a_law_two)
  k_law_two : PySem.W.keepIn K (.ref d.a_law_two) = true
  f_law_right : Fun K "_law_right" "_law_right" s_law_right d.a_law_right d.d_law_right
  b_law_right : Binds K d.d_law_right ["_law_pot_here"] []
  m_law_right : mg "_law_right" = some (.ref d.a_law_right)
  k_law_right : PySem.W.keepIn K (.ref d.a_law_right) = true
  f_law : Fun K "law" "law" s_law d.a_law d.d_law
  b_law : Binds K d.d_law ["_law_script"] []
  m_law : mg "law" = some (.ref d.a_law)
  k_law : PySem.W.keepIn K (.ref d.a_law) = true
  kbp_simplicial_words_excess_many : KBp K d.d_simplicial_words ["many", "excess"] ["excess", "many"] [1, 0]
section
variable {P : Program} {w : World} {K : PySem.W.Frag} {mg : Str → Option Value} {base : Heap} {d : Ad}

/-! is_integer -/
def b_is_integer : Pm.Env → S → Res Fl := (sRet (mAnd (mCall (bIs 0) (aCons (mVar 0) (aCons (mC (.ty .int)) aNil))) (mNotV (mCall (bIs 0) (aCons (mVar 0) (aCons (mC (.ty .bool)) aNil))))))
def m_is_integer : List D → S → Res D := runBody 1 1 b_is_integer
theorem sc_is_integer : FnScope ["value"] ["value"] (defScope s_is_integer) := ⟨rfl, rfl, rfl, by decide +kernel, rfl, by decide +kernel, by decide +kernel⟩
theorem ok_is_integer (T : Tx K mg d) : FnOk P w K mg base (L2.CX P w) 1 d.a_is_integer d.d_is_integer ["value"] (spG (gg K d) 1 m_is_integer) :=
  (fn_def (N := ["value"]) T.f_is_integer sc_is_integer rfl (body := b_is_integer) fun cdv A outer s H E hr =>
    (svs_one (sv_ret (ev_and (ev_callB (cd_isinstance (by rfl) T.clsf) (by rfl) T.n_isinstance bo_isinstance (ea_cons (ev_var 0) (ea_cons (ev_bty .int (by rfl) T.n_int bo_int) ea_nil))) (ev_one (ev_notV (by rfl) (ev_callB (cd_isinstance (by rfl) T.clsf) (by rfl) T.n_isinstance bo_isinstance (ea_cons (ev_var 0) (ea_cons (ev_bty .bool (by rfl) T.n_bool bo_bool) ea_nil)))))))))

/-! is_count -/
def b_is_count : Pm.Env → S → Res Fl := (sRet (mAnd (mCallD (n := 1) [] m_is_integer (aCons (mVar 0) aNil)) (m2 geI (mVar 0) (mC (.int 0)))))
def m_is_count : List D → S → Res D := runBody 1 1 b_is_count
theorem sc_is_count : FnScope ["value"] ["value"] (defScope s_is_count) := ⟨rfl, rfl, rfl, by decide +kernel, rfl, by decide +kernel, by decide +kernel⟩
theorem ok_is_count (T : Tx K mg d) : FnOk P w K mg base (L2.CX P w) 2 d.a_is_count d.d_is_count ["value"] (spG (gg K d) 1 m_is_count) :=
  (fn_def (N := ["value"]) T.f_is_count sc_is_count rfl (body := b_is_count) fun cdv A outer s H E hr =>
    (svs_one (sv_ret (ev_and (ev_call (ok_is_integer (P := P) (w := w) (base := base) T) (hr.mono (by decide)) (by rfl) T.m_is_integer T.k_is_integer T.b_is_integer .nil (fun _ _ => .nil) passB (ea_cons (ev_var 0) ea_nil)) (ev_one (ev_cmp od_ge (ev_var 0) ev_int))))))

/-! is_list -/
def b_is_list : Pm.Env → S → Res Fl := (sRet (mCall (bIs 0) (aCons (mVar 0) (aCons (mTup (aCons (mC (.ty .list)) (aCons (mC (.ty .tuple)) aNil))) aNil))))
def m_is_list : List D → S → Res D := runBody 1 1 b_is_list
theorem sc_is_list : FnScope ["value"] ["value"] (defScope s_is_list) := ⟨rfl, rfl, rfl, by decide +kernel, rfl, by decide +kernel, by decide +kernel⟩
theorem ok_is_list (T : Tx K mg d) : FnOk P w K mg base (L2.CX P w) 1 d.a_is_list d.d_is_list ["value"] (spG (gg K d) 1 m_is_list) :=
  (fn_def (N := ["value"]) T.f_is_list sc_is_list rfl (body := b_is_list) fun cdv A outer s H E hr =>
    (svs_one (sv_ret (ev_callB (cd_isinstance (by rfl) T.clsf) (by rfl) T.n_isinstance bo_isinstance (ea_cons (ev_var 0) (ea_cons (ev_tup (ea_cons (ev_bty .list (by rfl) T.n_list bo_list) (ea_cons (ev_bty .tuple (by rfl) T.n_tuple bo_tuple) ea_nil))) ea_nil))))))

/-! merging_at -/
def b_merging_at : Pm.Env → S → Res Fl := (sSeq (sSet 1 (m2 divI (mCall bLen (aCons (mVar 0) aNil)) (mC (.int 2))))
  (sSeq (sFor (iR1 (aCons (mCall bLen (aCons (mVar 0) aNil)) aNil)) (tName 2) (sIf (mAndT (mBt (m2 ixD (mVar 0) (m2 subI (mVar 2) (mC (.int 1))))) (mAndT (mBt (m2 ixD (mVar 0) (mVar 2))) (mAndT (mNotT (mBt (m2 ixD (mVar 0) (m2 subI (m2 subI (mVar 2) (mC (.int 1))) (mVar 1))))) (mNotT (mBt (m2 ixD (mVar 0) (m2 subI (mVar 2) (mVar 1)))))))) (sRet (mVar 2)) sNext))
  (sRet (mC .non))))
def m_merging_at : List D → S → Res D := runBody 1 3 b_merging_at
theorem sc_merging_at : FnScope ["ends", "half", "at"] ["ends"] (defScope s_merging_at) := ⟨rfl, rfl, rfl, by decide +kernel, rfl, by decide +kernel, by decide +kernel⟩
theorem ok_merging_at (T : Tx K mg d) : FnOk P w K mg base (L2.CX P w) 1 d.a_merging_at d.d_merging_at ["ends"] (spG (gg K d) 1 m_merging_at) :=
  (fn_def (N := ["ends", "half", "at"]) T.f_merging_at sc_merging_at rfl (body := b_merging_at) fun cdv A outer s H E hr =>
    (svs_cons (sv_set 1 sc_merging_at.nd (by rfl) (Or.inl (by rfl)) (ev_bin od_div (ev_callB (cd_len (by rfl)) (by rfl) T.n_len bo_len (ea_cons (ev_var 0) ea_nil)) ev_int))
    (svs_cons (sv_for (L2.passes_of (by rfl)) (by rfl) (iv_r1 (by rfl) T.n_range (ea_cons (ev_callB (cd_len (by rfl)) (by rfl) T.n_len bo_len (ea_cons (ev_var 0) ea_nil)) ea_nil)) (tn_name 2 sc_merging_at.nd (by rfl) (Or.inl (by rfl))) (svs_one (sv_if (ew_and (et_tru (by rfl) (ev_ix (ixd (by rfl)) (ev_var 0) (ev_bin od_sub (ev_var 2) ev_int))) (ew_and (et_tru (by rfl) (ev_ix (ixd (by rfl)) (ev_var 0) (ev_var 2))) (ew_and (et_not (et_tru (by rfl) (ev_ix (ixd (by rfl)) (ev_var 0) (ev_bin od_sub (ev_bin od_sub (ev_var 2) ev_int) (ev_var 1))))) (ew_and1 (et_not (et_tru (by rfl) (ev_ix (ixd (by rfl)) (ev_var 0) (ev_bin od_sub (ev_var 2) (ev_var 1))))))))).et (svs_one (sv_ret (ev_var 2))) svs_nil)))
    (svs_one (sv_ret ev_non)))))

/-! arrangements -/
def b_arrangements : Pm.Env → S → Res Fl := (sSeq (sIf (mB (m2 (eqP false) (mCall bLen (aCons (mVar 0) aNil)) (mC (.int 0)))) (sRet (mLst (aCons (mVar 0) aNil))) sNext)
  (sSeq (sSet 1 (mCompF finL [2] (iR1 (aCons (mCall bLen (aCons (mVar 0) aNil)) aNil)) (tName 2) mYes (m2 addAll (mSlice (mVar 0) (oS (mVar 2)) oN) (mSlice (mVar 0) oN (oS (mVar 2))))))
  (sSeq (sIf (mB (m2 (eqP false) (mCall bLen (aCons (mVar 0) aNil)) (mC (.int 2)))) (sRet (mVar 1)) sNext)
  (sRet (m2 addAll (mVar 1) (mCompF finL [3] (iLT (mVar 1)) (tName 3) mYes (mRevL (mVar 3))))))))
def m_arrangements : List D → S → Res D := runBody 1 4 b_arrangements
theorem sc_arrangements : FnScope ["ends", "turns", "at", "turn"] ["ends"] (defScope s_arrangements) := ⟨rfl, rfl, rfl, by decide +kernel, rfl, by decide +kernel, by decide +kernel⟩
theorem ok_arrangements (T : Tx K mg d) : FnOk P w K mg base (L2.CX P w) 1 d.a_arrangements d.d_arrangements ["ends"] (spG (gg K d) 1 m_arrangements) :=
  (fn_def (N := ["ends", "turns", "at", "turn"]) T.f_arrangements sc_arrangements rfl (body := b_arrangements) fun cdv A outer s H E hr =>
    (svs_cons (sv_if (et_cmp (od_eqP (by rfl) hr.un64) (ev_callB (cd_len (by rfl)) (by rfl) T.n_len bo_len (ea_cons (ev_var 0) ea_nil)) ev_int) (svs_one (sv_ret (ev_lst (ea_cons (ev_var 0) ea_nil)))) svs_nil)
    (svs_cons (sv_setLcF fin_l 1 (own := [("at", 2)]) (by rfl) sc_arrangements.nd (by rfl) (by rfl) (by rfl) (iv_r1 (by rfl) T.n_range (ea_cons (ev_callB (cd_len (by rfl)) (by rfl) T.n_len bo_len (ea_cons (ev_var 0) ea_nil)) ea_nil)) (blkOk_by (N := ["ends", "turns", "at", "turn"]) (sc := defScope s_arrangements) (by decide +kernel)) (by decide) (fun _ _ _ _ _ => (tn_name 2 sc_arrangements.nd (by rfl) (by first | exact Or.inl rfl | exact Or.inr rfl))) (fun _ _ _ _ _ => ets_nil) (fun _ _ _ _ _ => (ev_bin od_addAll (ev_slice (by rfl) (ev_var 0) (eo_s (ev_var 2)) eo_n) (ev_slice (by rfl) (ev_var 0) eo_n (eo_s (ev_var 2))))))
    (svs_cons (sv_if (et_cmp (od_eqP (by rfl) hr.un64) (ev_callB (cd_len (by rfl)) (by rfl) T.n_len bo_len (ea_cons (ev_var 0) ea_nil)) ev_int) (svs_one (sv_ret (ev_var 1))) svs_nil)
    (svs_one (sv_ret (ev_bin od_addAll (ev_var 1) (ev_lcF fin_l (own := [("turn", 3)]) (by rfl) sc_arrangements.nd (iv_lt (by rfl) (ev_var 1)) (blkOk_by (N := ["ends", "turns", "at", "turn"]) (sc := defScope s_arrangements) (by decide +kernel)) (by decide) (fun _ _ _ _ _ => (tn_name 3 sc_arrangements.nd (by rfl) (by first | exact Or.inl rfl | exact Or.inr rfl))) (fun _ _ _ _ _ => ets_nil) (fun _ _ _ _ _ => (ev_revL (by rfl) (ev_var 3)))))))))))

/-! is_round -/
def b_is_round : Pm.Env → S → Res Fl := (sSeq (sSet 1 (m2 divI (mCall bLen (aCons (mVar 0) aNil)) (mC (.int 2))))
  (sSeq (sIf (mOrT (mB (m2 (eqP true) (mCall bLen (aCons (mVar 0) aNil)) (m2 mulD (mC (.int 2)) (mVar 1)))) (mB (m2 ltI (mVar 1) (mC (.int 2))))) (sRet (mC (.bl false))) sNext)
  (sSeq (sIf (mOrT (mNotT (mBt (mCall (bBools fun bs => bs.all id) (aCons (mCompF finL [3] (iR1 (aCons (mVar 1) aNil)) (tName 3) mYes (m2 gtI (m2 addAll (m2 ixD (mVar 0) (mVar 3)) (m2 ixD (mVar 0) (m2 addAll (mVar 3) (mVar 1)))) (mC (.int 0)))) aNil)))) (mB (m2 (isD true) (mCallD (n := 1) [] m_merging_at (aCons (mVar 0) aNil)) (mC .non)))) (sRet (mC (.bl false))) sNext)
  (sSeq (sSet 2 (m2 addAll (mVar 0) (mVar 0)))
  (sSeq (sIf (mNotT (mBt (mCall (bBools fun bs => bs.all id) (aCons (mCompF finL [3] (iR1 (aCons (mCall bLen (aCons (mVar 0) aNil)) aNil)) (tName 3) mYes (m2 geI (mCall bSum (aCons (mSlice (mVar 2) (oS (mVar 3)) (oS (m2 subI (m2 addAll (mVar 3) (mVar 1)) (mC (.int 1))))) aNil)) (mC (.int 2)))) aNil)))) (sRet (mC (.bl false))) sNext)
  (sRet (m2 (eqP false) (mVar 0) (mCall bMin1 (aCons (mCallD (n := 1) [] m_arrangements (aCons (mVar 0) aNil)) aNil)))))))))
def m_is_round : List D → S → Res D := runBody 1 4 b_is_round
theorem sc_is_round : FnScope ["numbers", "half", "twice", "at"] ["numbers"] (defScope s_is_round) := ⟨rfl, rfl, rfl, by decide +kernel, rfl, by decide +kernel, by decide +kernel⟩
theorem ok_is_round (T : Tx K mg d) : FnOk P w K mg base (L2.CX P w) 2 d.a_is_round d.d_is_round ["numbers"] (spG (gg K d) 1 m_is_round) :=
  (fn_def (N := ["numbers", "half", "twice", "at"]) T.f_is_round sc_is_round rfl (body := b_is_round) fun cdv A outer s H E hr =>
    (svs_cons (sv_set 1 sc_is_round.nd (by rfl) (by first | exact Or.inl rfl | exact Or.inr rfl) (ev_bin od_div (ev_callB (cd_len (by rfl)) (by rfl) T.n_len bo_len (ea_cons (ev_var 0) ea_nil)) ev_int))
    (svs_cons (sv_if (ew_or (et_cmp (od_neP (by rfl) hr.un64) (ev_callB (cd_len (by rfl)) (by rfl) T.n_len bo_len (ea_cons (ev_var 0) ea_nil)) (ev_bin od_mulD ev_int (ev_var 1))) (ew_or1 (et_cmp od_lt (ev_var 1) ev_int))).et (svs_one (sv_ret ev_bl)) svs_nil)
    (svs_cons (sv_if (ew_or (et_not (et_tru (by rfl) (ev_callB (cd_all (by rfl) (by rfl)) (by rfl) T.n_all bo_all (ea_cons (ev_lcF fin_l (own := [("at", 3)]) (by rfl) sc_is_round.nd (iv_r1 (by rfl) T.n_range (ea_cons (ev_var 1) ea_nil)) (blkOk_by (N := ["numbers", "half", "twice", "at"]) (sc := defScope s_is_round) (by decide +kernel)) (by decide) (fun _ _ _ _ _ => (tn_name 3 sc_is_round.nd (by rfl) (by first | exact Or.inl rfl | exact Or.inr rfl))) (fun _ _ _ _ _ => ets_nil) (fun _ _ _ _ _ => (ev_cmp od_gt (ev_bin od_addAll (ev_ix (ixd (by rfl)) (ev_var 0) (ev_var 3)) (ev_ix (ixd (by rfl)) (ev_var 0) (ev_bin od_addAll (ev_var 3) (ev_var 1)))) ev_int))) ea_nil)))) (ew_or1 (et_cmp od_isnot (ev_call (ok_merging_at (P := P) (w := w) (base := base) T) (hr.mono (by decide)) (by rfl) T.m_merging_at T.k_merging_at T.b_merging_at .nil (fun _ _ => .nil) passB (ea_cons (ev_var 0) ea_nil)) ev_non))).et (svs_one (sv_ret ev_bl)) svs_nil)
    (svs_cons (sv_set 2 sc_is_round.nd (by rfl) (by first | exact Or.inl rfl | exact Or.inr rfl) (ev_bin od_addAll (ev_var 0) (ev_var 0)))
    (svs_cons (sv_if (et_not (et_tru (by rfl) (ev_callB (cd_all (by rfl) (by rfl)) (by rfl) T.n_all bo_all (ea_cons (ev_lcF fin_l (own := [("at", 3)]) (by rfl) sc_is_round.nd (iv_r1 (by rfl) T.n_range (ea_cons (ev_callB (cd_len (by rfl)) (by rfl) T.n_len bo_len (ea_cons (ev_var 0) ea_nil)) ea_nil)) (blkOk_by (N := ["numbers", "half", "twice", "at"]) (sc := defScope s_is_round) (by decide +kernel)) (by decide) (fun _ _ _ _ _ => (tn_name 3 sc_is_round.nd (by rfl) (by first | exact Or.inl rfl | exact Or.inr rfl))) (fun _ _ _ _ _ => ets_nil) (fun _ _ _ _ _ => (ev_cmp od_ge (ev_callB (cd_sum (by rfl) (by rfl)) (by rfl) T.n_sum bo_sum (ea_cons (ev_slice (by rfl) (ev_var 2) (eo_s (ev_var 3)) (eo_s (ev_bin od_sub (ev_bin od_addAll (ev_var 3) (ev_var 1)) ev_int))) ea_nil)) ev_int))) ea_nil)))) (svs_one (sv_ret ev_bl)) svs_nil)
    (svs_one (sv_ret (ev_cmp (od_eqP (by rfl) hr.un64) (ev_var 0) (ev_callB (cd_min1 (by rfl) (by rfl) hr.un64) (by rfl) T.n_min bo_min (ea_cons (ev_call (ok_arrangements (P := P) (w := w) (base := base) T) (hr.mono (by decide)) (by rfl) T.m_arrangements T.k_arrangements T.b_arrangements .nil (fun _ _ => .nil) passB (ea_cons (ev_var 0) ea_nil)) ea_nil)))))))))))

/-! is_word -/
def b_is_word : Pm.Env → S → Res Fl := (sSeq (sIf (mOrT (mNotT (mBt (mCall (bIs 0) (aCons (mVar 0) (aCons (mC (.ty .tuple)) aNil))))) (mOrT (mB (m2 (eqP true) (mCall bLen (aCons (mVar 0) aNil)) (mC (.int 2)))) (mNotT (mBt (mCallD (n := 1) [] m_is_list (aCons (m2 ixD (mVar 0) (mC (.int 1))) aNil)))))) (sRet (mC (.bl false))) sNext)
  (sSeq (sIf (mOrT (mNotT (mBt (mCall (bBools fun bs => bs.all id) (aCons (mCompF finL [2] (iLT (mLst (aCons (m2 ixD (mVar 0) (mC (.int 0))) (aStar (m2 ixD (mVar 0) (mC (.int 1))) aNil)))) (tName 2) mYes (mCallD (n := 1) [] m_is_count (aCons (mVar 2) aNil))) aNil)))) (mB (m2 gtI (m2 addAll (m2 ixD (mVar 0) (mC (.int 0))) (mCall bSum (aCons (m2 ixD (mVar 0) (mC (.int 1))) aNil))) (mC (.int 9))))) (sRet (mC (.bl false))) sNext)
  (sSeq (sSet 1 (mCall bList (aCons (m2 ixD (mVar 0) (mC (.int 1))) aNil)))
  (sSeq (sIf (mB (m2 (eqP false) (mCall bLen (aCons (mVar 1) aNil)) (mC (.int 0)))) (sRet (m2 geI (m2 ixD (mVar 0) (mC (.int 0))) (mC (.int 2)))) sNext)
  (sSeq (sIf (mB (m2 (eqP false) (mCall bLen (aCons (mVar 1) aNil)) (mC (.int 2)))) (sRet (mChain leI leI (mC (.int 2)) (m2 ixD (mVar 1) (mC (.int 0))) (m2 ixD (mVar 1) (mC (.int 1))))) sNext)
  (sRet (mCallD (n := 1) [] m_is_round (aCons (mVar 1) aNil))))))))
def m_is_word : List D → S → Res D := runBody 1 3 b_is_word
theorem sc_is_word : FnScope ["value", "numbers", "number"] ["value"] (defScope s_is_word) := ⟨rfl, rfl, rfl, by decide +kernel, rfl, by decide +kernel, by decide +kernel⟩
theorem ok_is_word (T : Tx K mg d) : FnOk P w K mg base (L2.CX P w) 3 d.a_is_word d.d_is_word ["value"] (spG (gg K d) 1 m_is_word) :=
  (fn_def (N := ["value", "numbers", "number"]) T.f_is_word sc_is_word rfl (body := b_is_word) fun cdv A outer s H E hr =>
    (svs_cons (sv_if (ew_or (et_not (et_tru (by rfl) (ev_callB (cd_isinstance (by rfl) T.clsf) (by rfl) T.n_isinstance bo_isinstance (ea_cons (ev_var 0) (ea_cons (ev_bty .tuple (by rfl) T.n_tuple bo_tuple) ea_nil))))) (ew_or (et_cmp (od_neP (by rfl) hr.un64) (ev_callB (cd_len (by rfl)) (by rfl) T.n_len bo_len (ea_cons (ev_var 0) ea_nil)) ev_int) (ew_or1 (et_not (et_tru (by rfl) (ev_call (ok_is_list (P := P) (w := w) (base := base) T) (hr.mono (by decide)) (by rfl) T.m_is_list T.k_is_list T.b_is_list .nil (fun _ _ => .nil) passB (ea_cons (ev_ix (ixd (by rfl)) (ev_var 0) ev_int) ea_nil))))))).et (svs_one (sv_ret ev_bl)) svs_nil)
    (svs_cons (sv_if (ew_or (et_not (et_tru (by rfl) (ev_callB (cd_all (by rfl) (by rfl)) (by rfl) T.n_all bo_all (ea_cons (ev_lcF fin_l (own := [("number", 2)]) (by rfl) sc_is_word.nd (iv_lt (by rfl) (ev_lst (ea_cons (ev_ix (ixd (by rfl)) (ev_var 0) ev_int) (ea_star (by rfl) (ev_ix (ixd (by rfl)) (ev_var 0) ev_int) ea_nil)))) (blkOk_by (N := ["value", "numbers", "number"]) (sc := defScope s_is_word) (by decide +kernel)) (by decide) (fun _ _ _ _ _ => (tn_name 2 sc_is_word.nd (by rfl) (Or.inl (by rfl)))) (fun _ _ _ _ _ => ets_nil) (fun _ _ _ _ _ => (ev_call (ok_is_count (P := P) (w := w) (base := base) T) (hr.mono (by decide)) (by rfl) T.m_is_count T.k_is_count T.b_is_count .nil (fun _ _ => .nil) passK (ea_cons (ev_var 2) ea_nil)))) ea_nil)))) (ew_or1 (et_cmp od_gt (ev_bin od_addAll (ev_ix (ixd (by rfl)) (ev_var 0) ev_int) (ev_callB (cd_sum (by rfl) (by rfl)) (by rfl) T.n_sum bo_sum (ea_cons (ev_ix (ixd (by rfl)) (ev_var 0) ev_int) ea_nil))) ev_int))).et (svs_one (sv_ret ev_bl)) svs_nil)
    (svs_cons (sv_set 1 sc_is_word.nd (by rfl) (Or.inl (by rfl)) (ev_callTy (cd_list (by rfl)) (by rfl) T.n_list bo_list (ea_cons (ev_ix (ixd (by rfl)) (ev_var 0) ev_int) ea_nil)))
    (svs_cons (sv_if (et_cmp (od_eqP (by rfl) hr.un64) (ev_callB (cd_len (by rfl)) (by rfl) T.n_len bo_len (ea_cons (ev_var 1) ea_nil)) ev_int) (svs_one (sv_ret (ev_cmp od_ge (ev_ix (ixd (by rfl)) (ev_var 0) ev_int) ev_int))) svs_nil)
    (svs_cons (sv_if (et_cmp (od_eqP (by rfl) hr.un64) (ev_callB (cd_len (by rfl)) (by rfl) T.n_len bo_len (ea_cons (ev_var 1) ea_nil)) ev_int) (svs_one (sv_ret (ev_chain od_le od_le ev_int (ev_ix (ixd (by rfl)) (ev_var 1) ev_int) (ev_ix (ixd (by rfl)) (ev_var 1) ev_int)))) svs_nil)
    (svs_one (sv_ret (ev_call (ok_is_round (P := P) (w := w) (base := base) T) (hr.mono (by decide)) (by rfl) T.m_is_round T.k_is_round T.b_is_round .nil (fun _ _ => .nil) passB (ea_cons (ev_var 1) ea_nil))))))))))

/-! check_word -/
def b_check_word : Pm.Env → S → Res Fl := (sIf (mNotT (mBt (mCallD (n := 1) [] m_is_word (aCons (mVar 0) aNil)))) sStuck sNext)
def m_check_word : List D → S → Res D := runBody 1 1 b_check_word
theorem sc_check_word : FnScope ["value"] ["value"] (defScope s_check_word) := ⟨rfl, rfl, rfl, by decide +kernel, rfl, by decide +kernel, by decide +kernel⟩
theorem ok_check_word (T : Tx K mg d) : FnOk P w K mg base (L2.CX P w) 4 d.a_check_word d.d_check_word ["value"] (spG (gg K d) 1 m_check_word) :=
  (fn_def (N := ["value"]) T.f_check_word sc_check_word rfl (body := b_check_word) fun cdv A outer s H E hr =>
    (svs_one (sv_if (et_not (et_tru (by rfl) (ev_call (ok_is_word (P := P) (w := w) (base := base) T) (hr.mono (by decide)) (by rfl) T.m_is_word T.k_is_word T.b_is_word .nil (fun _ _ => .nil) passB (ea_cons (ev_var 0) ea_nil)))) (svs_one sv_never) svs_nil)))

/-! check_many -/
def b_check_many : Pm.Env → S → Res Fl := (sIf (mOrT (mNotT (mBt (mCallD (n := 1) [] m_is_count (aCons (mVar 0) aNil)))) (mNotT (mB (mChain leI leI (mVar 1) (mVar 0) (mVar 2))))) sStuck sNext)
def m_check_many : List D → S → Res D := runBody 3 3 b_check_many
theorem sc_check_many : FnScope ["many", "least", "most"] ["many", "least", "most"] (defScope s_check_many) := ⟨rfl, rfl, rfl, by decide +kernel, rfl, by decide +kernel, by decide +kernel⟩
theorem ok_check_many (T : Tx K mg d) : FnOk P w K mg base (L2.CX P w) 3 d.a_check_many d.d_check_many ["many", "least", "most"] (spG (gg K d) 3 m_check_many) :=
  (fn_def (N := ["many", "least", "most"]) T.f_check_many sc_check_many rfl (body := b_check_many) fun cdv A outer s H E hr =>
    (svs_one (sv_if (ew_or (et_not (et_tru (by rfl) (ev_call (ok_is_count (P := P) (w := w) (base := base) T) (hr.mono (by decide)) (by rfl) T.m_is_count T.k_is_count T.b_is_count .nil (fun _ _ => .nil) passB (ea_cons (ev_var 0) ea_nil)))) (ew_or1 (et_not (et_chain od_le od_le (ev_var 1) (ev_var 0) (ev_var 2))))).et (svs_one sv_never) svs_nil)))

/-! check_corners_and_excess -/
def b_check_corners_and_excess : Pm.Env → S → Res Fl := (sSeq (sExpr (mCallD (n := 3) [] m_check_many (aCons (mVar 0) (aCons (mC (.int 2)) (aCons (mC (.int 9)) aNil)))))
  (sExpr (mCallD (n := 3) [] m_check_many (aCons (mVar 1) (aCons (mC (.int 0)) (aCons (mC (.int 2)) aNil))))))
def m_check_corners_and_excess : List D → S → Res D := runBody 2 2 b_check_corners_and_excess
theorem sc_check_corners_and_excess : FnScope ["many", "excess"] ["many", "excess"] (defScope s_check_corners_and_excess) := ⟨rfl, rfl, rfl, by decide +kernel, rfl, by decide +kernel, by decide +kernel⟩
theorem ok_check_corners_and_excess (T : Tx K mg d) : FnOk P w K mg base (L2.CX P w) 4 d.a_check_corners_and_excess d.d_check_corners_and_excess ["many", "excess"] (spG (gg K d) 2 m_check_corners_and_excess) :=
  (fn_def (N := ["many", "excess"]) T.f_check_corners_and_excess sc_check_corners_and_excess rfl (body := b_check_corners_and_excess) fun cdv A outer s H E hr =>
    (svs_cons (sv_expr (ev_call (ok_check_many (P := P) (w := w) (base := base) T) (hr.mono (by decide)) (by rfl) T.m_check_many T.k_check_many T.b_check_many .nil (fun _ _ => .nil) passB (ea_cons (ev_var 0) (ea_cons ev_int (ea_cons ev_int ea_nil)))))
    (svs_one (sv_expr (ev_call (ok_check_many (P := P) (w := w) (base := base) T) (hr.mono (by decide)) (by rfl) T.m_check_many T.k_check_many T.b_check_many .nil (fun _ _ => .nil) passB (ea_cons (ev_var 1) (ea_cons ev_int (ea_cons ev_int ea_nil))))))))

/-! parts_of -/
def b_parts_of (rec : List D → S → Res D) : Pm.Env → S → Res Fl := (sSeq (sIf (mB (m2 (eqP false) (mVar 1) (mC (.int 1)))) (sRet (mLst (aCons (mLst (aCons (mVar 0) aNil)) aNil))) sNext)
  (sRet (mComp2 [2, 3] [3] (iR2 (aCons (mC (.int 1)) (aCons (m2 addAll (m2 subI (mVar 0) (mVar 1)) (mC (.int 2))) aNil))) (tName 2) mYes (iLT (mCallD (n := 2) [] rec (aCons (m2 subI (mVar 0) (mVar 2)) (aCons (m2 subI (mVar 1) (mC (.int 1))) aNil)))) (tName 3) mYes (mLst (aCons (mVar 2) (aStar (mVar 3) aNil))))))
def n_parts_of : Nat → List D → S → Res D
  | 0 => fun _ _ => .stuck
  | n + 1 => runBody 2 4 (b_parts_of (n_parts_of n))
def m_parts_of : List D → S → Res D := n_parts_of 10
theorem sc_parts_of : FnScope ["total", "many", "first", "rest"] ["total", "many"] (defScope s_parts_of) := ⟨rfl, rfl, rfl, by decide +kernel, rfl, by decide +kernel, by decide +kernel⟩
theorem okn_parts_of (T : Tx K mg d) : ∀ n : Nat, FnOk P w K mg base (L2.CX P w) (0 + n) d.a_parts_of d.d_parts_of ["total", "many"] (spG (gg K d) 2 (n_parts_of n))
  | 0 => fn_never
  | n + 1 => (fn_def (k := 0 + n) (N := ["total", "many", "first", "rest"]) T.f_parts_of sc_parts_of rfl (body := b_parts_of (n_parts_of n)) fun cdv A outer s H E hr =>
    (svs_cons (sv_if (et_cmp (od_eqP (by rfl) hr.un64) (ev_var 1) ev_int) (svs_one (sv_ret (ev_lst (ea_cons (ev_lst (ea_cons (ev_var 0) ea_nil)) ea_nil)))) svs_nil)
    (svs_one (sv_ret (ev_lc2 (own := [("first", 2), ("rest", 3)]) (vs1 := [3]) (by rfl) sc_parts_of.nd (iv_r2 (by rfl) T.n_range (ea_cons ev_int (ea_cons (ev_bin od_addAll (ev_bin od_sub (ev_var 0) (ev_var 1)) ev_int) ea_nil))) (blkOk_by (N := ["total", "many", "first", "rest"]) (sc := defScope s_parts_of) (by decide +kernel)) (by decide) (by decide) (by decide) (fun _ _ _ _ _ => (tn_name 2 sc_parts_of.nd (by rfl) (Or.inl (by rfl)))) (fun _ _ _ _ _ => ets_nil) (fun _ _ _ _ _ => (iv_lt (by rfl) (ev_call (okn_parts_of T n) (hr.mono (by omega)) (by rfl) T.m_parts_of T.k_parts_of T.b_parts_of .nil (fun _ _ => .nil) passK (ea_cons (ev_bin od_sub (ev_var 0) (ev_var 2)) (ea_cons (ev_bin od_sub (ev_var 1) ev_int) ea_nil))))) (fun _ _ _ _ _ => (tn_name 3 sc_parts_of.nd (by rfl) (Or.inl (by rfl)))) (fun _ _ _ _ _ => ets_nil) (fun _ _ _ _ _ => (ev_lst (ea_cons (ev_var 2) (ea_star (by rfl) (ev_var 3) ea_nil)))))))))
theorem ok_parts_of (T : Tx K mg d) : FnOk P w K mg base (L2.CX P w) 10 d.a_parts_of d.d_parts_of ["total", "many"] (spG (gg K d) 2 m_parts_of) := okn_parts_of T 10

/-! rounds_with -/
def b_rounds_with : Pm.Env → S → Res Fl := (sSeq (sSet 1 (mLst (aCons (mLst aNil) aNil)))
  (sSeq (sFor (iLT (mVar 0)) (tName 2) (sSet 1 (mComp2 [3, 4] [4] (iLT (mVar 1)) (tName 3) mYes (iR1 (aCons (m2 addAll (mVar 2) (mC (.int 1))) aNil)) (tName 4) mYes (mLst (aStar (mVar 3) (aCons (mVar 4) aNil))))))
  (sRet (mCompF finL [3] (iLT (mVar 1)) (tName 3) mYes (m2 addAll (mVar 3) (mCompF finL [2, 4] (iZipM (aCons (mVar 0) (aCons (mVar 3) aNil))) (tTup 2 (tCons (tName 2) (tCons (tName 4) tNil))) mYes (m2 subI (mVar 2) (mVar 4))))))))
def m_rounds_with : List D → S → Res D := runBody 1 5 b_rounds_with
theorem sc_rounds_with : FnScope ["sums", "halves", "most", "half", "number"] ["sums"] (defScope s_rounds_with) := ⟨rfl, rfl, rfl, by decide +kernel, rfl, by decide +kernel, by decide +kernel⟩
theorem ok_rounds_with (T : Tx K mg d) : FnOk P w K mg base (L2.CX P w) 1 d.a_rounds_with d.d_rounds_with ["sums"] (spG (gg K d) 1 m_rounds_with) :=
  (fn_def (N := ["sums", "halves", "most", "half", "number"]) T.f_rounds_with sc_rounds_with rfl (body := b_rounds_with) fun cdv A outer s H E hr =>
    (svs_cons (sv_set 1 sc_rounds_with.nd (by rfl) (by first | exact Or.inl rfl | exact Or.inr rfl) (ev_lst (ea_cons (ev_lst ea_nil) ea_nil)))
    (svs_cons (sv_for (L2.passes_of (by rfl)) (by rfl) (iv_lt (by rfl) (ev_var 0)) (tn_name 2 sc_rounds_with.nd (by rfl) (by first | exact Or.inl rfl | exact Or.inr rfl)) (svs_one (sv_setLc2 1 (own := [("half", 3), ("number", 4)]) (vs1 := [4]) (by rfl) sc_rounds_with.nd (by rfl) (by rfl) (by rfl) (iv_lt (by rfl) (ev_var 1)) (blkOk_by (N := ["sums", "halves", "most", "half", "number"]) (sc := defScope s_rounds_with) (by decide +kernel)) (by decide) (by decide) (by decide) (fun _ _ _ _ _ => (tn_name 3 sc_rounds_with.nd (by rfl) (by first | exact Or.inl rfl | exact Or.inr rfl))) (fun _ _ _ _ _ => ets_nil) (fun _ _ _ _ _ => (iv_r1 (by rfl) T.n_range (ea_cons (ev_bin od_addAll (ev_var 2) ev_int) ea_nil))) (fun _ _ _ _ _ => (tn_name 4 sc_rounds_with.nd (by rfl) (by first | exact Or.inl rfl | exact Or.inr rfl))) (fun _ _ _ _ _ => ets_nil) (fun _ _ _ _ _ => (ev_lst (ea_star (by rfl) (ev_var 3) (ea_cons (ev_var 4) ea_nil)))))))
    (svs_one (sv_ret (ev_lcF fin_l (own := [("half", 3)]) (by rfl) sc_rounds_with.nd (iv_lt (by rfl) (ev_var 1)) (blkOk_by (N := ["sums", "halves", "most", "half", "number"]) (sc := defScope s_rounds_with) (by decide +kernel)) (by decide) (fun _ _ _ _ _ => (tn_name 3 sc_rounds_with.nd (by rfl) (by first | exact Or.inl rfl | exact Or.inr rfl))) (fun _ _ _ _ _ => ets_nil) (fun _ _ _ _ _ => (ev_bin od_addAll (ev_var 3) (ev_lcF fin_l (own := [("most", 2), ("number", 4)]) (by rfl) sc_rounds_with.nd (iv_zip (by rfl) (by rfl) T.n_zip (ea_cons (ev_var 0) (ea_cons (ev_var 3) ea_nil))) (blkOk_by (N := ["sums", "halves", "most", "half", "number"]) (by kernel_rfl)) (by decide) (fun _ _ _ _ _ => (tn_tup (by rfl) (by rfl) (tns_cons (tn_name 2 sc_rounds_with.nd (by rfl) (by first | exact Or.inl rfl | exact Or.inr rfl)) (tns_cons (tn_name 4 sc_rounds_with.nd (by rfl) (by first | exact Or.inl rfl | exact Or.inr rfl)) tns_nil)))) (fun _ _ _ _ _ => ets_nil) (fun _ _ _ _ _ => (ev_bin od_sub (ev_var 2) (ev_var 4))))))))))))

/-! rounds_of -/
def b_rounds_of : Pm.Env → S → Res Fl := (sSeq (sSet 1 (mComp2 [2, 3] [3] (iR2 (aCons (mC (.int 2)) (aCons (m2 addAll (mVar 0) (mC (.int 1))) aNil))) (tName 2) mYes (iLT (mCallD (n := 2) [] m_parts_of (aCons (mVar 0) (aCons (mVar 2) aNil)))) (tName 3) mYes (mVar 3)))
  (sRet (mComp2 [3, 4] [4] (iLT (mVar 1)) (tName 3) mYes (iLT (mCallD (n := 1) [] m_rounds_with (aCons (mVar 3) aNil))) (tName 4) mYes (mVar 4))))
def m_rounds_of : List D → S → Res D := runBody 1 5 b_rounds_of
theorem sc_rounds_of : FnScope ["total", "all_sums", "half", "sums", "numbers"] ["total"] (defScope s_rounds_of) := ⟨rfl, rfl, rfl, by decide +kernel, rfl, by decide +kernel, by decide +kernel⟩
theorem ok_rounds_of (T : Tx K mg d) : FnOk P w K mg base (L2.CX P w) 11 d.a_rounds_of d.d_rounds_of ["total"] (spG (gg K d) 1 m_rounds_of) :=
  (fn_def (N := ["total", "all_sums", "half", "sums", "numbers"]) T.f_rounds_of sc_rounds_of rfl (body := b_rounds_of) fun cdv A outer s H E hr =>
    (svs_cons (sv_setLc2 1 (own := [("half", 2), ("sums", 3)]) (vs1 := [3]) (by rfl) sc_rounds_of.nd (by rfl) (by rfl) (by rfl) (iv_r2 (by rfl) T.n_range (ea_cons ev_int (ea_cons (ev_bin od_addAll (ev_var 0) ev_int) ea_nil))) (blkOk_by (N := ["total", "all_sums", "half", "sums", "numbers"]) (sc := defScope s_rounds_of) (by decide +kernel)) (by decide) (by decide) (by decide) (fun _ _ _ _ _ => (tn_name 2 sc_rounds_of.nd (by rfl) (Or.inl (by rfl)))) (fun _ _ _ _ _ => ets_nil) (fun _ _ _ _ _ => (iv_lt (by rfl) (ev_call (ok_parts_of (P := P) (w := w) (base := base) T) (hr.mono (by decide)) (by rfl) T.m_parts_of T.k_parts_of T.b_parts_of .nil (fun _ _ => .nil) passK (ea_cons (ev_var 0) (ea_cons (ev_var 2) ea_nil))))) (fun _ _ _ _ _ => (tn_name 3 sc_rounds_of.nd (by rfl) (Or.inl (by rfl)))) (fun _ _ _ _ _ => ets_nil) (fun _ _ _ _ _ => (ev_var 3)))
    (svs_one (sv_ret (ev_lc2 (own := [("sums", 3), ("numbers", 4)]) (vs1 := [4]) (by rfl) sc_rounds_of.nd (iv_lt (by rfl) (ev_var 1)) (blkOk_by (N := ["total", "all_sums", "half", "sums", "numbers"]) (sc := defScope s_rounds_of) (by decide +kernel)) (by decide) (by decide) (by decide) (fun _ _ _ _ _ => (tn_name 3 sc_rounds_of.nd (by rfl) (Or.inl (by rfl)))) (fun _ _ _ _ _ => ets_nil) (fun _ _ _ _ _ => (iv_lt (by rfl) (ev_call (ok_rounds_with (P := P) (w := w) (base := base) T) (hr.mono (by decide)) (by rfl) T.m_rounds_with T.k_rounds_with T.b_rounds_with .nil (fun _ _ => .nil) passK (ea_cons (ev_var 3) ea_nil)))) (fun _ _ _ _ _ => (tn_name 4 sc_rounds_of.nd (by rfl) (Or.inl (by rfl)))) (fun _ _ _ _ _ => ets_nil) (fun _ _ _ _ _ => (ev_var 4)))))))

/-! candidates -/
def b_candidates : Pm.Env → S → Res Fl := (sSeq (sIf (mB (m2 (eqP false) (mVar 1) (mC (.int 0)))) (sRet (mLst (aCons (mTup (aCons (mVar 0) (aCons (mLst aNil) aNil))) aNil))) sNext)
  (sSeq (sIf (mB (m2 (eqP false) (mVar 1) (mC (.int 1)))) (sRet (mComp2 [2, 3] [3] (iR1 (aCons (mVar 0) aNil)) (tName 2) mYes (iR1 (aCons (m2 addAll (m2 subI (mVar 0) (mVar 2)) (mC (.int 1))) aNil)) (tName 3) mYes (mTup (aCons (m2 subI (m2 subI (mVar 0) (mVar 3)) (mVar 2)) (aCons (mLst (aCons (mVar 3) (aCons (mVar 2) aNil))) aNil))))) sNext)
  (sRet (mComp2 [4, 5] [5] (iR1 (aCons (mVar 0) aNil)) (tName 4) mYes (iLT (mCallD (n := 1) [] m_rounds_of (aCons (m2 subI (mVar 0) (mVar 4)) aNil))) (tName 5) mYes (mTup (aCons (mVar 4) (aCons (mVar 5) aNil)))))))
def m_candidates : List D → S → Res D := runBody 2 6 b_candidates
theorem sc_candidates : FnScope ["many", "excess", "other", "one", "bare", "numbers"] ["many", "excess"] (defScope s_candidates) := ⟨rfl, rfl, rfl, by decide +kernel, rfl, by decide +kernel, by decide +kernel⟩
theorem ok_candidates (T : Tx K mg d) : FnOk P w K mg base (L2.CX P w) 12 d.a_candidates d.d_candidates ["many", "excess"] (spG (gg K d) 2 m_candidates) :=
  (fn_def (N := ["many", "excess", "other", "one", "bare", "numbers"]) T.f_candidates sc_candidates rfl (body := b_candidates) fun cdv A outer s H E hr =>
    (svs_cons (sv_if (et_cmp (od_eqP (by rfl) hr.un64) (ev_var 1) ev_int) (svs_one (sv_ret (ev_lst (ea_cons (ev_tup (ea_cons (ev_var 0) (ea_cons (ev_lst ea_nil) ea_nil))) ea_nil)))) svs_nil)
    (svs_cons (sv_if (et_cmp (od_eqP (by rfl) hr.un64) (ev_var 1) ev_int) (svs_one (sv_ret (ev_lc2 (own := [("other", 2), ("one", 3)]) (vs1 := [3]) (by rfl) sc_candidates.nd (iv_r1 (by rfl) T.n_range (ea_cons (ev_var 0) ea_nil)) (blkOk_by (N := ["many", "excess", "other", "one", "bare", "numbers"]) (sc := defScope s_candidates) (by decide +kernel)) (by decide) (by decide) (by decide) (fun _ _ _ _ _ => (tn_name 2 sc_candidates.nd (by rfl) (by first | exact Or.inl rfl | exact Or.inr rfl))) (fun _ _ _ _ _ => ets_nil) (fun _ _ _ _ _ => (iv_r1 (by rfl) T.n_range (ea_cons (ev_bin od_addAll (ev_bin od_sub (ev_var 0) (ev_var 2)) ev_int) ea_nil))) (fun _ _ _ _ _ => (tn_name 3 sc_candidates.nd (by rfl) (by first | exact Or.inl rfl | exact Or.inr rfl))) (fun _ _ _ _ _ => ets_nil) (fun _ _ _ _ _ => (ev_tup (ea_cons (ev_bin od_sub (ev_bin od_sub (ev_var 0) (ev_var 3)) (ev_var 2)) (ea_cons (ev_lst (ea_cons (ev_var 3) (ea_cons (ev_var 2) ea_nil))) ea_nil))))))) svs_nil)
    (svs_one (sv_ret (ev_lc2 (own := [("bare", 4), ("numbers", 5)]) (vs1 := [5]) (by rfl) sc_candidates.nd (iv_r1 (by rfl) T.n_range (ea_cons (ev_var 0) ea_nil)) (blkOk_by (N := ["many", "excess", "other", "one", "bare", "numbers"]) (sc := defScope s_candidates) (by decide +kernel)) (by decide) (by decide) (by decide) (fun _ _ _ _ _ => (tn_name 4 sc_candidates.nd (by rfl) (by first | exact Or.inl rfl | exact Or.inr rfl))) (fun _ _ _ _ _ => ets_nil) (fun _ _ _ _ _ => (iv_lt (by rfl) (ev_call (ok_rounds_of (P := P) (w := w) (base := base) T) (hr.mono (by decide)) (by rfl) T.m_rounds_of T.k_rounds_of T.b_rounds_of .nil (fun _ _ => .nil) passK (ea_cons (ev_bin od_sub (ev_var 0) (ev_var 4)) ea_nil)))) (fun _ _ _ _ _ => (tn_name 5 sc_candidates.nd (by rfl) (by first | exact Or.inl rfl | exact Or.inr rfl))) (fun _ _ _ _ _ => ets_nil) (fun _ _ _ _ _ => (ev_tup (ea_cons (ev_var 4) (ea_cons (ev_var 5) ea_nil))))))))))

/-! words_of -/
def b_words_of : Pm.Env → S → Res Fl := (sSeq (sExpr (mCallD (n := 2) [] m_check_corners_and_excess (aCons (mVar 0) (aCons (mVar 1) aNil))))
  (sSeq (sIf (mAndT (mB (m2 (eqP false) (mVar 1) (mC (.int 2)))) (mB (m2 gtI (mVar 0) (mC (.int 7))))) sStuck sNext)
  (sRet (mCall bSort1 (aCons (mCompF finL [2] (iLT (mCallD (n := 2) [] m_candidates (aCons (mVar 0) (aCons (mVar 1) aNil)))) (tName 2) (mBt (mCallD (n := 1) [] m_is_word (aCons (mVar 2) aNil))) (mVar 2)) aNil)))))
def m_words_of : List D → S → Res D := runBody 2 3 b_words_of
theorem sc_words_of : FnScope ["many", "excess", "found"] ["many", "excess"] (defScope s_words_of) := ⟨rfl, rfl, rfl, by decide +kernel, rfl, by decide +kernel, by decide +kernel⟩
theorem ok_words_of (T : Tx K mg d) : FnOk P w K mg base (L2.CX P w) 13 d.a_words_of d.d_words_of ["many", "excess"] (spG (gg K d) 2 m_words_of) :=
  (fn_def (N := ["many", "excess", "found"]) T.f_words_of sc_words_of rfl (body := b_words_of) fun cdv A outer s H E hr =>
    (svs_cons (sv_expr (ev_call (ok_check_corners_and_excess (P := P) (w := w) (base := base) T) (hr.mono (by decide)) (by rfl) T.m_check_corners_and_excess T.k_check_corners_and_excess T.b_check_corners_and_excess .nil (fun _ _ => .nil) passB (ea_cons (ev_var 0) (ea_cons (ev_var 1) ea_nil))))
    (svs_cons (sv_if (ew_and (et_cmp (od_eqP (by rfl) hr.un64) (ev_var 1) ev_int) (ew_and1 (et_cmp od_gt (ev_var 0) ev_int))).et (svs_one sv_never) svs_nil)
    (svs_one (sv_ret (ev_callB (cd_sort1 (by rfl) hr.un64) (by rfl) T.n_sorted bo_sorted (ea_cons (ev_lcF fin_l (own := [("found", 2)]) (by rfl) sc_words_of.nd (iv_lt (by rfl) (ev_call (ok_candidates (P := P) (w := w) (base := base) T) (hr.mono (by decide)) (by rfl) T.m_candidates T.k_candidates T.b_candidates .nil (fun _ _ => .nil) passB (ea_cons (ev_var 0) (ea_cons (ev_var 1) ea_nil)))) (blkOk_by (N := ["many", "excess", "found"]) (sc := defScope s_words_of) (by decide +kernel)) (by decide) (fun _ _ _ _ _ => (tn_name 2 sc_words_of.nd (by rfl) (Or.inl (by rfl)))) (fun _ _ _ _ _ => (ets_one (et_tru (by rfl) (ev_call (ok_is_word (P := P) (w := w) (base := base) T) (hr.mono (by decide)) (by rfl) T.m_is_word T.k_is_word T.b_is_word .nil (fun _ _ => .nil) passK (ea_cons (ev_var 2) ea_nil))))) (fun _ _ _ _ _ => (ev_var 2))) ea_nil)))))))

/-! has_whole_diameter -/
def b_has_whole_diameter : Pm.Env → S → Res Fl := (sSeq (sSet 1 (m2 divI (mCall bLen (aCons (mVar 0) aNil)) (mC (.int 2))))
  (sRet (mCall (bBools fun bs => bs.any id) (aCons (mCompF finL [2] (iR1 (aCons (mVar 1) aNil)) (tName 2) mYes (mAnd (m2 gtI (m2 ixD (mVar 0) (mVar 2)) (mC (.int 0))) (m2 gtI (m2 ixD (mVar 0) (m2 addAll (mVar 2) (mVar 1))) (mC (.int 0))))) aNil))))
def m_has_whole_diameter : List D → S → Res D := runBody 1 3 b_has_whole_diameter
theorem sc_has_whole_diameter : FnScope ["numbers", "half", "at"] ["numbers"] (defScope s_has_whole_diameter) := ⟨rfl, rfl, rfl, by decide +kernel, rfl, by decide +kernel, by decide +kernel⟩
theorem ok_has_whole_diameter (T : Tx K mg d) : FnOk P w K mg base (L2.CX P w) 1 d.a_has_whole_diameter d.d_has_whole_diameter ["numbers"] (spG (gg K d) 1 m_has_whole_diameter) :=
  (fn_def (N := ["numbers", "half", "at"]) T.f_has_whole_diameter sc_has_whole_diameter rfl (body := b_has_whole_diameter) fun cdv A outer s H E hr =>
    (svs_cons (sv_set 1 sc_has_whole_diameter.nd (by rfl) (by first | exact Or.inl rfl | exact Or.inr rfl) (ev_bin od_div (ev_callB (cd_len (by rfl)) (by rfl) T.n_len bo_len (ea_cons (ev_var 0) ea_nil)) ev_int))
    (svs_one (sv_ret (ev_callB (cd_any (by rfl) (by rfl)) (by rfl) T.n_any bo_any (ea_cons (ev_lcF fin_l (own := [("at", 2)]) (by rfl) sc_has_whole_diameter.nd (iv_r1 (by rfl) T.n_range (ea_cons (ev_var 1) ea_nil)) (blkOk_by (N := ["numbers", "half", "at"]) (sc := defScope s_has_whole_diameter) (by decide +kernel)) (by decide) (fun _ _ _ _ _ => (tn_name 2 sc_has_whole_diameter.nd (by rfl) (by first | exact Or.inl rfl | exact Or.inr rfl))) (fun _ _ _ _ _ => ets_nil) (fun _ _ _ _ _ => (ev_and (ev_cmp od_gt (ev_ix (ixd (by rfl)) (ev_var 0) (ev_var 2)) ev_int) (ev_one (ev_cmp od_gt (ev_ix (ixd (by rfl)) (ev_var 0) (ev_bin od_addAll (ev_var 2) (ev_var 1))) ev_int))))) ea_nil))))))

/-! is_simplicial -/
def b_is_simplicial : Pm.Env → S → Res Fl := (sSeq (sExpr (mCallD (n := 1) [] m_check_word (aCons (mVar 0) aNil)))
  (sSeq (sAsg (mVar 0) (taTup 2 (taCons (aN (tName 1)) (taCons (aN (tName 2)) taNil))))
  (sSeq (sIf (mB (m2 (eqP false) (mCall bLen (aCons (mVar 2) aNil)) (mC (.int 0)))) (sRet (mC (.bl true))) sNext)
  (sSeq (sIf (mB (m2 (eqP false) (mCall bLen (aCons (mVar 2) aNil)) (mC (.int 2)))) (sRet (m2 (eqP false) (mVar 1) (mC (.int 0)))) sNext)
  (sRet (mAnd (m2 (eqP false) (mVar 1) (mC (.int 0))) (mNotV (mCallD (n := 1) [] m_has_whole_diameter (aCons (mVar 2) aNil)))))))))
def m_is_simplicial : List D → S → Res D := runBody 1 3 b_is_simplicial
theorem sc_is_simplicial : FnScope ["word", "peaks", "numbers"] ["word"] (defScope s_is_simplicial) := ⟨rfl, rfl, rfl, by decide +kernel, rfl, by decide +kernel, by decide +kernel⟩
theorem ok_is_simplicial (T : Tx K mg d) : FnOk P w K mg base (L2.CX P w) 5 d.a_is_simplicial d.d_is_simplicial ["word"] (spG (gg K d) 1 m_is_simplicial) :=
  (fn_def (N := ["word", "peaks", "numbers"]) T.f_is_simplicial sc_is_simplicial rfl (body := b_is_simplicial) fun cdv A outer s H E hr =>
    (svs_cons (sv_expr (ev_call (ok_check_word (P := P) (w := w) (base := base) T) (hr.mono (by decide)) (by rfl) T.m_check_word T.k_check_word T.b_check_word .nil (fun _ _ => .nil) passB (ea_cons (ev_var 0) ea_nil)))
    (svs_cons (sv_asg (ev_var 0) (ta_tup (by rfl) (by rfl) (tas_cons (ta_n (tn_name 1 sc_is_simplicial.nd (by rfl) (Or.inl (by rfl)))) (tas_cons (ta_n (tn_name 2 sc_is_simplicial.nd (by rfl) (Or.inl (by rfl)))) tas_nil))))
    (svs_cons (sv_if (et_cmp (od_eqP (by rfl) hr.un64) (ev_callB (cd_len (by rfl)) (by rfl) T.n_len bo_len (ea_cons (ev_var 2) ea_nil)) ev_int) (svs_one (sv_ret ev_bl)) svs_nil)
    (svs_cons (sv_if (et_cmp (od_eqP (by rfl) hr.un64) (ev_callB (cd_len (by rfl)) (by rfl) T.n_len bo_len (ea_cons (ev_var 2) ea_nil)) ev_int) (svs_one (sv_ret (ev_cmp (od_eqP (by rfl) hr.un64) (ev_var 1) ev_int))) svs_nil)
    (svs_one (sv_ret (ev_and (ev_cmp (od_eqP (by rfl) hr.un64) (ev_var 1) ev_int) (ev_one (ev_notV (by rfl) (ev_call (ok_has_whole_diameter (P := P) (w := w) (base := base) T) (hr.mono (by decide)) (by rfl) T.m_has_whole_diameter T.k_has_whole_diameter T.b_has_whole_diameter .nil (fun _ _ => .nil) passB (ea_cons (ev_var 2) ea_nil))))))))))))

/-! simplicial_rounds -/
def b_simplicial_rounds : Pm.Env → S → Res Fl := (sSeq (sSet 1 (mCell aNil))
  (sSeq (sFrz 1 (sFor (iR3 (aCons (mC (.int 3)) (aCons (m2 addAll (mVar 0) (mC (.int 1))) (aCons (mC (.int 2)) aNil)))) (tName 2) (sFor (iLT (mCallD (n := 2) [] m_parts_of (aCons (mVar 0) (aCons (mVar 2) aNil)))) (tName 3) (sSeq (sSet 4 (mComp2 [5, 6] [6] (iLT (mVar 3)) (tName 5) mYes (iLT (mTup (aCons (mC (.int 0)) (aCons (mVar 5) aNil)))) (tName 6) mYes (mVar 6)))
  (sExpr (mtCell appF (mVar 1) (aCons (mTup (aCons (mC (.int 0)) (aCons (mVar 4) aNil))) aNil)))))))
  (sRet (mCompF finL [7] (iLT (mVar 1)) (tName 7) (mBt (mCallD (n := 1) [] m_is_word (aCons (mVar 7) aNil))) (mVar 7)))))
def m_simplicial_rounds : List D → S → Res D := fun ds s => cutRes s.length (runBody 1 8 b_simplicial_rounds ds s)
theorem sc_simplicial_rounds : FnScope ["many", "found", "odd", "parts", "numbers", "part", "number", "told"] ["many"] (defScope s_simplicial_rounds) := ⟨rfl, rfl, rfl, by decide +kernel, rfl, by decide +kernel, by decide +kernel⟩
theorem ok_simplicial_rounds (T : Tx K mg d) : FnOk P w K mg base (L2.CX P w) 11 d.a_simplicial_rounds d.d_simplicial_rounds ["many"] (spG (gg K d) 1 m_simplicial_rounds) :=
  FnCut (fn_def (N := ["many", "found", "odd", "parts", "numbers", "part", "number", "told"]) T.f_simplicial_rounds sc_simplicial_rounds rfl (body := b_simplicial_rounds) fun cdv A outer s H E hr =>
    (svs_cons (sv_set 1 sc_simplicial_rounds.nd (by rfl) (Or.inl (by rfl)) (ev_cell ea_nil))
    (svs_cons (sv_frz 1 (sv_for (L2.passes_of (by rfl)) (by rfl) (iv_r3 (by rfl) T.n_range (ea_cons ev_int (ea_cons (ev_bin od_addAll (ev_var 0) ev_int) (ea_cons ev_int ea_nil)))) (tn_name 2 sc_simplicial_rounds.nd (by rfl) (Or.inl (by rfl))) (svs_one (sv_for (L2.passes_of (by rfl)) (by rfl) (iv_lt (by rfl) (ev_call (ok_parts_of (P := P) (w := w) (base := base) T) (hr.mono (by decide)) (by rfl) T.m_parts_of T.k_parts_of T.b_parts_of .nil (fun _ _ => .nil) passB (ea_cons (ev_var 0) (ea_cons (ev_var 2) ea_nil)))) (tn_name 3 sc_simplicial_rounds.nd (by rfl) (Or.inl (by rfl))) (svs_cons (sv_setLc2 4 (own := [("part", 5), ("number", 6)]) (vs1 := [6]) (by rfl) sc_simplicial_rounds.nd (by rfl) (by rfl) (by rfl) (iv_lt (by rfl) (ev_var 3)) (blkOk_by (N := ["many", "found", "odd", "parts", "numbers", "part", "number", "told"]) (sc := defScope s_simplicial_rounds) (by decide +kernel)) (by decide) (by decide) (by decide) (fun _ _ _ _ _ => (tn_name 5 sc_simplicial_rounds.nd (by rfl) (Or.inl (by rfl)))) (fun _ _ _ _ _ => ets_nil) (fun _ _ _ _ _ => (iv_lt (by rfl) (ev_tup (ea_cons ev_int (ea_cons (ev_var 5) ea_nil))))) (fun _ _ _ _ _ => (tn_name 6 sc_simplicial_rounds.nd (by rfl) (Or.inl (by rfl)))) (fun _ _ _ _ _ => ets_nil) (fun _ _ _ _ _ => (ev_var 6)))
    (svs_one (sv_expr (ev_append (ev_var 1) (ea_cons (ev_tup (ea_cons ev_int (ea_cons (ev_var 4) ea_nil))) ea_nil)))))))))
    (svs_one (sv_ret (ev_lcF fin_l (own := [("told", 7)]) (by rfl) sc_simplicial_rounds.nd (iv_lt (by rfl) (ev_var 1)) (blkOk_by (N := ["many", "found", "odd", "parts", "numbers", "part", "number", "told"]) (sc := defScope s_simplicial_rounds) (by decide +kernel)) (by decide) (fun _ _ _ _ _ => (tn_name 7 sc_simplicial_rounds.nd (by rfl) (Or.inl (by rfl)))) (fun _ _ _ _ _ => (ets_one (et_tru (by rfl) (ev_call (ok_is_word (P := P) (w := w) (base := base) T) (hr.mono (by decide)) (by rfl) T.m_is_word T.k_is_word T.b_is_word .nil (fun _ _ => .nil) passK (ea_cons (ev_var 7) ea_nil))))) (fun _ _ _ _ _ => (ev_var 7))))))))

/-! simplicial_words -/
def b_simplicial_words : Pm.Env → S → Res Fl := (sSeq (sExpr (mCallD (n := 2) [] m_check_corners_and_excess (aCons (mVar 0) (aCons (mVar 1) aNil))))
  (sSeq (sIf (mB (m2 (eqP false) (mVar 1) (mC (.int 2)))) (sRet (mCall bSort1 (aCons (mCallD (n := 1) [] m_simplicial_rounds (aCons (mVar 0) aNil)) aNil))) sNext)
  (sRet (mCompF finL [2] (iLT (mCallD (n := 2) [] m_words_of (aCons (mVar 0) (aCons (mVar 1) aNil)))) (tName 2) (mBt (mCallD (n := 1) [] m_is_simplicial (aCons (mVar 2) aNil))) (mVar 2)))))
def m_simplicial_words : List D → S → Res D := runBody 2 3 b_simplicial_words
theorem sc_simplicial_words : FnScope ["many", "excess", "told"] ["many", "excess"] (defScope s_simplicial_words) := ⟨rfl, rfl, rfl, by decide +kernel, rfl, by decide +kernel, by decide +kernel⟩
theorem ok_simplicial_words (T : Tx K mg d) : FnOk P w K mg base (L2.CX P w) 14 d.a_simplicial_words d.d_simplicial_words ["many", "excess"] (spG (gg K d) 2 m_simplicial_words) :=
  (fn_def (N := ["many", "excess", "told"]) T.f_simplicial_words sc_simplicial_words rfl (body := b_simplicial_words) fun cdv A outer s H E hr =>
    (svs_cons (sv_expr (ev_call (ok_check_corners_and_excess (P := P) (w := w) (base := base) T) (hr.mono (by decide)) (by rfl) T.m_check_corners_and_excess T.k_check_corners_and_excess T.b_check_corners_and_excess .nil (fun _ _ => .nil) passB (ea_cons (ev_var 0) (ea_cons (ev_var 1) ea_nil))))
    (svs_cons (sv_if (et_cmp (od_eqP (by rfl) hr.un64) (ev_var 1) ev_int) (svs_one (sv_ret (ev_callB (cd_sort1 (by rfl) hr.un64) (by rfl) T.n_sorted bo_sorted (ea_cons (ev_call (ok_simplicial_rounds (P := P) (w := w) (base := base) T) (hr.mono (by decide)) (by rfl) T.m_simplicial_rounds T.k_simplicial_rounds T.b_simplicial_rounds .nil (fun _ _ => .nil) passB (ea_cons (ev_var 0) ea_nil)) ea_nil)))) svs_nil)
    (svs_one (sv_ret (ev_lcF fin_l (own := [("told", 2)]) (by rfl) sc_simplicial_words.nd (iv_lt (by rfl) (ev_call (ok_words_of (P := P) (w := w) (base := base) T) (hr.mono (by decide)) (by rfl) T.m_words_of T.k_words_of T.b_words_of .nil (fun _ _ => .nil) passB (ea_cons (ev_var 0) (ea_cons (ev_var 1) ea_nil)))) (blkOk_by (N := ["many", "excess", "told"]) (sc := defScope s_simplicial_words) (by decide +kernel)) (by decide) (fun _ _ _ _ _ => (tn_name 2 sc_simplicial_words.nd (by rfl) (Or.inl (by rfl)))) (fun _ _ _ _ _ => (ets_one (et_tru (by rfl) (ev_call (ok_is_simplicial (P := P) (w := w) (base := base) T) (hr.mono (by decide)) (by rfl) T.m_is_simplicial T.k_is_simplicial T.b_is_simplicial .nil (fun _ _ => .nil) passK (ea_cons (ev_var 2) ea_nil))))) (fun _ _ _ _ _ => (ev_var 2))))))))

/-! free_of -/
def b_free_of : Pm.Env → S → Res Fl := (sRet (mCall bLen (aCons (mCompF finL [1] (iR2 (aCons (mC (.int 1)) (aCons (m2 addAll (mVar 0) (mC (.int 1))) aNil))) (tName 1) (mB (m2 (eqP false) (mCall (bInt2 (fun _ _ => true) fun i j => .int (gcdI i j)) (aCons (mVar 1) (aCons (mVar 0) aNil))) (mC (.int 1)))) (mVar 1)) aNil)))
def m_free_of : List D → S → Res D := runBody 1 2 b_free_of
theorem sc_free_of : FnScope ["odd", "number"] ["odd"] (defScope s_free_of) := ⟨rfl, rfl, rfl, by decide +kernel, rfl, by decide +kernel, by decide +kernel⟩
theorem ok_free_of (T : Tx K mg d) : FnOk P w K mg base (L2.CX P w) 1 d.a_free_of d.d_free_of ["odd"] (spG (gg K d) 1 m_free_of) :=
  (fn_def (N := ["odd", "number"]) T.f_free_of sc_free_of rfl (body := b_free_of) fun cdv A outer s H E hr =>
    (svs_one (sv_ret (ev_callB (cd_len (by rfl)) (by rfl) T.n_len bo_len (ea_cons (ev_lcF fin_l (own := [("number", 1)]) (by rfl) sc_free_of.nd (iv_r2 (by rfl) T.n_range (ea_cons ev_int (ea_cons (ev_bin od_addAll (ev_var 0) ev_int) ea_nil))) (blkOk_by (N := ["odd", "number"]) (sc := defScope s_free_of) (by decide +kernel)) (by decide) (fun _ _ _ _ _ => (tn_name 1 sc_free_of.nd (by rfl) (by first | exact Or.inl rfl | exact Or.inr rfl))) (fun _ _ _ _ _ => (ets_one (et_cmp (od_eqP (by rfl) hr.un64) (ev_callF cd_gcd (by rfl) T.m_gcd (ea_cons (ev_var 1) (ea_cons (ev_var 0) ea_nil))) ev_int))) (fun _ _ _ _ _ => (ev_var 1))) ea_nil)))))

/-! simplicial_count -/
def b_simplicial_count : Pm.Env → S → Res Fl := (sSeq (sExpr (mCallD (n := 3) [] m_check_many (aCons (mVar 0) (aCons (mC (.int 5)) (aCons (mC (.int 60)) aNil)))))
  (sSeq (sSet 1 (m2 subI (mVar 0) (mC (.int 3))))
  (sSeq (sSet 2 (mCompF finL [4] (iR3 (aCons (mC (.int 1)) (aCons (m2 addAll (mVar 0) (mC (.int 1))) (aCons (mC (.int 2)) aNil)))) (tName 4) (mB (m2 (eqP false) (m2 modI (mVar 0) (mVar 4)) (mC (.int 0)))) (mVar 4)))
  (sSeq (sSet 3 (mCall bSum (aCons (mCompF finL [4] (iLT (mVar 2)) (tName 4) mYes (m2 mulD (mCallD (n := 1) [] m_free_of (aCons (mVar 4) aNil)) (m2 shlI (mC (.int 1)) (m2 divI (mVar 0) (mVar 4))))) aNil)))
  (sRet (m2 addAll (m2 subI (m2 shlI (mC (.int 1)) (m2 divI (mVar 1) (mC (.int 2)))) (m2 divI (m2 addAll (mVar 1) (mC (.int 4))) (mC (.int 2)))) (m2 divI (mVar 3) (m2 mulD (mC (.int 4)) (mVar 0)))))))))
def m_simplicial_count : List D → S → Res D := runBody 1 5 b_simplicial_count
theorem sc_simplicial_count : FnScope ["many", "size", "odds", "turned", "odd"] ["many"] (defScope s_simplicial_count) := ⟨rfl, rfl, rfl, by decide +kernel, rfl, by decide +kernel, by decide +kernel⟩
theorem ok_simplicial_count (T : Tx K mg d) : FnOk P w K mg base (L2.CX P w) 4 d.a_simplicial_count d.d_simplicial_count ["many"] (spG (gg K d) 1 m_simplicial_count) :=
  (fn_def (N := ["many", "size", "odds", "turned", "odd"]) T.f_simplicial_count sc_simplicial_count rfl (body := b_simplicial_count) fun cdv A outer s H E hr =>
    (svs_cons (sv_expr (ev_call (ok_check_many (P := P) (w := w) (base := base) T) (hr.mono (by decide)) (by rfl) T.m_check_many T.k_check_many T.b_check_many .nil (fun _ _ => .nil) passB (ea_cons (ev_var 0) (ea_cons ev_int (ea_cons ev_int ea_nil)))))
    (svs_cons (sv_set 1 sc_simplicial_count.nd (by rfl) (by first | exact Or.inl rfl | exact Or.inr rfl) (ev_bin od_sub (ev_var 0) ev_int))
    (svs_cons (sv_setLcF fin_l 2 (own := [("odd", 4)]) (by rfl) sc_simplicial_count.nd (by rfl) (by rfl) (by rfl) (iv_r3 (by rfl) T.n_range (ea_cons ev_int (ea_cons (ev_bin od_addAll (ev_var 0) ev_int) (ea_cons ev_int ea_nil)))) (blkOk_by (N := ["many", "size", "odds", "turned", "odd"]) (sc := defScope s_simplicial_count) (by decide +kernel)) (by decide) (fun _ _ _ _ _ => (tn_name 4 sc_simplicial_count.nd (by rfl) (by first | exact Or.inl rfl | exact Or.inr rfl))) (fun _ _ _ _ _ => (ets_one (et_cmp (od_eqP (by rfl) hr.un64) (ev_bin od_mod (ev_var 0) (ev_var 4)) ev_int))) (fun _ _ _ _ _ => (ev_var 4)))
    (svs_cons (sv_set 3 sc_simplicial_count.nd (by rfl) (by first | exact Or.inl rfl | exact Or.inr rfl) (ev_callB (cd_sum (by rfl) (by rfl)) (by rfl) T.n_sum bo_sum (ea_cons (ev_lcF fin_l (own := [("odd", 4)]) (by rfl) sc_simplicial_count.nd (iv_lt (by rfl) (ev_var 2)) (blkOk_by (N := ["many", "size", "odds", "turned", "odd"]) (sc := defScope s_simplicial_count) (by decide +kernel)) (by decide) (fun _ _ _ _ _ => (tn_name 4 sc_simplicial_count.nd (by rfl) (by first | exact Or.inl rfl | exact Or.inr rfl))) (fun _ _ _ _ _ => ets_nil) (fun _ _ _ _ _ => (ev_bin od_mulD (ev_call (ok_free_of (P := P) (w := w) (base := base) T) (hr.mono (by decide)) (by rfl) T.m_free_of T.k_free_of T.b_free_of .nil (fun _ _ => .nil) passK (ea_cons (ev_var 4) ea_nil)) (ev_bin od_shl ev_int (ev_bin od_div (ev_var 0) (ev_var 4)))))) ea_nil)))
    (svs_one (sv_ret (ev_bin od_addAll (ev_bin od_sub (ev_bin od_shl ev_int (ev_bin od_div (ev_var 1) ev_int)) (ev_bin od_div (ev_bin od_addAll (ev_var 1) ev_int) ev_int)) (ev_bin od_div (ev_var 3) (ev_bin od_mulD ev_int (ev_var 0)))))))))))

/-! _law_pot -/
def b_law_pot : Pm.Env → S → Res Fl := (sSeq (sSet 2 (m2 addAll (m2 mulD (mC (.int 563)) (mVar 1)) (mC (.int 379))))
  (sSeq (sIf (mB (m2 ltI (mVar 1) (mCall bLen (aCons (mVar 0) aNil)))) (sSet 2 (mCall (bInt1 fun i => .int (absI i)) (aCons (m2 ixD (mVar 0) (mVar 1)) aNil))) sNext)
  (sRet (mCell (aCons (mCall (bInt2 (fun _ _ => true) fun i j => .int (maxI i j)) (aCons (mC (.int 0)) (aCons (m2 subI (mVar 2) (m2 powI (mC (.int 10)) (mC (.int 18)))) aNil))) (aCons (m2 addAll (m2 modI (mCall (bInt1 fun i => .int i) (aCons (m2 addAll (m2 addAll (m2 mulD (m2 modI (mCall (bInt1 fun i => .int i) (aCons (mVar 2) aNil)) (mC (.int 2147483549))) (mC (.int 40692))) (m2 mulD (mC (.int 5471)) (mVar 1))) (mC (.int 421))) aNil)) (mC (.int 2147483563))) (mC (.int 1))) aNil))))))
def m_law_pot : List D → S → Res D := runBody 2 3 b_law_pot
theorem sc_law_pot : FnScope ["_law_script", "_law_k", "_law_cell"] ["_law_script", "_law_k"] (defScope s_law_pot) := ⟨rfl, rfl, rfl, by decide +kernel, rfl, by decide +kernel, by decide +kernel⟩
theorem ok_law_pot (T : Tx K mg d) : FnOk P w K mg base (L2.CX P w) 1 d.a_law_pot d.d_law_pot ["_law_script", "_law_k"] (spG (gg K d) 2 m_law_pot) :=
  (fn_def (N := ["_law_script", "_law_k", "_law_cell"]) T.f_law_pot sc_law_pot rfl (body := b_law_pot) fun cdv A outer s H E hr =>
    (svs_cons (sv_set 2 sc_law_pot.nd (by rfl) (Or.inl (by rfl)) (ev_bin od_addAll (ev_bin od_mulD ev_int (ev_var 1)) ev_int))
    (svs_cons (sv_if (et_cmp od_lt (ev_var 1) (ev_callB (cd_len (by rfl)) (by rfl) T.n_len bo_len (ea_cons (ev_var 0) ea_nil))) (svs_one (sv_set 2 sc_law_pot.nd (by rfl) (Or.inl (by rfl)) (ev_callB (cd_abs) (by rfl) T.n_abs bo_abs (ea_cons (ev_ix (ixd (by rfl)) (ev_var 0) (ev_var 1)) ea_nil)))) svs_nil)
    (svs_one (sv_ret (ev_cell (ea_cons (ev_callB (cd_max2 (by rfl)) (by rfl) T.n_max bo_max (ea_cons ev_int (ea_cons (ev_bin od_sub (ev_var 2) (ev_bin od_pow ev_int ev_int)) ea_nil))) (ea_cons (ev_bin od_addAll (ev_bin od_mod (ev_callTy (cd_int) (by rfl) T.n_int bo_int (ea_cons (ev_bin od_addAll (ev_bin od_addAll (ev_bin od_mulD (ev_bin od_mod (ev_callTy (cd_int) (by rfl) T.n_int bo_int (ea_cons (ev_var 2) ea_nil)) ev_int) ev_int) (ev_bin od_mulD ev_int (ev_var 1))) ev_int) ea_nil)) ev_int) ev_int) ea_nil))))))))

/-! _law_draw -/
def b_law_draw : Pm.Env → S → Res Fl := (sSeq (sIf (mB (m2 gtI (m2 ixD (mVar 0) (mC (.int 0))) (mC (.int 0)))) (sSeq (sAsg (mCall bDivmod (aCons (m2 ixD (mVar 0) (mC (.int 0))) (aCons (mVar 1) aNil))) (taTup 2 (taCons (taSub (mVar 0) (mC (.int 0))) (taCons (aN (tName 2)) taNil))))
  (sRet (mVar 2))) sNext)
  (sSeq (sAsg (m2 modI (mCall (bInt1 fun i => .int i) (aCons (m2 addAll (m2 mulD (m2 ixD (mVar 0) (mC (.int 1))) (mC (.int 39373))) (mC (.int 421))) aNil)) (mC (.int 2147483587))) (taSub (mVar 0) (mC (.int 1))))
  (sRet (m2 modI (mCall (bInt1 fun i => .int i) (aCons (m2 divI (m2 modI (mCall (bInt1 fun i => .int i) (aCons (m2 mulD (m2 ixD (mVar 0) (mC (.int 1))) (m2 ixD (mVar 0) (mC (.int 1)))) aNil)) (mC (.int 2147483563))) (mC (.int 17))) aNil)) (mVar 1)))))
def m_law_draw : List D → S → Res D := runBody 2 3 b_law_draw
theorem sc_law_draw : FnScope ["_law_pot_here", "_law_many", "_law_digit"] ["_law_pot_here", "_law_many"] (defScope s_law_draw) := ⟨rfl, rfl, rfl, by decide +kernel, rfl, by decide +kernel, by decide +kernel⟩
theorem ok_law_draw (T : Tx K mg d) : FnOk P w K mg base (L2.CX P w) 1 d.a_law_draw d.d_law_draw ["_law_pot_here", "_law_many"] (spG (gg K d) 2 m_law_draw) :=
  (fn_def (N := ["_law_pot_here", "_law_many", "_law_digit"]) T.f_law_draw sc_law_draw rfl (body := b_law_draw) fun cdv A outer s H E hr =>
    (svs_cons (sv_if (et_cmp od_gt (ev_ix (ixd (by rfl)) (ev_var 0) ev_int) ev_int) (svs_cons (sv_asg (ev_callB (cd_divmod) (by rfl) T.n_divmod bo_divmod (ea_cons (ev_ix (ixd (by rfl)) (ev_var 0) ev_int) (ea_cons (ev_var 1) ea_nil))) (ta_tup (by rfl) (by rfl) (tas_cons (ta_sub (ev_var 0) ev_int) (tas_cons (ta_n (tn_name 2 sc_law_draw.nd (by rfl) (Or.inl (by rfl)))) tas_nil))))
    (svs_one (sv_ret (ev_var 2)))) svs_nil)
    (svs_cons (sv_asg (ev_bin od_mod (ev_callTy (cd_int) (by rfl) T.n_int bo_int (ea_cons (ev_bin od_addAll (ev_bin od_mulD (ev_ix (ixd (by rfl)) (ev_var 0) ev_int) ev_int) ev_int) ea_nil)) ev_int) (ta_sub (ev_var 0) ev_int))
    (svs_one (sv_ret (ev_bin od_mod (ev_callTy (cd_int) (by rfl) T.n_int bo_int (ea_cons (ev_bin od_div (ev_bin od_mod (ev_callTy (cd_int) (by rfl) T.n_int bo_int (ea_cons (ev_bin od_mulD (ev_ix (ixd (by rfl)) (ev_var 0) ev_int) (ev_ix (ixd (by rfl)) (ev_var 0) ev_int)) ea_nil)) ev_int) ev_int) ea_nil)) (ev_var 1)))))))

/-! _law_least -/
def b_law_least : Pm.Env → S → Res Fl := (sSeq (sPar 1 2 (aCons (mCall bList (aCons (mVar 0) aNil)) (aCons (mRevL (mCall bList (aCons (mVar 0) aNil))) aNil)))
  (sSeq (sFor (iR1 (aCons (mCall bLen (aCons (mVar 0) aNil)) aNil)) (tName 3) (sSet 1 (mCall bMin3 (aCons (mVar 1) (aCons (m2 addAll (mSlice (mVar 0) (oS (mVar 3)) oN) (mSlice (mVar 0) oN (oS (mVar 3)))) (aCons (m2 addAll (mSlice (mVar 2) (oS (mVar 3)) oN) (mSlice (mVar 2) oN (oS (mVar 3)))) aNil))))))
  (sRet (mVar 1))))
def m_law_least : List D → S → Res D := runBody 1 4 b_law_least
theorem sc_law_least : FnScope ["_law_numbers", "_law_found", "_law_back", "_law_at"] ["_law_numbers"] (defScope s_law_least) := ⟨rfl, rfl, rfl, by decide +kernel, rfl, by decide +kernel, by decide +kernel⟩
theorem ok_law_least (T : Tx K mg d) : FnOk P w K mg base (L2.CX P w) 1 d.a_law_least d.d_law_least ["_law_numbers"] (spG (gg K d) 1 m_law_least) :=
  (fn_def (N := ["_law_numbers", "_law_found", "_law_back", "_law_at"]) T.f_law_least sc_law_least rfl (body := b_law_least) fun cdv A outer s H E hr =>
    (svs_cons (sv_par 1 2 (by rfl) sc_law_least.nd (by rfl) (by rfl) (by decide) (by rfl) (by rfl) (ea_cons (ev_callTy (cd_list (by rfl)) (by rfl) T.n_list bo_list (ea_cons (ev_var 0) ea_nil)) (ea_cons (ev_revL (by rfl) (ev_callTy (cd_list (by rfl)) (by rfl) T.n_list bo_list (ea_cons (ev_var 0) ea_nil))) ea_nil)) (by rfl))
    (svs_cons (sv_for (L2.passes_of (by rfl)) (by rfl) (iv_r1 (by rfl) T.n_range (ea_cons (ev_callB (cd_len (by rfl)) (by rfl) T.n_len bo_len (ea_cons (ev_var 0) ea_nil)) ea_nil)) (tn_name 3 sc_law_least.nd (by rfl) (Or.inl (by rfl))) (svs_one (sv_set 1 sc_law_least.nd (by rfl) (Or.inl (by rfl)) (ev_callB (cd_min3 (by rfl) (by rfl) hr.un64) (by rfl) T.n_min bo_min (ea_cons (ev_var 1) (ea_cons (ev_bin od_addAll (ev_slice (by rfl) (ev_var 0) (eo_s (ev_var 3)) eo_n) (ev_slice (by rfl) (ev_var 0) eo_n (eo_s (ev_var 3)))) (ea_cons (ev_bin od_addAll (ev_slice (by rfl) (ev_var 2) (eo_s (ev_var 3)) eo_n) (ev_slice (by rfl) (ev_var 2) eo_n (eo_s (ev_var 3)))) ea_nil)))))))
    (svs_one (sv_ret (ev_var 1))))))

/-! _law_lists -/
def b_law_lists (rec : List D → S → Res D) : Pm.Env → S → Res Fl := (sSeq (sIf (mB (m2 (eqP false) (mVar 0) (mC (.int 0)))) (sRet (mIf (mB (m2 (eqP false) (mVar 2) (mC (.int 0)))) (mLst (aCons (mLst aNil) aNil)) (mLst aNil))) sNext)
  (sSeq (sSet 3 (mLst aNil))
  (sSeq (sFor (iR2 (aCons (mVar 1) (aCons (m2 addAll (m2 subI (mVar 2) (m2 mulD (mVar 1) (m2 subI (mVar 0) (mC (.int 1))))) (mC (.int 1))) aNil))) (tName 4) (sSet 3 (m2 addAll (mVar 3) (mCompF finL [5] (iLst (mCallD (n := 3) [] rec (aCons (m2 subI (mVar 0) (mC (.int 1))) (aCons (mVar 1) (aCons (m2 subI (mVar 2) (mVar 4)) aNil))))) (tName 5) mYes (m2 addAll (mLst (aCons (mVar 4) aNil)) (mVar 5))))))
  (sRet (mVar 3)))))
def n_law_lists : Nat → List D → S → Res D
  | 0 => fun _ _ => .stuck
  | n + 1 => runBody 3 6 (b_law_lists (n_law_lists n))
def m_law_lists : List D → S → Res D := n_law_lists 20
theorem sc_law_lists : FnScope ["_law_many", "_law_least_here", "_law_total", "_law_found", "_law_first", "_law_rest"] ["_law_many", "_law_least_here", "_law_total"] (defScope s_law_lists) := ⟨rfl, rfl, rfl, by decide +kernel, rfl, by decide +kernel, by decide +kernel⟩
theorem okn_law_lists (T : Tx K mg d) : ∀ n : Nat, FnOk P w K mg base (L2.CX P w) (0 + n) d.a_law_lists d.d_law_lists ["_law_many", "_law_least_here", "_law_total"] (spG (gg K d) 3 (n_law_lists n))
  | 0 => fn_never
  | n + 1 => (fn_def (k := 0 + n) (N := ["_law_many", "_law_least_here", "_law_total", "_law_found", "_law_first", "_law_rest"]) T.f_law_lists sc_law_lists rfl (body := b_law_lists (n_law_lists n)) fun cdv A outer s H E hr =>
    (svs_cons (sv_if (et_cmp (od_eqP (by rfl) hr.un64) (ev_var 0) ev_int) (svs_one (sv_ret (ev_if (et_cmp (od_eqP (by rfl) hr.un64) (ev_var 2) ev_int) (ev_lst (ea_cons (ev_lst ea_nil) ea_nil)) (ev_lst ea_nil)))) svs_nil)
    (svs_cons (sv_set 3 sc_law_lists.nd (by rfl) (by first | exact Or.inl rfl | exact Or.inr rfl) (ev_lst ea_nil))
    (svs_cons (sv_for (L2.passes_of (by rfl)) (by rfl) (iv_r2 (by rfl) T.n_range (ea_cons (ev_var 1) (ea_cons (ev_bin od_addAll (ev_bin od_sub (ev_var 2) (ev_bin od_mulD (ev_var 1) (ev_bin od_sub (ev_var 0) ev_int))) ev_int) ea_nil))) (tn_name 4 sc_law_lists.nd (by rfl) (by first | exact Or.inl rfl | exact Or.inr rfl)) (svs_one (sv_set 3 sc_law_lists.nd (by rfl) (by first | exact Or.inl rfl | exact Or.inr rfl) (ev_bin od_addAll (ev_var 3) (ev_lcF fin_l (own := [("_law_rest", 5)]) (by rfl) sc_law_lists.nd (iv_l (by rfl) (ev_call (okn_law_lists T n) (hr.mono (by omega)) (by rfl) T.m_law_lists T.k_law_lists T.b_law_lists .nil (fun _ _ => .nil) passB (ea_cons (ev_bin od_sub (ev_var 0) ev_int) (ea_cons (ev_var 1) (ea_cons (ev_bin od_sub (ev_var 2) (ev_var 4)) ea_nil))))) (blkOk_by (N := ["_law_many", "_law_least_here", "_law_total", "_law_found", "_law_first", "_law_rest"]) (sc := defScope s_law_lists) (by decide +kernel)) (by decide) (fun _ _ _ _ _ => (tn_name 5 sc_law_lists.nd (by rfl) (by first | exact Or.inl rfl | exact Or.inr rfl))) (fun _ _ _ _ _ => ets_nil) (fun _ _ _ _ _ => (ev_bin od_addAll (ev_lst (ea_cons (ev_var 4) ea_nil)) (ev_var 5))))))))
    (svs_one (sv_ret (ev_var 3)))))))
theorem ok_law_lists (T : Tx K mg d) : FnOk P w K mg base (L2.CX P w) 20 d.a_law_lists d.d_law_lists ["_law_many", "_law_least_here", "_law_total"] (spG (gg K d) 3 m_law_lists) := okn_law_lists T 20

/-! _law_two -/
def b_law_two : Pm.Env → S → Res Fl := (sSeq (sSet 1 (mCell aNil))
  (sSeq (sFrz 1 (sFor (iLst (mLst (aCons (mC (.int 3)) (aCons (mC (.int 5)) (aCons (mC (.int 7)) (aCons (mC (.int 9)) aNil)))))) (tName 2) (sFor (iLst (mCallD (n := 3) [] m_law_lists (aCons (mVar 2) (aCons (mIf (mB (m2 (eqP false) (mVar 2) (mC (.int 3)))) (mC (.int 2)) (mC (.int 1))) (aCons (mVar 0) aNil))))) (tName 3) (sSeq (sSet 4 (mLst aNil))
  (sSeq (sFor (iLst (mVar 3)) (tName 5) (sSet 4 (m2 addAll (mVar 4) (mLst (aCons (mC (.int 0)) (aCons (mVar 5) aNil))))))
  (sIf (mB (m2 (eqP false) (mCallD (n := 1) [] m_law_least (aCons (mVar 4) aNil)) (mVar 4))) (sExpr (mtCell appF (mVar 1) (aCons (mTup (aCons (mC (.int 0)) (aCons (mVar 4) aNil))) aNil))) sNext))))))
  (sRet (mCall bSort1 (aCons (mVar 1) aNil)))))
def m_law_two : List D → S → Res D := fun ds s => cutRes s.length (runBody 1 6 b_law_two ds s)
theorem sc_law_two : FnScope ["_law_many", "_law_found", "_law_half", "_law_numbers", "_law_rounds", "_law_number"] ["_law_many"] (defScope s_law_two) := ⟨rfl, rfl, rfl, by decide +kernel, rfl, by decide +kernel, by decide +kernel⟩
theorem ok_law_two (T : Tx K mg d) : FnOk P w K mg base (L2.CX P w) 21 d.a_law_two d.d_law_two ["_law_many"] (spG (gg K d) 1 m_law_two) :=
  FnCut (fn_def (N := ["_law_many", "_law_found", "_law_half", "_law_numbers", "_law_rounds", "_law_number"]) T.f_law_two sc_law_two rfl (body := b_law_two) fun cdv A outer s H E hr =>
    (svs_cons (sv_set 1 sc_law_two.nd (by rfl) (Or.inl (by rfl)) (ev_cell ea_nil))
    (svs_cons (sv_frz 1 (sv_for (L2.passes_of (by rfl)) (by rfl) (iv_l (by rfl) (ev_lst (ea_cons ev_int (ea_cons ev_int (ea_cons ev_int (ea_cons ev_int ea_nil)))))) (tn_name 2 sc_law_two.nd (by rfl) (Or.inl (by rfl))) (svs_one (sv_for (L2.passes_of (by rfl)) (by rfl) (iv_l (by rfl) (ev_call (ok_law_lists (P := P) (w := w) (base := base) T) (hr.mono (by decide)) (by rfl) T.m_law_lists T.k_law_lists T.b_law_lists .nil (fun _ _ => .nil) passB (ea_cons (ev_var 2) (ea_cons (ev_if (et_cmp (od_eqP (by rfl) hr.un64) (ev_var 2) ev_int) ev_int ev_int) (ea_cons (ev_var 0) ea_nil))))) (tn_name 3 sc_law_two.nd (by rfl) (Or.inl (by rfl))) (svs_cons (sv_set 4 sc_law_two.nd (by rfl) (Or.inl (by rfl)) (ev_lst ea_nil))
    (svs_cons (sv_for (L2.passes_of (by rfl)) (by rfl) (iv_l (by rfl) (ev_var 3)) (tn_name 5 sc_law_two.nd (by rfl) (Or.inl (by rfl))) (svs_one (sv_set 4 sc_law_two.nd (by rfl) (Or.inl (by rfl)) (ev_bin od_addAll (ev_var 4) (ev_lst (ea_cons ev_int (ea_cons (ev_var 5) ea_nil)))))))
    (svs_one (sv_if (et_cmp (od_eqP (by rfl) hr.un64) (ev_call (ok_law_least (P := P) (w := w) (base := base) T) (hr.mono (by decide)) (by rfl) T.m_law_least T.k_law_least T.b_law_least .nil (fun _ _ => .nil) passB (ea_cons (ev_var 4) ea_nil)) (ev_var 4)) (svs_one (sv_expr (ev_append (ev_var 1) (ea_cons (ev_tup (ea_cons ev_int (ea_cons (ev_var 4) ea_nil))) ea_nil)))) svs_nil))))))))
    (svs_one (sv_ret (ev_callB (cd_sort1 (by rfl) hr.un64) (by rfl) T.n_sorted bo_sorted (ea_cons (ev_var 1) ea_nil)))))))

/-! _law_right -/
def b_law_right : Pm.Env → S → Res Fl := (sSeq (sSet 1 (m2 addAll (mC (.int 2)) (mCallD (n := 2) [] m_law_draw (aCons (mVar 0) (aCons (mC (.int 8)) aNil)))))
  (sSeq (sSet 2 (mLst (aCons (mLst (aCons (mTup (aCons (mVar 1) (aCons (mLst aNil) aNil))) aNil)) (aCons (mCompF finL [5] (iR2 (aCons (mC (.int 2)) (aCons (m2 addAll (m2 divI (mVar 1) (mC (.int 2))) (mC (.int 1))) aNil))) (tName 5) mYes (mTup (aCons (mC (.int 0)) (aCons (mLst (aCons (mVar 5) (aCons (m2 subI (mVar 1) (mVar 5)) aNil))) aNil)))) (aCons (mCallD (n := 1) [] m_law_two (aCons (mVar 1) aNil)) aNil)))))
  (sSeq (sFor (iLst (mLst (aCons (mC (.int 0)) (aCons (mC (.int 1)) (aCons (mC (.int 2)) aNil))))) (tName 3) (sFresh 4 (mCallD (n := 2) [] m_simplicial_words (aCons (mVar 1) (aCons (mVar 3) aNil)))
  (zRet (mOrT (mB (m2 (eqP true) (mVar 4) (m2 ixD (mVar 2) (mVar 3)))) (mB (m2 (eqP true) (mKwP [1, 0] 2 2 m_simplicial_words (aCons (mVar 3) (aCons (mVar 1) aNil))) (mVar 4)))) false
  (zRet (mB (m2 (eqP true) (mCompF finL [6] (iLst (mVar 4)) (tName 6) (mOrT (mB (m2 (isD true) (mCallD (n := 1) [] m_is_word (aCons (mVar 6) aNil)) (mC (.bl true)))) (mB (m2 (isD true) (mCallD (n := 1) [] m_is_simplicial (aCons (mVar 6) aNil)) (mC (.bl true))))) (mVar 6)) (mLst aNil))) false
  (zRet (mAndT (mOrT (mB (m2 ltI (mVar 3) (mC (.int 2)))) (mB (m2 ltI (mVar 1) (mC (.int 7))))) (mB (m2 (eqP true) (mCompF finL [6] (iLst (mCallD (n := 2) [] m_words_of (aCons (mVar 1) (aCons (mVar 3) aNil)))) (tName 6) (mBt (mCallD (n := 1) [] m_is_simplicial (aCons (mVar 6) aNil))) (mVar 6)) (mVar 4)))) false
  (zIfSp 4 [] (mB (m2 (eqP true) (mVar 4) (mLst aNil))) (chkP (([] ++ [0]) ++ [1]))
  (zSp (chkP []) (zTail (sIf (mB (m2 (eqP true) (mCallD (n := 2) [] m_simplicial_words (aCons (mVar 1) (aCons (mVar 3) aNil))) (m2 ixD (mVar 2) (mVar 3)))) (sRet (mC (.bl false))) sNext)))))))))
  (sRet (mOr (m2 ltI (mVar 1) (mC (.int 5))) (m2 (eqP false) (mCallD (n := 1) [] m_simplicial_count (aCons (mVar 1) aNil)) (mCall bLen (aCons (m2 ixD (mVar 2) (mC (.int 2))) aNil))))))))
def m_law_right : List D → S → Res D := fun ds s => cutRes s.length (runBody 1 7 b_law_right ds s)
theorem sc_law_right : FnScope ["_law_pot_here", "_law_many", "_law_due", "_law_excess", "_law_found", "_law_less", "_law_one"] ["_law_pot_here"] (defScope s_law_right) := ⟨rfl, rfl, rfl, by decide +kernel, rfl, by decide +kernel, by decide +kernel⟩
theorem ok_law_right (T : Tx K mg d) : FnOk P w K mg base (L2.CX P w) 22 d.a_law_right d.d_law_right ["_law_pot_here"] (spG (gg K d) 1 m_law_right) :=
  FnCut (fn_def (N := ["_law_pot_here", "_law_many", "_law_due", "_law_excess", "_law_found", "_law_less", "_law_one"]) T.f_law_right sc_law_right rfl (body := b_law_right) fun cdv A outer s H E hr =>
    (svs_cons (sv_set 1 sc_law_right.nd (by rfl) (by first | exact Or.inl rfl | exact Or.inr rfl) (ev_bin od_addAll ev_int (ev_call (ok_law_draw (P := P) (w := w) (base := base) T) (hr.mono (by decide)) (by rfl) T.m_law_draw T.k_law_draw T.b_law_draw .nil (fun _ _ => .nil) passB (ea_cons (ev_var 0) (ea_cons ev_int ea_nil)))))
    (svs_cons (sv_set 2 sc_law_right.nd (by rfl) (by first | exact Or.inl rfl | exact Or.inr rfl) (ev_lst (ea_cons (ev_lst (ea_cons (ev_tup (ea_cons (ev_var 1) (ea_cons (ev_lst ea_nil) ea_nil))) ea_nil)) (ea_cons (ev_lcF fin_l (own := [("_law_less", 5)]) (by rfl) sc_law_right.nd (iv_r2 (by rfl) T.n_range (ea_cons ev_int (ea_cons (ev_bin od_addAll (ev_bin od_div (ev_var 1) ev_int) ev_int) ea_nil))) (blkOk_by (N := ["_law_pot_here", "_law_many", "_law_due", "_law_excess", "_law_found", "_law_less", "_law_one"]) (sc := defScope s_law_right) (by decide +kernel)) (by decide) (fun _ _ _ _ _ => (tn_name 5 sc_law_right.nd (by rfl) (by first | exact Or.inl rfl | exact Or.inr rfl))) (fun _ _ _ _ _ => ets_nil) (fun _ _ _ _ _ => (ev_tup (ea_cons ev_int (ea_cons (ev_lst (ea_cons (ev_var 5) (ea_cons (ev_bin od_sub (ev_var 1) (ev_var 5)) ea_nil))) ea_nil))))) (ea_cons (ev_call (ok_law_two (P := P) (w := w) (base := base) T) (hr.mono (by decide)) (by rfl) T.m_law_two T.k_law_two T.b_law_two .nil (fun _ _ => .nil) passB (ea_cons (ev_var 1) ea_nil)) ea_nil)))))
    (svs_cons (sv_for (L2.passes_of (by rfl)) (by rfl) (iv_l (by rfl) (ev_lst (ea_cons ev_int (ea_cons ev_int (ea_cons ev_int ea_nil))))) (tn_name 3 sc_law_right.nd (by rfl) (by first | exact Or.inl rfl | exact Or.inr rfl)) (svs_fresh 4 (w := []) sc_law_right.nd (by rfl) (by first | exact Or.inl rfl | exact Or.inr rfl) (ev_call (ok_simplicial_words (P := P) (w := w) (base := base) T) (hr.mono (by decide)) (by rfl) T.m_simplicial_words T.k_simplicial_words T.b_simplicial_words .nil (fun _ _ => .nil) passB (ea_cons (ev_var 1) (ea_cons (ev_var 3) ea_nil)))
    (zn1_ret (ew_or (et_cmp (od_neP (by rfl) hr.un64) (ev_var 4) (ev_ix (ixd (by rfl)) (ev_var 2) (ev_var 3))) (ew_or1 (et_cmp (od_neP (by rfl) hr.un64) (ev_kwP (ok_simplicial_words (P := P) (w := w) (base := base) T) (hr.mono (by decide)) (by rfl) T.m_simplicial_words T.k_simplicial_words T.kbp_simplicial_words_excess_many passB (ek_cons (ev_var 3) (ek_cons (ev_var 1) ek_nil))) (ev_var 4)))).et
    (zn1_ret (et_cmp (od_neP (by rfl) hr.un64) (ev_lcF fin_l (own := [("_law_one", 6)]) (by rfl) sc_law_right.nd (iv_l (by rfl) (ev_var 4)) (blkOk_by (N := ["_law_pot_here", "_law_many", "_law_due", "_law_excess", "_law_found", "_law_less", "_law_one"]) (sc := defScope s_law_right) (by decide +kernel)) (by decide) (fun _ _ _ _ _ => (tn_name 6 sc_law_right.nd (by rfl) (by first | exact Or.inl rfl | exact Or.inr rfl))) (fun _ _ _ _ _ => (ets_one (ew_or (et_cmp od_isnot (ev_call (ok_is_word (P := P) (w := w) (base := base) T) (hr.mono (by decide)) (by rfl) T.m_is_word T.k_is_word T.b_is_word .nil (fun _ _ => .nil) passK (ea_cons (ev_var 6) ea_nil)) ev_bl) (ew_or1 (et_cmp od_isnot (ev_call (ok_is_simplicial (P := P) (w := w) (base := base) T) (hr.mono (by decide)) (by rfl) T.m_is_simplicial T.k_is_simplicial T.b_is_simplicial .nil (fun _ _ => .nil) passK (ea_cons (ev_var 6) ea_nil)) ev_bl))).et)) (fun _ _ _ _ _ => (ev_var 6))) (ev_lst ea_nil))
    (zn1_ret (ew_and (ew_or (et_cmp od_lt (ev_var 3) ev_int) (ew_or1 (et_cmp od_lt (ev_var 1) ev_int))).et (ew_and1 (et_cmp (od_neP (by rfl) hr.un64) (ev_lcF fin_l (own := [("_law_one", 6)]) (by rfl) sc_law_right.nd (iv_l (by rfl) (ev_call (ok_words_of (P := P) (w := w) (base := base) T) (hr.mono (by decide)) (by rfl) T.m_words_of T.k_words_of T.b_words_of .nil (fun _ _ => .nil) passB (ea_cons (ev_var 1) (ea_cons (ev_var 3) ea_nil)))) (blkOk_by (N := ["_law_pot_here", "_law_many", "_law_due", "_law_excess", "_law_found", "_law_less", "_law_one"]) (sc := defScope s_law_right) (by decide +kernel)) (by decide) (fun _ _ _ _ _ => (tn_name 6 sc_law_right.nd (by rfl) (by first | exact Or.inl rfl | exact Or.inr rfl))) (fun _ _ _ _ _ => (ets_one (et_tru (by rfl) (ev_call (ok_is_simplicial (P := P) (w := w) (base := base) T) (hr.mono (by decide)) (by rfl) T.m_is_simplicial T.k_is_simplicial T.b_is_simplicial .nil (fun _ _ => .nil) passK (ea_cons (ev_var 6) ea_nil))))) (fun _ _ _ _ _ => (ev_var 6))) (ev_var 4)))).et
    (zn1_ifsp (et_cmp (od_neP (by rfl) hr.un64) (ev_var 4) (ev_lst ea_nil)) (spl_one (sp_app (path_ix (k := 1) (path_ix (k := 0) (path_name 4)))))
    (zn2_cons (sp_app (path_name 4)) (zn2_tail (svs_one (sv_if (et_cmp (od_neP (by rfl) hr.un64) (ev_call (ok_simplicial_words (P := P) (w := w) (base := base) T) (hr.mono (by decide)) (by rfl) T.m_simplicial_words T.k_simplicial_words T.b_simplicial_words .nil (fun _ _ => .nil) passB (ea_cons (ev_var 1) (ea_cons (ev_var 3) ea_nil))) (ev_ix (ixd (by rfl)) (ev_var 2) (ev_var 3))) (svs_one (sv_ret ev_bl)) svs_nil))))))))))
    (svs_one (sv_ret (ev_or (ev_cmp od_lt (ev_var 1) ev_int) (ev_one (ev_cmp (od_eqP (by rfl) hr.un64) (ev_call (ok_simplicial_count (P := P) (w := w) (base := base) T) (hr.mono (by decide)) (by rfl) T.m_simplicial_count T.k_simplicial_count T.b_simplicial_count .nil (fun _ _ => .nil) passB (ea_cons (ev_var 1) ea_nil)) (ev_callB (cd_len (by rfl)) (by rfl) T.n_len bo_len (ea_cons (ev_ix (ixd (by rfl)) (ev_var 2) ev_int) ea_nil)))))))))))

/-! law -/
def b_law : Pm.Env → S → Res Fl := (sRet (mCallD (n := 1) [] m_law_right (aCons (mCallD (n := 2) [] m_law_pot (aCons (mVar 0) (aCons (mC (.int 0)) aNil))) aNil)))
def m_law : List D → S → Res D := runBody 1 1 b_law
theorem sc_law : FnScope ["_law_script"] ["_law_script"] (defScope s_law) := ⟨rfl, rfl, rfl, by decide +kernel, rfl, by decide +kernel, by decide +kernel⟩
theorem ok_law (T : Tx K mg d) : FnG P w K mg base 23 d.a_law (spG (gg K d) 1 m_law) :=
  fnG_def (N := ["_law_script"]) T.f_law sc_law T.b_law rfl (body := b_law) fun cdv A outer s H E hr hgd =>
    (svs_one (sv_ret (ev_call (ok_law_right (P := P) (w := w) (base := base) T) (hr.mono (by decide)) (by rfl) T.m_law_right T.k_law_right T.b_law_right .nil (fun _ _ => .nil) passB (ea_cons (ev_call (ok_law_pot (P := P) (w := w) (base := base) T) (hr.mono (by decide)) (by rfl) T.m_law_pot T.k_law_pot T.b_law_pot .nil (fun _ _ => .nil) passB (ea_cons (ev_var 0) (ea_cons ev_int ea_nil))) ea_nil))))
end
/-! what the top has left -/
abbrev D_is_integer : DefP := ⟨pG "is_integer", "is_integer", "is_integer", s_is_integer, []⟩
abbrev D_is_count : DefP := ⟨pG "is_count", "is_count", "is_count", s_is_count, []⟩
abbrev D_is_list : DefP := ⟨pG "is_list", "is_list", "is_list", s_is_list, []⟩
abbrev D_merging_at : DefP := ⟨pG "merging_at", "merging_at", "merging_at", s_merging_at, []⟩
abbrev D_arrangements : DefP := ⟨pG "arrangements", "arrangements", "arrangements", s_arrangements, []⟩
abbrev D_is_round : DefP := ⟨pG "is_round", "is_round", "is_round", s_is_round, []⟩
abbrev D_is_word : DefP := ⟨pG "is_word", "is_word", "is_word", s_is_word, []⟩
abbrev D_check_word : DefP := ⟨pG "check_word", "check_word", "check_word", s_check_word, []⟩
abbrev D_check_many : DefP := ⟨pG "check_many", "check_many", "check_many", s_check_many, []⟩
abbrev D_check_corners_and_excess : DefP := ⟨pG "check_corners_and_excess", "check_corners_and_excess", "check_corners_and_excess", s_check_corners_and_excess, []⟩
abbrev D_parts_of : DefP := ⟨pG "parts_of", "parts_of", "parts_of", s_parts_of, []⟩
abbrev D_rounds_with : DefP := ⟨pG "rounds_with", "rounds_with", "rounds_with", s_rounds_with, []⟩
abbrev D_rounds_of : DefP := ⟨pG "rounds_of", "rounds_of", "rounds_of", s_rounds_of, []⟩
abbrev D_candidates : DefP := ⟨pG "candidates", "candidates", "candidates", s_candidates, []⟩
abbrev D_words_of : DefP := ⟨pG "words_of", "words_of", "words_of", s_words_of, []⟩
abbrev D_has_whole_diameter : DefP := ⟨pG "has_whole_diameter", "has_whole_diameter", "has_whole_diameter", s_has_whole_diameter, []⟩
abbrev D_is_simplicial : DefP := ⟨pG "is_simplicial", "is_simplicial", "is_simplicial", s_is_simplicial, []⟩
abbrev D_simplicial_rounds : DefP := ⟨pG "simplicial_rounds", "simplicial_rounds", "simplicial_rounds", s_simplicial_rounds, []⟩
abbrev D_simplicial_words : DefP := ⟨pG "simplicial_words", "simplicial_words", "simplicial_words", s_simplicial_words, []⟩
abbrev D_free_of : DefP := ⟨pG "free_of", "free_of", "free_of", s_free_of, []⟩
abbrev D_simplicial_count : DefP := ⟨pG "simplicial_count", "simplicial_count", "simplicial_count", s_simplicial_count, []⟩
abbrev D_law_pot : DefP := ⟨pG "_law_pot", "_law_pot", "_law_pot", s_law_pot, []⟩
abbrev D_law_draw : DefP := ⟨pG "_law_draw", "_law_draw", "_law_draw", s_law_draw, []⟩
abbrev D_law_least : DefP := ⟨pG "_law_least", "_law_least", "_law_least", s_law_least, []⟩
abbrev D_law_lists : DefP := ⟨pG "_law_lists", "_law_lists", "_law_lists", s_law_lists, []⟩
abbrev D_law_two : DefP := ⟨pG "_law_two", "_law_two", "_law_two", s_law_two, []⟩
abbrev D_law_right : DefP := ⟨pG "_law_right", "_law_right", "_law_right", s_law_right, []⟩
abbrev D_law : DefP := ⟨pG "law", "law", "law", s_law, []⟩
def defs : List DefP := [D_is_integer, D_is_count, D_is_list, D_merging_at, D_arrangements, D_is_round, D_is_word, D_check_word, D_check_many, D_check_corners_and_excess, D_parts_of, D_rounds_with, D_rounds_of, D_candidates, D_words_of, D_has_whole_diameter, D_is_simplicial, D_simplicial_rounds, D_simplicial_words, D_free_of, D_simplicial_count, D_law_pot, D_law_draw, D_law_least, D_law_lists, D_law_two, D_law_right, D_law]
def facts : List (Fr' → Bool) := [faA (.free "abs"), faA (.free "all"), faA (.free "any"), faA (.free "bool"), faA (.free "divmod"), faA (.free "int"), faA (.free "isinstance"), faA (.free "len"), faA (.free "list"), faA (.free "max"), faA (.free "min"), faA (.free "range"), faA (.free "sorted"), faA (.free "sum"), faA (.free "tuple"), faA (.free "zip"), faB "gcd" "math.gcd", faA (.glo "is_integer"), faA (.glo "is_count"), faA (.glo "is_list"), faA (.glo "merging_at"), faA (.glo "arrangements"), faA (.glo "is_round"), faA (.glo "is_word"), faA (.glo "check_word"), faA (.glo "check_many"), faA (.glo "check_corners_and_excess"), faA (.glo "parts_of"), faA (.glo "rounds_with"), faA (.glo "rounds_of"), faA (.glo "candidates"), faA (.glo "words_of"), faA (.glo "has_whole_diameter"), faA (.glo "is_simplicial"), faA (.glo "simplicial_rounds"), faA (.glo "simplicial_words"), faA (.glo "free_of"), faA (.glo "simplicial_count"), faA (.glo "_law_pot"), faA (.glo "_law_draw"), faA (.glo "_law_least"), faA (.glo "_law_lists"), faA (.glo "_law_two"), faA (.glo "_law_right"), faA (.glo "law")]
theorem tx_of {K : Fr'} {h : Heap} {mg : Str → Option Value} (X : K.In h) (G : h.Ns mainGlobals mg) (c : SaysP defs facts K) : ∃ d : Ad, d.a_law = He.ga K "law" ∧ Tx K mg d := by
  obtain ⟨d_is_integer, F_is_integer⟩ := c.fund 0 (p := D_is_integer) rfl
  obtain ⟨d_is_count, F_is_count⟩ := c.fund 1 (p := D_is_count) rfl
  obtain ⟨d_is_list, F_is_list⟩ := c.fund 2 (p := D_is_list) rfl
  obtain ⟨d_merging_at, F_merging_at⟩ := c.fund 3 (p := D_merging_at) rfl
  obtain ⟨d_arrangements, F_arrangements⟩ := c.fund 4 (p := D_arrangements) rfl
  obtain ⟨d_is_round, F_is_round⟩ := c.fund 5 (p := D_is_round) rfl
  obtain ⟨d_is_word, F_is_word⟩ := c.fund 6 (p := D_is_word) rfl
  obtain ⟨d_check_word, F_check_word⟩ := c.fund 7 (p := D_check_word) rfl
  obtain ⟨d_check_many, F_check_many⟩ := c.fund 8 (p := D_check_many) rfl
  obtain ⟨d_check_corners_and_excess, F_check_corners_and_excess⟩ := c.fund 9 (p := D_check_corners_and_excess) rfl
  obtain ⟨d_parts_of, F_parts_of⟩ := c.fund 10 (p := D_parts_of) rfl
  obtain ⟨d_rounds_with, F_rounds_with⟩ := c.fund 11 (p := D_rounds_with) rfl
  obtain ⟨d_rounds_of, F_rounds_of⟩ := c.fund 12 (p := D_rounds_of) rfl
  obtain ⟨d_candidates, F_candidates⟩ := c.fund 13 (p := D_candidates) rfl
  obtain ⟨d_words_of, F_words_of⟩ := c.fund 14 (p := D_words_of) rfl
  obtain ⟨d_has_whole_diameter, F_has_whole_diameter⟩ := c.fund 15 (p := D_has_whole_diameter) rfl
  obtain ⟨d_is_simplicial, F_is_simplicial⟩ := c.fund 16 (p := D_is_simplicial) rfl
  obtain ⟨d_simplicial_rounds, F_simplicial_rounds⟩ := c.fund 17 (p := D_simplicial_rounds) rfl
  obtain ⟨d_simplicial_words, F_simplicial_words⟩ := c.fund 18 (p := D_simplicial_words) rfl
  obtain ⟨d_free_of, F_free_of⟩ := c.fund 19 (p := D_free_of) rfl
  obtain ⟨d_simplicial_count, F_simplicial_count⟩ := c.fund 20 (p := D_simplicial_count) rfl
  obtain ⟨d_law_pot, F_law_pot⟩ := c.fund 21 (p := D_law_pot) rfl
  obtain ⟨d_law_draw, F_law_draw⟩ := c.fund 22 (p := D_law_draw) rfl
  obtain ⟨d_law_least, F_law_least⟩ := c.fund 23 (p := D_law_least) rfl
  obtain ⟨d_law_lists, F_law_lists⟩ := c.fund 24 (p := D_law_lists) rfl
  obtain ⟨d_law_two, F_law_two⟩ := c.fund 25 (p := D_law_two) rfl
  obtain ⟨d_law_right, F_law_right⟩ := c.fund 26 (p := D_law_right) rfl
  obtain ⟨d_law, F_law⟩ := c.fund 27 (p := D_law) rfl
  refine ⟨{ a_is_integer := (pG "is_integer") K, d_is_integer := d_is_integer, a_is_count := (pG "is_count") K, d_is_count := d_is_count, a_is_list := (pG "is_list") K, d_is_list := d_is_list, a_merging_at := (pG "merging_at") K, d_merging_at := d_merging_at, a_arrangements := (pG "arrangements") K, d_arrangements := d_arrangements, a_is_round := (pG "is_round") K, d_is_round := d_is_round, a_is_word := (pG "is_word") K, d_is_word := d_is_word, a_check_word := (pG "check_word") K, d_check_word := d_check_word, a_check_many := (pG "check_many") K, d_check_many := d_check_many, a_check_corners_and_excess := (pG "check_corners_and_excess") K, d_check_corners_and_excess := d_check_corners_and_excess, a_parts_of := (pG "parts_of") K, d_parts_of := d_parts_of, a_rounds_with := (pG "rounds_with") K, d_rounds_with := d_rounds_with, a_rounds_of := (pG "rounds_of") K, d_rounds_of := d_rounds_of, a_candidates := (pG "candidates") K, d_candidates := d_candidates, a_words_of := (pG "words_of") K, d_words_of := d_words_of, a_has_whole_diameter := (pG "has_whole_diameter") K, d_has_whole_diameter := d_has_whole_diameter, a_is_simplicial := (pG "is_simplicial") K, d_is_simplicial := d_is_simplicial, a_simplicial_rounds := (pG "simplicial_rounds") K, d_simplicial_rounds := d_simplicial_rounds, a_simplicial_words := (pG "simplicial_words") K, d_simplicial_words := d_simplicial_words, a_free_of := (pG "free_of") K, d_free_of := d_free_of, a_simplicial_count := (pG "simplicial_count") K, d_simplicial_count := d_simplicial_count, a_law_pot := (pG "_law_pot") K, d_law_pot := d_law_pot, a_law_draw := (pG "_law_draw") K, d_law_draw := d_law_draw, a_law_least := (pG "_law_least") K, d_law_least := d_law_least, a_law_lists := (pG "_law_lists") K, d_law_lists := d_law_lists, a_law_two := (pG "_law_two") K, d_law_two := d_law_two, a_law_right := (pG "_law_right") K, d_law_right := d_law_right, a_law := (pG "law") K, d_law := d_law }, rfl, ?_⟩
  exact {
    clsf := clsF0
    n_abs := He.free_ok X G (c.fact 0 (f := faA (.free "abs")) rfl)
    n_all := He.free_ok X G (c.fact 1 (f := faA (.free "all")) rfl)
    n_any := He.free_ok X G (c.fact 2 (f := faA (.free "any")) rfl)
    n_bool := He.free_ok X G (c.fact 3 (f := faA (.free "bool")) rfl)
    n_divmod := He.free_ok X G (c.fact 4 (f := faA (.free "divmod")) rfl)
    n_int := He.free_ok X G (c.fact 5 (f := faA (.free "int")) rfl)
    n_isinstance := He.free_ok X G (c.fact 6 (f := faA (.free "isinstance")) rfl)
    n_len := He.free_ok X G (c.fact 7 (f := faA (.free "len")) rfl)
    n_list := He.free_ok X G (c.fact 8 (f := faA (.free "list")) rfl)
    n_max := He.free_ok X G (c.fact 9 (f := faA (.free "max")) rfl)
    n_min := He.free_ok X G (c.fact 10 (f := faA (.free "min")) rfl)
    n_range := He.free_ok X G (c.fact 11 (f := faA (.free "range")) rfl)
    n_sorted := He.free_ok X G (c.fact 12 (f := faA (.free "sorted")) rfl)
    n_sum := He.free_ok X G (c.fact 13 (f := faA (.free "sum")) rfl)
    n_tuple := He.free_ok X G (c.fact 14 (f := faA (.free "tuple")) rfl)
    n_zip := He.free_ok X G (c.fact 15 (f := faA (.free "zip")) rfl)
    m_gcd := faB_ok X G (c.fact 16 (f := faB "gcd" "math.gcd") rfl)
    f_is_integer := fun_of F_is_integer
    b_is_integer := Fun.binds (fun_of F_is_integer) fun _ _ _ _ _ _ us hl => match us, hl with | [_], _ => rfl
    m_is_integer := He.glo_ok X G (c.fact 17 (f := faA (.glo "is_integer")) rfl)
    k_is_integer := F_is_integer.kp
    f_is_count := fun_of F_is_count
    b_is_count := Fun.binds (fun_of F_is_count) fun _ _ _ _ _ _ us hl => match us, hl with | [_], _ => rfl
    m_is_count := He.glo_ok X G (c.fact 18 (f := faA (.glo "is_count")) rfl)
    k_is_count := F_is_count.kp
    f_is_list := fun_of F_is_list
    b_is_list := Fun.binds (fun_of F_is_list) fun _ _ _ _ _ _ us hl => match us, hl with | [_], _ => rfl
    m_is_list := He.glo_ok X G (c.fact 19 (f := faA (.glo "is_list")) rfl)
    k_is_list := F_is_list.kp
    f_merging_at := fun_of F_merging_at
    b_merging_at := Fun.binds (fun_of F_merging_at) fun _ _ _ _ _ _ us hl => match us, hl with | [_], _ => rfl
    m_merging_at := He.glo_ok X G (c.fact 20 (f := faA (.glo "merging_at")) rfl)
    k_merging_at := F_merging_at.kp
    f_arrangements := fun_of F_arrangements
    b_arrangements := Fun.binds (fun_of F_arrangements) fun _ _ _ _ _ _ us hl => match us, hl with | [_], _ => rfl
    m_arrangements := He.glo_ok X G (c.fact 21 (f := faA (.glo "arrangements")) rfl)
    k_arrangements := F_arrangements.kp
    f_is_round := fun_of F_is_round
    b_is_round := Fun.binds (fun_of F_is_round) fun _ _ _ _ _ _ us hl => match us, hl with | [_], _ => rfl
    m_is_round := He.glo_ok X G (c.fact 22 (f := faA (.glo "is_round")) rfl)
    k_is_round := F_is_round.kp
    f_is_word := fun_of F_is_word
    b_is_word := Fun.binds (fun_of F_is_word) fun _ _ _ _ _ _ us hl => match us, hl with | [_], _ => rfl
    m_is_word := He.glo_ok X G (c.fact 23 (f := faA (.glo "is_word")) rfl)
    k_is_word := F_is_word.kp
    f_check_word := fun_of F_check_word
    b_check_word := Fun.binds (fun_of F_check_word) fun _ _ _ _ _ _ us hl => match us, hl with | [_], _ => rfl
    m_check_word := He.glo_ok X G (c.fact 24 (f := faA (.glo "check_word")) rfl)
    k_check_word := F_check_word.kp
    f_check_many := fun_of F_check_many
    b_check_many := Fun.binds (fun_of F_check_many) fun _ _ _ _ _ _ us hl => match us, hl with | [_, _, _], _ => rfl
    m_check_many := He.glo_ok X G (c.fact 25 (f := faA (.glo "check_many")) rfl)
    k_check_many := F_check_many.kp
    f_check_corners_and_excess := fun_of F_check_corners_and_excess
    b_check_corners_and_excess := Fun.binds (fun_of F_check_corners_and_excess) fun _ _ _ _ _ _ us hl => match us, hl with | [_, _], _ => rfl
    m_check_corners_and_excess := He.glo_ok X G (c.fact 26 (f := faA (.glo "check_corners_and_excess")) rfl)
    k_check_corners_and_excess := F_check_corners_and_excess.kp
    f_parts_of := fun_of F_parts_of
    b_parts_of := Fun.binds (fun_of F_parts_of) fun _ _ _ _ _ _ us hl => match us, hl with | [_, _], _ => rfl
    m_parts_of := He.glo_ok X G (c.fact 27 (f := faA (.glo "parts_of")) rfl)
    k_parts_of := F_parts_of.kp
    f_rounds_with := fun_of F_rounds_with
    b_rounds_with := Fun.binds (fun_of F_rounds_with) fun _ _ _ _ _ _ us hl => match us, hl with | [_], _ => rfl
    m_rounds_with := He.glo_ok X G (c.fact 28 (f := faA (.glo "rounds_with")) rfl)
    k_rounds_with := F_rounds_with.kp
    f_rounds_of := fun_of F_rounds_of
    b_rounds_of := Fun.binds (fun_of F_rounds_of) fun _ _ _ _ _ _ us hl => match us, hl with | [_], _ => rfl
    m_rounds_of := He.glo_ok X G (c.fact 29 (f := faA (.glo "rounds_of")) rfl)
    k_rounds_of := F_rounds_of.kp
    f_candidates := fun_of F_candidates
    b_candidates := Fun.binds (fun_of F_candidates) fun _ _ _ _ _ _ us hl => match us, hl with | [_, _], _ => rfl
    m_candidates := He.glo_ok X G (c.fact 30 (f := faA (.glo "candidates")) rfl)
    k_candidates := F_candidates.kp
    f_words_of := fun_of F_words_of
    b_words_of := Fun.binds (fun_of F_words_of) fun _ _ _ _ _ _ us hl => match us, hl with | [_, _], _ => rfl
    m_words_of := He.glo_ok X G (c.fact 31 (f := faA (.glo "words_of")) rfl)
    k_words_of := F_words_of.kp
    f_has_whole_diameter := fun_of F_has_whole_diameter
    b_has_whole_diameter := Fun.binds (fun_of F_has_whole_diameter) fun _ _ _ _ _ _ us hl => match us, hl with | [_], _ => rfl
    m_has_whole_diameter := He.glo_ok X G (c.fact 32 (f := faA (.glo "has_whole_diameter")) rfl)
    k_has_whole_diameter := F_has_whole_diameter.kp
    f_is_simplicial := fun_of F_is_simplicial
    b_is_simplicial := Fun.binds (fun_of F_is_simplicial) fun _ _ _ _ _ _ us hl => match us, hl with | [_], _ => rfl
    m_is_simplicial := He.glo_ok X G (c.fact 33 (f := faA (.glo "is_simplicial")) rfl)
    k_is_simplicial := F_is_simplicial.kp
    f_simplicial_rounds := fun_of F_simplicial_rounds
    b_simplicial_rounds := Fun.binds (fun_of F_simplicial_rounds) fun _ _ _ _ _ _ us hl => match us, hl with | [_], _ => rfl
    m_simplicial_rounds := He.glo_ok X G (c.fact 34 (f := faA (.glo "simplicial_rounds")) rfl)
    k_simplicial_rounds := F_simplicial_rounds.kp
    f_simplicial_words := fun_of F_simplicial_words
    b_simplicial_words := Fun.binds (fun_of F_simplicial_words) fun _ _ _ _ _ _ us hl => match us, hl with | [_, _], _ => rfl
    m_simplicial_words := He.glo_ok X G (c.fact 35 (f := faA (.glo "simplicial_words")) rfl)
    k_simplicial_words := F_simplicial_words.kp
    f_free_of := fun_of F_free_of
    b_free_of := Fun.binds (fun_of F_free_of) fun _ _ _ _ _ _ us hl => match us, hl with | [_], _ => rfl
    m_free_of := He.glo_ok X G (c.fact 36 (f := faA (.glo "free_of")) rfl)
    k_free_of := F_free_of.kp
    f_simplicial_count := fun_of F_simplicial_count
    b_simplicial_count := Fun.binds (fun_of F_simplicial_count) fun _ _ _ _ _ _ us hl => match us, hl with | [_], _ => rfl
    m_simplicial_count := He.glo_ok X G (c.fact 37 (f := faA (.glo "simplicial_count")) rfl)
    k_simplicial_count := F_simplicial_count.kp
    f_law_pot := fun_of F_law_pot
    b_law_pot := Fun.binds (fun_of F_law_pot) fun _ _ _ _ _ _ us hl => match us, hl with | [_, _], _ => rfl
    m_law_pot := He.glo_ok X G (c.fact 38 (f := faA (.glo "_law_pot")) rfl)
    k_law_pot := F_law_pot.kp
    f_law_draw := fun_of F_law_draw
    b_law_draw := Fun.binds (fun_of F_law_draw) fun _ _ _ _ _ _ us hl => match us, hl with | [_, _], _ => rfl
    m_law_draw := He.glo_ok X G (c.fact 39 (f := faA (.glo "_law_draw")) rfl)
    k_law_draw := F_law_draw.kp
    f_law_least := fun_of F_law_least
    b_law_least := Fun.binds (fun_of F_law_least) fun _ _ _ _ _ _ us hl => match us, hl with | [_], _ => rfl
    m_law_least := He.glo_ok X G (c.fact 40 (f := faA (.glo "_law_least")) rfl)
    k_law_least := F_law_least.kp
    f_law_lists := fun_of F_law_lists
    b_law_lists := Fun.binds (fun_of F_law_lists) fun _ _ _ _ _ _ us hl => match us, hl with | [_, _, _], _ => rfl
    m_law_lists := He.glo_ok X G (c.fact 41 (f := faA (.glo "_law_lists")) rfl)
    k_law_lists := F_law_lists.kp
    f_law_two := fun_of F_law_two
    b_law_two := Fun.binds (fun_of F_law_two) fun _ _ _ _ _ _ us hl => match us, hl with | [_], _ => rfl
    m_law_two := He.glo_ok X G (c.fact 42 (f := faA (.glo "_law_two")) rfl)
    k_law_two := F_law_two.kp
    f_law_right := fun_of F_law_right
    b_law_right := Fun.binds (fun_of F_law_right) fun _ _ _ _ _ _ us hl => match us, hl with | [_], _ => rfl
    m_law_right := He.glo_ok X G (c.fact 43 (f := faA (.glo "_law_right")) rfl)
    k_law_right := F_law_right.kp
    f_law := fun_of F_law
    b_law := Fun.binds (fun_of F_law) fun _ _ _ _ _ _ us hl => match us, hl with | [_], _ => rfl
    m_law := He.glo_ok X G (c.fact 44 (f := faA (.glo "law")) rfl)
    k_law := F_law.kp
    kbp_simplicial_words_excess_many := kbp_of (fun_of F_simplicial_words) fun _ _ _ _ _ _ ws hw => match ws, hw with | [_, _], _ => rfl }
end K85
set_option Elab.async false
set_option linter.all false
set_option maxRecDepth 100000
set_option maxHeartbeats 400000
set_option exponentiation.threshold 5000
namespace K85
open Pm PySem
theorem draw_ok : DrawOk m_law_draw := drawGok (N := ⟨39373, 421, 2147483587, 2147483563, 17⟩) ⟨by decide, by decide, by decide, by decide⟩
theorem pot_ok : PotOk m_law_pot := potOk (E := 563) (F := 379) (P0 := 2147483549) (M := 40692) (C := 5471) (Dd := 421) (Pp := 2147483563) (by decide) (by decide) (by decide) (by decide) (by decide)
abbrev S1 (a c : Int) : S := [.lst [.int a, .int c]]
theorem s1_of {s' : S} {a c : Int} (n : NxP (S1 a c) s' 0) : ∃ a' c', s' = S1 a' c' := by
  have := (Sh.one a c).next n
  cases this with
  | one a' c' => exact ⟨a', c', rfl⟩
def restR : Pm.Env → S → Res Fl := (sSeq (sSet 2 (mLst (aCons (mLst (aCons (mTup (aCons (mVar 1) (aCons (mLst aNil) aNil))) aNil)) (aCons (mCompF finL [5] (iR2 (aCons (mC (.int 2)) (aCons (m2 addAll (m2 divI (mVar 1) (mC (.int 2))) (mC (.int 1))) aNil))) (tName 5) mYes (mTup (aCons (mC (.int 0)) (aCons (mLst (aCons (mVar 5) (aCons (m2 subI (mVar 1) (mVar 5)) aNil))) aNil)))) (aCons (mCallD (n := 1) [] m_law_two (aCons (mVar 1) aNil)) aNil)))))
  (sSeq (sFor (iLst (mLst (aCons (mC (.int 0)) (aCons (mC (.int 1)) (aCons (mC (.int 2)) aNil))))) (tName 3) (sFresh 4 (mCallD (n := 2) [] m_simplicial_words (aCons (mVar 1) (aCons (mVar 3) aNil)))
  (zRet (mOrT (mB (m2 (eqP true) (mVar 4) (m2 ixD (mVar 2) (mVar 3)))) (mB (m2 (eqP true) (mKwP [1, 0] 2 2 m_simplicial_words (aCons (mVar 3) (aCons (mVar 1) aNil))) (mVar 4)))) false
  (zRet (mB (m2 (eqP true) (mCompF finL [6] (iLst (mVar 4)) (tName 6) (mOrT (mB (m2 (isD true) (mCallD (n := 1) [] m_is_word (aCons (mVar 6) aNil)) (mC (.bl true)))) (mB (m2 (isD true) (mCallD (n := 1) [] m_is_simplicial (aCons (mVar 6) aNil)) (mC (.bl true))))) (mVar 6)) (mLst aNil))) false
  (zRet (mAndT (mOrT (mB (m2 ltI (mVar 3) (mC (.int 2)))) (mB (m2 ltI (mVar 1) (mC (.int 7))))) (mB (m2 (eqP true) (mCompF finL [6] (iLst (mCallD (n := 2) [] m_words_of (aCons (mVar 1) (aCons (mVar 3) aNil)))) (tName 6) (mBt (mCallD (n := 1) [] m_is_simplicial (aCons (mVar 6) aNil))) (mVar 6)) (mVar 4)))) false
  (zIfSp 4 [] (mB (m2 (eqP true) (mVar 4) (mLst aNil))) (chkP (([] ++ [0]) ++ [1]))
  (zSp (chkP []) (zTail (sIf (mB (m2 (eqP true) (mCallD (n := 2) [] m_simplicial_words (aCons (mVar 1) (aCons (mVar 3) aNil))) (m2 ixD (mVar 2) (mVar 3)))) (sRet (mC (.bl false))) sNext)))))))))
  (sRet (mOr (m2 ltI (mVar 1) (mC (.int 5))) (m2 (eqP false) (mCallD (n := 1) [] m_simplicial_count (aCons (mVar 1) aNil)) (mCall bLen (aCons (m2 ixD (mVar 2) (mC (.int 2))) aNil)))))))
theorem right_eq : b_law_right = (sSeq (sSet 1 (m2 addAll (mC (.int 2)) (mCallD (n := 2) [] m_law_draw (aCons (mVar 0) (aCons (mC (.int 8)) aNil))))) restR) := rfl
def okR (r : Res Fl) : Bool := match r with
  | .ok (.rt (.bl true)) [.lst [.int _, .int _]] => true
  | _ => false
end K85
set_option Elab.async false
set_option linter.all false
set_option maxRecDepth 100000
set_option maxHeartbeats 400000
set_option exponentiation.threshold 5000
namespace K85
open Pm PySem
open Wd (ifF words_ok wordsP wtab ceA)
def dueC : Pm.Env → S → Res D := (mLst (aCons (mLst (aCons (mTup (aCons (mVar 1) (aCons (mLst aNil) aNil))) aNil)) (aCons (mCompF finL [5] (iR2 (aCons (mC (.int 2)) (aCons (m2 addAll (m2 divI (mVar 1) (mC (.int 2))) (mC (.int 1))) aNil))) (tName 5) mYes (mTup (aCons (mC (.int 0)) (aCons (mLst (aCons (mVar 5) (aCons (m2 subI (mVar 1) (mVar 5)) aNil))) aNil)))) (aCons (mCallD (n := 1) [] m_law_two (aCons (mVar 1) aNil)) aNil))))
def endC : Pm.Env → S → Res D := (mOr (m2 ltI (mVar 1) (mC (.int 5))) (m2 (eqP false) (mCallD (n := 1) [] m_simplicial_count (aCons (mVar 1) aNil)) (mCall bLen (aCons (m2 ixD (mVar 2) (mC (.int 2))) aNil))))
def tA : Pm.Env → S → Res Bool := (mOrT (mB (m2 (eqP true) (mVar 4) (m2 ixD (mVar 2) (mVar 3)))) (mB (m2 (eqP true) (mKwP [1, 0] 2 2 m_simplicial_words (aCons (mVar 3) (aCons (mVar 1) aNil))) (mVar 4))))
def tB : Pm.Env → S → Res Bool := (mB (m2 (eqP true) (mCompF finL [6] (iLst (mVar 4)) (tName 6) (mOrT (mB (m2 (isD true) (mCallD (n := 1) [] m_is_word (aCons (mVar 6) aNil)) (mC (.bl true)))) (mB (m2 (isD true) (mCallD (n := 1) [] m_is_simplicial (aCons (mVar 6) aNil)) (mC (.bl true))))) (mVar 6)) (mLst aNil)))
def tC : Pm.Env → S → Res Bool := (mAndT (mOrT (mB (m2 ltI (mVar 3) (mC (.int 2)))) (mB (m2 ltI (mVar 1) (mC (.int 7))))) (mB (m2 (eqP true) (mCompF finL [6] (iLst (mCallD (n := 2) [] m_words_of (aCons (mVar 1) (aCons (mVar 3) aNil)))) (tName 6) (mBt (mCallD (n := 1) [] m_is_simplicial (aCons (mVar 6) aNil))) (mVar 6)) (mVar 4))))
def zS : D → Pm.Env → S → Res Fl := (zSp (chkP []) (zTail (sIf (mB (m2 (eqP true) (mCallD (n := 2) [] m_simplicial_words (aCons (mVar 1) (aCons (mVar 3) aNil))) (m2 ixD (mVar 2) (mVar 3)))) (sRet (mC (.bl false))) sNext)))
def bodyF : Pm.Env → S → Res Fl := sFresh 4 (mCallD (n := 2) [] m_simplicial_words (aCons (mVar 1) (aCons (mVar 3) aNil))) (zRet tA false (zRet tB false (zRet tC false (zIfSp 4 [] (mB (m2 (eqP true) (mVar 4) (mLst aNil))) (chkP (([] ++ [0]) ++ [1])) zS))))
theorem rest_eq : restR = sSeq (sSet 2 dueC) (sSeq (sFor (iLst (mLst (aCons (mC (.int 0)) (aCons (mC (.int 1)) (aCons (mC (.int 2)) aNil))))) (tName 3) bodyF) (sRet endC)) := rfl

abbrev EF (m : Int) (L : D) (e : Option D) (x : Option D) : Pm.Env := [some (.cell 0), some (.int m), some L, e, x, none, none]
theorem zRetF {tc : Pm.Env → S → Res Bool} {c : Bool} {m : Pm.Env → Pm.Env → D → S → Res Fl} {env env0 : Pm.Env} {d : D} {s : S} (h : tc env s = .ok false s) : zRet tc c m env env0 d s = m env env0 d s := by
  unfold zRet
  rw [h]
  rfl
theorem zIfSpT {i : Nat} {w : List Nat} {tc : Pm.Env → S → Res Bool} {chk : D → Bool} {m : D → Pm.Env → S → Res Fl} {env env0 : Pm.Env} {d : D} {s : S} (h : tc env s = .ok true s) (hf : flatS s = true) (hc : chk d = true) : zIfSp i w tc chk m env env0 d s = m d (restE i w env env0) s := by
  unfold zIfSp
  rw [h]
  show (if flatS s = true then _ else _) = _
  rw [if_pos hf, if_pos rfl, if_pos hc]
theorem body_ok {a c m e : Int} {L d4 : D} (hSW : m_simplicial_words [.int m, .int e] (S1 a c) = .ok d4 (S1 a c)) (hL : ∀ s, ixD L (.int e) s = .ok d4 s) (hE : ∀ s, eqP true d4 d4 s = .ok (.bl false) s)
    (hB : tB (EF m L (some (.int e)) (some d4)) (S1 a c) = .ok false (S1 a c)) (hC : tC (EF m L (some (.int e)) (some d4)) (S1 a c) = .ok false (S1 a c)) (hI : mB (m2 (eqP true) (mVar 4) (mLst aNil)) (EF m L (some (.int e)) (some d4)) (S1 a c) = .ok true (S1 a c))
    (hf : few d4 = true) (h1 : chkP (([] ++ [0]) ++ [1]) d4 = true) (h2 : chkP [] d4 = true) : bodyF (EF m L (some (.int e)) none) (S1 a c) = .ok (.nx (EF m L (some (.int e)) none)) (S1 a c) := by
  have c1 : mCallD (n := 2) [] m_simplicial_words (aCons (mVar 1) (aCons (mVar 3) aNil)) (flatE (EF m L (some (.int e)) none)) (S1 a c) = .ok d4 (S1 a c) := by
    simp [mCallD, aCons, aNil, mVar, flatE, flatD, hSW]
  have c2 : mCallD (n := 2) [] m_simplicial_words (aCons (mVar 1) (aCons (mVar 3) aNil)) (EF m L (some (.int e)) none) (S1 a c) = .ok d4 (S1 a c) := by
    simp [mCallD, aCons, aNil, mVar, hSW]
  have hp : perm [1, 0] [D.int e, D.int m] = [.int m, .int e] := rfl
  have hA : tA (EF m L (some (.int e)) (some d4)) (S1 a c) = .ok false (S1 a c) := by
    simp [tA, mOrT, mB, m2, mVar, hL, hE, mKwP, aCons, aNil, hp, hSW]
  have hr : restE 4 [] (EF m L (some (.int e)) (some d4)) (EF m L (some (.int e)) none) = EF m L (some (.int e)) none := rfl
  have hz : zS d4 (EF m L (some (.int e)) none) (S1 a c) = .ok (.nx (EF m L (some (.int e)) none)) (S1 a c) := by
    unfold zS zSp zTail
    rw [if_pos h2]
    refine (ifF ?_).trans rfl
    simp only [mB, m2, c2, Res.bind_ok]
    simp [mVar, hL, hE]
  unfold bodyF sFresh
  rw [if_pos (show 4 < List.length (EF m L (some (.int e)) none) from (by decide : 4 < 7)), if_pos (show flatS (S1 a c) = true from rfl), c1]
  show (if few d4 = true then _ else _) = _
  rw [if_pos hf]
  show zRet tA false _ (EF m L (some (.int e)) (some d4)) (EF m L (some (.int e)) none) d4 (S1 a c) = _
  rw [zRetF hA, zRetF hB, zRetF hC, zIfSpT hI rfl h1, hr]
  exact hz
theorem rest_of {a c m : Int} {L : D} (h0 : dueC [some (.cell 0), some (.int m), none, none, none, none, none] (S1 a c) = .ok L (S1 a c)) (b0 : bodyF (EF m L (some (.int 0)) none) (S1 a c) = .ok (.nx (EF m L (some (.int 0)) none)) (S1 a c)) (b1 : bodyF (EF m L (some (.int 1)) none) (S1 a c) = .ok (.nx (EF m L (some (.int 1)) none)) (S1 a c)) (b2 : bodyF (EF m L (some (.int 2)) none) (S1 a c) = .ok (.nx (EF m L (some (.int 2)) none)) (S1 a c))
    (he : endC (EF m L (some (.int 2)) none) (S1 a c) = .ok (.bl true) (S1 a c)) : restR [some (.cell 0), some (.int m), none, none, none, none, none] (S1 a c) = .ok (.rt (.bl true)) (S1 a c) := by
  have e0 : iLst (mLst (aCons (mC (.int 0)) (aCons (mC (.int 1)) (aCons (mC (.int 2)) aNil)))) (EF m L none none) (S1 a c) = .ok [.int 0, .int 1, .int 2] (S1 a c) := rfl
  have t2 : sFor (iLst (mLst (aCons (mC (.int 0)) (aCons (mC (.int 1)) (aCons (mC (.int 2)) aNil))))) (tName 3) bodyF (EF m L none none) (S1 a c) = .ok (.nx (EF m L (some (.int 2)) none)) (S1 a c) := by
    unfold sFor
    rw [e0]
    simp only [Res.bind_ok, forL, tName, List.set, b0, b1, b2]
  rw [rest_eq]
  exact (seqP (setP (i := 2) h0)).trans ((seqP t2).trans (retP he))
theorem w24 : (([2, 3, 4] : List Nat).all fun m => decide (wordsP m 2 = wtab m)) = true := by decide +kernel
def ms : List Nat := [2, 3, 4, 5, 6, 7]
theorem w_all {m : Nat} (h : m ∈ ms) : wordsP m 2 = wtab m := by
  have h1 := Wd.wtab_ok
  have h2 := w24
  simp only [List.all_cons, List.all_nil, Bool.and_true, Bool.and_eq_true, decide_eq_true_eq] at h1 h2
  simp only [ms, List.mem_cons, List.not_mem_nil, or_false] at h
  rcases h with rfl | rfl | rfl | rfl | rfl | rfl
  · exact h2.1
  · exact h2.2.1
  · exact h2.2.2
  · exact h1.1
  · exact h1.2.1
  · exact h1.2.2
theorem words_is : m_words_of = Wd.m_words_of 0 := rfl
theorem w_ok {m : Nat} (h : m ∈ ms) (s : S) : m_words_of [.int (m : Int), .int 2] s = .ok (.lst ((wtab m).map wordD)) s := by
  have hm : 2 ≤ m ∧ m ≤ 7 := by
    simp only [ms, List.mem_cons, List.not_mem_nil, or_false] at h
    omega
  have hce : (m, 2) ∈ ceA := by
    simp only [ms, List.mem_cons, List.not_mem_nil, or_false] at h
    rcases h with rfl | rfl | rfl | rfl | rfl | rfl <;> decide
  have e := words_ok (k := 0) hce (by omega) (by decide) (fun _ => by omega) s
  rw [w_all h] at e
  rw [words_is]
  exact e
def simG (m : Nat) : Pm.Env → S → Res D := mCompF finL [6] (fun _ s => .ok ((wtab m).map wordD) s) (tName 6) (mBt (mCallD (n := 1) [] m_is_simplicial (aCons (mVar 6) aNil))) (mVar 6)
theorem tC_of {m : Nat} (h : m ∈ ms) (h7 : (m : Int) < 7) {L d4 : D} (a c : Int) (hs : simG m (EF (m : Int) L (some (.int 2)) (some d4)) (S1 a c) = .ok d4 (S1 a c)) (hE : ∀ s, eqP true d4 d4 s = .ok (.bl false) s) : tC (EF (m : Int) L (some (.int 2)) (some d4)) (S1 a c) = .ok false (S1 a c) := by
  have ew := w_ok h (S1 a c)
  have e0 : iLst (mCallD (n := 2) [] m_words_of (aCons (mVar 1) (aCons (mVar 3) aNil))) (EF (m : Int) L (some (.int 2)) (some d4)) (S1 a c) = .ok ((wtab m).map wordD) (S1 a c) := by
    simp [iLst, mCallD, aCons, aNil, mVar, ew, iSeq]
  have e1 : mCompF finL [6] (iLst (mCallD (n := 2) [] m_words_of (aCons (mVar 1) (aCons (mVar 3) aNil)))) (tName 6) (mBt (mCallD (n := 1) [] m_is_simplicial (aCons (mVar 6) aNil))) (mVar 6) (EF (m : Int) L (some (.int 2)) (some d4)) (S1 a c) = .ok d4 (S1 a c) := by
    refine Eq.trans ?_ hs
    unfold simG mCompF
    rw [e0]
  have e2 : mOrT (mB (m2 ltI (mVar 3) (mC (.int 2)))) (mB (m2 ltI (mVar 1) (mC (.int 7)))) (EF (m : Int) L (some (.int 2)) (some d4)) (S1 a c) = .ok true (S1 a c) := by
    simp [mOrT, mB, m2, mVar, mC, ltI, intOp, h7]
  unfold tC mAndT
  rw [e2]
  simp only [Res.bind_ok, if_true, mB, m2, e1]
  simp only [mVar, List.getElem?_cons_zero, List.getElem?_cons_succ, Res.bind_ok, hE]
end K85
set_option Elab.async false
set_option linter.all false
set_option maxRecDepth 100000
set_option maxHeartbeats 400000
set_option exponentiation.threshold 5000
namespace K85
open Pm PySem
set_option maxHeartbeats 0 in
theorem rest2 (a c : Int) : restR [some (.cell 0), some (.int 2), none, none, none, none, none] (S1 a c) = .ok (.rt (.bl true)) (S1 a c) := by kernel_rfl
end K85
set_option Elab.async false
set_option linter.all false
set_option maxRecDepth 100000
set_option maxHeartbeats 400000
set_option exponentiation.threshold 5000
namespace K85
open Pm PySem
set_option maxHeartbeats 0 in
theorem rest3 (a c : Int) : restR [some (.cell 0), some (.int 3), none, none, none, none, none] (S1 a c) = .ok (.rt (.bl true)) (S1 a c) := by kernel_rfl
end K85
set_option Elab.async false
set_option linter.all false
set_option maxRecDepth 100000
set_option maxHeartbeats 400000
set_option exponentiation.threshold 5000
namespace K85
open Pm PySem
set_option maxHeartbeats 0 in
theorem rest4 (a c : Int) : restR [some (.cell 0), some (.int 4), none, none, none, none, none] (S1 a c) = .ok (.rt (.bl true)) (S1 a c) := by kernel_rfl
end K85
set_option Elab.async false
set_option linter.all false
set_option maxRecDepth 100000
set_option maxHeartbeats 400000
set_option exponentiation.threshold 5000
namespace K85
open Pm PySem
set_option maxHeartbeats 0 in
theorem rest5 (a c : Int) : restR [some (.cell 0), some (.int 5), none, none, none, none, none] (S1 a c) = .ok (.rt (.bl true)) (S1 a c) := by kernel_rfl
end K85
set_option Elab.async false
set_option linter.all false
set_option maxRecDepth 100000
set_option maxHeartbeats 400000
set_option exponentiation.threshold 5000
namespace K85
open Pm PySem
open Wd (wtab)
def W6 : List Wd := [(0, [0, 1, 0, 1, 0, 1, 0, 1, 0, 2]), (0, [0, 2, 0, 2, 0, 2])]
def L6 : D := .lst [.lst (([(6, [])] : List Wd).map wordD), .lst (([(0, [2, 4]), (0, [3, 3])] : List Wd).map wordD), .lst (W6.map wordD)]
set_option maxHeartbeats 0 in
theorem due6 (a c : Int) : dueC [some (.cell 0), some (.int 6), none, none, none, none, none] (S1 a c) = .ok L6 (S1 a c) := by kernel_rfl
set_option maxHeartbeats 0 in
theorem sw6 (a c : Int) : m_simplicial_words [.int 6, .int 2] (S1 a c) = .ok (.lst (W6.map wordD)) (S1 a c) := by kernel_rfl
set_option maxHeartbeats 0 in
theorem b60 (a c : Int) : bodyF (EF 6 L6 (some (.int 0)) none) (S1 a c) = .ok (.nx (EF 6 L6 (some (.int 0)) none)) (S1 a c) := by kernel_rfl
set_option maxHeartbeats 0 in
theorem b61 (a c : Int) : bodyF (EF 6 L6 (some (.int 1)) none) (S1 a c) = .ok (.nx (EF 6 L6 (some (.int 1)) none)) (S1 a c) := by kernel_rfl
set_option maxHeartbeats 0 in
theorem tb6 (a c : Int) : tB (EF 6 L6 (some (.int 2)) (some (.lst (W6.map wordD)))) (S1 a c) = .ok false (S1 a c) := by kernel_rfl
set_option maxHeartbeats 0 in
theorem sim6 (a c : Int) : simG 6 (EF 6 L6 (some (.int 2)) (some (.lst (W6.map wordD)))) (S1 a c) = .ok (.lst (W6.map wordD)) (S1 a c) := by kernel_rfl
theorem eq6 (s : S) : eqP true (.lst (W6.map wordD)) (.lst (W6.map wordD)) s = .ok (.bl false) s := by kernel_rfl
theorem tc6 (a c : Int) : tC (EF 6 L6 (some (.int 2)) (some (.lst (W6.map wordD)))) (S1 a c) = .ok false (S1 a c) := tC_of (m := 6) (by decide) (by decide) a c (sim6 a c) eq6
theorem rest6 (a c : Int) : restR [some (.cell 0), some (.int 6), none, none, none, none, none] (S1 a c) = .ok (.rt (.bl true)) (S1 a c) :=
  rest_of (due6 a c) (b60 a c) (b61 a c) (body_ok (sw6 a c) (fun _ => by kernel_rfl) (fun _ => by kernel_rfl) (tb6 a c) (tc6 a c) (by kernel_rfl) (by kernel_rfl) (by kernel_rfl) (by kernel_rfl)) (by kernel_rfl)
end K85
set_option Elab.async false
set_option linter.all false
set_option maxRecDepth 100000
set_option maxHeartbeats 400000
set_option exponentiation.threshold 5000
namespace K85
open Pm PySem
set_option maxHeartbeats 0 in
theorem rest7 (a c : Int) : restR [some (.cell 0), some (.int 7), none, none, none, none, none] (S1 a c) = .ok (.rt (.bl true)) (S1 a c) := by kernel_rfl
end K85
set_option Elab.async false
set_option linter.all false
set_option maxRecDepth 100000
set_option maxHeartbeats 400000
set_option exponentiation.threshold 5000
namespace K85
open Pm PySem
set_option maxHeartbeats 0 in
theorem rest8 (a c : Int) : restR [some (.cell 0), some (.int 8), none, none, none, none, none] (S1 a c) = .ok (.rt (.bl true)) (S1 a c) := by kernel_rfl
end K85
set_option Elab.async false
set_option linter.all false
set_option maxRecDepth 100000
set_option maxHeartbeats 400000
set_option exponentiation.threshold 5000
namespace K85
open Pm PySem
open Wd (wtab)
def W9 : List Wd := [(0, [0, 1, 0, 1, 0, 1, 0, 1, 0, 1, 0, 1, 0, 1, 0, 1, 0, 1]), (0, [0, 1, 0, 1, 0, 1, 0, 1, 0, 1, 0, 1, 0, 3]), (0, [0, 1, 0, 1, 0, 1, 0, 1, 0, 1, 0, 2, 0, 2]), (0, [0, 1, 0, 1, 0, 1, 0, 1, 0, 2, 0, 1, 0, 2]), (0, [0, 1, 0, 1, 0, 1, 0, 1, 0, 5]), (0, [0, 1, 0, 1, 0, 1, 0, 2, 0, 1, 0, 1, 0, 2]), (0, [0, 1, 0, 1, 0, 1, 0, 2, 0, 4]), (0, [0, 1, 0, 1, 0, 1, 0, 3, 0, 3]), (0, [0, 1, 0, 1, 0, 2, 0, 1, 0, 4]), (0, [0, 1, 0, 1, 0, 2, 0, 2, 0, 3]), (0, [0, 1, 0, 1, 0, 2, 0, 3, 0, 2]), (0, [0, 1, 0, 1, 0, 3, 0, 1, 0, 3]), (0, [0, 1, 0, 2, 0, 1, 0, 2, 0, 3]), (0, [0, 1, 0, 2, 0, 2, 0, 1, 0, 3]), (0, [0, 1, 0, 2, 0, 2, 0, 2, 0, 2]), (0, [0, 2, 0, 2, 0, 5]), (0, [0, 2, 0, 3, 0, 4]), (0, [0, 3, 0, 3, 0, 3])]
def L9 : D := .lst [.lst (([(9, [])] : List Wd).map wordD), .lst (([(0, [2, 7]), (0, [3, 6]), (0, [4, 5])] : List Wd).map wordD), .lst (W9.map wordD)]
set_option maxHeartbeats 0 in
theorem due9 (a c : Int) : dueC [some (.cell 0), some (.int 9), none, none, none, none, none] (S1 a c) = .ok L9 (S1 a c) := by kernel_rfl
set_option maxHeartbeats 0 in
theorem sw9 (a c : Int) : m_simplicial_words [.int 9, .int 2] (S1 a c) = .ok (.lst (W9.map wordD)) (S1 a c) := by kernel_rfl
set_option maxHeartbeats 0 in
theorem b90 (a c : Int) : bodyF (EF 9 L9 (some (.int 0)) none) (S1 a c) = .ok (.nx (EF 9 L9 (some (.int 0)) none)) (S1 a c) := by kernel_rfl
set_option maxHeartbeats 0 in
theorem b91 (a c : Int) : bodyF (EF 9 L9 (some (.int 1)) none) (S1 a c) = .ok (.nx (EF 9 L9 (some (.int 1)) none)) (S1 a c) := by kernel_rfl
set_option maxHeartbeats 0 in
theorem tb9 (a c : Int) : tB (EF 9 L9 (some (.int 2)) (some (.lst (W9.map wordD)))) (S1 a c) = .ok false (S1 a c) := by kernel_rfl
set_option maxHeartbeats 0 in
theorem tc9 (a c : Int) : tC (EF 9 L9 (some (.int 2)) (some (.lst (W9.map wordD)))) (S1 a c) = .ok false (S1 a c) := by kernel_rfl
theorem rest9 (a c : Int) : restR [some (.cell 0), some (.int 9), none, none, none, none, none] (S1 a c) = .ok (.rt (.bl true)) (S1 a c) :=
  rest_of (due9 a c) (b90 a c) (b91 a c) (body_ok (sw9 a c) (fun _ => by kernel_rfl) (fun _ => by kernel_rfl) (tb9 a c) (tc9 a c) (by kernel_rfl) (by kernel_rfl) (by kernel_rfl) (by kernel_rfl)) (by kernel_rfl)
end K85
set_option Elab.async false
set_option linter.all false
set_option maxRecDepth 100000
set_option maxHeartbeats 400000
set_option exponentiation.threshold 5000
namespace K85
open Pm PySem
theorem right_ok (a c : Int) (hp : PotP (S1 a c) 0) : ∃ s, m_law_right [.cell 0] (S1 a c) = .ok (.bl true) s := by
  obtain ⟨r, s1, e1, r0, r1, k1⟩ := draw_ok (S1 a c) 0 8 hp (by decide) (by decide)
  obtain ⟨a1, c1, rfl⟩ := s1_of k1
  have t1 : sSet 1 (m2 addAll (mC (.int 2)) (mCallD (n := 2) [] m_law_draw (aCons (mVar 0) (aCons (mC (.int 8)) aNil)))) [some (.cell 0), none, none, none, none, none, none] (S1 a c) = .ok (.nx [some (.cell 0), some (.int (2 + r)), none, none, none, none, none]) (S1 a1 c1) := setP (i := 1) (by
    have e0 : mCallD (n := 2) [] m_law_draw (aCons (mVar 0) (aCons (mC (.int 8)) aNil)) [some (.cell 0), none, none, none, none, none, none] (S1 a c) = .ok (.int r) (S1 a1 c1) := by
      simp only [mCallD, aCons, aNil, mVar, mC, List.getElem?_cons_zero, Res.bind_ok, List.length_cons, List.length_nil, List.append_nil, Nat.zero_add, Nat.reduceAdd, Nat.add_zero, if_true]
      exact e1
    simp only [m2, mC, Res.bind_ok] at e0 ⊢
    rw [e0]
    simp only [Res.bind_ok, addP])
  have t2 : restR [some (.cell 0), some (.int (2 + r)), none, none, none, none, none] (S1 a1 c1) = .ok (.rt (.bl true)) (S1 a1 c1) := by
    obtain rfl | rfl | rfl | rfl | rfl | rfl | rfl | rfl : r = 0 ∨ r = 1 ∨ r = 2 ∨ r = 3 ∨ r = 4 ∨ r = 5 ∨ r = 6 ∨ r = 7 := by omega
    · exact rest2 a1 c1
    · exact rest3 a1 c1
    · exact rest4 a1 c1
    · exact rest5 a1 c1
    · exact rest6 a1 c1
    · exact rest7 a1 c1
    · exact rest8 a1 c1
    · exact rest9 a1 c1
  refine ⟨S1 a1 c1, ?_⟩
  have run : runBody 1 7 b_law_right [.cell 0] (S1 a c) = .ok (.bl true) (S1 a1 c1) := by
    rw [right_eq]
    exact runP1 ((seqP t1).trans t2)
  unfold m_law_right
  rw [run]
  rfl
theorem answer (ns : List Int) (h : ns.length ≤ 63) : ∃ s, m_law [.ro (ns.map D.int)] [] = .ok (.bl true) s := by
  obtain ⟨a, b, e0, p0⟩ := pot_ok ns 0 (by decide) []
  obtain ⟨s1, e1⟩ := right_ok a b ⟨a, b, rfl, p0⟩
  refine ⟨s1, runP1 (retP ?_)⟩
  simp only [List.nil_append, List.length_nil] at e0
  simp [mCallD, aCons, aNil, mVar, mC, e0, e1]
end K85
namespace K85
open PySem PySem.Spec PyProof.Rows L2 Pm
abbrev R : PySem.W.OpenRow := PySem.W.OpenLaw.row PySem.Challenge.rw_fewcorners_k85_whole_simplicial_words_li
abbrev hk : PySem.W.Hook := hookP 7 defs facts
def ob (s : PySem.W.SharedT) : AlP := obsP 7 defs facts (HandSHeadRun.getT s)
theorem ob_eq (s : PySem.W.SharedT) : ob s = hk.obs s.abs := obsP_eq (HandSHeadRun.getT_eq s)
def loose : List Str := "__name__" :: "is_integer" :: "is_count" :: "is_list" :: "BodyError" :: "InvalidMany" :: "InvalidWord" :: "LimitError" :: "TooMany" :: "merging_at" :: "arrangements" :: "is_round" :: "is_word" :: "check_word" :: "check_many" :: "check_corners_and_excess" :: "parts_of" :: "rounds_with" :: "rounds_of" :: "candidates" :: "words_of" :: "has_whole_diameter" :: "is_simplicial" :: "simplicial_rounds" :: "simplicial_words" :: "free_of" :: "simplicial_count" :: "_law_pot" :: "_law_draw" :: "_law_least" :: "_law_lists" :: "_law_two" :: "_law_right" :: []
set_option maxHeartbeats 0 in
theorem run (w : World) : HandSHeadRun.RunEqI R (PySem.W.view R.prog [0, 40]) hk ob 6000 loose w := by
  unfold HandSHeadRun.RunEqI
  kernel_rfl
end K85
open PySem PySem.W PySem.Calls PyProof.Rows in
set_option maxRecDepth 100000 in
set_option maxHeartbeats 0 in
theorem PySem.Challenge.cw_fewcorners_k85_whole_simplicial_words_li_holds : PySem.Challenge.rw_fewcorners_k85_whole_simplicial_words_li.Holds := by
  w_on; o_law
  refine HandSHeadRun.head_imp (r := K85.R) (q := view K85.R.prog [0, 40]) (H := K85.hk) (ob := K85.ob) (M := 6000) (loose := K85.loose) (d := HandSHeadRun.topDef K85.R.prog 40) (kwd := []) K85.ob_eq K85.run
    (by kernel_rfl) (by kernel_rfl) (by kernel_rfl) (by rfl) (by first | assumption | decide +kernel) (by decide +kernel) ⟨rfl, rfl, rfl, rfl, rfl, by decide +kernel⟩ ?hw ?hc
  case hw => w_witness2
  case hc =>
    refine Pm.walkG (l := PySem.Challenge.rw_fewcorners_k85_whole_simplicial_words_li) (n := 63) (k := 23) rfl (by decide) (by kernel_rfl) ⟨rfl, by decide, by decide⟩ ?F K85.answer
    intro w mg fa h Y G hmg
    obtain ⟨K, KX, c⟩ := Y
    obtain ⟨d, ea, T⟩ := K85.tx_of KX G c
    have e : fa = d.a_law := by
      have z := hmg.symm.trans (show mg _ = some (.ref d.a_law) from T.m_law)
      cases z
      rfl
    subst e
    exact ⟨K, K85.gg K d, KX, rfl, fun base => K85.ok_law T⟩
