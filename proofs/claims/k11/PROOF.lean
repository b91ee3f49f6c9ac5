import PyProof.Rows.All
import Wide.All
import OpenK.AllK
import Wide.FinOn
import PyProof.EqAt
import PyProof.EqKinds
import PyProof.TupleCall
import HandS.Base
import HandS.Call
import HandS.List
import HandS.Comp
import HandS.Exc
import HandS.Wide
import HandS.Gcd
import HandS.IsInst
import HandS.Property
import HandS.MakeKw
import HandS.ClsMeth
import HandS.WordsExc
import HandS.Ends
import HandS.Iter
import HandS.Zip
import KE.KOpsOwn
import HandS.SlotsOwn
import HandS.FStr
import HandS.RaiseMore
import KE.KCallOwn
import PyProof.Rows.ReprR
import PyProof.InstNe
import PyProof.FactsAll.enumerate_1
import PyProof.Rows.FactsN_isinstance
import PyProof.Rows.FactsN_divmod
import HandS.Style
import KE.KStateDown
import HandS.Head0
import HandS.Head1
import HandS.Head2
import HandS.Head3
import HandS.HeadEnd
import HandS.HeadHook1
import HandS.HeadHook2
import HandS.Flow
import HandS.Star
import HandS.SetFor
import HandS.Deep
import KE.DataMinMax
import KE.DataFind
import KE.KTupSum
import PySem.Challenge.RW_fewcorners_k11_ratios_reckoned
set_option Elab.async false
set_option linter.all false
set_option maxRecDepth 100000
set_option maxHeartbeats 2000000
/-! values as trees; a def's meaning as a plain function over them -/
namespace Pm
open PySem PySem.Spec PyProof.Rows L2

inductive BT where
  | int | bool | str | list | tuple | dict
  deriving DecidableEq, Inhabited
def BT.name : BT → String
  | .int => "int" | .bool => "bool" | .str => "str" | .list => "list" | .tuple => "tuple" | .dict => "dict"
inductive D where
  | non | bl (b : Bool) | int (i : Int) | str (x : Str)
  | lst (xs : List D) | tup (xs : List D) | ro (xs : List D) | rot (xs : List D)
  | ins (c : Nat) (fs : List D)
  | cell (i : Nat)
  | cls (c : Nat) | ty (n : BT)
  | mty
  deriving Inhabited

inductive Cell where
  | lst (xs : List D) | ins (c : Nat) (fs : List D) | dead
  deriving Inhabited

abbrev S := List Cell

/-- what holds for the whole law: the written part, the classes' places, their fields' names -/
structure G where
  K : PySem.W.Frag
  cls : Nat → Addr
  fn : Nat → List Str

mutual
def Rep (g : G) (ca : List Addr) (F : Hp) : D → V → Prop
  | .non, v => v = .non
  | .bl b, v => v = .bl b
  | .int i, v => v = .int i
  | .str x, v => v = .str x
  | .lst ds, v => ∃ a xs, v = .ref a ∧ F a = some (.lst xs) ∧ Reps g ca F ds xs
  | .ro ds, v => ∃ a xs, v = .ref a ∧ SqL g.K F a xs ∧ Reps g ca F ds xs
  | .tup ds, v => ∃ a xs, v = .ref a ∧ F a = some (.tup xs) ∧ Reps g ca F ds xs
  | .rot ds, v => ∃ a xs, v = .ref a ∧ SqT g.K F a xs ∧ Reps g ca F ds xs
  | .ins c ds, v => ∃ a dx xs, v = .ref a ∧ F a = some (.ins (g.cls c) dx ((g.fn c).zip xs)) ∧ ds.length = (g.fn c).length ∧ Reps g ca F ds xs
  | .cell i, v => ∃ a, v = .ref a ∧ ca[i]? = some a
  | .cls c, v => v = .ref (g.cls c)
  | .ty n, v => v = .ty n.name
  | .mty, v => ∃ a, v = .ref a ∧ F a = some (.dK [])
def Reps (g : G) (ca : List Addr) (F : Hp) : List D → List V → Prop
  | [], vs => vs = []
  | d :: ds, vs => ∃ v ws, vs = v :: ws ∧ Rep g ca F d v ∧ Reps g ca F ds ws
end

theorem prefix_get {α : Type} {l m : List α} {i : Nat} {x : α} (h : l <+: m) (e : l[i]? = some x) : m[i]? = some x := by
  obtain ⟨t, rfl⟩ := h
  have hl : i < l.length := (List.getElem?_eq_some_iff.mp e).1
  rw [List.getElem?_append_left hl]
  exact e

theorem same_l {K : PySem.W.Frag} {H H' : Hp} {a : Addr} {xs : List V} (e : ∀ b o, H b = some o → H' b = some o) (h : SqL K H a xs) : SqL K H' a xs := by
  rcases h with (h | ⟨o, h⟩) | h
  · exact .inl (.inl (e _ _ h))
  · exact .inl (.inr ⟨o, e _ _ h⟩)
  · exact .inr h
theorem same_t {K : PySem.W.Frag} {H H' : Hp} {a : Addr} {xs : List V} (e : ∀ b o, H b = some o → H' b = some o) (h : SqT K H a xs) : SqT K H' a xs := by
  rcases h with (h | ⟨o, h⟩) | h
  · exact .inl (.inl (e _ _ h))
  · exact .inl (.inr ⟨o, e _ _ h⟩)
  · exact .inr h

abbrev Sub (H H' : Hp) : Prop := ∀ b o, H b = some o → H' b = some o
theorem Sub.refl (H : Hp) : Sub H H := fun _ _ h => h
theorem Sub.trans {H H1 H2 : Hp} (a : Sub H H1) (b : Sub H1 H2) : Sub H H2 := fun c o h => b c o (a c o h)
theorem Sub.new {H : Hp} {p : Addr} {o : HO} (h : H p = none) : Sub H (upd H p o) := fun a u e => by
  rw [upd_ne (ne_of_none e h)]; exact e
theorem Sub.both {F H : Hp} {p : Addr} {o : HO} (s : Sub F H) : Sub (upd F p o) (upd H p o) := fun a u e => by
  by_cases h : a = p
  · subst h; rw [upd_same] at e ⊢; exact e
  · rw [upd_ne h] at e ⊢; exact s _ _ e
theorem Sub.put {F H : Hp} {p : Addr} {o : HO} (s : Sub F H) (hn : F p = none) : Sub F (upd H p o) := fun a u e => by
  rw [upd_ne (ne_of_none e hn)]; exact s _ _ e
theorem Sub.free {F H : Hp} {p : Addr} (s : Sub F H) (h : H p = none) : F p = none := by
  cases q : F p with
  | none => rfl
  | some o => rw [s _ _ q] at h; cases h

mutual
theorem Rep.mono {g : G} {ca ca' : List Addr} {F F' : Hp} (hc : ca <+: ca') (hF : Sub F F') : ∀ (d : D) (v : V), Rep g ca F d v → Rep g ca' F' d v
  | .non, v, h => by simpa [Rep] using h
  | .bl b, v, h => by simpa [Rep] using h
  | .int i, v, h => by simpa [Rep] using h
  | .str x, v, h => by simpa [Rep] using h
  | .lst ds, v, h => by
    simp only [Rep] at h ⊢
    obtain ⟨a, xs, e, q, r⟩ := h
    exact ⟨a, xs, e, hF _ _ q, Reps.mono hc hF ds xs r⟩
  | .ro ds, v, h => by
    simp only [Rep] at h ⊢
    obtain ⟨a, xs, e, q, r⟩ := h
    exact ⟨a, xs, e, same_l hF q, Reps.mono hc hF ds xs r⟩
  | .tup ds, v, h => by
    simp only [Rep] at h ⊢
    obtain ⟨a, xs, e, q, r⟩ := h
    exact ⟨a, xs, e, hF _ _ q, Reps.mono hc hF ds xs r⟩
  | .rot ds, v, h => by
    simp only [Rep] at h ⊢
    obtain ⟨a, xs, e, q, r⟩ := h
    exact ⟨a, xs, e, same_t hF q, Reps.mono hc hF ds xs r⟩
  | .ins c ds, v, h => by
    simp only [Rep] at h ⊢
    obtain ⟨a, dx, xs, e, q, l, r⟩ := h
    exact ⟨a, dx, xs, e, hF _ _ q, l, Reps.mono hc hF ds xs r⟩
  | .cell i, v, h => by
    simp only [Rep] at h ⊢
    obtain ⟨a, e, q⟩ := h
    exact ⟨a, e, prefix_get hc q⟩
  | .cls c, v, h => by simpa [Rep] using h
  | .ty c, v, h => by simpa [Rep] using h
  | .mty, v, h => by
    simp only [Rep] at h ⊢
    obtain ⟨a, e, q⟩ := h
    exact ⟨a, e, hF _ _ q⟩
theorem Reps.mono {g : G} {ca ca' : List Addr} {F F' : Hp} (hc : ca <+: ca') (hF : Sub F F') : ∀ (ds : List D) (vs : List V), Reps g ca F ds vs → Reps g ca' F' ds vs
  | [], vs, h => by simpa [Reps] using h
  | d :: ds, vs, h => by
    simp only [Reps] at h ⊢
    obtain ⟨v, ws, e, r, rs⟩ := h
    exact ⟨v, ws, e, Rep.mono hc hF d v r, Reps.mono hc hF ds ws rs⟩
end

/-! without cells -/
mutual
def pureD : D → Bool
  | .lst ds => pureL ds
  | .tup ds => pureL ds
  | .ro ds => pureL ds
  | .rot ds => pureL ds
  | .ins _ ds => pureL ds
  | .cell _ => false
  | _ => true
def pureL : List D → Bool
  | [] => true
  | d :: ds => pureD d && pureL ds
end
mutual
theorem Rep.bare {g : G} {ca ca' : List Addr} {F : Hp} : ∀ (d : D) (v : V), pureD d = true → Rep g ca F d v → Rep g ca' F d v
  | .non, v, _, h => by simpa [Rep] using h
  | .bl b, v, _, h => by simpa [Rep] using h
  | .int i, v, _, h => by simpa [Rep] using h
  | .str x, v, _, h => by simpa [Rep] using h
  | .lst ds, v, p, h => by
    simp only [Rep] at h ⊢
    simp only [pureD] at p
    obtain ⟨a, xs, e, q, r⟩ := h
    exact ⟨a, xs, e, q, Reps.bare ds xs p r⟩
  | .tup ds, v, p, h => by
    simp only [Rep] at h ⊢
    simp only [pureD] at p
    obtain ⟨a, xs, e, q, r⟩ := h
    exact ⟨a, xs, e, q, Reps.bare ds xs p r⟩
  | .ro ds, v, p, h => by
    simp only [Rep] at h ⊢
    simp only [pureD] at p
    obtain ⟨a, xs, e, q, r⟩ := h
    exact ⟨a, xs, e, q, Reps.bare ds xs p r⟩
  | .rot ds, v, p, h => by
    simp only [Rep] at h ⊢
    simp only [pureD] at p
    obtain ⟨a, xs, e, q, r⟩ := h
    exact ⟨a, xs, e, q, Reps.bare ds xs p r⟩
  | .ins c ds, v, p, h => by
    simp only [Rep] at h ⊢
    simp only [pureD] at p
    obtain ⟨a, dx, xs, e, q, l, r⟩ := h
    exact ⟨a, dx, xs, e, q, l, Reps.bare ds xs p r⟩
  | .cell i, v, p, h => by simp [pureD] at p
  | .cls c, v, _, h => by simpa [Rep] using h
  | .ty c, v, _, h => by simpa [Rep] using h
  | .mty, v, _, h => by simpa [Rep] using h
theorem Reps.bare {g : G} {ca ca' : List Addr} {F : Hp} : ∀ (ds : List D) (vs : List V), pureL ds = true → Reps g ca F ds vs → Reps g ca' F ds vs
  | [], vs, _, h => by simpa [Reps] using h
  | d :: ds, vs, p, h => by
    simp only [Reps] at h ⊢
    simp only [pureL, Bool.and_eq_true] at p
    obtain ⟨v, ws, e, r, rs⟩ := h
    exact ⟨v, ws, e, Rep.bare d v p.1 r, Reps.bare ds ws p.2 rs⟩
end

theorem Reps.length {g : G} {ca : List Addr} {F : Hp} : ∀ {ds : List D} {vs : List V}, Reps g ca F ds vs → ds.length = vs.length
  | [], vs, h => by simp only [Reps] at h; subst h; rfl
  | d :: ds, vs, h => by
    simp only [Reps] at h
    obtain ⟨v, ws, e, r, rs⟩ := h
    subst e
    simp [Reps.length rs]
theorem Reps.get {g : G} {ca : List Addr} {F : Hp} : ∀ {ds : List D} {vs : List V} {i : Nat} {d : D}, Reps g ca F ds vs → ds[i]? = some d → ∃ v, vs[i]? = some v ∧ Rep g ca F d v
  | [], vs, i, d, h, e => by simp at e
  | d' :: ds, vs, i, d, h, e => by
    simp only [Reps] at h
    obtain ⟨v, ws, e', r, rs⟩ := h
    subst e'
    cases i with
    | zero => simp at e; subst e; exact ⟨v, by simp, r⟩
    | succ i => obtain ⟨u, hu, ru⟩ := Reps.get rs (by simpa using e); exact ⟨u, by simpa using hu, ru⟩
theorem Reps.get' {g : G} {ca : List Addr} {F : Hp} : ∀ {ds : List D} {vs : List V} {i : Nat} {v : V}, Reps g ca F ds vs → vs[i]? = some v → ∃ d, ds[i]? = some d ∧ Rep g ca F d v
  | [], vs, i, v, h, e => by simp only [Reps] at h; subst h; simp at e
  | d' :: ds, vs, i, v, h, e => by
    simp only [Reps] at h
    obtain ⟨v', ws, e', r, rs⟩ := h
    subst e'
    cases i with
    | zero => simp at e; subst e; exact ⟨d', by simp, r⟩
    | succ i => obtain ⟨u, hu, ru⟩ := Reps.get' rs (by simpa using e); exact ⟨u, by simpa using hu, ru⟩
theorem Reps.append {g : G} {ca : List Addr} {F : Hp} : ∀ {ds es : List D} {vs ws : List V}, Reps g ca F ds vs → Reps g ca F es ws → Reps g ca F (ds ++ es) (vs ++ ws)
  | [], es, vs, ws, h, h' => by simp only [Reps] at h; subst h; simpa using h'
  | d :: ds, es, vs, ws, h, h' => by
    simp only [Reps] at h
    obtain ⟨v, us, e, r, rs⟩ := h
    subst e
    simp only [List.cons_append, Reps]
    exact ⟨v, us ++ ws, rfl, r, Reps.append rs h'⟩
theorem Reps.one {g : G} {ca : List Addr} {F : Hp} {d : D} {v : V} (h : Rep g ca F d v) : Reps g ca F [d] [v] := by
  simp only [Reps]; exact ⟨v, [], rfl, h, rfl⟩
theorem Reps.nil {g : G} {ca : List Addr} {F : Hp} : Reps g ca F [] [] := by simp only [Reps]
theorem Reps.cons {g : G} {ca : List Addr} {F : Hp} {d : D} {v : V} {ds : List D} {vs : List V} (h : Rep g ca F d v) (r : Reps g ca F ds vs) : Reps g ca F (d :: ds) (v :: vs) := by
  simp only [Reps]; exact ⟨v, vs, rfl, h, r⟩
theorem Reps.take {g : G} {ca : List Addr} {F : Hp} : ∀ (n : Nat) {ds : List D} {vs : List V}, Reps g ca F ds vs → Reps g ca F (ds.take n) (vs.take n)
  | 0, _, _, _ => by simp only [List.take_zero]; exact .nil
  | n + 1, [], vs, h => by simp only [Reps] at h; subst h; simpa using Reps.nil
  | n + 1, d :: ds, vs, h => by
    simp only [Reps] at h
    obtain ⟨v, us, e, r, rs⟩ := h
    subst e
    simp only [List.take_succ_cons]
    exact .cons r (Reps.take n rs)
theorem Reps.drop {g : G} {ca : List Addr} {F : Hp} : ∀ (n : Nat) {ds : List D} {vs : List V}, Reps g ca F ds vs → Reps g ca F (ds.drop n) (vs.drop n)
  | 0, _, _, h => by simpa using h
  | n + 1, [], vs, h => by simp only [Reps] at h; subst h; simpa using Reps.nil
  | n + 1, d :: ds, vs, h => by
    simp only [Reps] at h
    obtain ⟨v, us, e, r, rs⟩ := h
    subst e
    simpa using Reps.drop n rs
theorem Reps.set {g : G} {ca : List Addr} {F : Hp} {d : D} {v : V} (h : Rep g ca F d v) : ∀ (i : Nat) {ds : List D} {vs : List V}, Reps g ca F ds vs → Reps g ca F (ds.set i d) (vs.set i v)
  | _, [], vs, r => by simp only [Reps] at r; subst r; simpa using Reps.nil
  | 0, d' :: ds, vs, r => by
    simp only [Reps] at r
    obtain ⟨v', us, e, _, rs⟩ := r
    subst e
    exact .cons h rs
  | i + 1, d' :: ds, vs, r => by
    simp only [Reps] at r
    obtain ⟨v', us, e, r', rs⟩ := r
    subst e
    exact .cons r' (Reps.set h i rs)

/-! ### the state -/
def CellOk (g : G) (ca : List Addr) (F H : Hp) (a : Addr) : Cell → Prop
  | .lst ds => ∃ xs, H a = some (.lst xs) ∧ Reps g ca F ds xs
  | .ins c ds => ∃ dx xs, H a = some (.ins (g.cls c) dx (((g.fn c).take ds.length).zip xs)) ∧ Reps g ca F ds xs
  | .dead => True
def Live (s : S) (i : Nat) : Prop := ∃ c, s[i]? = some c ∧ c ≠ .dead
structure Sim (g : G) (ca : List Addr) (F P : Hp) (s : S) (H : Hp) : Prop where
  sub : Sub F H
  fr : Sub P H
  dis : ∀ (a : Addr) (o : HO), P a = some o → F a = none
  len : ca.length = s.length
  nd : ∀ (i j : Nat) (a : Addr), ca[i]? = some a → ca[j]? = some a → Live s i → Live s j → i = j
  out : ∀ (i : Nat) (a : Addr), ca[i]? = some a → Live s i → F a = none ∧ P a = none
  at_ : ∀ (i : Nat) (a : Addr) (c : Cell), ca[i]? = some a → s[i]? = some c → CellOk g ca F H a c
theorem CellOk.mono {g : G} {ca ca' : List Addr} {F F' H H' : Hp} {a : Addr} {c : Cell} (hc : ca <+: ca') (hF : Sub F F') (hH : H' a = H a) (h : CellOk g ca F H a c) : CellOk g ca' F' H' a c := by
  cases c with
  | lst ds => obtain ⟨xs, e, r⟩ := h; exact ⟨xs, hH.trans e, Reps.mono hc hF _ _ r⟩
  | ins c ds => obtain ⟨dx, xs, e, r⟩ := h; exact ⟨dx, xs, hH.trans e, Reps.mono hc hF _ _ r⟩
  | dead => trivial
theorem CellOk.some {g : G} {ca : List Addr} {F H : Hp} {a : Addr} {c : Cell} (h : CellOk g ca F H a c) (hd : c ≠ .dead) : H a ≠ none := by
  cases c with
  | lst ds => obtain ⟨xs, e, r⟩ := h; rw [e]; simp
  | ins c ds => obtain ⟨dx, xs, e, r⟩ := h; rw [e]; simp
  | dead => exact absurd rfl hd

theorem Sim.apart {g : G} {ca : List Addr} {F P H : Hp} {s : S} {p : Addr} (m : Sim g ca F P s H) (hp : H p = none) {i : Nat} {a : Addr} (e : ca[i]? = some a) (l : Live s i) : a ≠ p := by
  obtain ⟨c, q, hd⟩ := l
  rintro rfl
  exact (m.at_ i a c e q).some hd hp
/-- a new tracked thing that never changes -/
theorem Sim.fresh {g : G} {ca : List Addr} {F P H : Hp} {s : S} {p : Addr} (o : HO) (m : Sim g ca F P s H) (hp : H p = none) : Sim g ca (upd F p o) P s (upd H p o) where
  sub := m.sub.both
  fr := m.fr.put (m.fr.free hp)
  dis := fun a u e => by
    have : a ≠ p := ne_of_none e (m.fr.free hp)
    rw [upd_ne this]; exact m.dis a u e
  len := m.len
  nd := m.nd
  out := fun i a e l => by rw [upd_ne (m.apart hp e l)]; exact m.out i a e l
  at_ := fun i a c e q => by
    by_cases hd : c = .dead
    · subst hd; trivial
    · exact (m.at_ i a c e q).mono List.prefix_rfl (Sub.new (m.sub.free hp)) (upd_ne (m.apart hp e ⟨c, q, hd⟩))
/-- a new cell -/
theorem Sim.cell {g : G} {ca : List Addr} {F P H : Hp} {s : S} {p : Addr} {xs : List V} {ds : List D} (m : Sim g ca F P s H) (hp : H p = none) (r : Reps g ca F ds xs) : Sim g (ca ++ [p]) F P (s ++ [.lst ds]) (upd H p (.lst xs)) where
  sub := m.sub.put (m.sub.free hp)
  fr := m.fr.put (m.fr.free hp)
  dis := m.dis
  len := by simp [m.len]
  nd := fun i j a e1 e2 l1 l2 => by
    have hl := m.len
    have dec : ∀ k, (ca ++ [p])[k]? = some a → Live (s ++ [.lst ds]) k → (k < ca.length ∧ ca[k]? = some a ∧ Live s k) ∨ (k = ca.length ∧ a = p) := fun k e l => by
      by_cases hk : k < ca.length
      · refine .inl ⟨hk, by rwa [List.getElem?_append_left hk] at e, ?_⟩
        obtain ⟨c, q, d⟩ := l
        exact ⟨c, by rwa [List.getElem?_append_left (by omega)] at q, d⟩
      · have hk2 : k < (ca ++ [p]).length := (List.getElem?_eq_some_iff.mp e).1
        have : k = ca.length := by simp at hk2; omega
        subst this
        simp at e
        exact .inr ⟨rfl, e.symm⟩
    rcases dec i e1 l1 with ⟨h1, q1, k1⟩ | ⟨h1, q1⟩ <;> rcases dec j e2 l2 with ⟨h2, q2, k2⟩ | ⟨h2, q2⟩
    · exact m.nd i j a q1 q2 k1 k2
    · exact absurd q2 (m.apart hp q1 k1)
    · exact absurd q1 (m.apart hp q2 k2)
    · omega
  out := fun i a e l => by
    by_cases hk : i < ca.length
    · obtain ⟨c, q, d⟩ := l
      rw [List.getElem?_append_left hk] at e
      exact m.out i a e ⟨c, by rwa [List.getElem?_append_left (by have := m.len; omega)] at q, d⟩
    · have hk2 : i < (ca ++ [p]).length := (List.getElem?_eq_some_iff.mp e).1
      have : i = ca.length := by simp at hk2; omega
      subst this
      simp at e
      subst e
      exact ⟨m.sub.free hp, m.fr.free hp⟩
  at_ := fun i a c e q => by
    have hl := m.len
    by_cases hk : i < ca.length
    · rw [List.getElem?_append_left hk] at e
      rw [List.getElem?_append_left (by omega)] at q
      by_cases hd : c = .dead
      · subst hd; trivial
      · exact (m.at_ i a c e q).mono (List.prefix_append _ _) (Sub.refl _) (upd_ne (m.apart hp e ⟨c, q, hd⟩))
    · have hk2 : i < (ca ++ [p]).length := (List.getElem?_eq_some_iff.mp e).1
      have : i = ca.length := by simp at hk2; omega
      subst this
      simp at e
      subst e
      rw [hl] at q
      simp at q
      subst q
      exact ⟨xs, upd_same, Reps.mono (List.prefix_append _ _) (Sub.refl _) _ _ r⟩
/-- a cell's content changes -/
theorem Sim.store {g : G} {ca : List Addr} {F P H : Hp} {s : S} {p : Addr} {i : Nat} {c0 c : Cell} {o : HO} (m : Sim g ca F P s H) (hi : ca[i]? = some p) (h0 : s[i]? = some c0) (hd : c0 ≠ .dead)
    (hc : CellOk g ca F (upd H p o) p c) : Sim g ca F P (s.set i c) (upd H p o) where
  sub := m.sub.put (m.out i p hi ⟨c0, h0, hd⟩).1
  fr := m.fr.put (m.out i p hi ⟨c0, h0, hd⟩).2
  dis := m.dis
  len := by simp [m.len]
  nd := fun j k a e1 e2 l1 l2 => by
    have back : ∀ k, Live (s.set i c) k → Live s k := fun k ⟨c', q, d⟩ => by
      by_cases hk : i = k
      · subst hk; exact ⟨c0, h0, hd⟩
      · rw [List.getElem?_set_ne hk] at q; exact ⟨c', q, d⟩
    exact m.nd j k a e1 e2 (back j l1) (back k l2)
  out := fun j a e ⟨c', q, d⟩ => by
    by_cases hk : i = j
    · subst hk; exact m.out i a e ⟨c0, h0, hd⟩
    · rw [List.getElem?_set_ne hk] at q; exact m.out j a e ⟨c', q, d⟩
  at_ := fun j a c' e q => by
    by_cases hk : i = j
    · subst hk
      rw [hi] at e; cases e
      rw [List.getElem?_set_self (List.getElem?_eq_some_iff.mp h0).1] at q
      cases q
      exact hc
    · rw [List.getElem?_set_ne hk] at q
      by_cases hd' : c' = .dead
      · subst hd'; trivial
      · refine (m.at_ j a c' e q).mono List.prefix_rfl (Sub.refl _) (upd_ne ?_)
        rintro rfl
        exact hk (m.nd i j _ hi e ⟨c0, h0, hd⟩ ⟨c', q, hd'⟩)
/-- a cell is given up: what stands there stays for ever -/
theorem Sim.freeze {g : G} {ca : List Addr} {F P H : Hp} {s : S} {p : Addr} {i : Nat} {c0 : Cell} {o : HO} (m : Sim g ca F P s H) (hi : ca[i]? = some p) (h0 : s[i]? = some c0) (hd : c0 ≠ .dead) (ho : H p = some o) :
    Sim g ca (upd F p o) P (s.set i .dead) H ∧ F p = none := by
  obtain ⟨hp, hpP⟩ := m.out i p hi ⟨c0, h0, hd⟩
  refine ⟨⟨fun a u e => ?_, m.fr, fun a u e => ?_, by simp [m.len], fun j k a e1 e2 l1 l2 => ?_, fun j a e l => ?_, fun j a c e q => ?_⟩, hp⟩
  · by_cases ha : a = p
    · subst ha; rw [upd_same] at e; cases e; exact ho
    · rw [upd_ne ha] at e; exact m.sub _ _ e
  · have : a ≠ p := ne_of_none e hpP
    rw [upd_ne this]; exact m.dis a u e
  · have back : ∀ k, Live (s.set i .dead) k → Live s k := fun k ⟨c', q, d⟩ => by
      by_cases hk : i = k
      · subst hk; exact ⟨c0, h0, hd⟩
      · rw [List.getElem?_set_ne hk] at q; exact ⟨c', q, d⟩
    exact m.nd j k a e1 e2 (back j l1) (back k l2)
  · obtain ⟨c', q, d⟩ := l
    have hk : i ≠ j := by
      rintro rfl
      rw [List.getElem?_set_self (List.getElem?_eq_some_iff.mp h0).1] at q
      cases q; exact d rfl
    rw [List.getElem?_set_ne hk] at q
    have ha : a ≠ p := by
      rintro rfl
      exact hk (m.nd i j _ hi e ⟨c0, h0, hd⟩ ⟨c', q, d⟩)
    rw [upd_ne ha]
    exact m.out j a e ⟨c', q, d⟩
  · by_cases hd' : c = .dead
    · subst hd'; trivial
    · have hk : i ≠ j := by
        rintro rfl
        rw [List.getElem?_set_self (List.getElem?_eq_some_iff.mp h0).1] at q
        exact hd' (Option.some.inj q).symm
      rw [List.getElem?_set_ne hk] at q
      exact (m.at_ j a c e q).mono List.prefix_rfl (Sub.new hp) rfl
/-- the last cells are forgotten -/
theorem Sim.cut {g : G} {ca ca' : List Addr} {F P H : Hp} {s : S} (m : Sim g (ca ++ ca') F P s H) (hp : ∀ c ∈ s.take ca.length, match c with | .lst ds => pureL ds = true | .ins _ ds => pureL ds = true | .dead => True) : Sim g ca F P (s.take ca.length) H := by
  have hl := m.len
  have lv : ∀ i, Live (s.take ca.length) i → Live s i ∧ i < ca.length := fun i ⟨c, q, d⟩ => by
    have hi : i < (s.take ca.length).length := (List.getElem?_eq_some_iff.mp q).1
    rw [List.length_take] at hi
    refine ⟨⟨c, ?_, d⟩, by omega⟩
    rwa [List.getElem?_take_of_lt (by omega)] at q
  have up : ∀ (i : Nat) a, ca[i]? = some a → (ca ++ ca')[i]? = some a := fun i a e => prefix_get (List.prefix_append _ _) e
  refine ⟨m.sub, m.fr, m.dis, by simp at hl; simp [List.length_take]; omega, fun i j a e1 e2 l1 l2 => m.nd i j a (up i a e1) (up j a e2) (lv i l1).1 (lv j l2).1, fun i a e l => m.out i a (up i a e) (lv i l).1, fun i a c e q => ?_⟩
  have hi : i < (s.take ca.length).length := (List.getElem?_eq_some_iff.mp q).1
  rw [List.length_take] at hi
  have hq : s[i]? = some c := by rwa [List.getElem?_take_of_lt (by omega)] at q
  have := hp c (List.mem_of_getElem? q)
  have z := m.at_ i a c (up i a e) hq
  cases c with
  | lst ds => obtain ⟨xs, h1, h2⟩ := z; exact ⟨xs, h1, Reps.bare _ _ this h2⟩
  | ins c ds => obtain ⟨dx, xs, h1, h2⟩ := z; exact ⟨dx, xs, h1, Reps.bare _ _ this h2⟩
  | dead => trivial

/-- the frame: what is kept of others' things changes -/
theorem Sim.frame {g : G} {ca : List Addr} {F P P' H H' : Hp} {s : S} (m : Sim g ca F P s H) (fr : Sub P' H') (dis : ∀ a o, P' a = some o → F a = none) (cells : ∀ (i : Nat) (a : Addr), ca[i]? = some a → Live s i → P' a = none)
    (hH : ∀ a, P' a = none → P a = none → H' a = H a ∨ H a = none) (hF : ∀ a o, F a = some o → H' a = some o) : Sim g ca F P' s H' where
  sub := hF
  fr := fr
  dis := dis
  len := m.len
  nd := m.nd
  out := fun i a e l => ⟨(m.out i a e l).1, cells i a e l⟩
  at_ := fun i a c e q => by
    by_cases hd : c = .dead
    · subst hd; trivial
    · have l : Live s i := ⟨c, q, hd⟩
      refine (m.at_ i a c e q).mono List.prefix_rfl (Sub.refl _) ?_
      rcases hH a (cells i a e l) (m.out i a e l).2 with z | z
      · exact z
      · exact absurd z ((m.at_ i a c e q).some hd)
/-! ### results -/
inductive Res (α : Type) where
  | stuck | ok (a : α) (s : S) | exn (c : Nat) (pl : List D) (s : S)
  deriving Inhabited
def Res.bind {α β : Type} (r : Res α) (f : α → S → Res β) : Res β :=
  match r with
  | .stuck => .stuck
  | .ok a s => f a s
  | .exn c pl s => .exn c pl s
@[simp] theorem Res.bind_ok {α β : Type} (a : α) (s : S) (f : α → S → Res β) : (Res.ok a s).bind f = f a s := rfl
@[simp] theorem Res.bind_stuck {α β : Type} (f : α → S → Res β) : (Res.stuck : Res α).bind f = .stuck := rfl
@[simp] theorem Res.bind_exn {α β : Type} (c : Nat) (pl : List D) (s : S) (f : α → S → Res β) : (Res.exn c pl s : Res α).bind f = .exn c pl s := rfl

def XOk (g : G) (ca : List Addr) (F H : Hp) (c : Nat) (pl : List D) (dO : Option Addr) : Prop :=
  (pl = [] ∧ dO = none) ∨ ∃ d vs, dO = some d ∧ H d = some (.xd ((g.fn c).zip vs)) ∧ pl.length = (g.fn c).length ∧ Reps g ca F pl vs
def Post {α : Type} (g : G) (ca : List Addr) (F P : Hp) (E : XK) (Q : α → S → List Addr → Hp → Hp → Prop) : Res α → Prop
  | .stuck => False
  | .ok a s => ∀ ca' F' H', ca <+: ca' → Sub F F' → Sim g ca' F' P s H' → Q a s ca' F' H'
  | .exn c pl s => ∀ ca' F' H' dO, ca <+: ca' → Sub F F' → Sim g ca' F' P s H' → XOk g ca' F' H' c pl dO → E (.ref (g.cls c)) dO H'
theorem Post.imp {α : Type} {g : G} {ca : List Addr} {F P : Hp} {E : XK} {Q Q' : α → S → List Addr → Hp → Hp → Prop} {r : Res α} (h : Post g ca F P E Q r)
    (i : ∀ a s ca' F' H', ca <+: ca' → Sub F F' → Sim g ca' F' P s H' → Q a s ca' F' H' → Q' a s ca' F' H') : Post g ca F P E Q' r := by
  cases r with
  | stuck => exact h
  | ok a s => exact fun ca' F' H' h1 h2 h3 => i _ _ _ _ _ h1 h2 h3 (h ca' F' H' h1 h2 h3)
  | exn c pl s => exact h
theorem Post.later {α : Type} {g : G} {ca ca1 : List Addr} {F F1 P : Hp} {E : XK} {Q : α → S → List Addr → Hp → Hp → Prop} {r : Res α} (h : Post g ca F P E Q r) (h1 : ca <+: ca1) (h2 : Sub F F1) : Post g ca1 F1 P E Q r := by
  cases r with
  | stuck => exact h
  | ok a s => exact fun ca' F' H' a1 a2 a3 => h ca' F' H' (h1.trans a1) (h2.trans a2) a3
  | exn c pl s => exact fun ca' F' H' dO a1 a2 a3 a4 => h ca' F' H' dO (h1.trans a1) (h2.trans a2) a3 a4
theorem Post.seq {α β : Type} {g : G} {ca : List Addr} {F P : Hp} {E : XK} {Q : β → S → List Addr → Hp → Hp → Prop} {r : Res α} {f : α → S → Res β} (h : Post g ca F P E Q (r.bind f)) :
    Post g ca F P E (fun a s ca1 F1 H1 => Post g ca1 F1 P E Q (f a s)) r := by
  cases r with
  | stuck => exact h
  | ok a s => exact fun ca' F' H' a1 a2 _ => Post.later h a1 a2
  | exn c pl s => exact h
theorem Post.seq0 {α β : Type} {g : G} {ca : List Addr} {F P : Hp} {E : XK} {Q : β → S → List Addr → Hp → Hp → Prop} {r : Res α} {f : α → S → Res β} (h : Post g ca F P E Q (r.bind f)) :
    Post g ca F P E (fun a s _ _ _ => Post g ca F P E Q (f a s)) r := by
  cases r with
  | stuck => exact h
  | ok a s => exact fun ca' F' H' a1 a2 _ => h
  | exn c pl s => exact h
theorem Post.now {α : Type} {g : G} {ca : List Addr} {F P H : Hp} {E : XK} {Q : α → S → List Addr → Hp → Hp → Prop} {a : α} {s : S} (h : Post g ca F P E Q (.ok a s)) (m : Sim g ca F P s H) : Q a s ca F H :=
  h ca F H List.prefix_rfl (Sub.refl F) m

/-! ### names -/
abbrev Env := List (Option D)
def Slots (g : G) (ca : List Addr) (F : Hp) (env : Env) (σ : L2.St) : Prop := env.length = σ.length ∧ ∀ (i : Nat) d, env[i]? = some (some d) → ∃ v, σ[i]? = some (some v) ∧ Rep g ca F d v
theorem Slots.mono {g : G} {ca ca' : List Addr} {F F' : Hp} {env : Env} {σ : L2.St} (hc : ca <+: ca') (hF : Sub F F') (h : Slots g ca F env σ) : Slots g ca' F' env σ :=
  ⟨h.1, fun i d e => let ⟨v, e', r⟩ := h.2 i d e; ⟨v, e', Rep.mono hc hF _ _ r⟩⟩
theorem Slots.set {g : G} {ca : List Addr} {F : Hp} {env : Env} {σ : L2.St} {i : Nat} {d : D} {v : V} (h : Slots g ca F env σ) (r : Rep g ca F d v) : Slots g ca F (env.set i (some d)) (σ.set i (some v)) := by
  refine ⟨by simp [h.1], fun j d' e => ?_⟩
  by_cases hj : i = j
  · subst hj
    have hl : i < env.length := by have := (List.getElem?_eq_some_iff.mp e).1; simpa using this
    rw [List.getElem?_set_self hl] at e
    cases e
    exact ⟨v, by rw [List.getElem?_set_self (h.1 ▸ hl)], r⟩
  · rw [List.getElem?_set_ne hj] at e ⊢
    exact h.2 j d' e

/-! ### judgements -/
def Ev (X : Cx) (g : G) (E : XK) (e : Expr) (m : Env → S → Res D) : Prop :=
  ∃ t : TE, PE X e t ∧ ∀ (env : Env) (s : S) (ca : List Addr) (F P H : Hp) (σ : L2.St) (Q : VK), Sim g ca F P s H → Slots g ca F env σ →
    Post g ca F P E (fun d _ ca' F' H' => ∀ v, Rep g ca' F' d v → Q v H') (m env s) → t σ H Q
def Et (X : Cx) (g : G) (E : XK) (e : Expr) (m : Env → S → Res Bool) : Prop :=
  ∃ t : TT, PT X e t ∧ ∀ (env : Env) (s : S) (ca : List Addr) (F P H : Hp) (σ : L2.St) (Q : Bool → Hp → Prop), Sim g ca F P s H → Slots g ca F env σ →
    Post g ca F P E (fun b _ _ _ H' => Q b H') (m env s) → t σ H Q
def Ea (X : Cx) (g : G) (E : XK) (es : List Expr) (m : Env → S → Res (List D)) : Prop :=
  ∃ t : TA, PA X es t ∧ ∀ (env : Env) (s : S) (ca : List Addr) (F P H : Hp) (σ : L2.St) (Q : List V → Hp → Prop), Sim g ca F P s H → Slots g ca F env σ →
    Post g ca F P E (fun ds _ ca' F' H' => ∀ vs, Reps g ca' F' ds vs → Q vs H') (m env s) → t σ H Q
inductive Fl where
  | nx (env : Env) | rt (d : D) | bk (env : Env) | ct (env : Env)
  deriving Inhabited
def FlOk (g : G) (ca : List Addr) (F H : Hp) (Dn : Ends) : Fl → Prop
  | .nx env => ∀ σ, Slots g ca F env σ → Dn.nx σ H
  | .rt d => ∀ v, Rep g ca F d v → Dn.rt v H
  | .bk env => ∀ σ, Slots g ca F env σ → Dn.bk σ H
  | .ct env => ∀ σ, Slots g ca F env σ → Dn.ct σ H
def Sv (X : Cx) (g : G) (E : XK) (st : Stmt) (m : Env → S → Res Fl) : Prop :=
  ∃ t : TS, PS X st t ∧ ∀ (env : Env) (s : S) (ca : List Addr) (F P H : Hp) (σ : L2.St) (Dn : Ends), Sim g ca F P s H → Slots g ca F env σ →
    Post g ca F P E (fun fl _ ca' F' H' => FlOk g ca' F' H' Dn fl) (m env s) → t Dn σ H
def Svs (X : Cx) (g : G) (E : XK) (sts : List Stmt) (m : Env → S → Res Fl) : Prop :=
  ∃ t : TS, PSs X sts t ∧ ∀ (env : Env) (s : S) (ca : List Addr) (F P H : Hp) (σ : L2.St) (Dn : Ends), Sim g ca F P s H → Slots g ca F env σ →
    Post g ca F P E (fun fl _ ca' F' H' => FlOk g ca' F' H' Dn fl) (m env s) → t Dn σ H

/-! ### a def -/
def spG (g : G) (n : Nat) (f : List D → S → Res D) : Sp := fun vs H Q E => ∃ ds ca F P s, vs.length = n ∧ Sim g ca F P s H ∧ Reps g ca F ds vs ∧
  Post g ca F P E (fun d _ ca' F' H' => ∀ v, Rep g ca' F' d v → Q v H') (f ds s)
end Pm
set_option Elab.async false
set_option linter.all false
set_option maxRecDepth 100000
set_option maxHeartbeats 2000000
namespace Pm
open PySem PySem.Spec PyProof.Rows L2
section
variable {X : Cx} {g : G} {E : XK}

/-! ### rules by values -/
def OpD (X : Cx) (g : G) (E : XK) (fv : Value → Value → Sem Value) (f : D → D → S → Res D) : Prop :=
  ∃ r : R2, OpR X fv r ∧ ∀ (x y : D) (s : S) (ca : List Addr) (F P H : Hp) (v u : V) (Q : VK), Sim g ca F P s H → Rep g ca F x v → Rep g ca F y u →
    Post g ca F P E (fun d _ ca' F' H' => ∀ w, Rep g ca' F' d w → Q w H') (f x y s) → r v u H Q
def IxD (X : Cx) (g : G) (E : XK) (f : D → D → S → Res D) : Prop :=
  ∃ r : R2, IxR X r ∧ ∀ (x y : D) (s : S) (ca : List Addr) (F P H : Hp) (v u : V) (Q : VK), Sim g ca F P s H → Rep g ca F x v → Rep g ca F y u →
    Post g ca F P E (fun d _ ca' F' H' => ∀ w, Rep g ca' F' d w → Q w H') (f x y s) → r v u H Q
def UnD (X : Cx) (g : G) (E : XK) (fv : Value → Sem Value) (f : D → S → Res D) : Prop :=
  ∃ r : V → Hp → VK → Prop, UnR X fv r ∧ ∀ (x : D) (s : S) (ca : List Addr) (F P H : Hp) (v : V) (Q : VK), Sim g ca F P s H → Rep g ca F x v →
    Post g ca F P E (fun d _ ca' F' H' => ∀ w, Rep g ca' F' d w → Q w H') (f x s) → r v H Q
def CallD (X : Cx) (g : G) (E : XK) (fv : Value) (f : List D → S → Res D) : Prop :=
  ∃ r : List V → Hp → VK → Prop, CallR X fv r ∧ ∀ (xs : List D) (s : S) (ca : List Addr) (F P H : Hp) (vs : List V) (Q : VK), Sim g ca F P s H → Reps g ca F xs vs →
    Post g ca F P E (fun d _ ca' F' H' => ∀ w, Rep g ca' F' d w → Q w H') (f xs s) → r vs H Q
/-- the first that isn't stuck -/
def Res.or {α : Type} (a b : Res α) : Res α := match a with
  | .stuck => b
  | r => r
theorem Post.or {α : Type} {ca : List Addr} {F P : Hp} {Q : α → S → List Addr → Hp → Hp → Prop} {a b : Res α} (h : Post g ca F P E Q (a.or b)) : Post g ca F P E Q a ∨ Post g ca F P E Q b := by
  cases a with
  | stuck => exact .inr h
  | ok a s => exact .inl h
  | exn c pl s => exact .inl h
theorem OpD.or {fv : Value → Value → Sem Value} {f f' : D → D → S → Res D} (h : OpD X g E fv f) (h' : OpD X g E fv f') : OpD X g E fv (fun x y s => (f x y s).or (f' x y s)) := by
  obtain ⟨r, h1, h2⟩ := h
  obtain ⟨r', h1', h2'⟩ := h'
  exact ⟨_, OpR.or h1 h1', fun x y s ca F P H v u Q m rx ry p => p.or.imp (h2 x y s ca F P H v u Q m rx ry) (h2' x y s ca F P H v u Q m rx ry)⟩
theorem IxR.or {r r' : R2} (h : IxR X r) (h' : IxR X r') : IxR X (fun x y H Q => r x y H Q ∨ r' x y H Q) := fun a b pins s σ H x y v u Q I rx ry hq hs =>
  hq.elim (fun z => h a b pins s σ H x y v u Q I rx ry z hs) fun z => h' a b pins s σ H x y v u Q I rx ry z hs
theorem IxD.or {f f' : D → D → S → Res D} (h : IxD X g E f) (h' : IxD X g E f') : IxD X g E (fun x y s => (f x y s).or (f' x y s)) := by
  obtain ⟨r, h1, h2⟩ := h
  obtain ⟨r', h1', h2'⟩ := h'
  exact ⟨_, IxR.or h1 h1', fun x y s ca F P H v u Q m rx ry p => p.or.imp (h2 x y s ca F P H v u Q m rx ry) (h2' x y s ca F P H v u Q m rx ry)⟩
theorem UnD.or {fv : Value → Sem Value} {f f' : D → S → Res D} (h : UnD X g E fv f) (h' : UnD X g E fv f') : UnD X g E fv (fun x s => (f x s).or (f' x s)) := by
  obtain ⟨r, h1, h2⟩ := h
  obtain ⟨r', h1', h2'⟩ := h'
  refine ⟨fun x H Q => r x H Q ∨ r' x H Q, fun pins s σ H x v Q I rx hq => hq.elim (h1 pins s σ H x v Q I rx) (h1' pins s σ H x v Q I rx), fun x s ca F P H v Q m rx p => p.or.imp (h2 x s ca F P H v Q m rx) (h2' x s ca F P H v Q m rx)⟩
theorem CallD.or {fv : Value} {f f' : List D → S → Res D} (h : CallD X g E fv f) (h' : CallD X g E fv f') : CallD X g E fv (fun x s => (f x s).or (f' x s)) := by
  obtain ⟨r, h1, h2⟩ := h
  obtain ⟨r', h1', h2'⟩ := h'
  refine ⟨fun x H Q => r x H Q ∨ r' x H Q, fun pins s σ H xs us Q I rx hq => hq.elim (h1 pins s σ H xs us Q I rx) (h1' pins s σ H xs us Q I rx), fun x s ca F P H v Q m rx p => p.or.imp (h2 x s ca F P H v Q m rx) (h2' x s ca F P H v Q m rx)⟩

/-! ### names, constants -/
def mVar (i : Nat) : Env → S → Res D := fun env s => match env[i]? with
  | some (some d) => .ok d s
  | _ => .stuck
def mC (d : D) : Env → S → Res D := fun _ s => .ok d s
theorem ev_of {e : Expr} {t : TE} {m : Env → S → Res D} (h : PE X e t) (k : ∀ (env : Env) (s : S) (ca : List Addr) (F P H : Hp) (σ : L2.St) (Q : VK), Sim g ca F P s H → Slots g ca F env σ →
    Post g ca F P E (fun d _ ca' F' H' => ∀ v, Rep g ca' F' d v → Q v H') (m env s) → t σ H Q) : Ev X g E e m := ⟨t, h, k⟩
theorem ev_var (i : Nat) {x : Str} {pos : Pos} (hN : X.N[i]? = some x := by rfl) (hv : Vis X.env.scope x := by first | exact Or.inl rfl | exact Or.inr (Or.inl rfl) | exact Or.inr (Or.inr rfl)) (hd : (x == ("__debug__" : Str)) = false := by decide)
    (hcd : (x == ("__classdict__" : Str)) = false := by decide) : Ev X g E (.Name x pos) (mVar i) := by
  refine ⟨_, pe_var hN hv hd hcd, fun env s ca F P H σ Q m sl p => ?_⟩
  unfold mVar at p
  split at p
  · rename_i d e
    obtain ⟨v, e', r⟩ := sl.2 i d e
    exact ⟨v, e', p.now m v r⟩
  · exact p.elim
theorem ev_c {e : Expr} {d : D} {v : V} (h : PE X e (tC v)) (r : ∀ ca F, Rep g ca F d v) : Ev X g E e (mC d) :=
  ⟨_, h, fun env s ca F P H σ Q m sl p => p.now m v (r ca F)⟩
theorem ev_int {i j pos} : Ev X g E (.Constant (.int i) j pos) (mC (.int i)) := ev_c pe_int fun _ _ => rfl
theorem ev_bl {b j pos} : Ev X g E (.Constant (.bool b) j pos) (mC (.bl b)) := ev_c pe_bl fun _ _ => rfl
theorem ev_non {j pos} : Ev X g E (.Constant .none j pos) (mC .non) := ev_c pe_non fun _ _ => rfl
theorem ev_str {x j pos} : Ev X g E (.Constant (.str x) j pos) (mC (.str x)) := ev_c pe_str fun _ _ => rfl

/-! ### operators -/
variable {a b c e : Expr} {es rest : List Expr} {ma mb mc me : Env → S → Res D} {pos : Pos} {f : D → D → S → Res D}
def m2 (f : D → D → S → Res D) (ma mb : Env → S → Res D) : Env → S → Res D := fun env s => (ma env s).bind fun x s1 => (mb env s1).bind fun y s2 => f x y s2
def m1 (f : D → S → Res D) (ma : Env → S → Res D) : Env → S → Res D := fun env s => (ma env s).bind fun x s1 => f x s1
theorem two_run {ta tb : TE} {r : R2} (ha : ∀ (env : Env) (s : S) (ca : List Addr) (F P H : Hp) (σ : L2.St) (Q : VK), Sim g ca F P s H → Slots g ca F env σ →
      Post g ca F P E (fun d _ ca' F' H' => ∀ v, Rep g ca' F' d v → Q v H') (ma env s) → ta σ H Q)
    (hb : ∀ (env : Env) (s : S) (ca : List Addr) (F P H : Hp) (σ : L2.St) (Q : VK), Sim g ca F P s H → Slots g ca F env σ →
      Post g ca F P E (fun d _ ca' F' H' => ∀ v, Rep g ca' F' d v → Q v H') (mb env s) → tb σ H Q)
    (hr : ∀ (x y : D) (s : S) (ca : List Addr) (F P H : Hp) (v u : V) (Q : VK), Sim g ca F P s H → Rep g ca F x v → Rep g ca F y u → Post g ca F P E (fun d _ ca' F' H' => ∀ w, Rep g ca' F' d w → Q w H') (f x y s) → r v u H Q)
    {env : Env} {s : S} {ca : List Addr} {F P H : Hp} {σ : L2.St} {Q : VK} (m : Sim g ca F P s H) (sl : Slots g ca F env σ) (p : Post g ca F P E (fun d _ ca' F' H' => ∀ v, Rep g ca' F' d v → Q v H') (m2 f ma mb env s)) :
    tOp r ta tb σ H Q := by
  refine ha env s ca F P H σ _ m sl (Post.imp (Post.seq p) fun x s1 ca1 F1 H1 h1 h2 m1 q v rv => ?_)
  refine hb env s1 ca1 F1 P H1 σ _ m1 (sl.mono h1 h2) (Post.imp (Post.seq q) fun y s2 ca2 F2 H2 k1 k2 m2' q2 u ru => ?_)
  exact hr x y s2 ca2 F2 P H2 v u Q m2' (Rep.mono k1 k2 _ _ rv) ru q2
theorem ev_bin {op : Operator} (ho : OpD X g E (binaryOp op) f) (ha : Ev X g E a ma) (hb : Ev X g E b mb) : Ev X g E (.BinOp a op b pos) (m2 f ma mb) := by
  obtain ⟨r, h1, h2⟩ := ho
  obtain ⟨ta, pa, ha⟩ := ha
  obtain ⟨tb, pb, hb⟩ := hb
  exact ⟨_, pe_op h1 pa pb, fun env s ca F P H σ Q m sl p => two_run ha hb h2 m sl p⟩
theorem ev_cmp {op : CmpOp} (ho : OpD X g E (compareOp op) f) (ha : Ev X g E a ma) (hb : Ev X g E b mb) (hm : behindInMarks op b = false := by first | exact nomark _ | rfl) : Ev X g E (.Compare a [op] [b] pos) (m2 f ma mb) := by
  obtain ⟨r, h1, h2⟩ := ho
  obtain ⟨ta, pa, ha⟩ := ha
  obtain ⟨tb, pb, hb⟩ := hb
  exact ⟨_, pe_cmpR h1 pa pb hm, fun env s ca F P H σ Q m sl p => two_run ha hb h2 m sl p⟩
theorem ev_ix (ho : IxD X g E f) (ha : Ev X g E a ma) (hb : Ev X g E b mb) (hs : PlainIx b := by exact fun _ _ => rfl) : Ev X g E (.Subscript a b pos) (m2 f ma mb) := by
  obtain ⟨r, h1, h2⟩ := ho
  obtain ⟨ta, pa, ha⟩ := ha
  obtain ⟨tb, pb, hb⟩ := hb
  exact ⟨_, pe_ix h1 pa pb hs, fun env s ca F P H σ Q m sl p => two_run ha hb h2 m sl p⟩
theorem ev_un {op : UnaryOp} {f : D → S → Res D} (ho : UnD X g E (unaryOp op) f) (ha : Ev X g E a ma) : Ev X g E (.UnaryOp op a pos) (m1 f ma) := by
  obtain ⟨r, h1, h2⟩ := ho
  obtain ⟨ta, pa, ha⟩ := ha
  refine ⟨_, pe_un h1 pa, fun env s ca F P H σ Q m sl p => ?_⟩
  refine ha env s ca F P H σ _ m sl (Post.imp (Post.seq p) fun x s1 ca1 F1 H1 _ _ m1 q v rv => ?_)
  exact h2 x s1 ca1 F1 P H1 v Q m1 rv q

/-! ### truth -/
def mB (f : Env → S → Res D) : Env → S → Res Bool := fun env s => (f env s).bind fun x s1 => match x with
  | .bl b => .ok b s1
  | _ => .stuck
theorem et_val (h : Ev X g E e me) (he : ∀ whole, isTrue e X.env whole = (do let v ← whole; standAt e.pos; holding [v] (truthy v)) := by intro _; rfl) : Et X g E e (mB me) := by
  obtain ⟨t, p, h⟩ := h
  refine ⟨_, pt_val p he, fun env s ca F P H σ Q m sl q => ?_⟩
  refine h env s ca F P H σ _ m sl (Post.imp (Post.seq q) fun x s1 ca1 F1 H1 _ _ m1 q v rv => ?_)
  cases x with
  | bl b => exact ⟨b, rv, q.now m1⟩
  | _ => exact q.elim
theorem et_cmp {op : CmpOp} (ho : OpD X g E (compareOp op) f) (ha : Ev X g E a ma) (hb : Ev X g E b mb) (hm : behindInMarks op b = false := by first | exact nomark _ | rfl) : Et X g E (.Compare a [op] [b] pos) (mB (m2 f ma mb)) := by
  obtain ⟨r, h1, h2⟩ := ho
  obtain ⟨ta, pa, ha⟩ := ha
  obtain ⟨tb, pb, hb⟩ := hb
  refine ⟨_, pt_cmpR h1 pa pb hm, fun env s ca F P H σ Q m sl p => ?_⟩
  refine two_run (Q := fun x H' => ∃ k, x = .bl k ∧ Q k H') ha hb h2 m sl (Post.imp (Post.seq p) fun x s1 ca1 F1 H1 _ _ m1 q v rv => ?_)
  cases x with
  | bl b => exact ⟨b, rv, q.now m1⟩
  | _ => exact q.elim
variable {ta tb tc : Env → S → Res Bool}
def mNotT (t : Env → S → Res Bool) : Env → S → Res Bool := fun env s => (t env s).bind fun b s1 => .ok (!b) s1
def mAndT (t u : Env → S → Res Bool) : Env → S → Res Bool := fun env s => (t env s).bind fun b s1 => if b = true then u env s1 else .ok false s1
def mOrT (t u : Env → S → Res Bool) : Env → S → Res Bool := fun env s => (t env s).bind fun b s1 => if b = true then .ok true s1 else u env s1
theorem et_not (h : Et X g E a ta) : Et X g E (.UnaryOp .Not a pos) (mNotT ta) := by
  obtain ⟨t, p, h⟩ := h
  refine ⟨_, pt_not p, fun env s ca F P H σ Q m sl q => ?_⟩
  exact h env s ca F P H σ _ m sl (Post.imp (Post.seq q) fun x s1 ca1 F1 H1 _ _ m1 q => q.now m1)
/-- a chain of and, or as a test -/
def Ew (X : Cx) (g : G) (E : XK) (e : Expr) (m : Env → S → Res Bool) : Prop :=
  ∃ t : TT, PW X e t ∧ ∀ (env : Env) (s : S) (ca : List Addr) (F P H : Hp) (σ : L2.St) (Q : Bool → Hp → Prop), Sim g ca F P s H → Slots g ca F env σ →
    Post g ca F P E (fun b _ _ _ H' => Q b H') (m env s) → t σ H Q
theorem Ew.et (h : Ew X g E e ta) : Et X g E e ta := let ⟨t, p, h⟩ := h; ⟨t, p.pt, h⟩
theorem ew_and1 (h : Et X g E a ta) : Ew X g E (.BoolOp .And [a] pos) ta := let ⟨t, p, h⟩ := h; ⟨t, pw_and1 p, h⟩
theorem ew_or1 (h : Et X g E a ta) : Ew X g E (.BoolOp .Or [a] pos) ta := let ⟨t, p, h⟩ := h; ⟨t, pw_or1 p, h⟩
theorem ew_and (ha : Et X g E a ta) (hb : Ew X g E (.BoolOp .And (b :: rest) pos) tb) : Ew X g E (.BoolOp .And (a :: b :: rest) pos) (mAndT ta tb) := by
  obtain ⟨t, p, h⟩ := ha
  obtain ⟨u, p', h'⟩ := hb
  refine ⟨_, pw_and p p', fun env s ca F P H σ Q m sl q => ?_⟩
  refine h env s ca F P H σ _ m sl (Post.imp (Post.seq q) fun x s1 ca1 F1 H1 k1 k2 m1 q => ?_)
  cases x with
  | true => exact h' env s1 ca1 F1 P H1 σ _ m1 (sl.mono k1 k2) q
  | false => exact q.now m1
theorem ew_or (ha : Et X g E a ta) (hb : Ew X g E (.BoolOp .Or (b :: rest) pos) tb) : Ew X g E (.BoolOp .Or (a :: b :: rest) pos) (mOrT ta tb) := by
  obtain ⟨t, p, h⟩ := ha
  obtain ⟨u, p', h'⟩ := hb
  refine ⟨_, pw_or p p', fun env s ca F P H σ Q m sl q => ?_⟩
  refine h env s ca F P H σ _ m sl (Post.imp (Post.seq q) fun x s1 ca1 F1 H1 k1 k2 m1 q => ?_)
  cases x with
  | true => exact q.now m1
  | false => exact h' env s1 ca1 F1 P H1 σ _ m1 (sl.mono k1 k2) q
/-- .. as values, bools -/
def mAnd (ma mb : Env → S → Res D) : Env → S → Res D := fun env s => (ma env s).bind fun x s1 => match x with
  | .bl true => mb env s1
  | .bl false => .ok (.bl false) s1
  | _ => .stuck
def mOr (ma mb : Env → S → Res D) : Env → S → Res D := fun env s => (ma env s).bind fun x s1 => match x with
  | .bl true => .ok (.bl true) s1
  | .bl false => mb env s1
  | _ => .stuck
def mNot (ma : Env → S → Res D) : Env → S → Res D := fun env s => (ma env s).bind fun x s1 => match x with
  | .bl b => .ok (.bl (!b)) s1
  | _ => .stuck
theorem ev_one {op} (h : Ev X g E a ma) : Ev X g E (.BoolOp op [a] pos) ma := let ⟨t, p, h⟩ := h; ⟨t, pe_one p, h⟩
theorem ev_and (ha : Ev X g E a ma) (hb : Ev X g E (.BoolOp .And (b :: rest) pos) mb) : Ev X g E (.BoolOp .And (a :: b :: rest) pos) (mAnd ma mb) := by
  obtain ⟨t, p, h⟩ := ha
  obtain ⟨u, p', h'⟩ := hb
  refine ⟨_, pe_and p p', fun env s ca F P H σ Q m sl q => ?_⟩
  refine h env s ca F P H σ _ m sl (Post.imp (Post.seq q) fun x s1 ca1 F1 H1 k1 k2 m1 q v rv => ?_)
  cases x with
  | bl k =>
    refine ⟨k, rv, ?_⟩
    cases k with
    | true => exact h' env s1 ca1 F1 P H1 σ _ m1 (sl.mono k1 k2) q
    | false => exact q.now m1 _ rfl
  | _ => exact q.elim
theorem ev_or (ha : Ev X g E a ma) (hb : Ev X g E (.BoolOp .Or (b :: rest) pos) mb) : Ev X g E (.BoolOp .Or (a :: b :: rest) pos) (mOr ma mb) := by
  obtain ⟨t, p, h⟩ := ha
  obtain ⟨u, p', h'⟩ := hb
  refine ⟨_, pe_or p p', fun env s ca F P H σ Q m sl q => ?_⟩
  refine h env s ca F P H σ _ m sl (Post.imp (Post.seq q) fun x s1 ca1 F1 H1 k1 k2 m1 q v rv => ?_)
  cases x with
  | bl k =>
    refine ⟨k, rv, ?_⟩
    cases k with
    | true => exact q.now m1 _ rfl
    | false => exact h' env s1 ca1 F1 P H1 σ _ m1 (sl.mono k1 k2) q
  | _ => exact q.elim
theorem ev_not (ha : Ev X g E a ma) : Ev X g E (.UnaryOp .Not a pos) (mNot ma) := by
  obtain ⟨t, p, h⟩ := ha
  refine ⟨_, pe_not p, fun env s ca F P H σ Q m sl q => ?_⟩
  refine h env s ca F P H σ _ m sl (Post.imp (Post.seq q) fun x s1 ca1 F1 H1 k1 k2 m1 q v rv => ?_)
  cases x with
  | bl k => exact ⟨k, rv, q.now m1 _ rfl⟩
  | _ => exact q.elim
def mIf (t : Env → S → Res Bool) (ma mb : Env → S → Res D) : Env → S → Res D := fun env s => (t env s).bind fun b s1 => if b = true then ma env s1 else mb env s1
theorem ev_if (hc : Et X g E c tc) (ha : Ev X g E a ma) (hb : Ev X g E b mb) : Ev X g E (.IfExp c a b pos) (mIf tc ma mb) := by
  obtain ⟨t, p, h⟩ := hc
  obtain ⟨u, p', h'⟩ := ha
  obtain ⟨w, p'', h''⟩ := hb
  refine ⟨_, pe_ifExp p p' p'', fun env s ca F P H σ Q m sl q => ?_⟩
  refine h env s ca F P H σ _ m sl (Post.imp (Post.seq q) fun x s1 ca1 F1 H1 k1 k2 m1 q => ?_)
  cases x with
  | true => exact h' env s1 ca1 F1 P H1 σ _ m1 (sl.mono k1 k2) q
  | false => exact h'' env s1 ca1 F1 P H1 σ _ m1 (sl.mono k1 k2) q
/-- a <= b < c -/
def mChain (f f' : D → D → S → Res D) (ma mb mc : Env → S → Res D) : Env → S → Res D := fun env s => (ma env s).bind fun x s1 => (mb env s1).bind fun y s2 => (f x y s2).bind fun z s3 => match z with
  | .bl true => (mc env s3).bind fun w s4 => f' y w s4
  | .bl false => .ok (.bl false) s3
  | _ => .stuck

/-! ### arguments, displays -/
def aNil : Env → S → Res (List D) := fun _ s => .ok [] s
def aCons (me : Env → S → Res D) (mr : Env → S → Res (List D)) : Env → S → Res (List D) := fun env s => (me env s).bind fun x s1 => (mr env s1).bind fun xs s2 => .ok (x :: xs) s2
theorem ea_nil : Ea X g E [] aNil := ⟨_, pa_nil, fun env s ca F P H σ Q m sl q => q.now m [] .nil⟩
theorem ea_cons {mr : Env → S → Res (List D)} (ha : Ev X g E e me) (hr : Ea X g E es mr) (hs : starEach (e :: es) X.env = (false, eval e X.env) :: starEach es X.env := by rfl) : Ea X g E (e :: es) (aCons me mr) := by
  obtain ⟨t, p, h⟩ := ha
  obtain ⟨u, p', h'⟩ := hr
  refine ⟨_, pa_cons p p' hs, fun env s ca F P H σ Q m sl q => ?_⟩
  refine h env s ca F P H σ _ m sl (Post.imp (Post.seq q) fun x s1 ca1 F1 H1 k1 k2 m1 q v rv => ?_)
  refine h' env s1 ca1 F1 P H1 σ _ m1 (sl.mono k1 k2) (Post.imp (Post.seq q) fun xs s2 ca2 F2 H2 l1 l2 m2 q2 vs rvs => ?_)
  exact q2.now m2 _ (.cons (Rep.mono l1 l2 _ _ rv) rvs)
variable {mr : Env → S → Res (List D)}
def line : Nat := 16000000
theorem line_le {n : Nat} (h : n ≤ line) : n ≤ sizeLine := Nat.le_trans h (by rw [sizeLine_eq]; decide)
def newL (xs : List D) (s : S) : Res D := if xs.length ≤ line then .ok (.lst xs) s else .stuck
def newT (xs : List D) (s : S) : Res D := if xs.length ≤ line then .ok (.tup xs) s else .stuck
theorem newL_ok {xs : List D} {s : S} {ca : List Addr} {F P H : Hp} {vs : List V} {Q : VK} (m : Sim g ca F P s H) (r : Reps g ca F xs vs) (p : Post g ca F P E (fun d _ ca' F' H' => ∀ v, Rep g ca' F' d v → Q v H') (newL xs s)) :
    vs.length ≤ sizeLine ∧ ∀ q, H q = none → Q (.ref q) (upd H q (.lst vs)) := by
  unfold newL at p
  split at p
  · rename_i hl
    refine ⟨by rw [← r.length]; exact line_le hl, fun q hq => ?_⟩
    refine p ca _ _ List.prefix_rfl (Sub.new (m.sub.free hq)) (m.fresh _ hq) _ ?_
    simp only [Rep]
    exact ⟨q, vs, rfl, upd_same, Reps.mono List.prefix_rfl (Sub.new (m.sub.free hq)) _ _ r⟩
  · exact p.elim
theorem newT_ok {xs : List D} {s : S} {ca : List Addr} {F P H : Hp} {vs : List V} {Q : VK} (m : Sim g ca F P s H) (r : Reps g ca F xs vs) (p : Post g ca F P E (fun d _ ca' F' H' => ∀ v, Rep g ca' F' d v → Q v H') (newT xs s)) :
    vs.length ≤ sizeLine ∧ ∀ q, H q = none → Q (.ref q) (upd H q (.tup vs)) := by
  unfold newT at p
  split at p
  · rename_i hl
    refine ⟨by rw [← r.length]; exact line_le hl, fun q hq => ?_⟩
    refine p ca _ _ List.prefix_rfl (Sub.new (m.sub.free hq)) (m.fresh _ hq) _ ?_
    simp only [Rep]
    exact ⟨q, vs, rfl, upd_same, Reps.mono List.prefix_rfl (Sub.new (m.sub.free hq)) _ _ r⟩
  · exact p.elim
def mLst (mr : Env → S → Res (List D)) : Env → S → Res D := fun env s => (mr env s).bind newL
def mTup (mr : Env → S → Res (List D)) : Env → S → Res D := fun env s => (mr env s).bind newT
/-- a list that will change -/
def mCell (mr : Env → S → Res (List D)) : Env → S → Res D := fun env s => (mr env s).bind fun xs s1 => if xs.length ≤ line then .ok (.cell s1.length) (s1 ++ [.lst xs]) else .stuck
theorem ev_lst (h : Ea X g E es mr) : Ev X g E (.List es pos) (mLst mr) := by
  obtain ⟨t, p, h⟩ := h
  refine ⟨_, pe_lst p, fun env s ca F P H σ Q m sl q => ?_⟩
  exact h env s ca F P H σ _ m sl (Post.imp (Post.seq q) fun xs s1 ca1 F1 H1 k1 k2 m1 q vs rv => newL_ok m1 rv q)
theorem ev_tup {x1} (h : Ea X g E es mr) : Ev X g E (.Tuple es x1 pos) (mTup mr) := by
  obtain ⟨t, p, h⟩ := h
  refine ⟨_, pe_tup p, fun env s ca F P H σ Q m sl q => ?_⟩
  exact h env s ca F P H σ _ m sl (Post.imp (Post.seq q) fun xs s1 ca1 F1 H1 k1 k2 m1 q vs rv => newT_ok m1 rv q)
theorem ev_cell (h : Ea X g E es mr) : Ev X g E (.List es pos) (mCell mr) := by
  obtain ⟨t, p, h⟩ := h
  refine ⟨_, pe_lst p, fun env s ca F P H σ Q m sl q => ?_⟩
  refine h env s ca F P H σ _ m sl (Post.imp (Post.seq q) fun xs s1 ca1 F1 H1 k1 k2 m1 q vs rv => ?_)
  split at q
  · rename_i hl
    refine ⟨by rw [← rv.length]; exact line_le hl, fun z hz => ?_⟩
    refine q _ F1 _ (List.prefix_append _ [z]) (Sub.refl _) (m1.cell hz rv) _ ?_
    simp only [Rep]
    exact ⟨z, rfl, by rw [← m1.len]; simp⟩
  · exact q.elim

/-! ### operators on ints -/
def intOp (cond : Int → Int → Bool) (gi : Int → Int → D) : D → D → S → Res D := fun x y s => match x, y with
  | .int i, .int j => if cond i j = true then .ok (gi i j) s else .stuck
  | _, _ => .stuck
theorem opd_int {fv : Value → Value → Sem Value} {C : Int → Int → Prop} {gi : Int → Int → V} {gd : Int → Int → D} {cond : Int → Int → Bool} (h : OpR X fv (rI C gi)) (hc : ∀ i j, cond i j = true → C i j) (hg : ∀ ca F i j, Rep g ca F (gd i j) (gi i j)) : OpD X g E fv (intOp cond gd) := by
  refine ⟨_, h, fun x y s ca F P H v u Q m rx ry p => ?_⟩
  unfold intOp at p
  split at p
  · rename_i i j
    split at p
    · rename_i hij
      exact ⟨i, j, rx, ry, hc _ _ hij, p.now m _ (hg ..)⟩
    · exact p.elim
  · exact p.elim
theorem opd_int0 {fv : Value → Value → Sem Value} {gi : Int → Int → V} {gd : Int → Int → D} (h : OpR X fv (rI0 gi)) (hg : ∀ ca F i j, Rep g ca F (gd i j) (gi i j)) : OpD X g E fv (intOp (fun _ _ => true) gd) := by
  refine ⟨_, h, fun x y s ca F P H v u Q m rx ry p => ?_⟩
  unfold intOp at p
  split at p
  · rename_i i j
    exact ⟨i, j, rx, ry, (if_pos rfl ▸ p).now m _ (hg ..)⟩
  · exact p.elim
def cMul (i j : Int) : Bool := decide (i.natAbs.log2 + j.natAbs.log2 < 1000000)
def cDiv (_ j : Int) : Bool := decide (j ≠ 0 ∧ j.natAbs.log2 < 9000)
def cMod (_ j : Int) : Bool := decide (j ≠ 0)
def cPow (i j : Int) : Bool := decide (0 ≤ j ∧ j ≤ 1000000 ∧ i.natAbs < 2 ^ 64)
theorem op_fdivX : OpR X (binaryOp .FloorDiv) (rI (fun i j => j ≠ 0 ∧ Builtin.divisionGoesByPylong i j = false) fun i j => .int (i.fdiv j)) := opI fun _ _ _ _ _ _ _ hc q => floordiv_int hc.1 q (.inl hc.2)
def addI : D → D → S → Res D := intOp (fun _ _ => true) fun i j => .int (i + j)
def subI : D → D → S → Res D := intOp (fun _ _ => true) fun i j => .int (i - j)
def mulI : D → D → S → Res D := intOp cMul fun i j => .int (i * j)
def divI : D → D → S → Res D := intOp cDiv fun i j => .int (i.fdiv j)
def modI : D → D → S → Res D := intOp cMod fun i j => .int (i.fmod j)
def powI : D → D → S → Res D := intOp cPow fun i j => .int (i ^ j.toNat)
theorem od_add : OpD X g E (binaryOp .Add) addI := opd_int0 op_add fun _ _ _ _ => rfl
theorem od_sub : OpD X g E (binaryOp .Sub) subI := opd_int0 op_sub fun _ _ _ _ => rfl
theorem od_mul : OpD X g E (binaryOp .Mult) mulI := opd_int op_mulW (fun i j h => of_decide_eq_true (p := i.natAbs.log2 + j.natAbs.log2 < 1000000) h) fun _ _ _ _ => rfl
theorem od_div : OpD X g E (binaryOp .FloorDiv) divI := opd_int op_fdivX (fun i j h => by
  have := of_decide_eq_true h
  exact ⟨this.1, PyProof.noPylong_of_log2 this.2⟩) fun _ _ _ _ => rfl
theorem od_mod : OpD X g E (binaryOp .Mod) modI := opd_int op_modN (fun i j h => of_decide_eq_true h) fun _ _ _ _ => rfl
theorem od_pow : OpD X g E (binaryOp .Pow) powI := opd_int op_pow (fun i j h => of_decide_eq_true (p := 0 ≤ j ∧ j ≤ 1000000 ∧ i.natAbs < 2 ^ 64) h) fun _ _ _ _ => rfl
def ltI : D → D → S → Res D := intOp (fun _ _ => true) fun i j => .bl (decide (i < j))
def leI : D → D → S → Res D := intOp (fun _ _ => true) fun i j => .bl (decide (i ≤ j))
def gtI : D → D → S → Res D := intOp (fun _ _ => true) fun i j => .bl (decide (j < i))
def geI : D → D → S → Res D := intOp (fun _ _ => true) fun i j => .bl (decide (j ≤ i))
theorem od_lt : OpD X g E (compareOp .Lt) ltI := opd_int0 op_lt fun _ _ _ _ => rfl
theorem od_le : OpD X g E (compareOp .LtE) leI := opd_int0 op_le fun _ _ _ _ => rfl
theorem od_gt : OpD X g E (compareOp .Gt) gtI := opd_int0 op_gt fun _ _ _ _ => rfl
theorem od_ge : OpD X g E (compareOp .GtE) geI := opd_int0 op_ge fun _ _ _ _ => rfl
def negI : D → S → Res D := fun x s => match x with
  | .int i => .ok (.int (-i)) s
  | _ => .stuck
theorem ud_neg : UnD X g E (unaryOp .USub) negI := by
  refine ⟨_, un_neg, fun x s ca F P H v Q m rx p => ?_⟩
  unfold negI at p
  split at p
  · rename_i i
    exact ⟨i, rx, p.now m _ rfl⟩
  · exact p.elim
end
end Pm
set_option Elab.async false
set_option linter.all false
set_option maxRecDepth 100000
set_option maxHeartbeats 2000000
namespace Pm
open PySem PySem.Spec PyProof.Rows L2
section
variable {X : Cx} {g : G} {E : XK}

theorem rep_int {ca : List Addr} {F : Hp} {i : Int} : Rep g ca F (.int i) (.int i) := by simp only [Rep]
theorem rep_bl {ca : List Addr} {F : Hp} {i : Bool} : Rep g ca F (.bl i) (.bl i) := by simp only [Rep]
/-! ### lists and tuples by index -/
theorem atI_rep {ca : List Addr} {F : Hp} {ds : List D} {vs : List V} {i : Int} {d : D} (r : Reps g ca F ds vs) (h : atI ds i = some d) : ∃ v, atI vs i = some v ∧ Rep g ca F d v := by
  unfold atI at h ⊢
  rw [← r.length]
  cases q : ixN ds.length i with
  | none => rw [q] at h; cases h
  | some j =>
    rw [q] at h
    exact r.get h
def ixL : D → D → S → Res D := fun x y s => match x, y with
  | .lst ds, .int i => match atI ds i with
    | some d => .ok d s
    | none => .stuck
  | .ro ds, .int i => match atI ds i with
    | some d => .ok d s
    | none => .stuck
  | .cell k, .int i => match s[k]? with
    | some (.lst ds) => match atI ds i with
      | some d => .ok d s
      | none => .stuck
    | _ => .stuck
  | _, _ => .stuck
def ixT : D → D → S → Res D := fun x y s => match x, y with
  | .tup ds, .int i => match atI ds i with
    | some d => .ok d s
    | none => .stuck
  | .rot ds, .int i => match atI ds i with
    | some d => .ok d s
    | none => .stuck
  | _, _ => .stuck
theorem Sim.cellL {ca : List Addr} {F P H : Hp} {s : S} {k : Nat} {ds : List D} {a : Addr} (m : Sim g ca F P s H) (e : ca[k]? = some a) (q : s[k]? = some (.lst ds)) : ∃ xs, H a = some (.lst xs) ∧ Reps g ca F ds xs :=
  m.at_ k a _ e q
theorem ixd_list (hK : g.K = X.K) : IxD X g E ixL := by
  refine ⟨_, ix_list, fun x y s ca F P H v u Q m rx ry p => ?_⟩
  unfold ixL at p
  split at p
  · rename_i ds i
    split at p
    · rename_i d hd
      simp only [Rep] at rx ry
      obtain ⟨a, xs, rfl, hF, rs⟩ := rx
      obtain ⟨w, hw, rw'⟩ := atI_rep rs hd
      exact ⟨a, xs, i, w, rfl, ry, .of (m.sub _ _ hF), hw, p.now m _ rw'⟩
    · exact p.elim
  · rename_i ds i
    split at p
    · rename_i d hd
      simp only [Rep] at rx ry
      obtain ⟨a, xs, rfl, hF, rs⟩ := rx
      obtain ⟨w, hw, rw'⟩ := atI_rep rs hd
      exact ⟨a, xs, i, w, rfl, ry, hK ▸ same_l m.sub hF, hw, p.now m _ rw'⟩
    · exact p.elim
  · rename_i k i
    split at p
    · rename_i ds hk
      split at p
      · rename_i d hd
        simp only [Rep] at rx ry
        obtain ⟨a, rfl, ha⟩ := rx
        obtain ⟨xs, hH, rs⟩ := m.cellL ha hk
        obtain ⟨w, hw, rw'⟩ := atI_rep rs hd
        exact ⟨a, xs, i, w, rfl, ry, .of hH, hw, p.now m _ rw'⟩
      · exact p.elim
    · exact p.elim
  · exact p.elim
theorem ixd_tup (hK : g.K = X.K) : IxD X g E ixT := by
  refine ⟨_, ix_tup, fun x y s ca F P H v u Q m rx ry p => ?_⟩
  unfold ixT at p
  split at p
  · rename_i ds i
    split at p
    · rename_i d hd
      simp only [Rep] at rx ry
      obtain ⟨a, xs, rfl, hF, rs⟩ := rx
      obtain ⟨w, hw, rw'⟩ := atI_rep rs hd
      exact ⟨a, xs, i, w, rfl, ry, .of (m.sub _ _ hF), hw, p.now m _ rw'⟩
    · exact p.elim
  · rename_i ds i
    split at p
    · rename_i d hd
      simp only [Rep] at rx ry
      obtain ⟨a, xs, rfl, hF, rs⟩ := rx
      obtain ⟨w, hw, rw'⟩ := atI_rep rs hd
      exact ⟨a, xs, i, w, rfl, ry, hK ▸ same_t m.sub hF, hw, p.now m _ rw'⟩
    · exact p.elim
  · exact p.elim
def ixD : D → D → S → Res D := fun x y s => (ixL x y s).or (ixT x y s)
theorem ixd (hK : g.K = X.K) : IxD X g E ixD := (ixd_list hK).or (ixd_tup hK)

/-! ### + and * of lists -/
def catL : D → D → S → Res D := fun x y s => match x, y with
  | .lst a, .lst b => newL (a ++ b) s
  | _, _ => .stuck
theorem od_cat : OpD X g E (binaryOp .Add) catL := by
  refine ⟨_, op_cat, fun x y s ca F P H v u Q m rx ry p => ?_⟩
  unfold catL at p
  split at p
  · rename_i as bs
    simp only [Rep] at rx ry
    obtain ⟨a, xs, rfl, hF, rs⟩ := rx
    obtain ⟨b, ys, rfl, hF2, rs2⟩ := ry
    obtain ⟨h1, h2⟩ := newL_ok m (rs.append rs2) p
    exact ⟨a, b, xs, ys, rfl, rfl, m.sub _ _ hF, m.sub _ _ hF2, by simpa using h1, h2⟩
  · exact p.elim
def repD (n : Nat) (ds : List D) : List D := (List.replicate n ds).flatten
theorem reps_rep {ca : List Addr} {F : Hp} {ds : List D} {vs : List V} (r : Reps g ca F ds vs) : ∀ n, Reps g ca F (repD n ds) (List.replicate n vs).flatten
  | 0 => by simp only [repD, List.replicate_zero, List.flatten_nil]; exact .nil
  | n + 1 => by
    have := reps_rep r n
    simp only [repD, List.replicate_succ, List.flatten_cons] at this ⊢
    exact r.append this
def mulL : D → D → S → Res D := fun x y s => match x, y with
  | .lst a, .int k => if decide (-1000000 ≤ k ∧ k < 1000000 ∧ a.length * k.toNat ≤ line) = true then newL (repD k.toNat a) s else .stuck
  | _, _ => .stuck
theorem od_rep : OpD X g E (binaryOp .Mult) mulL := by
  refine ⟨_, op_rep, fun x y s ca F P H v u Q m rx ry p => ?_⟩
  unfold mulL at p
  split at p
  · rename_i as k
    split at p
    · rename_i hk
      have hk := of_decide_eq_true hk
      simp only [Rep] at rx ry
      obtain ⟨a, xs, rfl, hF, rs⟩ := rx
      obtain ⟨h1, h2⟩ := newL_ok m (reps_rep rs k.toNat) p
      refine ⟨a, k, xs, rfl, ry, m.sub _ _ hF, by omega, by omega, ?_, h2⟩
      rw [← rs.length]
      exact line_le hk.2.2
    · exact p.elim
  · exact p.elim
def addD : D → D → S → Res D := fun x y s => (addI x y s).or (catL x y s)
theorem od_addD : OpD X g E (binaryOp .Add) addD := od_add.or od_cat
def mulD : D → D → S → Res D := fun x y s => (mulI x y s).or (mulL x y s)
theorem od_mulD : OpD X g E (binaryOp .Mult) mulD := od_mul.or od_rep

/-! ### == of data -/
mutual
def toPy : D → Option PyData
  | .non => some .none
  | .bl b => some (.bool b)
  | .int i => some (.int i)
  | .str x => some (.str x)
  | .lst ds => (toPys ds).map .list
  | .ro ds => (toPys ds).map .list
  | .tup ds => (toPys ds).map .tuple
  | .rot ds => (toPys ds).map .tuple
  | _ => none
def toPys : List D → Option (List PyData)
  | [] => some []
  | d :: ds => match toPy d, toPys ds with
    | some p, some ps => some (p :: ps)
    | _, _ => none
end
mutual
theorem dp_of {K : PySem.W.Frag} {ca : List Addr} {F H : Hp} (hK : g.K = K) (hs : Sub F H) : ∀ (d : D) (v : V) (p : PyData), toPy d = some p → Rep g ca F d v → Dp K H v p
  | .non, v, p, h, r => by
    simp only [toPy, Option.some.injEq] at h
    simp only [Rep] at r
    subst h; subst r; exact .non
  | .bl b, v, p, h, r => by
    simp only [toPy, Option.some.injEq] at h
    simp only [Rep] at r
    subst h; subst r; exact .bl b
  | .int i, v, p, h, r => by
    simp only [toPy, Option.some.injEq] at h
    simp only [Rep] at r
    subst h; subst r; exact .int i
  | .str x, v, p, h, r => by
    simp only [toPy, Option.some.injEq] at h
    simp only [Rep] at r
    subst h; subst r; exact .str x
  | .lst ds, v, p, h, r => by
    simp only [toPy, Option.map_eq_some_iff] at h
    obtain ⟨ps, h, rfl⟩ := h
    simp only [Rep] at r
    obtain ⟨a, xs, rfl, hF, rs⟩ := r
    exact .lst (.of (hs _ _ hF)) (dps_of hK hs ds xs ps h rs)
  | .ro ds, v, p, h, r => by
    simp only [toPy, Option.map_eq_some_iff] at h
    obtain ⟨ps, h, rfl⟩ := h
    simp only [Rep] at r
    obtain ⟨a, xs, rfl, hF, rs⟩ := r
    exact .lst (hK ▸ same_l hs hF) (dps_of hK hs ds xs ps h rs)
  | .tup ds, v, p, h, r => by
    simp only [toPy, Option.map_eq_some_iff] at h
    obtain ⟨ps, h, rfl⟩ := h
    simp only [Rep] at r
    obtain ⟨a, xs, rfl, hF, rs⟩ := r
    exact .tup (.of (hs _ _ hF)) (dps_of hK hs ds xs ps h rs)
  | .rot ds, v, p, h, r => by
    simp only [toPy, Option.map_eq_some_iff] at h
    obtain ⟨ps, h, rfl⟩ := h
    simp only [Rep] at r
    obtain ⟨a, xs, rfl, hF, rs⟩ := r
    exact .tup (hK ▸ same_t hs hF) (dps_of hK hs ds xs ps h rs)
  | .ins _ _, v, p, h, r => by simp [toPy] at h
  | .cell _, v, p, h, r => by simp [toPy] at h
  | .cls _, v, p, h, r => by simp [toPy] at h
  | .ty _, v, p, h, r => by simp [toPy] at h
  | .mty, v, p, h, r => by simp [toPy] at h
theorem dps_of {K : PySem.W.Frag} {ca : List Addr} {F H : Hp} (hK : g.K = K) (hs : Sub F H) : ∀ (ds : List D) (vs : List V) (ps : List PyData), toPys ds = some ps → Reps g ca F ds vs → DpAll K H vs ps
  | [], vs, ps, h, r => by
    simp only [toPys, Option.some.injEq] at h
    simp only [Reps] at r
    subst h; subst r; exact .nil
  | d :: ds, vs, ps, h, r => by
    simp only [toPys] at h
    split at h
    · rename_i p ps' h1 h2
      cases h
      simp only [Reps] at r
      obtain ⟨v, ws, rfl, r1, r2⟩ := r
      exact .cons (dp_of hK hs d v p h1 r1) (dps_of hK hs ds ws ps' h2 r2)
    · cases h
end
def eqP (neg : Bool) : D → D → S → Res D := fun x y s => match toPy x, toPy y with
  | some a, some b => if (SeqAt.shaped a && SeqAt.shaped b) = true then .ok (.bl (if neg then !PyData.eqv a b else PyData.eqv a b)) s else .stuck
  | _, _ => .stuck
theorem od_eqP (hK : g.K = X.K) (hu : X.A.units + 64 < cLine) : OpD X g E (compareOp .Eq) (eqP false) := by
  refine ⟨_, op_eqD hu, fun x y s ca F P H v u Q m rx ry p => ?_⟩
  unfold eqP at p
  split at p
  · rename_i a b ha hb
    split at p
    · rename_i hc
      rw [Bool.and_eq_true] at hc
      exact ⟨a, b, dp_of hK m.sub _ _ _ ha rx, dp_of hK m.sub _ _ _ hb ry, hc.1, hc.2, p.now m _ rfl⟩
    · exact p.elim
  · exact p.elim
theorem od_neP (hK : g.K = X.K) (hu : X.A.units + 64 < cLine) : OpD X g E (compareOp .NotEq) (eqP true) := by
  refine ⟨_, op_neD hu, fun x y s ca F P H v u Q m rx ry p => ?_⟩
  unfold eqP at p
  split at p
  · rename_i a b ha hb
    split at p
    · rename_i hc
      rw [Bool.and_eq_true] at hc
      exact ⟨a, b, dp_of hK m.sub _ _ _ ha rx, dp_of hK m.sub _ _ _ hb ry, hc.1, hc.2, p.now m _ rfl⟩
    · exact p.elim
  · exact p.elim

/-! ### built-in functions -/
def seqOf (s : S) : D → Option (List D)
  | .lst ds => some ds
  | .ro ds => some ds
  | .tup ds => some ds
  | .rot ds => some ds
  | .cell k => match s[k]? with
    | some (.lst ds) => some ds
    | _ => none
  | _ => none
def isTupD : D → Bool
  | .tup _ => true
  | .rot _ => true
  | _ => false
theorem seq_rep {ca : List Addr} {F P H : Hp} {s : S} {d : D} {ds : List D} {v : V} (m : Sim g ca F P s H) (h : seqOf s d = some ds) (r : Rep g ca F d v) :
    ∃ a xs, v = .ref a ∧ (if isTupD d = true then SqT g.K H a xs else SqL g.K H a xs) ∧ Reps g ca F ds xs := by
  unfold seqOf at h
  split at h
  · cases h
    simp only [Rep] at r
    obtain ⟨a, xs, e, hF, rs⟩ := r
    exact ⟨a, xs, e, .of (m.sub _ _ hF), rs⟩
  · cases h
    simp only [Rep] at r
    obtain ⟨a, xs, e, hF, rs⟩ := r
    exact ⟨a, xs, e, same_l m.sub hF, rs⟩
  · cases h
    simp only [Rep] at r
    obtain ⟨a, xs, e, hF, rs⟩ := r
    exact ⟨a, xs, e, .of (m.sub _ _ hF), rs⟩
  · cases h
    simp only [Rep] at r
    obtain ⟨a, xs, e, hF, rs⟩ := r
    exact ⟨a, xs, e, same_t m.sub hF, rs⟩
  · rename_i k
    split at h
    · rename_i ds' hk
      cases h
      simp only [Rep] at r
      obtain ⟨a, e, ha⟩ := r
      obtain ⟨xs, hH, rs⟩ := m.cellL ha hk
      exact ⟨a, xs, e, .of hH, rs⟩
    · cases h
  · cases h
theorem seq_rep' {K : PySem.W.Frag} {ca : List Addr} {F P H : Hp} {s : S} {d : D} {ds : List D} {v : V} (hK : g.K = K) (m : Sim g ca F P s H) (h : seqOf s d = some ds) (r : Rep g ca F d v) :
    ∃ a xs, v = .ref a ∧ (SqL K H a xs ∨ SqT K H a xs) ∧ Reps g ca F ds xs := by
  obtain ⟨a, xs, e, q, rs⟩ := seq_rep m h r
  refine ⟨a, xs, e, ?_, rs⟩
  rw [← hK]
  split at q
  · exact .inr q
  · exact .inl q
def bLen : List D → S → Res D := fun xs s => match xs with
  | [x] => match seqOf s x with
    | some ds => .ok (.int ds.length) s
    | none => .stuck
  | _ => .stuck
theorem reps1 {ca : List Addr} {F : Hp} {d : D} {vs : List V} (h : Reps g ca F [d] vs) : ∃ v, vs = [v] ∧ Rep g ca F d v := by
  simp only [Reps] at h
  obtain ⟨v, ws, rfl, r, rfl⟩ := h
  exact ⟨v, rfl, r⟩
theorem reps2 {ca : List Addr} {F : Hp} {d e : D} {vs : List V} (h : Reps g ca F [d, e] vs) : ∃ v u, vs = [v, u] ∧ Rep g ca F d v ∧ Rep g ca F e u := by
  simp only [Reps] at h
  obtain ⟨v, ws, rfl, r, u, ws', rfl, r', rfl⟩ := h
  exact ⟨v, u, rfl, r, r'⟩
theorem cd_len (hK : g.K = X.K) : CallD X g E (.builtin "len") bLen := by
  refine ⟨_, call_len_seq, fun xs s ca F P H vs Q m rs p => ?_⟩
  unfold bLen at p
  split at p
  · rename_i x
    split at p
    · rename_i ds hd
      obtain ⟨v, rfl, r⟩ := reps1 rs
      obtain ⟨a, ys, rfl, hq, rs'⟩ := seq_rep' hK m hd r
      exact ⟨a, ys, rfl, hq, p.now m _ (by simp only [Rep]; rw [rs'.length])⟩
    · exact p.elim
  · exact p.elim
def bList : List D → S → Res D := fun xs s => match xs with
  | [x] => match seqOf s x with
    | some ds => newL ds s
    | none => .stuck
  | _ => .stuck
theorem cd_list (hK : g.K = X.K) : CallD X g E (.type "list") bList := by
  refine ⟨_, call_list_of, fun xs s ca F P H vs Q m rs p => ?_⟩
  unfold bList at p
  split at p
  · rename_i x
    split at p
    · rename_i ds hd
      obtain ⟨v, rfl, r⟩ := reps1 rs
      obtain ⟨a, ys, rfl, hq, rs'⟩ := seq_rep' hK m hd r
      exact ⟨a, ys, rfl, hq, (newL_ok m rs' p).2⟩
    · exact p.elim
  · exact p.elim
def bTuple : List D → S → Res D := fun xs s => match xs with
  | [x] => match seqOf s x with
    | some ds => if isTupD x = true then .ok x s else newT ds s
    | none => .stuck
  | _ => .stuck
theorem cd_tuple (hK : g.K = X.K) : CallD X g E (.type "tuple") bTuple := by
  refine ⟨_, call_tuple_of, fun xs s ca F P H vs Q m rs p => ?_⟩
  unfold bTuple at p
  split at p
  · rename_i x
    split at p
    · rename_i ds hd
      obtain ⟨v, rfl, r⟩ := reps1 rs
      obtain ⟨a, ys, rfl, hq, rs'⟩ := seq_rep m hd r
      rw [hK] at hq
      split at p
      · rename_i ht
        rw [if_pos ht] at hq
        exact ⟨a, ys, rfl, .inr ⟨hq, p.now m _ r⟩⟩
      · rename_i ht
        rw [if_neg ht] at hq
        exact ⟨a, ys, rfl, .inl ⟨hq, (newT_ok m rs' p).2⟩⟩
    · exact p.elim
  · exact p.elim
def bInt1 (gi : Int → D) : List D → S → Res D := fun xs s => match xs with
  | [.int i] => .ok (gi i) s
  | _ => .stuck
def absI (i : Int) : Int := if i < 0 then -i else i
theorem cd_abs : CallD X g E (.builtin "abs") (bInt1 fun i => .int (absI i)) := by
  refine ⟨_, call_abs, fun xs s ca F P H vs Q m rs p => ?_⟩
  unfold bInt1 at p
  split at p
  · rename_i i
    obtain ⟨v, rfl, r⟩ := reps1 rs
    simp only [Rep] at r
    subst r
    exact ⟨i, rfl, p.now m _ rfl⟩
  · exact p.elim
theorem cd_int : CallD X g E (.type "int") (bInt1 fun i => .int i) := by
  refine ⟨_, call_int1, fun xs s ca F P H vs Q m rs p => ?_⟩
  unfold bInt1 at p
  split at p
  · rename_i i
    obtain ⟨v, rfl, r⟩ := reps1 rs
    simp only [Rep] at r
    subst r
    exact .inl ⟨i, rfl, p.now m _ rfl⟩
  · exact p.elim
def bInt2 (cond : Int → Int → Bool) (gi : Int → Int → D) : List D → S → Res D := fun xs s => match xs with
  | [.int i, .int j] => if cond i j = true then .ok (gi i j) s else .stuck
  | _ => .stuck
def maxI (i j : Int) : Int := if j > i then j else i
def minI (i j : Int) : Int := if j < i then j else i
theorem cd_max2 (hc : X.calm = true) : CallD X g E (.builtin "max") (bInt2 (fun _ _ => true) fun i j => .int (maxI i j)) := by
  refine ⟨_, call_max2 hc, fun xs s ca F P H vs Q m rs p => ?_⟩
  unfold bInt2 at p
  split at p
  · rename_i i j
    obtain ⟨v, u, rfl, r, r'⟩ := reps2 rs
    simp only [Rep] at r r'
    subst r; subst r'
    exact ⟨i, j, rfl, (if_pos rfl ▸ p).now m _ rfl⟩
  · exact p.elim
theorem cd_min2 (hc : X.calm = true) : CallD X g E (.builtin "min") (bInt2 (fun _ _ => true) fun i j => .int (minI i j)) := by
  refine ⟨_, call_min2 hc, fun xs s ca F P H vs Q m rs p => ?_⟩
  unfold bInt2 at p
  split at p
  · rename_i i j
    obtain ⟨v, u, rfl, r, r'⟩ := reps2 rs
    simp only [Rep] at r r'
    subst r; subst r'
    exact ⟨i, j, rfl, (if_pos rfl ▸ p).now m _ rfl⟩
  · exact p.elim
def gcdI (i j : Int) : Int := ((Nat.gcd i.natAbs j.natAbs : Nat) : Int)
theorem cd_gcd : CallD X g E (.builtin "math.gcd") (bInt2 (fun _ _ => true) fun i j => .int (gcdI i j)) := by
  refine ⟨_, cr_gcd, fun xs s ca F P H vs Q m rs p => ?_⟩
  unfold bInt2 at p
  split at p
  · rename_i i j
    obtain ⟨v, u, rfl, r, r'⟩ := reps2 rs
    simp only [Rep] at r r'
    subst r; subst r'
    exact ⟨i, j, rfl, (if_pos rfl ▸ p).now m _ rfl⟩
  · exact p.elim
def cDiv0 (_ j : Int) : Bool := decide (0 < j ∧ j < 1073741824)
def bDivmod : List D → S → Res D := fun xs s => match xs with
  | [.int i, .int j] => if cDiv0 i j = true then newT [.int (i / j), .int (i % j)] s else .stuck
  | _ => .stuck
theorem cd_divmod : CallD X g E (.builtin "divmod") bDivmod := by
  refine ⟨_, call_divmod, fun xs s ca F P H vs Q m rs p => ?_⟩
  unfold bDivmod at p
  split at p
  · rename_i i j
    split at p
    · rename_i hc
      obtain ⟨v, u, rfl, r, r'⟩ := reps2 rs
      simp only [Rep] at r r'
      subst r; subst r'
      exact ⟨i, j, rfl, of_decide_eq_true (p := 0 < j ∧ j < 1073741824) hc, (newT_ok m (.cons rep_int (.cons rep_int .nil)) p).2⟩
    · exact p.elim
  · exact p.elim
mutual
def boolsOf : List D → Option (List Bool)
  | [] => some []
  | .bl b :: ds => (boolsOf ds).map (b :: ·)
  | _ => none
end
theorem bools_rep {ca : List Addr} {F : Hp} : ∀ {ds : List D} {bs : List Bool} {vs : List V}, boolsOf ds = some bs → Reps g ca F ds vs → vs = bs.map V.bl
  | [], bs, vs, h, r => by simp only [boolsOf, Option.some.injEq] at h; subst h; simp only [Reps] at r; subst r; rfl
  | d :: ds, bs, vs, h, r => by
    unfold boolsOf at h
    split at h
    · rename_i heq; cases heq
    · rename_i b ds' heq
      cases heq
      rw [Option.map_eq_some_iff] at h
      obtain ⟨bs', h, rfl⟩ := h
      simp only [Reps] at r
      obtain ⟨v, ws, rfl, r1, r2⟩ := r
      simp only [Rep] at r1
      subst r1
      rw [bools_rep h r2]
      rfl
    · cases h
def bBools (f : List Bool → Bool) : List D → S → Res D := fun xs s => match xs with
  | [x] => if isTupD x = true then .stuck else match seqOf s x with
    | some ds => match boolsOf ds with
      | some bs => .ok (.bl (f bs)) s
      | none => .stuck
    | none => .stuck
  | _ => .stuck
theorem cd_all (hK : g.K = X.K) (hc : X.calm = true) : CallD X g E (.builtin "all") (bBools fun bs => bs.all id) := by
  refine ⟨_, cr_all hc, fun xs s ca F P H vs Q m rs p => ?_⟩
  unfold bBools at p
  split at p
  · rename_i x
    split at p
    · exact p.elim
    · rename_i ht
      split at p
      · rename_i ds hd
        split at p
        · rename_i bs hb
          obtain ⟨v, rfl, r⟩ := reps1 rs
          obtain ⟨a, ys, rfl, hq, rs'⟩ := seq_rep m hd r
          rw [if_neg ht, hK, bools_rep hb rs'] at hq
          exact ⟨a, bs, rfl, hq, p.now m _ rfl⟩
        · exact p.elim
      · exact p.elim
  · exact p.elim
theorem cd_any (hK : g.K = X.K) (hc : X.calm = true) : CallD X g E (.builtin "any") (bBools fun bs => bs.any id) := by
  refine ⟨_, cr_any hc, fun xs s ca F P H vs Q m rs p => ?_⟩
  unfold bBools at p
  split at p
  · rename_i x
    split at p
    · exact p.elim
    · rename_i ht
      split at p
      · rename_i ds hd
        split at p
        · rename_i bs hb
          obtain ⟨v, rfl, r⟩ := reps1 rs
          obtain ⟨a, ys, rfl, hq, rs'⟩ := seq_rep m hd r
          rw [if_neg ht, hK, bools_rep hb rs'] at hq
          exact ⟨a, bs, rfl, hq, p.now m _ rfl⟩
        · exact p.elim
      · exact p.elim
  · exact p.elim

/-! ### the call of a built-in by its name -/
variable {x : Str} {p pos : Pos} {e : Expr} {es : List Expr} {mr : Env → S → Res (List D)} {id T : String} {f : List D → S → Res D}
def mCall (f : List D → S → Res D) (mr : Env → S → Res (List D)) : Env → S → Res D := fun env s => (mr env s).bind f
theorem call_run {ta : TA} {r : List V → Hp → VK → Prop} (ha : ∀ (env : Env) (s : S) (ca : List Addr) (F P H : Hp) (σ : L2.St) (Q : List V → Hp → Prop), Sim g ca F P s H → Slots g ca F env σ →
      Post g ca F P E (fun ds _ ca' F' H' => ∀ vs, Reps g ca' F' ds vs → Q vs H') (mr env s) → ta σ H Q)
    (hr : ∀ (xs : List D) (s : S) (ca : List Addr) (F P H : Hp) (vs : List V) (Q : VK), Sim g ca F P s H → Reps g ca F xs vs → Post g ca F P E (fun d _ ca' F' H' => ∀ w, Rep g ca' F' d w → Q w H') (f xs s) → r vs H Q)
    {env : Env} {s : S} {ca : List Addr} {F P H : Hp} {σ : L2.St} {Q : VK} (m : Sim g ca F P s H) (sl : Slots g ca F env σ) (q : Post g ca F P E (fun d _ ca' F' H' => ∀ v, Rep g ca' F' d v → Q v H') (mCall f mr env s)) :
    tCB r ta σ H Q := ha env s ca F P H σ _ m sl (Post.imp (Post.seq q) fun ds s1 ca1 F1 H1 k1 k2 m1 q1 vs rs => hr ds s1 ca1 F1 P H1 vs Q m1 rs q1)
theorem ev_callB (hc : CallD X g E (.builtin id) f) (hg : Gl X x) (hm : X.mg x = none) (hv : bootBuiltins x = some (.builtin id)) (ha : Ea X g E (e :: es) mr) (hn : x ≠ "__name__" := by decide) (hdb : (x == ("__debug__" : Str)) = false := by decide)
    (he : starEach (e :: es) X.env = (false, eval e X.env) :: starEach es X.env := by rfl) (hpl : (backTo pos (starEach es X.env)).any (·.1) = false := by rfl) : Ev X g E (.Call (.Name x p) (e :: es) [] pos) (mCall f mr) := by
  obtain ⟨r, h1, h2⟩ := hc
  obtain ⟨ta, pa, ha⟩ := ha
  exact ⟨_, pe_callB h1 hg hm hv pa hn hdb he hpl, fun env s ca F P H σ Q m sl q => call_run ha h2 m sl q⟩
theorem ev_callF (hc : CallD X g E (.builtin id) f) (hg : Gl X x) (hm : X.mg x = some (.builtin id)) (ha : Ea X g E (e :: es) mr) (hdb : (x == ("__debug__" : Str)) = false := by decide)
    (he : starEach (e :: es) X.env = (false, eval e X.env) :: starEach es X.env := by rfl) (hpl : (backTo pos (starEach es X.env)).any (·.1) = false := by rfl) : Ev X g E (.Call (.Name x p) (e :: es) [] pos) (mCall f mr) := by
  obtain ⟨r, h1, h2⟩ := hc
  obtain ⟨ta, pa, ha⟩ := ha
  exact ⟨_, pe_callBfun h1 hg hm pa hdb he hpl, fun env s ca F P H σ Q m sl q => call_run ha h2 m sl q⟩
theorem ev_callTy (hc : CallD X g E (.type T) f) (hg : Gl X x) (hm : X.mg x = none) (hv : bootBuiltins x = some (.type T)) (ha : Ea X g E (e :: es) mr) (hn : x ≠ "__name__" := by decide) (hdb : (x == ("__debug__" : Str)) = false := by decide)
    (he : starEach (e :: es) X.env = (false, eval e X.env) :: starEach es X.env := by rfl) (hpl : (backTo pos (starEach es X.env)).any (·.1) = false := by rfl) : Ev X g E (.Call (.Name x p) (e :: es) [] pos) (mCall f mr) := by
  obtain ⟨r, h1, h2⟩ := hc
  obtain ⟨ta, pa, ha⟩ := ha
  exact ⟨_, pe_callTy h1 hg hm hv pa hn hdb he hpl, fun env s ca F P H σ Q m sl q => call_run ha h2 m sl q⟩
end
end Pm
set_option Elab.async false
set_option linter.all false
set_option maxRecDepth 100000
set_option maxHeartbeats 2000000
namespace Pm
open PySem PySem.Spec PyProof.Rows L2

/-! ### isinstance -/
inductive TN where
  | non | bl | int | str | lst | tup | dct | ins (c : Nat)
  deriving DecidableEq
def TN.b : TN → Option String
  | .non => some "NoneType" | .bl => some "bool" | .int => some "int" | .str => some "str" | .lst => some "list" | .tup => some "tuple" | .dct => some "dict" | .ins _ => none
def tyn (s : S) : D → Option TN
  | .non => some .non
  | .bl _ => some .bl
  | .int _ => some .int
  | .str _ => some .str
  | .lst _ => some .lst
  | .ro _ => some .lst
  | .tup _ => some .tup
  | .mty => some .dct
  | .ins c _ => some (.ins c)
  | .cell k => match s[k]? with
    | some (.lst _) => some .lst
    | _ => none
  | _ => none
def TN.is : TN → BT → Bool
  | .bl, .bool => true | .bl, .int => true | .int, .int => true | .str, .str => true | .lst, .list => true | .tup, .tuple => true | .dct, .dict => true
  | _, _ => false
/-- what an own class must have for isinstance -/
structure IsF (K : PySem.W.Frag) (C : Addr) : Prop where
  cl : Cls K C
  ha : PySem.W.findIn K (.ref C) "__class__" = some (some (.builtin "object.__class__"))
  hn : PySem.W.specialIn K (.builtin "object.__class__") "__get__" = some (some (.builtin "getset_descriptor.__get__"))
  htk : PySem.W.takesIn K (.builtin "object.__class__") = some true
  hm : PySem.W.mroIn K C (.type "object") = some true
/-- the own classes 0 .. n - 1, none of them above another one -/
structure ClsF (K : PySem.W.Frag) (g : G) (n : Nat) : Prop where
  f : ∀ c, c < n → IsF K (g.cls c)
  b1 : ∀ c (t : BT), c < n → PySem.W.kitOne K (.ref (g.cls c)) (.type t.name) = some false
  b2 : ∀ c (t : TN) x, c < n → t.b = some x → PySem.W.kitOne K (.type x) (.ref (g.cls c)) = some false
  b3 : ∀ c d, c < n → d < n → PySem.W.kitOne K (.ref (g.cls c)) (.ref (g.cls d)) = some (c == d)
theorem kit_bt {K : PySem.W.Frag} : ∀ (t : TN) (x : String) (b : BT), t.b = some x → PySem.W.kitOne K (.type x) (.type b.name) = some (t.is b) := by
  intro t x b h
  cases t <;> cases h <;> cases b <;> exact kit_ty (by decide +kernel)
section
variable {X : Cx} {g : G} {E : XK}
/-- one class -/
def isOne (n : Nat) (t : TN) : D → Option Bool
  | .ty b => some (t.is b)
  | .cls c => if c < n then (match t with
    | .ins d => if d < n then some (d == c) else none
    | _ => some false) else none
  | _ => none
def isAny (n : Nat) (t : TN) : List D → Option Bool
  | [] => some false
  | d :: ds => match isOne n t d with
    | some true => some true
    | some false => isAny n t ds
    | none => none
def TN.v (g : G) : TN → Value
  | .ins c => .ref (g.cls c)
  | t => .type (t.b.getD "")
def clsV (g : G) : D → Option Value
  | .ty b => some (.type b.name)
  | .cls c => some (.ref (g.cls c))
  | _ => none
theorem TN.v_b {g : G} : ∀ {t : TN} {x : String}, t.b = some x → t.v g = .type x := by
  intro t x h
  cases t <;> cases h <;> rfl
def TN.ok (n : Nat) : TN → Bool
  | .ins c => decide (c < n)
  | _ => true
theorem isOne_kit {n : Nat} (cf : ClsF X.K g n) {t : TN} (ht : t.ok n = true) {d : D} {b : Bool} (h : isOne n t d = some b) : ∃ u, clsV g d = some u ∧ PySem.W.kitOne X.K (t.v g) u = some b := by
  unfold isOne at h
  split at h
  · rename_i bt
    cases h
    refine ⟨_, rfl, ?_⟩
    cases t with
    | ins c => exact cf.b1 c bt (of_decide_eq_true ht)
    | non => exact kit_bt .non _ bt rfl
    | bl => exact kit_bt .bl _ bt rfl
    | int => exact kit_bt .int _ bt rfl
    | str => exact kit_bt .str _ bt rfl
    | lst => exact kit_bt .lst _ bt rfl
    | tup => exact kit_bt .tup _ bt rfl
    | dct => exact kit_bt .dct _ bt rfl
  · rename_i c
    split at h
    · rename_i hc
      refine ⟨_, rfl, ?_⟩
      cases t with
      | ins d =>
        have hd : d < n := of_decide_eq_true ht
        simp only [hd, if_true, Option.some.injEq] at h
        subst h
        exact cf.b3 d c hd hc
      | non => cases h; exact cf.b2 c .non _ hc rfl
      | bl => cases h; exact cf.b2 c .bl _ hc rfl
      | int => cases h; exact cf.b2 c .int _ hc rfl
      | str => cases h; exact cf.b2 c .str _ hc rfl
      | lst => cases h; exact cf.b2 c .lst _ hc rfl
      | tup => cases h; exact cf.b2 c .tup _ hc rfl
      | dct => cases h; exact cf.b2 c .dct _ hc rfl
    · cases h
  · cases h
theorem cls_rep {ca : List Addr} {F : Hp} {d : D} {u : Value} {v : V} (h : clsV g d = some u) (r : Rep g ca F d v) : ClsV v u := by
  unfold clsV at h
  split at h
  · cases h; simp only [Rep] at r; subst r; exact .ty _
  · cases h; simp only [Rep] at r; subst r; exact .own _
  · cases h
theorem tyx_of {n : Nat} (hK : g.K = X.K) (cf : ClsF X.K g n) {ca : List Addr} {F P H : Hp} {s : S} {d : D} {t : TN} {v : V} (m : Sim g ca F P s H) (h : tyn s d = some t) (ht : t.ok n = true) (r : Rep g ca F d v) : TyX X.K H v (t.v g) := by
  unfold tyn at h
  split at h
  · cases h; simp only [Rep] at r; subst r; exact .base .non
  · cases h; simp only [Rep] at r; subst r; exact .base (.bl _)
  · cases h; simp only [Rep] at r; subst r; exact .base (.int _)
  · cases h; simp only [Rep] at r; subst r; exact .base (.str _)
  · cases h; simp only [Rep] at r; obtain ⟨a, xs, rfl, hF, rs⟩ := r; exact .base (.lst (m.sub _ _ hF))
  · cases h
    simp only [Rep] at r
    obtain ⟨a, xs, rfl, hF, rs⟩ := r
    rcases hF with (z | ⟨o, z⟩) | ⟨o, its, k, z, c, _⟩
    · exact .base (.lst (m.sub _ _ z))
    · exact .base (.frz (m.sub _ _ z))
    · exact .kList (hK ▸ z) c
  · cases h; simp only [Rep] at r; obtain ⟨a, xs, rfl, hF, rs⟩ := r; exact .base (.tup (m.sub _ _ hF))
  · cases h; simp only [Rep] at r; obtain ⟨a, rfl, hF⟩ := r; exact .base (.dK (m.sub _ _ hF))
  · rename_i c fs
    cases h
    simp only [Rep] at r
    obtain ⟨a, dx, xs, rfl, hF, _⟩ := r
    have := cf.f c (of_decide_eq_true ht)
    exact .base (.ins (m.sub _ _ hF) this.cl this.ha this.hn this.htk this.hm)
  · rename_i k
    split at h
    · rename_i ds hk
      cases h
      simp only [Rep] at r
      obtain ⟨a, rfl, ha⟩ := r
      obtain ⟨xs, hH, rs⟩ := m.cellL ha hk
      exact .base (.lst hH)
    · cases h
  · cases h
def bIsi (n : Nat) : List D → S → Res D := fun xs s => match xs with
  | [x, .tup cs] => match tyn s x with
    | some t => if t.ok n = true then (match isAny n t cs with
      | some b => .ok (.bl b) s
      | none => .stuck) else .stuck
    | none => .stuck
  | [x, c] => match tyn s x with
    | some t => if t.ok n = true then (match isOne n t c with
      | some b => .ok (.bl b) s
      | none => .stuck) else .stuck
    | none => .stuck
  | _ => .stuck
theorem isAny_kit {n : Nat} (cf : ClsF X.K g n) {t : TN} (ht : t.ok n = true) {ca : List Addr} {F : Hp} : ∀ {ds : List D} {b : Bool} {vs : List V}, isAny n t ds = some b → Reps g ca F ds vs →
    (∀ d ∈ ds, (clsV g d).isSome = true) → ∃ us, Paired ClsV vs us ∧ PySem.W.kitAny X.K (t.v g) us = some b
  | [], b, vs, h, r, _ => by
    simp only [isAny, Option.some.injEq] at h
    subst h
    simp only [Reps] at r
    subst r
    exact ⟨[], .nil, rfl⟩
  | d :: ds, b, vs, h, r, hc => by
    simp only [Reps] at r
    obtain ⟨v, ws, rfl, r1, r2⟩ := r
    have rest : ∃ us, Paired ClsV ws us := by
      clear h
      have hc' : ∀ d ∈ ds, (clsV g d).isSome = true := fun e he => hc e (List.mem_cons_of_mem _ he)
      clear hc r1
      induction ds generalizing ws with
      | nil => simp only [Reps] at r2; subst r2; exact ⟨[], .nil⟩
      | cons e es ih =>
        simp only [Reps] at r2
        obtain ⟨v', ws', rfl, q1, q2⟩ := r2
        obtain ⟨us, hu⟩ := ih ws' q2 fun e he => hc' e (List.mem_cons_of_mem _ he)
        obtain ⟨u, hu'⟩ := Option.isSome_iff_exists.mp (hc' e (List.mem_cons_self ..))
        exact ⟨u :: us, .cons (cls_rep hu' q1) hu⟩
    unfold isAny at h
    split at h
    · rename_i h1
      cases h
      obtain ⟨u, hu, hk⟩ := isOne_kit cf ht h1
      obtain ⟨us, hus⟩ := rest
      exact ⟨u :: us, .cons (cls_rep hu r1) hus, by simp only [PySem.W.kitAny, hk]⟩
    · rename_i h1
      obtain ⟨u, hu, hk⟩ := isOne_kit cf ht h1
      obtain ⟨us, hus, hk2⟩ := isAny_kit cf ht h r2 fun e he => hc e (List.mem_cons_of_mem _ he)
      exact ⟨u :: us, .cons (cls_rep hu r1) hus, by simp only [PySem.W.kitAny, hk, hk2]⟩
    · cases h
def clsAll : List D → Bool
  | [] => true
  | .ty _ :: ds => clsAll ds
  | .cls _ :: ds => clsAll ds
  | _ => false
theorem clsAll_some : ∀ {ds : List D}, clsAll ds = true → ∀ d ∈ ds, (clsV g d).isSome = true
  | [], _, d, h => by cases h
  | e :: es, h, d, hd => by
    unfold clsAll at h
    split at h
    · rename_i heq; cases heq
    · rename_i t ds heq
      cases heq
      rcases List.mem_cons.mp hd with rfl | hd
      · rfl
      · exact clsAll_some h d hd
    · rename_i t ds heq
      cases heq
      rcases List.mem_cons.mp hd with rfl | hd
      · rfl
      · exact clsAll_some h d hd
    · cases h
def bIsi' (n : Nat) : List D → S → Res D := fun xs s => match xs with
  | [x, .tup cs] => if clsAll cs = true then bIsi n [x, .tup cs] s else .stuck
  | [x, .ty t] => bIsi n [x, .ty t] s
  | [x, .cls c] => bIsi n [x, .cls c] s
  | _ => .stuck
theorem cd_isi1 {n : Nat} (hK : g.K = X.K) (cf : ClsF X.K g n) : CallD X g E (.builtin "isinstance") (fun xs s => match xs with
    | [_, .ty _] => bIsi' n xs s
    | [_, .cls _] => bIsi' n xs s
    | _ => .stuck) := by
  refine ⟨_, call_isi, fun xs s ca F P H vs Q m rs p => ?_⟩
  have one : ∀ x c, (match tyn s x with
    | some t => if t.ok n = true then (match isOne n t c with
      | some b => Res.ok (.bl b) s
      | none => .stuck) else .stuck
    | none => .stuck) = bIsi' n xs s → xs = [x, c] → rIsi X.K vs H Q := fun x c hb hx => by
    subst hx
    obtain ⟨v, u, rfl, r1, r2⟩ := reps2 rs
    have p : Post g ca F P E (fun d _ ca' F' H' => ∀ w, Rep g ca' F' d w → Q w H') (match tyn s x with
      | some t => if t.ok n = true then (match isOne n t c with
        | some b => Res.ok (.bl b) s
        | none => .stuck) else .stuck
      | none => .stuck) := by
      rw [hb]
      dsimp only at p
      split at p
      · exact p
      · exact p
      · exact p.elim
    split at p
    · rename_i t ht
      split at p
      · rename_i hok
        split at p
        · rename_i b hb2
          obtain ⟨w, hw, hk⟩ := isOne_kit cf hok hb2
          exact ⟨v, u, t.v g, w, b, rfl, cls_rep hw r2, tyx_of hK cf m ht hok r1, hk, p.now m _ rep_bl⟩
        · exact p.elim
      · exact p.elim
    · exact p.elim
  dsimp only at p
  split at p
  · rename_i x t
    exact one x (.ty t) rfl rfl
  · rename_i x c
    exact one x (.cls c) rfl rfl
  · exact p.elim
theorem cd_isiT {n : Nat} (hK : g.K = X.K) (cf : ClsF X.K g n) : CallD X g E (.builtin "isinstance") (fun xs s => match xs with
    | [_, .tup _] => bIsi' n xs s
    | _ => .stuck) := by
  refine ⟨_, call_isiT, fun xs s ca F P H vs Q m rs p => ?_⟩
  dsimp only at p
  split at p
  · rename_i x cs
    unfold bIsi' at p
    simp only at p
    split at p
    · rename_i hc
      unfold bIsi at p
      simp only at p
      obtain ⟨v, u, rfl, r1, r2⟩ := reps2 rs
      simp only [Rep] at r2
      obtain ⟨a, ws, rfl, hF, rs2⟩ := r2
      split at p
      · rename_i t ht
        split at p
        · rename_i hok
          split at p
          · rename_i b hb
            obtain ⟨us, hp, hk⟩ := isAny_kit cf hok hb rs2 (clsAll_some hc)
            exact ⟨v, a, ws, t.v g, us, b, rfl, m.sub _ _ hF, hp, tyx_of hK cf m ht hok r1, hk, p.now m _ rep_bl⟩
          · exact p.elim
        · exact p.elim
      · exact p.elim
    · exact p.elim
  · exact p.elim
def bIs (n : Nat) : List D → S → Res D := fun xs s => ((match xs with
    | [_, .ty _] => bIsi' n xs s
    | [_, .cls _] => bIsi' n xs s
    | _ => .stuck : Res D)).or (match xs with
    | [_, .tup _] => bIsi' n xs s
    | _ => .stuck)
theorem cd_isinstance {n : Nat} (hK : g.K = X.K) (cf : ClsF X.K g n) : CallD X g E (.builtin "isinstance") (bIs n) := (cd_isi1 hK cf).or (cd_isiT hK cf)
/-- names of types, of own classes -/
theorem ev_bty (t : BT) {x : Str} {pos : Pos} (hg : Gl X x) (hm : X.mg x = none) (hv : bootBuiltins x = some (.type t.name)) (hn : x ≠ "__name__" := by decide) (hd : (x == ("__debug__" : Str)) = false := by decide) : Ev X g E (.Name x pos) (mC (.ty t)) :=
  ev_c (pe_bltn (v := .ty t.name) hg hm hv rfl hn hd) fun _ _ => by simp only [Rep]
theorem ev_cls (c : Nat) {x : Str} {pos : Pos} (hg : Gl X x) (hm : X.mg x = some (.ref (g.cls c))) (hd : (x == ("__debug__" : Str)) = false := by decide) : Ev X g E (.Name x pos) (mC (.cls c)) :=
  ev_c (pe_glob (v := .ref (g.cls c)) hg hm rfl hd) fun _ _ => by simp only [Rep]

/-! ### fields -/
theorem zip_lookup : ∀ {ns : List Str} {vs : List V} {i : Nat} {f : Str} {v : V}, ns.Nodup → ns[i]? = some f → vs[i]? = some v → (ns.zip vs).lookup f = some v
  | [], _, _, _, _, _, h, _ => by simp at h
  | _ :: _, [], _, _, _, _, _, h => by simp at h
  | n :: ns, w :: vs, 0, f, v, _, h1, h2 => by
    simp at h1 h2
    subst h1; subst h2
    simp [List.lookup_cons]
  | n :: ns, w :: vs, i + 1, f, v, nd, h1, h2 => by
    have hne : n ≠ f := by
      rintro rfl
      exact (List.nodup_cons.mp nd).1 (List.mem_of_getElem? (i := i) (by simpa using h1))
    simp only [List.zip_cons_cons, List.lookup_cons]
    rw [show (f == n) = false by simpa using fun e => hne e.symm]
    exact zip_lookup (List.nodup_cons.mp nd).2 (by simpa using h1) (by simpa using h2)
theorem zip_lookup_none : ∀ {ns : List Str} {vs : List V} {f : Str}, f ∉ ns → (ns.zip vs).lookup f = none
  | [], _, _, _ => rfl
  | _ :: _, [], _, _ => rfl
  | n :: ns, w :: vs, f, h => by
    simp only [List.zip_cons_cons, List.lookup_cons]
    rw [show (f == n) = false by simpa using fun e => h (by simp [e])]
    exact zip_lookup_none fun z => h (List.mem_cons_of_mem _ z)
variable {e o : Expr} {me mo : Env → S → Res D} {pos apos : Pos} {f : Str}
/-- the i-th field of the class c -/
def mFld (c i : Nat) (me : Env → S → Res D) : Env → S → Res D := fun env s => (me env s).bind fun x s1 => match x with
  | .ins k fs => if k = c then (match fs[i]? with
    | some d => .ok d s1
    | none => .stuck) else .stuck
  | _ => .stuck
theorem ev_fld {c i : Nat} (he : Ev X g E e me) (cl : Cls X.K (g.cls c)) (na : NoAttr X.K (g.cls c) f) (hf : (g.fn c)[i]? = some f) (hnd : (g.fn c).Nodup) (hb : attributeBase e f X.env (eval e X.env) = eval e X.env := by rfl) : Ev X g E (.Attribute e f pos) (mFld c i me) := by
  obtain ⟨t, p, h⟩ := he
  refine ⟨_, pe_fld p hb, fun env s ca F P H σ Q m sl q => ?_⟩
  refine h env s ca F P H σ _ m sl (Post.imp (Post.seq q) fun x s1 ca1 F1 H1 k1 k2 m1 q1 v rv => ?_)
  cases x with
  | ins k fs =>
    simp only at q1
    split at q1
    · rename_i hk
      subst hk
      split at q1
      · rename_i d hd
        simp only [Rep] at rv
        obtain ⟨a, dx, xs, rfl, hF, hl, rs⟩ := rv
        obtain ⟨w, hw, rw'⟩ := rs.get hd
        exact ⟨a, _, dx, _, w, rfl, m1.sub _ _ hF, cl, na, zip_lookup hnd hf hw, q1.now m1 _ rw'⟩
      · exact q1.elim
    · exact q1.elim
  | _ => exact q1.elim

/-! ### calls of own defs -/
theorem post_noexn {α : Type} {ca : List Addr} {F P : Hp} {E' : XK} {Q : α → S → List Addr → Hp → Hp → Prop} {r : Res α} (h : Post g ca F P E Q (match r with
    | .exn _ _ _ => Res.stuck
    | z => z)) : Post g ca F P E' Q r := by
  cases r with
  | stuck => exact h
  | ok a s => exact h
  | exn c pl s => exact h.elim
def noexn {α : Type} (r : Res α) : Res α := match r with
  | .exn _ _ _ => .stuck
  | z => z
variable {x m : Str} {p : Pos} {es : List Expr} {mr : Env → S → Res (List D)} {CX : CXT} {k : Nat} {fa C : Addr} {fd : FuncData} {ps : List Str} {ff : List D → S → Res D} {n : Nat} {dvs : List V} {dds : List D} {ds : List Value}
def mCallD (dds : List D) (ff : List D → S → Res D) (mr : Env → S → Res (List D)) : Env → S → Res D := fun env s => (mr env s).bind fun xs s1 => if xs.length + dds.length = n then ff (xs ++ dds) s1 else .stuck
theorem spG_of {ca : List Addr} {F P H : Hp} {s : S} {xs : List D} {vs : List V} {Q : VK} (m : Sim g ca F P s H) (r : Reps g ca F xs vs) (hl : xs.length = n) (q : Post g ca F P E (fun d _ ca' F' H' => ∀ v, Rep g ca' F' d v → Q v H') (ff xs s)) : spG g n ff vs H Q E :=
  ⟨xs, ca, F, P, s, by rw [← r.length]; exact hl, m, r, q⟩
theorem ev_call (Fk : FnOk X.prog X.w X.K X.mg X.base CX k fa fd ps (spG g n ff)) (hr : Room k X.A) (hg : Gl X x) (hm : X.mg x = some (.ref fa)) (hk : PySem.W.keepIn X.K (.ref fa) = true) (hb : Binds X.K fd ps ds) (hd : Vals dvs ds) (hdd : ∀ ca F, Reps g ca F dds dvs) (hx : Passes CX X E)
    (ha : Ea X g E (e :: es) mr) (hdb : (x == ("__debug__" : Str)) = false := by decide) (he : starEach (e :: es) X.env = (false, eval e X.env) :: starEach es X.env := by rfl) (hpl : (backTo pos (starEach es X.env)).any (·.1) = false := by rfl) :
    Ev X g E (.Call (.Name x p) (e :: es) [] pos) (mCallD (n := n) dds ff mr) := by
  obtain ⟨t, pa, ha⟩ := ha
  refine ⟨_, pe_call Fk hr hg hm hk hb hd hx pa hdb he hpl, fun env s ca F P H σ Q m sl q => ?_⟩
  refine ha env s ca F P H σ _ m sl (Post.imp (Post.seq q) fun xs s1 ca1 F1 H1 k1 k2 m1 q vs rs => ?_)
  split at q
  · rename_i hl
    exact spG_of m1 (rs.append (hdd _ _)) (by simpa using hl) q
  · exact q.elim
theorem ev_call0 (Fk : FnOk X.prog X.w X.K X.mg X.base CX k fa fd ps (spG g n ff)) (hr : Room k X.A) (hg : Gl X x) (hm : X.mg x = some (.ref fa)) (hk : PySem.W.keepIn X.K (.ref fa) = true) (hb : Binds X.K fd ps ds) (hd : Vals dvs ds) (hdd : ∀ ca F, Reps g ca F dds dvs) (hx : Passes CX X E)
    (hdb : (x == ("__debug__" : Str)) = false := by decide) : Ev X g E (.Call (.Name x p) [] [] pos) (mCallD (n := n) dds ff aNil) := by
  refine ⟨_, pe_call0 Fk hr hg hm hk hb hd hx hdb, fun env s ca F P H σ Q m sl q => ?_⟩
  simp only [mCallD, aNil, Res.bind_ok] at q
  split at q
  · rename_i hl
    exact spG_of m (hdd _ _) (by simpa using hl) q
  · exact q.elim
/-- o.m(..) of an instance of the class c -/
def mMeth (c : Nat) (dds : List D) (ff : List D → S → Res D) (mo : Env → S → Res D) (mr : Env → S → Res (List D)) : Env → S → Res D := fun env s => (mo env s).bind fun x s1 => match x with
  | .ins k fs => if k = c then (mr env s1).bind (fun xs s2 => if xs.length + dds.length + 1 = n then ff (.ins k fs :: (xs ++ dds)) s2 else .stuck) else .stuck
  | _ => .stuck
theorem ev_meth {c : Nat} {pl : Sem Bool} (he : Ev X g E o mo) (cl : Cls X.K (g.cls c)) (hm : Meth X.K (g.cls c) m fa) (hnf : m ∉ g.fn c) (Fk : FnOk X.prog X.w X.K X.mg X.base CX k fa fd ps (spG g n ff)) (hr : Room k X.A) (hb : Binds X.K fd ps ds) (hd : Vals dvs ds) (hdd : ∀ ca F, Reps g ca F dds dvs) (hx : Passes CX X E)
    (ha : Ea X g E (e :: es) mr) (hst : starEach (e :: es) X.env = (false, eval e X.env) :: starEach es X.env := by rfl) (hpl : (backTo pos (starEach es X.env)).any (·.1) = false := by rfl)
    (ht : eval (.Call (.Attribute o m apos) (e :: es) [] pos) X.env = (do
      let ov ← eval o X.env
      standAt apos.atName
      let (f, first) ← holding [ov] (getMethod ov m pl)
      callWith pos f first (backTo pos (starEach (e :: es) X.env)) (backToKw pos (keywordEach [] X.env))) := by rfl) :
    Ev X g E (.Call (.Attribute o m apos) (e :: es) [] pos) (mMeth (n := n) c dds ff mo mr) := by
  obtain ⟨t, po, ho⟩ := he
  obtain ⟨u, pa, ha⟩ := ha
  refine ⟨_, pe_meth po cl hm Fk hr hb hd hx pa hst hpl ht, fun env s ca F P H σ Q m' sl q => ?_⟩
  refine ho env s ca F P H σ _ m' sl (Post.imp (Post.seq q) fun z s1 ca1 F1 H1 k1 k2 m1 q1 v rv => ?_)
  cases z with
  | ins kk fs =>
    simp only at q1
    split at q1
    · rename_i hk
      subst hk
      have rv' := rv
      simp only [Rep] at rv
      obtain ⟨a, dx, xs, rfl, hF, hl, rs⟩ := rv
      refine ⟨a, dx, _, rfl, m1.sub _ _ hF, zip_lookup_none hnf, ?_⟩
      refine ha env s1 ca1 F1 P H1 σ _ m1 (sl.mono k1 k2) (Post.imp (Post.seq q1) fun ys s2 ca2 F2 H2 l1 l2 m2 q2 vs rs2 => ?_)
      split at q2
      · rename_i hl
        exact spG_of m2 (.cons (Rep.mono l1 l2 _ _ rv') (rs2.append (hdd _ _))) (by simp; omega) q2
      · exact q2.elim
    · exact q1.elim
  | _ => exact q1.elim
theorem ev_meth0 {c : Nat} {pl : Sem Bool} (he : Ev X g E o mo) (cl : Cls X.K (g.cls c)) (hm : Meth X.K (g.cls c) m fa) (hnf : m ∉ g.fn c) (Fk : FnOk X.prog X.w X.K X.mg X.base CX k fa fd ps (spG g n ff)) (hr : Room k X.A) (hb : Binds X.K fd ps ds) (hd : Vals dvs ds) (hdd : ∀ ca F, Reps g ca F dds dvs) (hx : Passes CX X E)
    (ht : eval (.Call (.Attribute o m apos) [] [] pos) X.env = (do
      let ov ← eval o X.env
      standAt apos.atName
      let (f, first) ← holding [ov] (getMethod ov m pl)
      callWith pos f first (backTo pos (starEach [] X.env)) (backToKw pos (keywordEach [] X.env))) := by rfl) :
    Ev X g E (.Call (.Attribute o m apos) [] [] pos) (mMeth (n := n) c dds ff mo aNil) := by
  obtain ⟨t, po, ho⟩ := he
  refine ⟨_, pe_meth0 po cl hm Fk hr hb hd hx ht, fun env s ca F P H σ Q m' sl q => ?_⟩
  refine ho env s ca F P H σ _ m' sl (Post.imp (Post.seq q) fun z s1 ca1 F1 H1 k1 k2 m1 q1 v rv => ?_)
  cases z with
  | ins kk fs =>
    simp only at q1
    split at q1
    · rename_i hk
      subst hk
      have rv' := rv
      simp only [Rep] at rv
      obtain ⟨a, dx, xs, rfl, hF, hl, rs⟩ := rv
      refine ⟨a, dx, _, rfl, m1.sub _ _ hF, zip_lookup_none hnf, ?_⟩
      simp only [aNil, Res.bind_ok] at q1
      split at q1
      · rename_i hl
        exact spG_of m1 (.cons rv' (hdd _ _)) (by simp at hl ⊢; omega) q1
      · exact q1.elim
    · exact q1.elim
  | _ => exact q1.elim
/-- o.f, a property of the class c -/
def mProp (c : Nat) (ff : List D → S → Res D) (mo : Env → S → Res D) : Env → S → Res D := fun env s => (mo env s).bind fun x s1 => match x with
  | .ins k fs => if k = c then noexn (ff [.ins k fs] s1) else .stuck
  | _ => .stuck
theorem ev_prop {c : Nat} {pp : Addr} {E' : XK} (he : Ev X g E o mo) (cl : Cls X.K (g.cls c)) (hp : PropOf X.K (g.cls c) f pp fa) (Fk : FnOk X.prog X.w X.K X.mg X.base CX k fa fd ps (spG g 1 ff)) (hr : Room (k + 1) X.A) (hb : Binds X.K fd ps []) (hx : Passes CX X.nox E')
    (hab : attributeBase o f X.env (eval o X.env) = eval o X.env := by rfl) : Ev X g E (.Attribute o f pos) (mProp c ff mo) := by
  obtain ⟨t, po, ho⟩ := he
  refine ⟨_, pe_prop (dvs := []) po cl hp Fk hr hb .nil hx hab, fun env s ca F P H σ Q m' sl q => ?_⟩
  refine ho env s ca F P H σ _ m' sl (Post.imp (Post.seq q) fun z s1 ca1 F1 H1 k1 k2 m1 q1 v rv => ?_)
  cases z with
  | ins kk fs =>
    simp only at q1
    split at q1
    · rename_i hk
      subst hk
      have rv' := rv
      simp only [Rep] at rv
      obtain ⟨a, dx, xs, rfl, hF, hl, rs⟩ := rv
      exact ⟨a, dx, _, rfl, m1.sub _ _ hF, spG_of m1 (.cons rv' .nil) rfl (post_noexn q1)⟩
    · exact q1.elim
  | _ => exact q1.elim
end
end Pm
set_option Elab.async false
set_option linter.all false
set_option maxRecDepth 100000
set_option maxHeartbeats 2000000
namespace Pm
open PySem PySem.Spec PyProof.Rows L2
section
variable {X : Cx} {g : G} {E : XK}

/-! ### making an instance -/
def cutOk : List Cell → Bool
  | [] => true
  | .lst ds :: cs => pureL ds && cutOk cs
  | .ins _ ds :: cs => pureL ds && cutOk cs
  | .dead :: cs => cutOk cs
theorem cutOk_mem : ∀ {l : List Cell}, cutOk l = true → ∀ c ∈ l, match c with | .lst ds => pureL ds = true | .ins _ ds => pureL ds = true | .dead => True
  | [], _, c, h => by cases h
  | x :: xs, h, c, hc => by
    rcases List.mem_cons.mp hc with rfl | hc
    · cases c with
      | lst ds => simp only [cutOk, Bool.and_eq_true] at h; exact h.1
      | ins k ds => simp only [cutOk, Bool.and_eq_true] at h; exact h.1
      | dead => trivial
    · refine cutOk_mem ?_ c hc
      cases x with
      | lst ds => simp only [cutOk, Bool.and_eq_true] at h; exact h.2
      | ins k ds => simp only [cutOk, Bool.and_eq_true] at h; exact h.2
      | dead => simpa only [cutOk] using h
theorem Sim.other {ca : List Addr} {F P H : Hp} {s : S} {p : Addr} {o : HO} (m : Sim g ca F P s H) (hp : H p = none) : Sim g ca F P s (upd H p o) where
  sub := m.sub.put (m.sub.free hp)
  fr := m.fr.put (m.fr.free hp)
  dis := m.dis
  len := m.len
  nd := m.nd
  out := m.out
  at_ := fun i a c e q => by
    by_cases hd : c = .dead
    · subst hd; trivial
    · exact (m.at_ i a c e q).mono List.prefix_rfl (Sub.refl _) (upd_ne (m.apart hp e ⟨c, q, hd⟩))
/-- a new cell, whatever it holds -/
theorem Sim.cellC {ca : List Addr} {F P H : Hp} {s : S} {p : Addr} {c0 : Cell} {o : HO} (m : Sim g ca F P s H) (hp : H p = none) (hc : CellOk g (ca ++ [p]) F (upd H p o) p c0) : Sim g (ca ++ [p]) F P (s ++ [c0]) (upd H p o) where
  sub := m.sub.put (m.sub.free hp)
  fr := m.fr.put (m.fr.free hp)
  dis := m.dis
  len := by simp [m.len]
  nd := fun i j a e1 e2 l1 l2 => by
    have hl := m.len
    have dec : ∀ k, (ca ++ [p])[k]? = some a → Live (s ++ [c0]) k → (k < ca.length ∧ ca[k]? = some a ∧ Live s k) ∨ (k = ca.length ∧ a = p) := fun k e l => by
      by_cases hk : k < ca.length
      · refine .inl ⟨hk, by rwa [List.getElem?_append_left hk] at e, ?_⟩
        obtain ⟨c, q, d⟩ := l
        exact ⟨c, by rwa [List.getElem?_append_left (by omega)] at q, d⟩
      · have hk2 : k < (ca ++ [p]).length := (List.getElem?_eq_some_iff.mp e).1
        have : k = ca.length := by simp at hk2; omega
        subst this
        simp at e
        exact .inr ⟨rfl, e.symm⟩
    rcases dec i e1 l1 with ⟨h1, q1, k1⟩ | ⟨h1, q1⟩ <;> rcases dec j e2 l2 with ⟨h2, q2, k2⟩ | ⟨h2, q2⟩
    · exact m.nd i j a q1 q2 k1 k2
    · exact absurd q2 (m.apart hp q1 k1)
    · exact absurd q1 (m.apart hp q2 k2)
    · omega
  out := fun i a e l => by
    by_cases hk : i < ca.length
    · obtain ⟨c, q, d⟩ := l
      rw [List.getElem?_append_left hk] at e
      exact m.out i a e ⟨c, by rwa [List.getElem?_append_left (by have := m.len; omega)] at q, d⟩
    · have hk2 : i < (ca ++ [p]).length := (List.getElem?_eq_some_iff.mp e).1
      have : i = ca.length := by simp at hk2; omega
      subst this
      simp at e
      subst e
      exact ⟨m.sub.free hp, m.fr.free hp⟩
  at_ := fun i a c e q => by
    have hl := m.len
    by_cases hk : i < ca.length
    · rw [List.getElem?_append_left hk] at e
      rw [List.getElem?_append_left (by omega)] at q
      by_cases hd : c = .dead
      · subst hd; trivial
      · exact (m.at_ i a c e q).mono (List.prefix_append _ _) (Sub.refl _) (upd_ne (m.apart hp e ⟨c, q, hd⟩))
    · have hk2 : i < (ca ++ [p]).length := (List.getElem?_eq_some_iff.mp e).1
      have : i = ca.length := by simp at hk2; omega
      subst this
      simp at e
      subst e
      rw [hl] at q
      simp at q
      subst q
      exact hc
def made (c nf k : Nat) (r : Res D) : Res D := r.bind fun d s2 => match d with
  | .non => (match s2[k]? with
    | some (.ins c' fs) => if (decide (c' = c ∧ fs.length = nf) && pureL fs && cutOk (s2.take k)) = true then .ok (.ins c fs) (s2.take k) else .stuck
    | _ => .stuck)
  | _ => .stuck
def mMake (c nf n : Nat) (dds : List D) (fi : List D → S → Res D) (mr : Env → S → Res (List D)) : Env → S → Res D := fun env s => (mr env s).bind fun xs s1 =>
  if xs.length + dds.length + 1 = n then made c nf s1.length (fi (.cell s1.length :: (xs ++ dds)) (s1 ++ [.ins c []])) else .stuck
theorem made_ok {c nf n : Nat} {fi : List D → S → Res D} {ca : List Addr} {F P H : Hp} {s : S} {xs : List D} {vs : List V} {Q : VK} {x dx : Addr} (hnf : nf = (g.fn c).length) (m : Sim g ca F P s H) (rs : Reps g ca F xs vs) (hl : xs.length + 1 = n)
    (hx : H x = none) (hdx : H dx = none) (hne : dx ≠ x) (q : Post g ca F P E (fun d _ ca' F' H' => ∀ v, Rep g ca' F' d v → Q v H') (made c nf s.length (fi (.cell s.length :: xs) (s ++ [.ins c []])))) :
    spG g n fi (.ref x :: vs) (upd (upd H dx (.own x)) x (.ins (g.cls c) dx [])) (fun v H2 => v = .non ∧ Q (.ref x) H2) E := by
  have m0 : Sim g ca F P s (upd H dx (.own x)) := m.other hdx
  have hx0 : (upd H dx (.own x)) x = none := by rw [upd_ne hne.symm]; exact hx
  have m1 : Sim g (ca ++ [x]) F P (s ++ [.ins c []]) (upd (upd H dx (.own x)) x (.ins (g.cls c) dx [])) := m0.cellC hx0 ⟨dx, [], by simp [upd_same], .nil⟩
  refine ⟨.cell s.length :: xs, ca ++ [x], F, P, s ++ [.ins c []], by simp [← rs.length, ← hl], m1, .cons ?_ (Reps.mono (List.prefix_append _ _) (Sub.refl _) _ _ rs), ?_⟩
  · simp only [Rep]
    exact ⟨x, rfl, by rw [← m.len]; simp⟩
  · refine Post.imp (Post.later (Post.seq0 q) (List.prefix_append _ _) (Sub.refl _)) fun d s2 ca2 F2 H2 k1 k2 m2 q2 v rv => ?_
    have hq : (ca ++ [x])[s.length]? = some x := by rw [← m.len]; simp
    have hc2 := prefix_get k1 hq
    cases d with
    | non =>
      dsimp only at q2
      split at q2
      · rename_i c' fs hs2
        split at q2
        · rename_i hcond
          simp only [Bool.and_eq_true, decide_eq_true_eq] at hcond
          obtain ⟨⟨⟨hc', hlen⟩, hp⟩, hcut⟩ := hcond
          subst hc'
          obtain ⟨dx2, ws, hH, hr⟩ := m2.at_ _ _ _ hc2 hs2
          rw [hlen, hnf, List.take_length] at hH
          obtain ⟨m3, hFx⟩ := m2.freeze hc2 hs2 (by intro z; cases z) hH
          have hpre : ca <+: ca2 := (List.prefix_append ca [x]).trans k1
          obtain ⟨t, rfl⟩ := hpre
          have htk : (s2.set s.length Cell.dead).take ca.length = s2.take s.length := by
            rw [m.len, List.take_set_of_le (Nat.le_refl _)]
          have m4 := m3.cut (by rw [htk]; exact cutOk_mem hcut)
          rw [htk] at m4
          refine ⟨rv, q2 ca _ H2 List.prefix_rfl (k2.trans (Sub.new hFx)) m4 _ ?_⟩
          simp only [Rep]
          exact ⟨x, dx2, ws, rfl, upd_same, by rw [hlen, hnf], Reps.bare _ _ hp (Reps.mono List.prefix_rfl (Sub.new hFx) _ _ hr)⟩
        · exact q2.elim
      · exact q2.elim
    | _ => exact q2.elim
variable {e o a b : Expr} {es : List Expr} {me mo ma mb : Env → S → Res D} {mr : Env → S → Res (List D)} {pos apos p : Pos} {x m : Str} {CX : CXT} {k : Nat} {fa C : Addr} {fd : FuncData} {ps : List Str} {ff fi : List D → S → Res D} {n nf c : Nat} {dvs : List V} {dds : List D} {ds : List Value}
theorem ev_make (M : Mk X.K (g.cls c) fa) (Fk : FnOk X.prog X.w X.K X.mg X.base CX k fa fd ps (spG g n fi)) (hnf : nf = (g.fn c).length) (hr : Room (k + 1) X.A) (hg : Gl X x) (hm : X.mg x = some (.ref (g.cls c))) (hb : Binds X.K fd ps ds) (hd : Vals dvs ds) (hdd : ∀ ca F, Reps g ca F dds dvs) (hx : Passes CX X E)
    (ha : Ea X g E (e :: es) mr) (hdb : (x == ("__debug__" : Str)) = false := by decide) (he : starEach (e :: es) X.env = (false, eval e X.env) :: starEach es X.env := by rfl) (hpl : (backTo pos (starEach es X.env)).any (·.1) = false := by rfl) :
    Ev X g E (.Call (.Name x p) (e :: es) [] pos) (mMake c nf n dds fi mr) := by
  obtain ⟨t, pa, ha⟩ := ha
  refine ⟨_, pe_make M Fk hr hg hm hb hd hx pa hdb he hpl, fun env s ca F P H σ Q m sl q => ?_⟩
  refine ha env s ca F P H σ _ m sl (Post.imp (Post.seq q) fun xs s1 ca1 F1 H1 k1 k2 m1 q1 vs rs => ?_)
  split at q1
  · rename_i hl
    intro x dx hx hdx hne
    exact made_ok hnf m1 (rs.append (hdd _ _)) (by simpa using hl) hx hdx hne q1
  · exact q1.elim

/-! ### statements -/
def sNext : Env → S → Res Fl := fun env s => .ok (.nx env) s
def sSeq (a b : Env → S → Res Fl) : Env → S → Res Fl := fun env s => (a env s).bind fun fl s1 => match fl with
  | .nx e => b e s1
  | fl => .ok fl s1
variable {st : Stmt} {rest : List Stmt} {ms mt : Env → S → Res Fl}
theorem svs_nil : Svs X g E [] sNext := ⟨_, pss_nil, fun env s ca F P H σ Dn m sl q => q.now m σ sl⟩
theorem svs_cons (h1 : Sv X g E st ms) (h2 : Svs X g E rest mt) : Svs X g E (st :: rest) (sSeq ms mt) := by
  obtain ⟨t, p1, h1⟩ := h1
  obtain ⟨u, p2, h2⟩ := h2
  refine ⟨_, pss_cons p1 p2, fun env s ca F P H σ Dn m sl q => ?_⟩
  refine h1 env s ca F P H σ _ m sl (Post.imp (Post.seq q) fun fl s1 ca1 F1 H1 k1 k2 m1 q1 => ?_)
  cases fl with
  | nx e => exact fun σ' sl' => h2 e s1 ca1 F1 P H1 σ' Dn m1 sl' q1
  | rt d => exact q1.now m1
  | bk e => exact q1.now m1
  | ct e => exact q1.now m1
theorem svs_one (h1 : Sv X g E st ms) : Svs X g E [st] ms := let ⟨t, p1, h1⟩ := h1; ⟨t, pss_one p1, h1⟩
theorem sv_pass : Sv X g E (.Pass pos) sNext := ⟨_, ps_pass, fun env s ca F P H σ Dn m sl q => q.now m σ sl⟩
def sBreak : Env → S → Res Fl := fun env s => .ok (.bk env) s
def sCont : Env → S → Res Fl := fun env s => .ok (.ct env) s
theorem sv_break : Sv X g E (.Break pos) sBreak := ⟨_, ps_break, fun env s ca F P H σ Dn m sl q => q.now m σ sl⟩
theorem sv_cont : Sv X g E (.Continue pos) sCont := ⟨_, ps_continue, fun env s ca F P H σ Dn m sl q => q.now m σ sl⟩
theorem sv_doc {x j pos pos'} : Sv X g E (.Expr (.Constant (.str x) j pos) pos') sNext := ⟨_, ps_doc, fun env s ca F P H σ Dn m sl q => q.now m σ sl⟩
def sStuck : Env → S → Res Fl := fun _ _ => .stuck
theorem sv_never : Sv X g E st sStuck := ⟨_, ps_never, fun env s ca F P H σ Dn m sl q => q.elim⟩
def sExpr (me : Env → S → Res D) : Env → S → Res Fl := fun env s => (me env s).bind fun _ s1 => .ok (.nx env) s1
theorem sv_expr (he : Ev X g E e me) (hs : swapsWith e none pos.line X.env = pure false := by rfl) : Sv X g E (.Expr e pos) (sExpr me) := by
  obtain ⟨t, p1, h1⟩ := he
  refine ⟨_, ps_expr p1 hs, fun env s ca F P H σ Dn m sl q => ?_⟩
  exact h1 env s ca F P H σ _ m sl (Post.imp (Post.seq q) fun d s1 ca1 F1 H1 k1 k2 m1 q1 v rv => q1.now m1 σ (sl.mono k1 k2))
def sRet (me : Env → S → Res D) : Env → S → Res Fl := fun env s => (me env s).bind fun d s1 => .ok (.rt d) s1
theorem sv_ret (he : Ev X g E e me) : Sv X g E (.Return (some e) pos) (sRet me) := by
  obtain ⟨t, p1, h1⟩ := he
  refine ⟨_, ps_ret p1, fun env s ca F P H σ Dn m sl q => ?_⟩
  exact h1 env s ca F P H σ _ m sl (Post.imp (Post.seq q) fun d s1 ca1 F1 H1 k1 k2 m1 q1 v rv => q1.now m1 v rv)
def sRetN : Env → S → Res Fl := fun env s => .ok (.rt .non) s
theorem sv_retN : Sv X g E (.Return none pos) sRetN := ⟨_, ps_retN, fun env s ca F P H σ Dn m sl q => q.now m .non (by simp only [Rep])⟩
def sIf (t : Env → S → Res Bool) (a b : Env → S → Res Fl) : Env → S → Res Fl := fun env s => (t env s).bind fun c s1 => if c = true then a env s1 else b env s1
variable {sa sb : List Stmt} {tc : Env → S → Res Bool}
theorem sv_if (hc : Et X g E e tc) (ha : Svs X g E sa ms) (hb : Svs X g E sb mt) : Sv X g E (.If e sa sb pos) (sIf tc ms mt) := by
  obtain ⟨t, p, h⟩ := hc
  obtain ⟨u, p1, h1⟩ := ha
  obtain ⟨w, p2, h2⟩ := hb
  refine ⟨_, ps_if p p1 p2, fun env s ca F P H σ Dn m sl q => ?_⟩
  refine h env s ca F P H σ _ m sl (Post.imp (Post.seq q) fun c s1 ca1 F1 H1 k1 k2 m1 q1 => ?_)
  cases c with
  | true => exact h1 env s1 ca1 F1 P H1 σ Dn m1 (sl.mono k1 k2) q1
  | false => exact h2 env s1 ca1 F1 P H1 σ Dn m1 (sl.mono k1 k2) q1

/-! ### targets -/
/-- names alone; w: the slots -/
def WipeEq (w : List Nat) (σ σ' : L2.St) : Prop := ∀ vs, (∀ i ∈ w, i ∈ vs) → wipe σ' vs = wipe σ vs
def Tn (X : Cx) (g : G) (tg : Expr) (w : List Nat) (m : D → Env → Option Env) : Prop :=
  ∃ t : TG, PG X tg t ∧ ∀ (d : D) (env env' : Env) (ca : List Addr) (F P H : Hp) (s : S) (σ : L2.St) (v : V) (Q : L2.St → Hp → Prop), Sim g ca F P s H → Slots g ca F env σ → Rep g ca F d v → m d env = some env' →
    (∀ σ', Slots g ca F env' σ' → WipeEq w σ σ' → Q σ' H) → t v σ H Q
def Tns (X : Cx) (g : G) (tgs : List Expr) (w : List Nat) (m : List D → Env → Option Env) : Prop :=
  ∃ t : TGs, PGs X tgs t ∧ ∀ (ds : List D) (env env' : Env) (ca : List Addr) (F P H : Hp) (s : S) (σ : L2.St) (vs : List V) (Q : L2.St → Hp → Prop), Sim g ca F P s H → Slots g ca F env σ → Reps g ca F ds vs → m ds env = some env' →
    (∀ σ', Slots g ca F env' σ' → WipeEq w σ σ' → Q σ' H) → t vs σ H Q
theorem wipe_get {σ : L2.St} {j : Nat} : ∀ {vs : List Nat}, (wipe σ vs)[j]? = if j ∈ vs then (if j < σ.length then some none else none) else σ[j]?
  | [] => by simp [wipe]
  | v :: vs => by
    unfold wipe
    by_cases h : v = j
    · subst h
      by_cases hl : v < σ.length
      · rw [List.getElem?_set_self (by rw [wipe_length]; exact hl)]
        simp [hl]
      · rw [List.getElem?_eq_none (by rw [List.length_set, wipe_length]; omega)]
        simp [hl]
    · rw [List.getElem?_set_ne h, wipe_get]
      have : (j ∈ v :: vs) = (j ∈ vs) := by simp [Ne.symm h]
      simp only [this]
theorem wipeEq_set {σ : L2.St} {i : Nat} {v : Option V} : WipeEq [i] σ (σ.set i v) := fun vs h => by
  refine List.ext_getElem? fun j => ?_
  rw [wipe_get, wipe_get, List.length_set]
  by_cases hj : j ∈ vs
  · simp [hj]
  · have : i ≠ j := fun e => hj (e ▸ h i (by simp))
    simp [hj, List.getElem?_set_ne this]
theorem WipeEq.trans {w1 w2 : List Nat} {σ σ1 σ2 : L2.St} (a : WipeEq w1 σ σ1) (b : WipeEq w2 σ1 σ2) : WipeEq (w1 ++ w2) σ σ2 := fun vs h =>
  (b vs fun i hi => h i (by simp [hi])).trans (a vs fun i hi => h i (by simp [hi]))
def tName (i : Nat) : D → Env → Option Env := fun d env => some (env.set i (some d))
theorem tn_name (i : Nat) {x : Str} (hN : X.N.Nodup) (hi : X.N[i]? = some x) (hx : Loc X.env.scope x) (hf : X.fn x = true ∨ X.env.scope.names.lookup x = some .local := by first | exact .inl rfl | exact .inr rfl | assumption) : Tn X g (.Name x pos) [i] (tName i) :=
  ⟨_, pg_name hN hi hx hf, fun d env env' ca F P H s σ v Q m sl r h q => by
    cases h
    exact q _ (sl.set r) wipeEq_set⟩
variable {tg : Expr} {tgs : List Expr} {w w' : List Nat} {mg : D → Env → Option Env} {mgs : List D → Env → Option Env}
def tNil : List D → Env → Option Env := fun ds env => match ds with
  | [] => some env
  | _ => none
def tCons (m : D → Env → Option Env) (ms : List D → Env → Option Env) : List D → Env → Option Env := fun ds env => match ds with
  | d :: ds => (m d env).bind (ms ds)
  | [] => none
theorem tns_nil : Tns X g [] [] tNil := ⟨_, pgs_nil, fun ds env env' ca F P H s σ vs Q m sl r h q => by
  unfold tNil at h
  split at h
  · cases h
    simp only [Reps] at r
    exact ⟨r, q σ sl fun _ _ => rfl⟩
  · cases h⟩
theorem tns_cons (h1 : Tn X g tg w mg) (h2 : Tns X g tgs w' mgs) (hs : (assignEach (tg :: tgs) X.env).map (·.2) = assign tg X.env :: (assignEach tgs X.env).map (·.2) := by rfl) : Tns X g (tg :: tgs) (w ++ w') (tCons mg mgs) := by
  obtain ⟨t, p1, h1⟩ := h1
  obtain ⟨u, p2, h2⟩ := h2
  refine ⟨_, pgs_cons p1 p2 hs, fun ds env env' ca F P H s σ vs Q m sl r h q => ?_⟩
  unfold tCons at h
  split at h
  · rename_i d ds
    rw [Option.bind_eq_some_iff] at h
    obtain ⟨env1, e1, e2⟩ := h
    simp only [Reps] at r
    obtain ⟨v, ws, rfl, r1, r2⟩ := r
    refine ⟨v, ws, rfl, ?_⟩
    refine h1 d env env1 ca F P H s σ v _ m sl r1 e1 fun σ1 sl1 w1 => ?_
    exact h2 ds env1 env' ca F P H s σ1 ws _ m sl1 r2 e2 fun σ2 sl2 w2 => q σ2 sl2 (w1.trans w2)
  · cases h
def tTup (n : Nat) (ms : List D → Env → Option Env) : D → Env → Option Env := fun d env => match d with
  | .tup ds => if ds.length = n then ms ds env else none
  | .rot ds => if ds.length = n then ms ds env else none
  | _ => none
theorem tn_tup {kk : Nat} (hK : g.K = X.K) (hc : X.calm = true) (h : Tns X g tgs w mgs) (hn : (assignEach tgs X.env).length = n := by rfl) (hst : (assignEach tgs X.env).findIdx? (·.1) = none := by rfl) : Tn X g (.Tuple tgs kk pos) w (tTup n mgs) := by
  obtain ⟨t, p, h⟩ := h
  refine ⟨_, pg_tup hc p hn hst, fun d env env' ca F P H s σ v Q m sl r hh q => ?_⟩
  unfold tTup at hh
  split at hh
  · split at hh
    · rename_i ds hl
      simp only [Rep] at r
      obtain ⟨a, xs, rfl, hF, rs⟩ := r
      exact ⟨a, xs, rfl, .of (m.sub _ _ hF), by rw [← rs.length]; exact hl, h ds env env' ca F P H s σ xs Q m sl rs hh q⟩
    · cases hh
  · split at hh
    · rename_i ds hl
      simp only [Rep] at r
      obtain ⟨a, xs, rfl, hF, rs⟩ := r
      exact ⟨a, xs, rfl, hK ▸ same_t m.sub hF, by rw [← rs.length]; exact hl, h ds env env' ca F P H s σ xs Q m sl rs hh q⟩
    · cases hh
  · cases hh

/-- any target of an assignment -/
def Ta (X : Cx) (g : G) (E : XK) (tg : Expr) (m : D → Env → S → Res Env) : Prop :=
  ∃ t : TG, PG X tg t ∧ ∀ (d : D) (env : Env) (ca : List Addr) (F P H : Hp) (s : S) (σ : L2.St) (v : V) (Q : L2.St → Hp → Prop), Sim g ca F P s H → Slots g ca F env σ → Rep g ca F d v →
    Post g ca F P E (fun env' _ ca' F' H' => ∀ σ', Slots g ca' F' env' σ' → Q σ' H') (m d env s) → t v σ H Q
def Tas (X : Cx) (g : G) (E : XK) (tgs : List Expr) (m : List D → Env → S → Res Env) : Prop :=
  ∃ t : TGs, PGs X tgs t ∧ ∀ (ds : List D) (env : Env) (ca : List Addr) (F P H : Hp) (s : S) (σ : L2.St) (vs : List V) (Q : L2.St → Hp → Prop), Sim g ca F P s H → Slots g ca F env σ → Reps g ca F ds vs →
    Post g ca F P E (fun env' _ ca' F' H' => ∀ σ', Slots g ca' F' env' σ' → Q σ' H') (m ds env s) → t vs σ H Q
def aN (m : D → Env → Option Env) : D → Env → S → Res Env := fun d env s => match m d env with
  | some e => .ok e s
  | none => .stuck
theorem ta_n (h : Tn X g tg w mg) : Ta X g E tg (aN mg) := by
  obtain ⟨t, p, h⟩ := h
  refine ⟨t, p, fun d env ca F P H s σ v Q m sl r q => ?_⟩
  unfold aN at q
  split at q
  · rename_i e he
    exact h d env e ca F P H s σ v Q m sl r he fun σ' sl' _ => q.now m σ' sl'
  · exact q.elim
variable {mta : D → Env → S → Res Env} {mtas : List D → Env → S → Res Env}
def taNil : List D → Env → S → Res Env := fun ds env s => match ds with
  | [] => .ok env s
  | _ => .stuck
def taCons (m : D → Env → S → Res Env) (ms : List D → Env → S → Res Env) : List D → Env → S → Res Env := fun ds env s => match ds with
  | d :: ds => (m d env s).bind fun e s1 => ms ds e s1
  | [] => .stuck
theorem tas_nil : Tas X g E [] taNil := ⟨_, pgs_nil, fun ds env ca F P H s σ vs Q m sl r q => by
  unfold taNil at q
  split at q
  · simp only [Reps] at r
    exact ⟨r, q.now m σ sl⟩
  · exact q.elim⟩
theorem tas_cons (h1 : Ta X g E tg mta) (h2 : Tas X g E tgs mtas) (hs : (assignEach (tg :: tgs) X.env).map (·.2) = assign tg X.env :: (assignEach tgs X.env).map (·.2) := by rfl) : Tas X g E (tg :: tgs) (taCons mta mtas) := by
  obtain ⟨t, p1, h1⟩ := h1
  obtain ⟨u, p2, h2⟩ := h2
  refine ⟨_, pgs_cons p1 p2 hs, fun ds env ca F P H s σ vs Q m sl r q => ?_⟩
  unfold taCons at q
  split at q
  · rename_i d ds
    simp only [Reps] at r
    obtain ⟨v, ws, rfl, r1, r2⟩ := r
    refine ⟨v, ws, rfl, ?_⟩
    refine h1 d env ca F P H s σ v _ m sl r1 (Post.imp (Post.seq q) fun e s1 ca1 F1 H1 k1 k2 m1 q1 σ1 sl1 => ?_)
    exact h2 ds e ca1 F1 P H1 s1 σ1 ws _ m1 sl1 (Reps.mono k1 k2 _ _ r2) q1
  · exact q.elim
def taTup (n : Nat) (ms : List D → Env → S → Res Env) : D → Env → S → Res Env := fun d env s => match d with
  | .tup ds => if ds.length = n then ms ds env s else .stuck
  | .rot ds => if ds.length = n then ms ds env s else .stuck
  | _ => .stuck
theorem ta_tup {kk : Nat} (hK : g.K = X.K) (hc : X.calm = true) (h : Tas X g E tgs mtas) (hn : (assignEach tgs X.env).length = n := by rfl) (hst : (assignEach tgs X.env).findIdx? (·.1) = none := by rfl) : Ta X g E (.Tuple tgs kk pos) (taTup n mtas) := by
  obtain ⟨t, p, h⟩ := h
  refine ⟨_, pg_tup hc p hn hst, fun d env ca F P H s σ v Q m sl r q => ?_⟩
  unfold taTup at q
  split at q
  · split at q
    · rename_i ds hl
      simp only [Rep] at r
      obtain ⟨a, xs, rfl, hF, rs⟩ := r
      exact ⟨a, xs, rfl, .of (m.sub _ _ hF), by rw [← rs.length]; exact hl, h ds env ca F P H s σ xs Q m sl rs q⟩
    · exact q.elim
  · split at q
    · rename_i ds hl
      simp only [Rep] at r
      obtain ⟨a, xs, rfl, hF, rs⟩ := r
      exact ⟨a, xs, rfl, hK ▸ same_t m.sub hF, by rw [← rs.length]; exact hl, h ds env ca F P H s σ xs Q m sl rs q⟩
    · exact q.elim
  · exact q.elim
/-- xs[i] = .. of a list that changes -/
def taSub (mo mi : Env → S → Res D) : D → Env → S → Res Env := fun d env s => (mo env s).bind fun o s1 => (mi env s1).bind fun i s2 => match o, i with
  | .cell k, .int j => match s2[k]? with
    | some (.lst ds) => match ixN ds.length j with
      | some z => .ok env (s2.set k (.lst (ds.set z d)))
      | none => .stuck
    | _ => .stuck
  | _, _ => .stuck
theorem ta_sub (ho : Ev X g E o mo) (hi : Ev X g E e me)
    (ha : ∀ v, assign (.Subscript o e pos) X.env v = (do
      let ov ← holding [v] (eval o X.env)
      let iv ← holding [v, ov] (eval e X.env)
      standAt pos
      holding [v, ov, iv] (setItem ov iv v)
      release [v, ov, iv] []) := by intro _; rfl) : Ta X g E (.Subscript o e pos) (taSub mo me) := by
  obtain ⟨t, p, h⟩ := ho
  obtain ⟨u, p', h'⟩ := hi
  refine ⟨_, pg_sub p p' set_list ha, fun d env ca F P H s σ v Q m sl r q => ?_⟩
  refine h env s ca F P H σ _ m sl (Post.imp (Post.seq q) fun od s1 ca1 F1 H1 k1 k2 m1 q1 ov rov => ?_)
  refine h' env s1 ca1 F1 P H1 σ _ m1 (sl.mono k1 k2) (Post.imp (Post.seq q1) fun jd s2 ca2 F2 H2 l1 l2 m2 q2 jv rjv => ?_)
  have rov := Rep.mono l1 l2 _ _ rov
  cases od with
  | cell kk =>
    cases jd with
    | int j =>
      dsimp only at q2
      split at q2
      · rename_i ds hk
        split at q2
        · rename_i z hz
          simp only [Rep] at rov rjv
          obtain ⟨a, rfl, ha⟩ := rov
          obtain ⟨xs, hH, rs⟩ := m2.cellL ha hk
          refine ⟨a, xs, j, z, rfl, rjv, hH, by rw [← rs.length]; exact hz, ?_⟩
          have rd := Rep.mono (k1.trans l1) (k2.trans l2) _ _ r
          exact q2 ca2 F2 _ List.prefix_rfl (Sub.refl _) (m2.store ha hk (by intro z; cases z) ⟨_, upd_same, Reps.set rd z rs⟩) σ ((sl.mono k1 k2).mono l1 l2)
        · exact q2.elim
      · exact q2.elim
    | _ => exact q2.elim
  | _ => exact q2.elim
def sAsg (me : Env → S → Res D) (mt : D → Env → S → Res Env) : Env → S → Res Fl := fun env s => (me env s).bind fun d s1 => (mt d env s1).bind fun e s2 => .ok (.nx e) s2
theorem sv_asg (he : Ev X g E e me) (ht : Ta X g E tg mta) (hs : swapsWithSole [tg] e pos.line X.env = pure false := by rfl) (hw : swappedStores [tg] e X.env = pure none := by rfl) (h1 : (assignEach [tg] X.env).map (·.2) = [assign tg X.env] := by rfl) : Sv X g E (.Assign [tg] e pos) (sAsg me mta) := by
  obtain ⟨t, p, h⟩ := he
  obtain ⟨u, p', h'⟩ := ht
  refine ⟨_, ps_asg p p' hs hw h1, fun env s ca F P H σ Dn m sl q => ?_⟩
  refine h env s ca F P H σ _ m sl (Post.imp (Post.seq q) fun d s1 ca1 F1 H1 k1 k2 m1 q1 v rv => ?_)
  exact h' d env ca1 F1 P H1 s1 σ v _ m1 (sl.mono k1 k2) rv (Post.imp (Post.seq q1) fun e s2 ca2 F2 H2 l1 l2 m2 q2 σ' sl' => q2.now m2 σ' sl')
def sSet (i : Nat) (me : Env → S → Res D) : Env → S → Res Fl := fun env s => (me env s).bind fun d s1 => .ok (.nx (env.set i (some d))) s1
theorem sv_set (i : Nat) {x : Str} {pos' : Pos} (hN : X.N.Nodup) (hi : X.N[i]? = some x) (hx : Loc X.env.scope x) (he : Ev X g E e me) (hs : swapsWith e (some (.Name x pos')) pos.line X.env = pure false := by rfl) (hf : X.fn x = true ∨ X.env.scope.names.lookup x = some .local := by first | exact .inl rfl | exact .inr rfl | assumption) :
    Sv X g E (.Assign [.Name x pos'] e pos) (sSet i me) := by
  obtain ⟨t, p, h⟩ := he
  refine ⟨_, ps_set hN hi hx p hs hf, fun env s ca F P H σ Dn m sl q => ?_⟩
  exact h env s ca F P H σ _ m sl (Post.imp (Post.seq q) fun d s1 ca1 F1 H1 k1 k2 m1 q1 v rv => q1.now m1 _ ((sl.mono k1 k2).set rv))
/-- a, b = x, y -/
def sPar (i j : Nat) (mr : Env → S → Res (List D)) : Env → S → Res Fl := fun env s => (mr env s).bind fun ds s1 => match ds with
  | [x, y] => .ok (.nx ((env.set i (some x)).set j (some y))) s1
  | _ => .stuck
theorem sv_par (i j : Nat) {x y : Str} {px py pt : Pos} {kt k2 pt2} (hc : X.calm = true) (hN : X.N.Nodup) (hi : X.N[i]? = some x) (hj : X.N[j]? = some y) (hij : i ≠ j)
    (hx : X.env.scope.names.lookup x = some .local) (hy : X.env.scope.names.lookup y = some .local) (ha : Ea X g E [a, b] mr)
    (hw : swappedStores [.Tuple [.Name x px, .Name y py] kt pt] (.Tuple [a, b] k2 pt2) X.env = pure (some [x, y]))
    (hs : swapsWithSole [.Tuple [.Name x px, .Name y py] kt pt] (.Tuple [a, b] k2 pt2) pos.line X.env = pure false := by rfl) :
    Sv X g E (.Assign [.Tuple [.Name x px, .Name y py] kt pt] (.Tuple [a, b] k2 pt2) pos) (sPar i j mr) := by
  obtain ⟨t, p, h⟩ := ha
  refine ⟨_, ps_par hc hN hi hj hij hx hy p hw hs, fun env s ca F P H σ Dn m sl q => ?_⟩
  refine h env s ca F P H σ _ m sl (Post.imp (Post.seq q) fun ds s1 ca1 F1 H1 k1 k2 m1 q1 vs rs => ?_)
  split at q1
  · obtain ⟨v, u, rfl, r1, r2⟩ := reps2 rs
    exact ⟨v, u, rfl, q1.now m1 _ (((sl.mono k1 k2).set r1).set r2)⟩
  · exact q1.elim
/-- self.f = value, the next field of an instance that is being made -/
def sFld (c i : Nat) (mo mv : Env → S → Res D) : Env → S → Res Fl := fun env s => (mv env s).bind fun y s1 => (mo env s1).bind fun x s2 => match x with
  | .cell k => match s2[k]? with
    | some (.ins c' fs) => if c' = c ∧ fs.length = i then .ok (.nx env) (s2.set k (.ins c (fs ++ [y]))) else .stuck
    | _ => .stuck
  | _ => .stuck
theorem putF_zip : ∀ {ns : List Str} {vs : List V} {f : Str} {y : V}, (ns ++ [f]).Nodup → ns.length = vs.length → putF f y (ns.zip vs) = (ns ++ [f]).zip (vs ++ [y])
  | [], [], f, y, _, _ => rfl
  | [], _ :: _, _, _, _, h => by simp at h
  | _ :: _, [], _, _, _, h => by simp at h
  | n :: ns, v :: vs, f, y, nd, h => by
    have hne : ¬ n = f := by
      rintro rfl
      exact (List.nodup_cons.mp nd).1 (by simp)
    show (if n = f then (n, y) :: ns.zip vs else (n, v) :: putF f y (ns.zip vs)) = _
    rw [if_neg hne, putF_zip (List.nodup_cons.mp nd).2 (by simpa using h)]
    rfl
theorem sv_fld {c i : Nat} {f : Str} {pos' : Pos} (ho : Ev X g E o mo) (hv : Ev X g E e me) (cl : Cls X.K (g.cls c)) (na : NoAttr X.K (g.cls c) f) (hf : (g.fn c)[i]? = some f) (hnd : (g.fn c).Nodup) (hlen : (g.fn c).length < 1000) (hs : swapsWith e (some (.Attribute o f pos')) pos.line X.env = pure false := by rfl) :
    Sv X g E (.Assign [.Attribute o f pos'] e pos) (sFld c i mo me) := by
  obtain ⟨t, p, h⟩ := ho
  obtain ⟨u, p', h'⟩ := hv
  refine ⟨_, ps_fld p p' hs, fun env s ca F P H σ Dn m sl q => ?_⟩
  refine h' env s ca F P H σ _ m sl (Post.imp (Post.seq q) fun yd s1 ca1 F1 H1 k1 k2 m1 q1 yv ry => ?_)
  refine h env s1 ca1 F1 P H1 σ _ m1 (sl.mono k1 k2) (Post.imp (Post.seq q1) fun xd s2 ca2 F2 H2 l1 l2 m2 q2 xv rx => ?_)
  split at q2
  · rename_i kk
    split at q2
    · rename_i c' fs hk
      split at q2
      · rename_i hc
        obtain ⟨rfl, hl⟩ := hc
        simp only [Rep] at rx
        obtain ⟨a, rfl, ha⟩ := rx
        obtain ⟨dx, xs, hH, rs⟩ := m2.at_ _ _ _ ha hk
        have hil : i < (g.fn c').length := (List.getElem?_eq_some_iff.mp hf).1
        have htk : (g.fn c').take (i + 1) = (g.fn c').take i ++ [f] := by
          rw [List.take_add_one, hf]; rfl
        have hlx : ((g.fn c').take i).length = xs.length := by rw [← rs.length, hl, List.length_take]; omega
        refine ⟨a, _, dx, _, rfl, hH, cl, na, ?_, ?_⟩
        · rw [List.length_zip, hl, hlx]; have := rs.length; omega
        · refine q2 ca2 F2 _ List.prefix_rfl (Sub.refl _) (m2.store ha hk (by intro z; cases z) ⟨dx, xs ++ [yv], ?_, rs.append (.one (Rep.mono l1 l2 _ _ ry))⟩) σ ((sl.mono k1 k2).mono l1 l2)
          rw [upd_same, hl, putF_zip (by rw [← htk]; exact hnd.sublist (List.take_sublist _ _)) hlx]
          simp [hl, htk]
      · exact q2.elim
    · exact q2.elim
  · exact q2.elim

/-! ### while -/
def whileL (t : Env → S → Res Bool) (b : Env → S → Res Fl) : Nat → Env → S → Res Fl
  | 0, _, _ => .stuck
  | n + 1, env, s => (t env s).bind fun c s1 => if c = true then (b env s1).bind (fun fl s2 => match fl with
      | .nx e => whileL t b n e s2
      | .ct e => whileL t b n e s2
      | .bk e => .ok (.nx e) s2
      | .rt d => .ok (.rt d) s2) else .ok (.nx env) s1
theorem sv_while (n : Nat) (hp : PassesOwn (model X.prog X.w) X.A X.env X.xe) (hc : Et X g E e tc) (hb : Svs X g E sa ms) : Sv X g E (.While e sa [] pos) (whileL tc ms n) := by
  obtain ⟨t, p, h⟩ := hc
  obtain ⟨u, p1, h1⟩ := hb
  refine ⟨_, ps_while hp p p1, fun env s ca F P H σ Dn m sl q => ?_⟩
  refine ⟨fun k σ H => ∃ env s ca F, Sim g ca F P s H ∧ Slots g ca F env σ ∧ Post g ca F P E (fun fl _ ca' F' H' => FlOk g ca' F' H' Dn fl) (whileL tc ms k env s), ⟨n, env, s, ca, F, m, sl, q⟩, ?_⟩
  rintro k σ H ⟨env, s, ca, F, m, sl, q⟩
  cases k with
  | zero => exact q.elim
  | succ k =>
    refine h env s ca F P H σ _ m sl (Post.imp (Post.seq q) fun c s1 ca1 F1 H1 k1 k2 m1 q1 => ?_)
    cases c with
    | false => exact q1.now m1 σ (sl.mono k1 k2)
    | true =>
      refine ⟨fun σ' H' => ∃ env s ca F, Sim g ca F P s H' ∧ Slots g ca F env σ' ∧ Post g ca F P E (fun fl _ ca' F' H' => FlOk g ca' F' H' Dn fl) (whileL tc ms k env s), fun σ' H' w => ⟨k, Nat.lt_succ_self k, w⟩, ?_⟩
      refine h1 env s1 ca1 F1 P H1 σ _ m1 (sl.mono k1 k2) (Post.imp (Post.seq q1) fun fl s2 ca2 F2 H2 l1 l2 m2 q2 => ?_)
      cases fl with
      | nx e => exact fun σ' sl' => ⟨e, s2, ca2, F2, m2, sl', q2⟩
      | ct e => exact fun σ' sl' => ⟨e, s2, ca2, F2, m2, sl', q2⟩
      | bk e => exact q2.now m2
      | rt d => exact q2.now m2

/-! ### what is walked -/
def Walks (g : G) (ca : List Addr) (F : Hp) (J : It) (ds : List D) : Prop :=
  ∀ (i : Nat) (ca' : List Addr) (F' P H' : Hp) (s : S), ca <+: ca' → Sub F F' → Sim g ca' F' P s H' →
    (∀ d, ds[i]? = some d → J.go i H' ∧ ∀ x H'', J.yld i H' x H'' → ∃ F'', Sub F' F'' ∧ Sim g ca' F'' P s H'' ∧ Rep g ca' F'' d x) ∧ (ds.length ≤ i → J.stop i H')
def Iv (X : Cx) (g : G) (E : XK) (tg iter : Expr) (m : Env → S → Res (List D)) : Prop :=
  ∃ wi : TI, PI X tg iter wi ∧ ∀ (env : Env) (s : S) (ca : List Addr) (F P H : Hp) (σ : L2.St) (R : It → Hp → Prop), Sim g ca F P s H → Slots g ca F env σ →
    Post g ca F P E (fun ds _ ca' F' H' => ∀ J, Walks g ca' F' J ds → R J H') (m env s) → wi σ H R
theorem walks_l {ca : List Addr} {F : Hp} {a : Addr} {xs : List V} {ds : List D} {K : PySem.W.Frag} (hK : g.K = K) (h : SqL g.K F a xs) (rs : Reps g ca F ds xs) : Walks g ca F (Itl K a) ds := fun i ca' F' P H' s hc hF m => by
  have hs : SqL K H' a xs := hK ▸ same_l (hF.trans m.sub) h
  refine ⟨fun d hd => ?_, fun hl => ⟨xs, hs, by rw [← rs.length]; exact hl⟩⟩
  obtain ⟨v, hv, rv⟩ := rs.get hd
  refine ⟨⟨xs, v, hs, hv⟩, fun x H'' hy => ?_⟩
  obtain ⟨rfl, hy⟩ := hy
  have : xs[i]? = some x := hy xs hs
  rw [hv] at this; cases this
  exact ⟨F', Sub.refl _, m, Rep.mono hc hF _ _ rv⟩
theorem walks_t {ca : List Addr} {F : Hp} {a : Addr} {xs : List V} {ds : List D} {K : PySem.W.Frag} (hK : g.K = K) (h : SqT g.K F a xs) (rs : Reps g ca F ds xs) : Walks g ca F (Itt K a) ds := fun i ca' F' P H' s hc hF m => by
  have hs : SqT K H' a xs := hK ▸ same_t (hF.trans m.sub) h
  refine ⟨fun d hd => ?_, fun hl => ⟨xs, hs, by rw [← rs.length]; exact hl⟩⟩
  obtain ⟨v, hv, rv⟩ := rs.get hd
  refine ⟨⟨xs, v, hs, hv⟩, fun x H'' hy => ?_⟩
  obtain ⟨rfl, hy⟩ := hy
  have : xs[i]? = some x := hy xs hs
  rw [hv] at this; cases this
  exact ⟨F', Sub.refl _, m, Rep.mono hc hF _ _ rv⟩
/-- a list, a tuple that stands still -/
def iSeq : D → S → Res (List D) := fun d s1 => match d with
  | .lst ds => .ok ds s1
  | .ro ds => .ok ds s1
  | _ => .stuck
def iLst (me : Env → S → Res D) : Env → S → Res (List D) := fun env s => (me env s).bind iSeq
theorem iv_l (hK : g.K = X.K) (h : Ev X g E e me) : Iv X g E tg e (iLst me) := by
  obtain ⟨t, p, h⟩ := h
  refine ⟨_, pi_list p, fun env s ca F P H σ R m sl q => ?_⟩
  refine h env s ca F P H σ _ m sl (Post.imp (Post.seq q) fun d s1 ca1 F1 H1 k1 k2 m1 q1 v rv => ?_)
  unfold iSeq at q1
  split at q1
  · simp only [Rep] at rv
    obtain ⟨a, xs, rfl, hF, rs⟩ := rv
    exact ⟨a, rfl, ⟨xs, .of (m1.sub _ _ hF)⟩, q1.now m1 _ (walks_l hK (.of hF) rs)⟩
  · simp only [Rep] at rv
    obtain ⟨a, xs, rfl, hF, rs⟩ := rv
    exact ⟨a, rfl, ⟨xs, hK ▸ same_l m1.sub hF⟩, q1.now m1 _ (walks_l hK hF rs)⟩
  · exact q1.elim
def iTupS : D → S → Res (List D) := fun d s1 => match d with
  | .tup ds => .ok ds s1
  | .rot ds => .ok ds s1
  | _ => .stuck
def iT (me : Env → S → Res D) : Env → S → Res (List D) := fun env s => (me env s).bind iTupS
theorem iv_t (hK : g.K = X.K) (h : Ev X g E e me) : Iv X g E tg e (iT me) := by
  obtain ⟨t, p, h⟩ := h
  refine ⟨_, pi_tup p, fun env s ca F P H σ R m sl q => ?_⟩
  refine h env s ca F P H σ _ m sl (Post.imp (Post.seq q) fun d s1 ca1 F1 H1 k1 k2 m1 q1 v rv => ?_)
  unfold iTupS at q1
  split at q1
  · simp only [Rep] at rv
    obtain ⟨a, xs, rfl, hF, rs⟩ := rv
    exact ⟨a, rfl, ⟨xs, .of (m1.sub _ _ hF)⟩, q1.now m1 _ (walks_t hK (.of hF) rs)⟩
  · simp only [Rep] at rv
    obtain ⟨a, xs, rfl, hF, rs⟩ := rv
    exact ⟨a, rfl, ⟨xs, hK ▸ same_t m1.sub hF⟩, q1.now m1 _ (walks_t hK hF rs)⟩
  · exact q1.elim
def rangeD (lo : Int) (n : Nat) : List D := (List.range n).map fun i => D.int (lo + (i : Nat))
theorem walks_r {ca : List Addr} {F : Hp} {lo : Int} {n : Nat} : Walks g ca F (Itr lo n) (rangeD lo n) := fun i ca' F' P H' s hc hF m => by
  refine ⟨fun d hd => ?_, fun hl => (show n ≤ i by simpa [rangeD] using hl)⟩
  have hi : i < n := by
    have := (List.getElem?_eq_some_iff.mp hd).1
    simpa [rangeD] using this
  refine ⟨hi, fun x H'' hy => ?_⟩
  obtain ⟨rfl, rfl⟩ := hy
  refine ⟨F', Sub.refl _, m, ?_⟩
  have : d = .int (lo + i) := by
    unfold rangeD at hd
    rw [List.getElem?_map, List.getElem?_range hi] at hd
    exact (Option.some.inj hd).symm
  subst this
  exact rep_int
def rLim : Int := 1000000
def iR1 (mr : Env → S → Res (List D)) : Env → S → Res (List D) := fun env s => (mr env s).bind fun ds s1 => match ds with
  | [.int j] => if decide (-rLim ≤ j ∧ j ≤ rLim) = true then .ok (rangeD 0 j.toNat) s1 else .stuck
  | _ => .stuck
def iR2 (mr : Env → S → Res (List D)) : Env → S → Res (List D) := fun env s => (mr env s).bind fun ds s1 => match ds with
  | [.int i, .int j] => if decide (-rLim ≤ i ∧ i ≤ rLim ∧ -rLim ≤ j ∧ j ≤ rLim) = true then .ok (rangeD i (j - i).toNat) s1 else .stuck
  | _ => .stuck
theorem iv_r1 {p : Pos} (hg : Gl X "range") (hm : X.mg "range" = none) (ha : Ea X g E [a] mr) (hs : starEach [a] X.env = [(false, eval a X.env)] := by rfl) : Iv X g E tg (.Call (.Name "range" p) [a] [] pos) (iR1 mr) := by
  obtain ⟨t, pa, ha⟩ := ha
  refine ⟨_, pi_range1 hg hm pa hs, fun env s ca F P H σ R m sl q => ?_⟩
  refine ha env s ca F P H σ _ m sl (Post.imp (Post.seq q) fun ds s1 ca1 F1 H1 k1 k2 m1 q1 vs rs => ?_)
  split at q1
  · split at q1
    · rename_i j hj
      have hj := of_decide_eq_true hj
      unfold rLim at hj
      obtain ⟨v, rfl, r⟩ := reps1 rs
      simp only [Rep] at r
      subst r
      exact ⟨j, rfl, by omega, by omega, q1.now m1 _ walks_r⟩
    · exact q1.elim
  · exact q1.elim
theorem iv_r2 {p : Pos} (hg : Gl X "range") (hm : X.mg "range" = none) (ha : Ea X g E [a, b] mr) (hs : starEach [a, b] X.env = [(false, eval a X.env), (false, eval b X.env)] := by rfl) (hs2 : starEach [b] X.env = [(false, eval b X.env)] := by rfl) :
    Iv X g E tg (.Call (.Name "range" p) [a, b] [] pos) (iR2 mr) := by
  obtain ⟨t, pa, ha⟩ := ha
  refine ⟨_, pi_range2 hg hm pa hs hs2, fun env s ca F P H σ R m sl q => ?_⟩
  refine ha env s ca F P H σ _ m sl (Post.imp (Post.seq q) fun ds s1 ca1 F1 H1 k1 k2 m1 q1 vs rs => ?_)
  split at q1
  · split at q1
    · rename_i i j hj
      have hj := of_decide_eq_true hj
      unfold rLim at hj
      obtain ⟨v, u, rfl, r, r'⟩ := reps2 rs
      simp only [Rep] at r r'
      subst r; subst r'
      exact ⟨i, j, rfl, ⟨by omega, by omega, by omega, by omega⟩, q1.now m1 _ walks_r⟩
    · exact q1.elim
  · exact q1.elim

/-! ### for -/
def forL (mt : D → Env → Option Env) (b : Env → S → Res Fl) : List D → Env → S → Res Fl
  | [], env, s => .ok (.nx env) s
  | d :: ds, env, s => match mt d env with
    | none => .stuck
    | some e1 => (b e1 s).bind fun fl s1 => match fl with
      | .nx e => forL mt b ds e s1
      | .ct e => forL mt b ds e s1
      | .bk e => .ok (.nx e) s1
      | .rt d => .ok (.rt d) s1
def sFor (mi : Env → S → Res (List D)) (mt : D → Env → Option Env) (b : Env → S → Res Fl) : Env → S → Res Fl := fun env s => (mi env s).bind fun ds s1 => forL mt b ds env s1
variable {mi : Env → S → Res (List D)}
theorem sv_for (hp : PassesOwn (model X.prog X.w) X.A X.env X.xe) (hc : X.calm = true) (hi : Iv X g E tg e mi) (hg : Tn X g tg w mg) (hb : Svs X g E sa ms) (hs : ∀ x, foldedSetIterable e X.env x = pure x := by intro _; rfl) : Sv X g E (.For tg e sa [] pos) (sFor mi mg ms) := by
  obtain ⟨wi, p, hi⟩ := hi
  obtain ⟨tt, p1, hg⟩ := hg
  obtain ⟨tb, p2, hb⟩ := hb
  refine ⟨_, ps_for hp hc p p1 p2 hs, fun env s ca F P H σ Dn m sl q => ?_⟩
  refine hi env s ca F P H σ _ m sl (Post.imp (Post.seq q) fun ds s1 ca1 F1 H1 k1 k2 m1 q1 J hw => ?_)
  refine ⟨fun i k σ H => k = ds.length - i ∧ i ≤ ds.length ∧ ∃ env s ca F, ca1 <+: ca ∧ Sub F1 F ∧ Sim g ca F P s H ∧ Slots g ca F env σ ∧ Post g ca F P E (fun fl _ ca' F' H' => FlOk g ca' F' H' Dn fl) (forL mg ms (ds.drop i) env s),
    ⟨_, rfl, Nat.zero_le _, env, s1, ca1, F1, List.prefix_rfl, Sub.refl _, m1, sl.mono k1 k2, by simpa using q1⟩, ?_⟩
  rintro i k σ H ⟨rfl, hle, env, s, ca, F, hc1, hF1, m, sl, q⟩
  obtain ⟨w1, w2⟩ := hw i ca F P H s hc1 hF1 m
  by_cases hlt : i < ds.length
  · obtain ⟨hgo, hy⟩ := w1 ds[i] (by simp [hlt])
    refine .inr ⟨hgo, fun σ' H' => ∃ env s ca F, ca1 <+: ca ∧ Sub F1 F ∧ Sim g ca F P s H' ∧ Slots g ca F env σ' ∧ Post g ca F P E (fun fl _ ca' F' H' => FlOk g ca' F' H' Dn fl) (forL mg ms (ds.drop (i + 1)) env s),
      fun σ' H' hN => ⟨ds.length - (i + 1), by omega, rfl, hlt, hN⟩, fun x H' hyl => ?_⟩
    obtain ⟨F', hF', m', rx⟩ := hy x H' hyl
    rw [List.drop_eq_getElem_cons hlt] at q
    simp only [forL] at q
    split at q
    · exact q.elim
    · rename_i e1 he1
      refine hg ds[i] env e1 ca F' P H' s σ x _ m' (sl.mono List.prefix_rfl hF') rx he1 fun σ2 sl2 _ => ?_
      refine hb e1 s ca F' P H' σ2 _ m' sl2 (Post.imp (Post.seq (Post.later q List.prefix_rfl hF')) fun fl s3 ca3 F3 H3 l1 l2 m3 q3 => ?_)
      have z1 := hc1.trans l1
      have z2 := hF1.trans (hF'.trans l2)
      cases fl with
      | nx e => exact fun σ3 sl3 => ⟨e, s3, ca3, F3, z1, z2, m3, sl3, q3⟩
      | ct e => exact fun σ3 sl3 => ⟨e, s3, ca3, F3, z1, z2, m3, sl3, q3⟩
      | bk e => exact q3.now m3
      | rt d => exact q3.now m3
  · have he : i = ds.length := by omega
    subst he
    rw [List.drop_length] at q
    exact .inl ⟨w2 (Nat.le_refl _), q.now m σ sl⟩
end
end Pm
set_option Elab.async false
set_option linter.all false
set_option maxRecDepth 100000
set_option maxHeartbeats 2000000
namespace Pm
open PySem PySem.Spec PyProof.Rows L2
/-! ### comprehensions -/
def tM (g : G) (E : XK) (m : Env → S → Res D) : TE := fun σ H Q => ∃ env s ca F P, Sim g ca F P s H ∧ Slots g ca F env σ ∧ Post g ca F P E (fun d _ ca' F' H' => ∀ v, Rep g ca' F' d v → Q v H') (m env s)
def tMT (g : G) (E : XK) (m : Env → S → Res Bool) : TT := fun σ H Q => ∃ env s ca F P, Sim g ca F P s H ∧ Slots g ca F env σ ∧ Post g ca F P E (fun b _ _ _ H' => Q b H') (m env s)
def tMG (g : G) (w : List Nat) (m : D → Env → Option Env) : TG := fun v σ H Q => ∃ d env env' ca F P s, Sim g ca F P s H ∧ Slots g ca F env σ ∧ Rep g ca F d v ∧ m d env = some env' ∧ ∀ σ', Slots g ca F env' σ' → WipeEq w σ σ' → Q σ' H
theorem Ev.pe {X : Cx} {g : G} {E : XK} {e : Expr} {m : Env → S → Res D} (h : Ev X g E e m) : PE X e (tM g E m) := by
  obtain ⟨t, p, h⟩ := h
  exact ⟨fun pins s σ H Q I ⟨env, z, ca, F, P, q1, q2, q3⟩ => p.run pins s σ H Q I (h env z ca F P H σ Q q1 q2 q3)⟩
theorem Et.pt {X : Cx} {g : G} {E : XK} {e : Expr} {m : Env → S → Res Bool} (h : Et X g E e m) : PT X e (tMT g E m) := by
  obtain ⟨t, p, h⟩ := h
  exact ⟨fun pins s σ H Q I ⟨env, z, ca, F, P, q1, q2, q3⟩ => p.run pins s σ H Q I (h env z ca F P H σ Q q1 q2 q3)⟩
theorem Tn.pg {X : Cx} {g : G} {tg : Expr} {w : List Nat} {m : D → Env → Option Env} (h : Tn X g tg w m) : PG X tg (tMG g w m) := by
  obtain ⟨t, p, h⟩ := h
  exact ⟨fun pins s σ H v u Q I r ⟨d, env, env', ca, F, P, z, q1, q2, q3, q4, q5⟩ => p.run pins s σ H v u Q I r (h d env env' ca F P H z σ v Q q1 q2 q3 q4 q5)⟩
/-- a clause's tests: none, or one -/
def Ets (X : Cx) (g : G) (E : XK) (ifs : List Expr) (m : Env → S → Res Bool) : Prop := PTs X ifs (tMT g E m)
def mYes : Env → S → Res Bool := fun _ s => .ok true s
theorem ets_nil {X : Cx} {g : G} {E : XK} : Ets X g E [] mYes := ⟨fun pins s σ H Q I ⟨env, z, ca, F, P, q1, q2, q3⟩ => pts_nil.run pins s σ H Q I (q3.now q1)⟩
theorem ets_one {X : Cx} {g : G} {E : XK} {e : Expr} {m : Env → S → Res Bool} (h : Et X g E e m) : Ets X g E [e] m := pts_one h.pt

def wipeE (env : Env) : List Nat → Env
  | [] => env
  | v :: vs => (wipeE env vs).set v none
theorem slots_wipe {g : G} {ca : List Addr} {F : Hp} {env : Env} {σ : L2.St} (h : Slots g ca F env σ) : ∀ vs, Slots g ca F (wipeE env vs) (wipe σ vs)
  | [] => h
  | v :: vs => by
    have ih := slots_wipe h vs
    unfold wipeE wipe
    refine ⟨by simp [ih.1], fun i d e => ?_⟩
    by_cases hv : v = i
    · subst hv
      by_cases hl : v < (wipeE env vs).length
      · rw [List.getElem?_set_self hl] at e; cases e
      · rw [List.getElem?_eq_none (by simpa using hl)] at e; cases e
    · rw [List.getElem?_set_ne hv] at e ⊢
      exact ih.2 i d e
def compL (own : List Nat) (mt : D → Env → Option Env) (tt : Env → S → Res Bool) (me : Env → S → Res D) : List D → Env → S → Res (List D)
  | [], _, s => .ok [] s
  | d :: ds, env, s => match mt d (wipeE env own) with
    | none => .stuck
    | some e1 => (noexn (tt e1 s)).bind fun b s1 => if b = true then (noexn (me e1 s1)).bind (fun y s2 => (compL own mt tt me ds env s2).bind fun ys s3 => .ok (y :: ys) s3) else compL own mt tt me ds env s1
def mCompF (fin : List D → S → Res D) (own : List Nat) (mi : Env → S → Res (List D)) (mt : D → Env → Option Env) (tt : Env → S → Res Bool) (me : Env → S → Res D) : Env → S → Res D := fun env s =>
  (mi env s).bind fun ds s1 => if ds.length ≤ line then (compL own mt tt me ds env s1).bind fin else .stuck
def finL : List D → S → Res D := fun ys s => .ok (.lst ys) s
def finC : List D → S → Res D := fun ys s => .ok (.cell s.length) (s ++ [.lst ys])
abbrev mComp := mCompF finL
abbrev mCompC := mCompF finC
section
variable {g : G} {ca : List Addr} {F P H : Hp} {s : S}
theorem Sim.frame0 {Dl : Addr} (m : Sim g ca F P s H) (hD : H Dl = none) : Sim g ca F (upd P Dl (.lst [])) s (upd H Dl (.lst [])) :=
  m.frame m.fr.both (fun a o e => by
      by_cases ha : a = Dl
      · subst ha; exact m.sub.free hD
      · rw [upd_ne ha] at e; exact m.dis a o e)
    (fun i a e l => by rw [upd_ne (m.apart hD e l)]; exact (m.out i a e l).2)
    (fun a h1 h2 => by
      by_cases ha : a = Dl
      · subst ha; exact .inr hD
      · exact .inl (upd_ne ha))
    (fun a o e => by rw [upd_ne (ne_of_none (m.sub _ _ e) hD)]; exact m.sub _ _ e)
theorem Sim.frame1 {Dl : Addr} {acc : List V} {o : HO} (hP : P Dl = none) (m : Sim g ca F (upd P Dl (.lst acc)) s H) : H Dl = some (.lst acc) ∧ Sim g ca F (upd P Dl o) s (upd H Dl o) := by
  have hF : F Dl = none := m.dis Dl _ upd_same
  have hPH : Sub P H := fun a u e => m.fr a u (by rw [upd_ne (ne_of_none e hP)]; exact e)
  refine ⟨m.fr _ _ upd_same, m.frame hPH.both (fun a u e => ?_) (fun i a e l => ?_) (fun a h1 h2 => ?_) (fun a u e => ?_)⟩
  · by_cases ha : a = Dl
    · subst ha; exact hF
    · rw [upd_ne ha] at e; exact m.dis a u (by rw [upd_ne ha]; exact e)
  · have h := (m.out i a e l).2
    by_cases ha : a = Dl
    · subst ha; rw [upd_same] at h; cases h
    · rw [upd_ne ha] at h ⊢; exact h
  · by_cases ha : a = Dl
    · subst ha; rw [upd_same] at h1; cases h1
    · exact .inl (upd_ne ha)
  · rw [upd_ne (ne_of_none e hF)]; exact m.sub _ _ e
theorem Sim.unframe {Dl : Addr} {acc : List V} (hP : P Dl = none) (m : Sim g ca F (upd P Dl (.lst acc)) s H) : Sim g ca (upd F Dl (.lst acc)) P s H ∧ F Dl = none := by
  have hF : F Dl = none := m.dis Dl _ upd_same
  have hH := m.fr _ _ (upd_same (H := P) (a := Dl) (o := .lst acc))
  refine ⟨⟨fun a u e => ?_, fun a u e => m.fr a u (by rw [upd_ne (ne_of_none e hP)]; exact e), fun a u e => ?_, m.len, m.nd, fun i a e l => ?_, fun i a c e q => ?_⟩, hF⟩
  · by_cases ha : a = Dl
    · subst ha; rw [upd_same] at e; cases e; exact hH
    · rw [upd_ne ha] at e; exact m.sub _ _ e
  · have ha : a ≠ Dl := ne_of_none e hP
    rw [upd_ne ha]; exact m.dis a u (by rw [upd_ne ha]; exact e)
  · have h := m.out i a e l
    have ha : a ≠ Dl := by
      rintro rfl
      rw [upd_same] at h; cases h.2
    rw [upd_ne ha] at h ⊢; exact h
  · exact (m.at_ i a c e q).mono List.prefix_rfl (Sub.new hF) rfl
theorem Post.seqX {α β : Type} {E E' : XK} {P' : Hp} {Q : β → S → List Addr → Hp → Hp → Prop} {r : Res α} {f : α → S → Res β} (h : Post g ca F P E Q ((noexn r).bind f)) :
    Post g ca F P' E' (fun a s ca1 F1 H1 => Post g ca1 F1 P E Q (f a s)) r := by
  cases r with
  | stuck => exact h
  | ok a s => exact fun ca' F' H' a1 a2 _ => Post.later h a1 a2
  | exn c pl s => exact h.elim
end
section
variable {X : Cx} {g : G} {E : XK} {elt tg iter : Expr} {ifs : List Expr} {scope : Scope} {own : List (Str × Nat)} {pos : Pos} {mi : Env → S → Res (List D)} {mt : D → Env → Option Env} {tt : Env → S → Res Bool} {me : Env → S → Res D} {w : List Nat}
theorem Sim.uncell {g : G} {ca : List Addr} {F P H : Hp} {s : S} {Dl : Addr} {acc : List V} {accD : List D} (hP : P Dl = none) (m : Sim g ca F (upd P Dl (.lst acc)) s H) (r : Reps g ca F accD acc) : Sim g (ca ++ [Dl]) F P (s ++ [.lst accD]) H := by
  have hF : F Dl = none := m.dis Dl _ upd_same
  have hH := m.fr _ _ (upd_same (H := P) (a := Dl) (o := .lst acc))
  have hl := m.len
  have dec : ∀ (k : Nat) (a : Addr), (ca ++ [Dl])[k]? = some a → Live (s ++ [.lst accD]) k → (k < ca.length ∧ ca[k]? = some a ∧ Live s k ∧ a ≠ Dl) ∨ (k = ca.length ∧ a = Dl) := fun k a e l => by
    by_cases hk : k < ca.length
    · obtain ⟨c, q, d⟩ := l
      rw [List.getElem?_append_left hk] at e
      have lv : Live s k := ⟨c, by rwa [List.getElem?_append_left (by omega)] at q, d⟩
      refine .inl ⟨hk, e, lv, ?_⟩
      rintro rfl
      have := (m.out k _ e lv).2
      rw [upd_same] at this; cases this
    · have hk2 : k < (ca ++ [Dl]).length := (List.getElem?_eq_some_iff.mp e).1
      have : k = ca.length := by simp at hk2; omega
      subst this
      simp at e
      exact .inr ⟨rfl, e.symm⟩
  refine ⟨m.sub, fun a u e => m.fr a u (by rw [upd_ne (ne_of_none e hP)]; exact e), fun a u e => m.dis a u (by rw [upd_ne (ne_of_none e hP)]; exact e), by simp [hl], fun i j a e1 e2 l1 l2 => ?_, fun i a e l => ?_, fun i a c e q => ?_⟩
  · rcases dec i a e1 l1 with ⟨h1, q1, k1, n1⟩ | ⟨h1, q1⟩ <;> rcases dec j a e2 l2 with ⟨h2, q2, k2, n2⟩ | ⟨h2, q2⟩
    · exact m.nd i j a q1 q2 k1 k2
    · exact absurd q2 n1
    · exact absurd q1 n2
    · omega
  · rcases dec i a e l with ⟨h1, q1, k1, n1⟩ | ⟨h1, q1⟩
    · have h := m.out i a q1 k1
      rw [upd_ne n1] at h
      exact h
    · subst q1
      exact ⟨hF, hP⟩
  · by_cases hd : c = .dead
    · subst hd; trivial
    · rcases dec i a e ⟨c, q, hd⟩ with ⟨h1, q1, k1, n1⟩ | ⟨h1, q1⟩
      · rw [List.getElem?_append_left (by omega)] at q
        exact (m.at_ i a c q1 q).mono (List.prefix_append _ _) (Sub.refl _) rfl
      · subst q1
        subst h1
        rw [hl] at q
        simp at q
        subst q
        exact ⟨acc, hH, Reps.mono (List.prefix_append _ _) (Sub.refl _) _ _ r⟩
def FinOk (g : G) (fin : List D → S → Res D) : Prop := ∀ (E : XK) (ca : List Addr) (F P H : Hp) (s : S) (Dl : Addr) (acc : List V) (accD : List D) (Q : VK), P Dl = none → Sim g ca F (upd P Dl (.lst acc)) s H → Reps g ca F accD acc →
  Post g ca F P E (fun d _ ca' F' H' => ∀ v, Rep g ca' F' d v → Q v H') (fin accD s) → Q (.ref Dl) H
theorem fin_l {g : G} : FinOk g finL := fun E ca F P H s Dl acc accD Q hP m ra q => by
  obtain ⟨m6, hF⟩ := m.unframe hP
  refine q ca _ H List.prefix_rfl (Sub.new hF) m6 _ ?_
  simp only [Rep]
  exact ⟨Dl, acc, rfl, upd_same, Reps.mono List.prefix_rfl (Sub.new hF) _ _ ra⟩
theorem fin_c {g : G} : FinOk g finC := fun E ca F P H s Dl acc accD Q hP m ra q => by
  refine q _ F H (List.prefix_append _ [Dl]) (Sub.refl _) (m.uncell hP ra) _ ?_
  simp only [Rep]
  exact ⟨Dl, rfl, by rw [← m.len]; simp⟩
theorem comp_run {fin : List D → S → Res D} (hfin : FinOk g fin) {wi : TI} (hi : ∀ (env : Env) (s : S) (ca : List Addr) (F P H : Hp) (σ : L2.St) (R : It → Hp → Prop), Sim g ca F P s H → Slots g ca F env σ →
      Post g ca F P E (fun ds _ ca' F' H' => ∀ J, Walks g ca' F' J ds → R J H') (mi env s) → wi σ H R) {vs : List Nat} (hw : ∀ i ∈ w, i ∈ vs)
    {env : Env} {s : S} {ca : List Addr} {F P H : Hp} {σ : L2.St} {Q : VK} (m : Sim g ca F P s H) (sl : Slots g ca F env σ) (q : Post g ca F P E (fun d _ ca' F' H' => ∀ v, Rep g ca' F' d v → Q v H') (mCompF fin vs mi mt tt me env s)) :
    tLc wi (tMG g w mt) (tMT g E0 tt) (tM g E0 me) vs σ H Q := by
  refine hi env s ca F P H σ _ m sl (Post.imp (Post.seq q) fun ds s1 ca1 F1 H1 k1 k2 m1 q1 J hwk => ?_)
  split at q1
  · rename_i hlen
    intro Dl hD
    have hP : P Dl = none := m1.fr.free hD
    refine ⟨fun i k H => k = ds.length - i ∧ i ≤ ds.length ∧ ∃ s ca F acc accD, ca1 <+: ca ∧ Sub F1 F ∧ Sim g ca F (upd P Dl (.lst acc)) s H ∧ Reps g ca F accD acc ∧ accD.length ≤ i ∧
        Post g ca F P E (fun d _ ca' F' H' => ∀ v, Rep g ca' F' d v → Q v H') ((compL vs mt tt me (ds.drop i) env s).bind fun ys s2 => fin (accD ++ ys) s2),
      ⟨_, rfl, Nat.zero_le _, s1, ca1, F1, [], [], List.prefix_rfl, Sub.refl _, m1.frame0 hD, .nil, Nat.le_refl _, by simpa using q1⟩, ?_⟩
    rintro i k H ⟨rfl, hle, s, ca, F, acc, accD, hc1, hF1, m, ra, hal, q⟩
    obtain ⟨w1, w2⟩ := hwk i ca F _ H s hc1 hF1 m
    by_cases hlt : i < ds.length
    · obtain ⟨hgo, hy⟩ := w1 ds[i] (by simp [hlt])
      refine .inr ⟨hgo, fun H' => ∃ s ca F acc accD, ca1 <+: ca ∧ Sub F1 F ∧ Sim g ca F (upd P Dl (.lst acc)) s H' ∧ Reps g ca F accD acc ∧ accD.length ≤ i + 1 ∧
          Post g ca F P E (fun d _ ca' F' H' => ∀ v, Rep g ca' F' d v → Q v H') ((compL vs mt tt me (ds.drop (i + 1)) env s).bind fun ys s2 => fin (accD ++ ys) s2),
        fun H' hN => ⟨ds.length - (i + 1), by omega, rfl, hlt, hN⟩, fun x H' hyl => ?_⟩
      obtain ⟨F', hF', m', rx⟩ := hy x H' hyl
      rw [List.drop_eq_getElem_cons hlt] at q
      simp only [compL] at q
      have slw : Slots g ca F' (wipeE env vs) (wipe σ vs) := slots_wipe ((sl.mono (k1.trans hc1) (k2.trans (hF1.trans hF')))) vs
      split at q
      · exact q.elim
      · rename_i e1 he1
        refine ⟨ds[i], wipeE env vs, e1, ca, F', _, s, m', slw, rx, he1, fun σ2 sl2 hweq => ⟨?_, ?_⟩⟩
        · have := hweq vs hw
          rw [this]
          exact List.ext_getElem? fun j => by rw [wipe_get, wipe_get, wipe_length]; by_cases hj : j ∈ vs <;> simp [hj, wipe_get]
        · refine ⟨e1, s, ca, F', _, m', sl2, ?_⟩
          have q := Post.later q (List.prefix_rfl) hF'
          have assoc : ∀ {α β γ : Type} (r : Res α) (f : α → S → Res β) (h : β → S → Res γ), (r.bind f).bind h = r.bind fun a s => (f a s).bind h := fun r f h => by cases r <;> rfl
          rw [assoc] at q
          refine Post.imp (Post.seqX q) fun b s3 ca3 F3 H3 l1 l2 m3 q3 => ?_
          cases b with
          | false =>
            have z1 := hc1.trans l1
            have z2 := hF1.trans (hF'.trans l2)
            exact ⟨s3, ca3, F3, acc, accD, z1, z2, m3, Reps.mono l1 (hF'.trans l2) _ _ ra, by omega, q3⟩
          | true =>
            refine ⟨e1, s3, ca3, F3, _, m3, sl2.mono l1 l2, ?_⟩
            simp only [if_true] at q3
            rw [assoc] at q3
            refine Post.imp (Post.seqX q3) fun y s4 ca4 F4 H4 n1 n2 m4 q4 v rv => ?_
            obtain ⟨hH, m5⟩ := m4.frame1 (o := .lst (acc ++ [v])) hP
            have ra' := Reps.mono (l1.trans n1) (hF'.trans (l2.trans n2)) _ _ ra
            refine ⟨acc, hH, ?_, s4, ca4, F4, acc ++ [v], accD ++ [y], hc1.trans (l1.trans n1), hF1.trans (hF'.trans (l2.trans n2)), m5, ra'.append (.one rv), by simp; omega, ?_⟩
            · rw [← ra.length]
              exact Nat.lt_of_le_of_lt hal (Nat.lt_of_lt_of_le hlt (line_le hlen))
            · rw [assoc] at q4
              simpa [List.append_assoc] using q4
    · have he : i = ds.length := by omega
      subst he
      rw [List.drop_length] at q
      simp only [compL, Res.bind_ok, List.append_nil] at q
      exact .inl ⟨w2 (Nat.le_refl _), hfin E ca F P H s Dl acc accD Q hP m ra q⟩
  · exact q1.elim
theorem ev_lcF {fin : List D → S → Res D} (hfin : FinOk g fin) (hc : X.calm = true) (hN : X.N.Nodup) (hi : Iv X g E tg iter mi) (ok : BlkOk X.N X.env.scope scope own) (hw : ∀ i ∈ w, i ∈ own.map (·.2))
    (hg : ∀ (s : Shared) (H : Hp) (C : Addr) (cl : List (Str × Addr)) (fp : List Addr), Tn (X.blk s H scope (compEnvC scope cl C X.env) fp) g tg w mt)
    (ht : ∀ (s : Shared) (H : Hp) (C : Addr) (cl : List (Str × Addr)) (fp : List Addr), Ets (X.blk s H scope (compEnvC scope cl C X.env) fp) g E0 ifs tt)
    (he : ∀ (s : Shared) (H : Hp) (C : Addr) (cl : List (Str × Addr)) (fp : List Addr), Ev (X.blk s H scope (compEnvC scope cl C X.env) fp) g E0 elt me) (hs : ∀ x, foldedSetIterable iter X.env x = pure x := by intro _; rfl) :
    Ev X g E (.ListComp elt [⟨tg, iter, ifs, 0⟩] scope pos) (mCompF fin (own.map (·.2)) mi mt tt me) := by
  obtain ⟨wi, p, hi⟩ := hi
  exact ⟨_, pe_lc hc hN p ok (fun s H C cl fp => (hg s H C cl fp).pg) (fun s H C cl fp => ht s H C cl fp) (fun s H C cl fp => (he s H C cl fp).pe) hs, fun env s ca F P H σ Q m sl q => comp_run hfin hi hw m sl q⟩
/-- name = [..] -/
theorem sv_setLcF {fin : List D → S → Res D} (hfin : FinOk g fin) (i : Nat) {y : Str} {py spos : Pos} (hc : X.calm = true) (hN : X.N.Nodup) (hy : X.N[i]? = some y) (hyl : X.env.scope.names.lookup y = some .local)
    (hsw : swapsWith (.ListComp elt [⟨tg, iter, ifs, 0⟩] scope pos) (some (.Name y py)) spos.line X.env = pure true) (hi : Iv X g E tg iter mi) (ok : BlkOk X.N X.env.scope scope own) (hw : ∀ i ∈ w, i ∈ own.map (·.2))
    (hg : ∀ (s : Shared) (H : Hp) (C : Addr) (cl : List (Str × Addr)) (fp : List Addr), Tn (X.blk s H scope (compEnvC scope cl C X.env) fp) g tg w mt)
    (ht : ∀ (s : Shared) (H : Hp) (C : Addr) (cl : List (Str × Addr)) (fp : List Addr), Ets (X.blk s H scope (compEnvC scope cl C X.env) fp) g E0 ifs tt)
    (he : ∀ (s : Shared) (H : Hp) (C : Addr) (cl : List (Str × Addr)) (fp : List Addr), Ev (X.blk s H scope (compEnvC scope cl C X.env) fp) g E0 elt me) (hs : ∀ x, foldedSetIterable iter X.env x = pure x := by intro _; rfl) :
    Sv X g E (.Assign [.Name y py] (.ListComp elt [⟨tg, iter, ifs, 0⟩] scope pos) spos) (sSet i (mCompF fin (own.map (·.2)) mi mt tt me)) := by
  obtain ⟨wi, p, hi⟩ := hi
  refine ⟨_, ps_setLc hc hN hy hyl hsw p ok (fun s H C cl fp => (hg s H C cl fp).pg) (fun s H C cl fp => ht s H C cl fp) (fun s H C cl fp => (he s H C cl fp).pe) hs, fun env s ca F P H σ Dn m sl q => ?_⟩
  exact comp_run hfin hi hw m sl (Post.imp (Post.seq q) fun d s1 ca1 F1 H1 k1 k2 m1 q1 v rv => q1.now m1 _ ((sl.mono k1 k2).set rv))
end

/-! ### a def -/
def runBody (n N : Nat) (body : Env → S → Res Fl) : List D → S → Res D := fun ds s => if ds.length = n then (body (ds.map some ++ List.replicate (N - n) none) s).bind (fun fl s1 => match fl with
  | .nx _ => .ok .non s1
  | .rt d => .ok d s1
  | _ => .stuck) else .stuck
theorem slots_start {g : G} {ca : List Addr} {F : Hp} {N : List Str} {ds : List D} {vs : List V} (r : Reps g ca F ds vs) : Slots g ca F (ds.map some ++ List.replicate (N.length - ds.length) none) (L2.start N vs) := by
  unfold L2.start
  refine ⟨by simp [r.length], fun i d e => ?_⟩
  by_cases hi : i < ds.length
  · rw [List.getElem?_append_left (by simpa using hi), List.getElem?_map] at e
    rw [List.getElem?_append_left (by simpa [← r.length] using hi), List.getElem?_map]
    cases hd : ds[i]? with
    | none => rw [hd] at e; cases e
    | some d' =>
      rw [hd] at e
      cases e
      obtain ⟨v, hv, rv⟩ := r.get hd
      exact ⟨v, by rw [hv]; rfl, rv⟩
  · rw [List.getElem?_append_right (by simpa using hi), List.getElem?_replicate] at e
    split at e <;> cases e
section
variable {Pr : Program} {w : World} {K : PySem.W.Frag} {mg : Str → Option Value} {base : Heap} {g : G}
theorem body_run {X : Cx} {sts : List Stmt} {body : Env → S → Res Fl} {N : List Str} {n : Nat} {E : XK} (hb : Svs X g E sts body) {vs : List V} {H : Hp} {Q : VK} (h : spG g n (runBody n N.length body) vs H Q E) :
    ∃ t, PSs X sts t ∧ t { nx := fun _ H' => Q .non H', rt := Q } (L2.start N vs) H := by
  obtain ⟨ds, ca, F, P, s, hl, m, rs, q⟩ := h
  obtain ⟨t, p, hb⟩ := hb
  refine ⟨t, p, ?_⟩
  unfold runBody at q
  split at q
  · rename_i hn
    subst hn
    refine hb _ s ca F P H _ _ m (slots_start rs) (Post.imp (Post.seq q) fun fl s1 ca1 F1 H1 k1 k2 m1 q1 => ?_)
    cases fl with
    | nx e => exact fun σ sl => q1.now m1 .non (by simp only [Rep])
    | rt d => exact fun v rv => q1.now m1 v rv
    | bk e => exact q1.elim
    | ct e => exact q1.elim
  · exact q.elim
theorem fn_def {x qual : Str} {st : Stmt} {f : Addr} {fd : FuncData} {N ps : List Str} {k n : Nat} {body : Env → S → Res Fl} (F : Fun K x qual st f fd) (Sc : FnScope N ps (defScope st)) (hn : n = ps.length)
    (hb : ∀ (cdv : Value) (A : Around) (outer : List PySem.Env) (s : Shared) (H : Hp) (E : XK), Room k (A.deeper (envOfC qual (defScope st) s.heap.objs.size f cdv)) →
      Svs (cxOf (L2.CX Pr w) Pr w K mg base N qual (defScope st) f cdv A outer s H E) g E (defBody st) body) : FnOk Pr w K mg base (L2.CX Pr w) (k + 1) f fd ps (spG g n (runBody n N.length body)) :=
  F.okX Sc (fun vs H Q E ⟨ds, ca, F, P, s, hl, _⟩ => by rw [hl, hn]) fun cdv A outer s H vs Q E hr h => body_run (hb cdv A outer s H E hr) h
/-- .. with defaults -/
theorem fn_defD {x qual : Str} {params : Arguments} {sts : List Stmt} {scope : Scope} {dvs : List V} {kws : List (Str × V)} {f : Addr} {fd : FuncData} {N ps : List Str} {k n : Nat} {body : Env → S → Res Fl} (F : FunD K x qual params sts scope dvs kws f fd) (Sc : FnScope N ps scope) (hn : n = ps.length)
    (hb : ∀ (cdv : Value) (A : Around) (outer : List PySem.Env) (s : Shared) (H : Hp) (E : XK), Room k (A.deeper (envOfC qual scope s.heap.objs.size f cdv)) →
      Svs (cxOf (L2.CX Pr w) Pr w K mg base N qual scope f cdv A outer s H E) g E sts body) : FnOk Pr w K mg base (L2.CX Pr w) (k + 1) f fd ps (spG g n (runBody n N.length body)) :=
  F.ok Sc (fun vs H Q E ⟨ds, ca, F, P, s, hl, _⟩ => by rw [hl, hn]) fun cdv A outer s H vs Q E hr h => body_run (hb cdv A outer s H E hr) h
/-- in a def's body: what a callee raises is raised -/
theorem passB {N : List Str} {qual : Str} {scope : Scope} {f : Addr} {cdv : Value} {A : Around} {outer : List PySem.Env} {s : Shared} {H : Hp} {E : XK} : Passes (L2.CX Pr w) (cxOf (L2.CX Pr w) Pr w K mg base N qual scope f cdv A outer s H E) E :=
  passes_call (takes_of rfl rfl rfl rfl) fun _ _ _ _ h => h
end
end Pm
set_option Elab.async false
set_option linter.all false
set_option maxRecDepth 100000
set_option maxHeartbeats 2000000
namespace Pm
open PySem PySem.Spec PyProof.Rows L2
/-! ### operators of an own class -/
abbrev iObj (C dx : Addr) : Obj := { cls := .ref C, dict := some dx, data := .plain }
def Declines (id : String) (C : Addr) : Prop := ∀ (a : Int) (t : Tok) (x dx : Addr) (M : Program) (w : World) (A : Around) (Q : Value → Shared → Prop) (E : Value → Shared → Prop) (s : Shared),
  s.heap.get? x = some (iObj C dx) → Q .notImplemented s → wpAny (model M w) A (call (.builtin id) [.int a t, .ref x]) Q E s
section
variable {C : Addr}
theorem dec_add : Declines "int.__add__" C := fun a t x dx M w A Q E s hx q => by
  have h : Meets (Builtin.«int.__add__» ⟨[.int a t, .ref x], []⟩) (fun _ R s => s.heap.get? x = some (iObj C dx) ∧ R (.ok (.ret .notImplemented)) s) :=
    .of_wp fun prog w A R s h => by obtain ⟨hp, g, d, tk, os⟩ := s; obtain ⟨hl, h⟩ := h; wp_walk using wpAny_loadPart' hl; exact ⟨_, rfl, h⟩
  exact call_meets F.slot_int_add (typeIs_int s a t) F.entry_int_add (F.args_int_add_2 _ _) h ⟨hx, q⟩
theorem dec_sub : Declines "int.__sub__" C := fun a t x dx M w A Q E s hx q => by
  have h : Meets (Builtin.«int.__sub__» ⟨[.int a t, .ref x], []⟩) (fun _ R s => s.heap.get? x = some (iObj C dx) ∧ R (.ok (.ret .notImplemented)) s) :=
    .of_wp fun prog w A R s h => by obtain ⟨hp, g, d, tk, os⟩ := s; obtain ⟨hl, h⟩ := h; wp_walk using wpAny_loadPart' hl; exact ⟨_, rfl, h⟩
  exact call_meets F.slot_int_sub (typeIs_int s a t) F.entry_int_sub (F.args_int_sub_2 _ _) h ⟨hx, q⟩
theorem dec_mul : Declines "int.__mul__" C := fun a t x dx M w A Q E s hx q => by
  have h : Meets (Builtin.«int.__mul__» ⟨[.int a t, .ref x], []⟩) (fun _ R s => s.heap.get? x = some (iObj C dx) ∧ R (.ok (.ret .notImplemented)) s) :=
    .of_wp fun prog w A R s h => by obtain ⟨hp, g, d, tk, os⟩ := s; obtain ⟨hl, h⟩ := h; wp_walk using wpAny_loadPart' hl; exact ⟨_, rfl, h⟩
  exact call_meets F.slot_int_mul (typeIs_int s a t) F.entry_int_mul (F.args_int_mul_2 _ _) h ⟨hx, q⟩
theorem dec_eq : Declines "int.__eq__" C := fun a t x dx M w A Q E s hx q => by
  have h : Meets (Builtin.«int.__eq__» ⟨[.int a t, .ref x], []⟩) (fun _ R s => s.heap.get? x = some (iObj C dx) ∧ R (.ok (.ret .notImplemented)) s) :=
    .of_wp fun prog w A R s h => by obtain ⟨hp, g, d, tk, os⟩ := s; obtain ⟨hl, h⟩ := h; wp_walk using wpAny_loadPart' hl; exact ⟨_, rfl, h⟩
  exact call_meets F.slot_int_eq (typeIs_int s a t) F.entry_int_eq (F.args_int_eq_2 _ _) h ⟨hx, q⟩
end
/-- what an own class must have for the operator -/
structure OpF (K : PySem.W.Frag) (C : Addr) (op : Operator) (f r : Addr) (id : String) : Prop where
  hc : PySem.W.selfFirst K C = true
  hs : PySem.W.findIn K (.ref C) (PySem.dunder op.info.2) = some (some (.ref f))
  hf : PySem.W.isFn K (.ref f) = true
  hr : PySem.W.findIn K (.ref C) (dunderR op.info.2) = some (some (.ref r))
  hrf : PySem.W.isFn K (.ref r) = true
  h1 : ∃ fo, PySem.W.findIn K (.type "int") (PySem.dunder op.info.2) = some fo
  h2 : ∃ ro, PySem.W.findIn K (.type "int") (dunderR op.info.2) = some ro
  s1 : PySem.W.subIn K (.type "int") (.ref C) = some false
  s2 : PySem.W.subIn K (.ref C) (.type "int") = some false
  sl : Slot "int" (PySem.dunder op.info.2) id
  fi : fillsNumberSlot (.type "int") op.info.2 = pure true
  de : Declines id C
section
open PySem.W
variable {prog : Program} {w : World} {A : Around} {E : Value → Shared → Prop} {s : Shared} {K : Frag} {x C L f r dx : Addr} {h₀ : Heap} {m : Str → Option Value} {ox : Obj} {od : Option Obj} {id : String}
theorem refl_own {op : Operator} {i : Int} {t : Tok} {Q : Value → Shared → Prop} (F : Fr h₀ L s.heap m) (X₀ : K.In h₀) (I : InstAt s.heap x ox C od) (hx : s.heap.get? x = some (iObj C dx)) (o : OpF K C op f r id)
    (h : wpAny (model prog w) A (call (.ref r) [.ref x, .int i t]) (PySem.W.CmpBack Q) E s) : wpAny (model prog w) A (binaryOp op (.int i t) (.ref x)) Q E s := by
  have X := X₀.keeps F.keep
  obtain ⟨cd, rest, hcd, hm⟩ := ksp_first o.hc
  obtain ⟨hc, hs, hf, hr, hrf, _, _, s1, s2, sl, fi, de⟩ := o
  rcases hi : op.info with ⟨sym, nm'⟩
  rw [hi] at hs hr sl fi
  dsimp only at hs hr sl fi
  have one := ksp_try X I hr hrf h
  have L1 : Looks (model prog w) s.heap (typeOf (.ref x)) (.ref C) := I.type
  have L3 : Looks (model prog w) s.heap (fillsNumberSlot (.ref C) nm') true := fills_K X hcd hm hs
  have L5 : Looks (model prog w) s.heap (isSubtype (.ref C) (.type "int")) false := looks_subIn X s2
  have hne : (Value.type "int" == Value.ref C) = false := Bool.eq_false_iff.mpr fun q => by cases beq_iff_eq.mp q
  simp only [binaryOp, hi]
  refine wpAny_holding (wpAny_bind ?_)
  unfold binaryOp1
  refine wpAny_bind (wpAny_typeOf (typeIs_int s i t) (wpAny_bind (L1.here (wpAny_bind (wpAny_of_eq fi ?_)))))
  simp only [hne, Bool.false_eq_true, if_false]
  refine wpAny_bind (L3.here ?_)
  simp only [Bool.and_self, if_true]
  refine wpAny_bind (L5.here ?_)
  have hpy : numberSlotInPython (.type "int") nm' = pure false := rfl
  simp only [Bool.false_eq_true, if_false, pure_bind, Bool.not_false, Bool.and_self, if_true, hpy]
  refine wpAny_bind (m := tryMethod (.int i t) _ _) ?_
  unfold tryMethod
  refine wpAny_bind (wpAny_callSpecial?_slot (typeIs_int s i t) sl (de i t x dx prog w A _ E s hx ?_))
  refine wpAny_pure ?_
  refine wpAny_bind (m := tryMethod (.ref x) _ _) (wpAny_mono one (fun v s' hv => ?_) fun _ _ e => e)
  obtain ⟨v, rfl, hq⟩ := hv
  exact wpAny_bind (wpAny_rule (wpAny_pure (wpAny_pure hq)))
theorem ifb_int {i : Int} {t : Tok} {x : Addr} {M : Model} {name : Str} {id : String} {Q : Option Value → Shared → Prop} (sl : Slot "int" name id) (h : wpAny M A (call (.builtin id) [.int i t, .ref x]) (fun v => Q (some v)) E s) :
    wpAny M A (callSpecialIfBound? (.int i t) name [.ref x]) Q E s := by
  simp only [callSpecialIfBound?, bindSpecialIfBound?]
  refine wpAny_holding (wpAny_bind (wpAny_bind (wpAny_specialOf (typeIs_int s i t) sl.lookup ?_)))
  refine wpAny_bind (wpAny_askSetting (wpAny_ite ?_))
  have fin : wpAny M A (call (.builtin id) ([.int i t] ++ [.ref x]) >>= fun v => pure (some v)) Q E s := wpAny_bind (wpAny_mono h (fun v s' h' => wpAny_pure h') fun _ _ h' => h')
  split
  · exact wpAny_bind (wpAny_of_eq (sl.bind _) (wpAny_pure (by exact fin)))
  · exact wpAny_tryCatch (wpAny_bind (wpAny_of_eq (sl.bind _) (wpAny_pure (by exact fin))))
/-- n == x, x of an own class with its own == -/
theorem eq_refl_own {i : Int} {t : Tok} {Q : Value → Shared → Prop} (hu : A.units < cLine) (F : Fr h₀ L s.heap m) (X₀ : K.In h₀) (I : InstAt s.heap x ox C od) (hx : s.heap.get? x = some (iObj C dx)) (s2 : subIn K (.ref C) (.type "int") = some false)
    (hs : findIn K (.ref C) "__eq__" = some (some (.ref f))) (hf : isFn K (.ref f) = true) (h : wpAny (model prog w) A (call (.ref f) [.ref x, .int i t]) (PySem.W.CmpBack Q) E s) : wpAny (model prog w) A (compareOp .Eq (.int i t) (.ref x)) Q E s := by
  have X := X₀.keeps F.keep
  refine cmp_ofEq ?_
  have one : wpAny (model prog w) A (tryCompare (.ref x) "__eq__" (.int i t)) (fun r s' => ∃ v, r = some v ∧ Q v s') E s := by
    unfold tryCompare
    refine wpAny_bind (ifBound_K X I hs hf (wpAny_mono h (fun v s' hv => ?_) fun _ _ e => e))
    cases v <;> first | exact hv.elim | exact wpAny_pure ⟨_, rfl, hv⟩
  have none_ : wpAny (model prog w) A (tryCompare (.int i t) "__eq__" (.ref x)) (fun r s' => r = none ∧ s' = s) E s := by
    unfold tryCompare
    refine wpAny_bind (ifb_int PySem.F.slot_int_eq (dec_eq i t x dx prog w A _ E s hx ?_))
    exact wpAny_pure ⟨rfl, rfl⟩
  unfold richCompare
  refine wpAny_holding (wpAny_bind (wpAny_cRoomFor hu ?_))
  show wpAny _ _ (typeOf (.int i t) >>= _) _ _ _
  refine wpAny_bind (wpAny_typeOf (typeIs_int s i t) (wpAny_bind (I.type.here ?_)))
  have hne : (Value.type "int" != Value.ref C) = true := by simp
  simp only [hne, if_true]
  refine wpAny_bind ((looks_subIn X s2).here ?_)
  simp only [Bool.false_eq_true, if_false]
  refine wpAny_bind (wpAny_mono none_ (fun r s' hr => ?_) fun _ _ e => e)
  obtain ⟨rfl, rfl⟩ := hr
  simp only [Bool.not_false, if_true]
  refine wpAny_bind (wpAny_mono one (fun r s' z => ?_) fun _ _ e => e)
  obtain ⟨v, rfl, hq⟩ := z
  exact wpAny_pure hq
end
section
variable {X : Cx} {g : G} {E : XK} {CX : CXT} {c k kr : Nat} {f r : Addr} {fd fdr : FuncData} {ps psr : List Str} {ff fr : List D → S → Res D} {op : Operator} {id : String}
theorem back_of {pins : List (Addr × Obj)} {σ : L2.St} {Q : VK} {u : Value} {s' : Shared} (h : EP X pins σ Q u s') : PySem.W.CmpBack (EP X pins σ Q) u s' := by
  cases u with
  | notImplemented =>
    obtain ⟨v, H', I, rv, q⟩ := h
    cases v <;> first | (cases rv; done) | (obtain ⟨t, rv⟩ := rv; cases rv)
  | _ => exact h
def opOwn (c : Nat) (ff fr : List D → S → Res D) : D → D → S → Res D := fun x y s => match x, y with
  | .ins k fs, .ins k' fs' => if k = c ∧ k' = c then ff [.ins k fs, .ins k' fs'] s else .stuck
  | .ins k fs, .int i => if k = c then ff [.ins k fs, .int i] s else .stuck
  | .int i, .ins k fs => if k = c then fr [.ins k fs, .int i] s else .stuck
  | _, _ => .stuck
def rOwn (g : G) (E : XK) (c : Nat) (ff fr : List D → S → Res D) : R2 := fun v u H Q =>
  (∃ a dx fs, v = .ref a ∧ H a = some (.ins (g.cls c) dx fs) ∧ ((∃ b dy gs, u = .ref b ∧ H b = some (.ins (g.cls c) dy gs)) ∨ ∃ i, u = .int i) ∧ spG g 2 ff [v, u] H Q E) ∨
  (∃ i a dx fs, v = .int i ∧ u = .ref a ∧ H a = some (.ins (g.cls c) dx fs) ∧ spG g 2 fr [u, v] H Q E)
theorem ins_at {pins : List (Addr × Obj)} {σ : L2.St} {H : Hp} {s : Shared} {a C dx : Addr} {fs : List (Str × V)} (I : Inv X pins σ H s) (ea : H a = some (.ins C dx fs)) : ∃ od, PySem.W.InstAt s.heap a (PySem.W.instObj C dx) C (some od) ∧ s.heap.get? a = some (iObj C dx) := by
  obtain ⟨mA, O, _⟩ := ins_get I.hok ea
  obtain ⟨od, J, _⟩ := O.look
  obtain ⟨_, _, _, e, _⟩ := (show ObjOk X.prog X.w H s.heap a (.ins C dx fs) from I.hok a _ ea)
  exact ⟨od, J, e⟩
theorem own_run (Fk : FnOk X.prog X.w X.K X.mg X.base CX k f fd ps (spG g 2 ff)) (hr : Room k X.A) (hb : Binds X.K fd ps []) (hx : Passes CX X E) {pins : List (Addr × Obj)} {σ : L2.St} {H : Hp} {s : Shared} {Q : VK} {x y : V} {v u : Value}
    (I : Inv X pins σ H s) (rx : RelV x v) (ry : RelV y u) (h : spG g 2 ff [x, y] H Q E) : wpAny (model X.prog X.w) X.A (call (.ref f) [v, u]) (PySem.W.CmpBack (EP X pins σ Q)) X.xe s :=
  wpAny_mono (run_fn (us := [v, u]) (vs := [x, y]) (dvs := []) (ds := []) Fk hr hb .nil hx I (.cons rx (.cons ry .nil)) (by simpa using h)) (fun u s' q => back_of q) fun _ _ z => z
theorem opr_own (o : OpF X.K (g.cls c) op f r id) (Fk : FnOk X.prog X.w X.K X.mg X.base CX k f fd ps (spG g 2 ff)) (Fr' : FnOk X.prog X.w X.K X.mg X.base CX kr r fdr psr (spG g 2 fr)) (hr : Room k X.A) (hrr : Room kr X.A) (hb : Binds X.K fd ps []) (hbr : Binds X.K fdr psr []) (hx : Passes CX X E) :
    OpR X (binaryOp op) (rOwn g E c ff fr) := by
  intro pins s σ H x y v u Q I rx ry h
  obtain ⟨m, hF⟩ := I.fr
  rcases h with ⟨a, dx, fs, rfl, ea, h1, h2⟩ | ⟨i, a, dx, fs, rfl, rfl, ea, h2⟩
  · cases (show v = Value.ref a from rx)
    obtain ⟨od, J, e⟩ := ins_at I ea
    rcases h1 with ⟨b, dy, gs, rfl, eb⟩ | ⟨i, rfl⟩
    · cases (show u = Value.ref b from ry)
      obtain ⟨od', J', e'⟩ := ins_at I eb
      exact PySem.W.binop_K hF I.ok.mod.kin J J'.type o.hc o.hs o.hf (own_run (x := V.ref a) (y := V.ref b) Fk hr hb hx I rfl rfl h2)
    · obtain ⟨t, rfl⟩ := (show ∃ t, u = Value.int i t from ry)
      obtain ⟨fo, h1⟩ := o.h1
      obtain ⟨ro, h3⟩ := o.h2
      exact PySem.W.ksp_binT (T := "int") hF I.ok.mod.kin J rfl o.hc o.hs o.hf o.hr (.inr ⟨_, rfl⟩) h1 h3 o.s1 (own_run (x := V.ref a) (y := V.int i) Fk hr hb hx I rfl (show L2.RelV (V.int i) (Value.int i t) from ⟨t, rfl⟩) h2)
  · obtain ⟨t, rfl⟩ := (show ∃ t, v = Value.int i t from rx)
    cases (show u = Value.ref a from ry)
    obtain ⟨od, J, e⟩ := ins_at I ea
    exact refl_own hF I.ok.mod.kin J e o (own_run (x := V.ref a) (y := V.int i) Fr' hrr hbr hx I rfl (show L2.RelV (V.int i) (Value.int i t) from ⟨t, rfl⟩) h2)
theorem sp2 {ca : List Addr} {F P H : Hp} {s : S} {x y : D} {v u : V} {Q : VK} (m : Sim g ca F P s H) (rx : Rep g ca F x v) (ry : Rep g ca F y u) (q : Post g ca F P E (fun d _ ca' F' H' => ∀ v, Rep g ca' F' d v → Q v H') (ff [x, y] s)) : spG g 2 ff [v, u] H Q E :=
  spG_of m (.cons rx (.cons ry .nil)) rfl q
theorem od_own (o : OpF X.K (g.cls c) op f r id) (Fk : FnOk X.prog X.w X.K X.mg X.base CX k f fd ps (spG g 2 ff)) (Fr' : FnOk X.prog X.w X.K X.mg X.base CX kr r fdr psr (spG g 2 fr)) (hr : Room k X.A) (hrr : Room kr X.A) (hb : Binds X.K fd ps []) (hbr : Binds X.K fdr psr []) (hx : Passes CX X E) :
    OpD X g E (binaryOp op) (opOwn c ff fr) := by
  refine ⟨_, opr_own o Fk Fr' hr hrr hb hbr hx, fun x y s ca F P H v u Q m rx ry p => ?_⟩
  unfold opOwn at p
  split at p
  · split at p
    · rename_i hk
      obtain ⟨rfl, hk2⟩ := hk
      subst hk2
      have rx' := rx
      have ry' := ry
      simp only [Rep] at rx ry
      obtain ⟨a, dx, xs, rfl, hF, _⟩ := rx
      obtain ⟨b, dy, ys, rfl, hF2, _⟩ := ry
      exact .inl ⟨a, dx, _, rfl, m.sub _ _ hF, .inl ⟨b, dy, _, rfl, m.sub _ _ hF2⟩, sp2 m rx' ry' p⟩
    · exact p.elim
  · rename_i kk fs i
    split at p
    · rename_i hk
      subst hk
      have rx' := rx
      simp only [Rep] at rx
      obtain ⟨a, dx, xs, rfl, hF, _⟩ := rx
      have hu : u = .int i := by simpa only [Rep] using ry
      exact .inl ⟨a, dx, _, rfl, m.sub _ _ hF, .inr ⟨_, hu⟩, sp2 m rx' ry p⟩
    · exact p.elim
  · rename_i i kk fs
    split at p
    · rename_i hk
      subst hk
      have ry' := ry
      simp only [Rep] at ry
      obtain ⟨a, dx, xs, rfl, hF, _⟩ := ry
      have hv : v = .int i := by simpa only [Rep] using rx
      exact .inr ⟨_, a, dx, _, hv, rfl, m.sub _ _ hF, sp2 m ry' rx p⟩
    · exact p.elim
  · exact p.elim
/-- -x -/
theorem ud_own {ffn : List D → S → Res D} {fn : Addr} (hs : PySem.W.findIn X.K (.ref (g.cls c)) "__neg__" = some (some (.ref fn))) (hf : PySem.W.isFn X.K (.ref fn) = true) (Fk : FnOk X.prog X.w X.K X.mg X.base CX k fn fd ps (spG g 1 ffn)) (hr : Room k X.A) (hb : Binds X.K fd ps []) (hx : Passes CX X E) :
    UnD X g E (unaryOp .USub) (fun x s => match x with
      | .ins k fs => if k = c then ffn [.ins k fs] s else .stuck
      | _ => .stuck) := by
  refine ⟨fun v H Q => ∃ a dx fs, v = .ref a ∧ H a = some (.ins (g.cls c) dx fs) ∧ spG g 1 ffn [v] H Q E, fun pins s σ H x v Q I rx h => ?_, fun x s ca F P H v Q m rx p => ?_⟩
  · obtain ⟨a, dx, fs, rfl, ea, h2⟩ := h
    obtain ⟨m, hF⟩ := I.fr
    cases (show v = Value.ref a from rx)
    obtain ⟨od, J, e⟩ := ins_at I ea
    exact PySem.W.ksp_neg hF I.ok.mod.kin J hs hf (run_fn (us := [.ref a]) (vs := [.ref a]) (dvs := []) (ds := []) Fk hr hb .nil hx I (.cons rfl .nil) (by simpa using h2))
  · dsimp only at p
    split at p
    · split at p
      · rename_i hk
        subst hk
        have rx' := rx
        simp only [Rep] at rx
        obtain ⟨a, dx, xs, rfl, hF, _⟩ := rx
        exact ⟨a, dx, _, rfl, m.sub _ _ hF, spG_of m (.cons rx' .nil) rfl p⟩
      · exact p.elim
    · exact p.elim
/-- own == -/
structure EqF (K : PySem.W.Frag) (C : Addr) (f : Addr) : Prop where
  hs : PySem.W.findIn K (.ref C) "__eq__" = some (some (.ref f))
  hf : PySem.W.isFn K (.ref f) = true
  s1 : PySem.W.subIn K (.type "int") (.ref C) = some false
  s2 : PySem.W.subIn K (.ref C) (.type "int") = some false
def eqOwn (c : Nat) (ff : List D → S → Res D) : D → D → S → Res D := fun x y s => match x, y with
  | .ins k fs, .ins k' fs' => if k = c ∧ k' = c then ff [.ins k fs, .ins k' fs'] s else .stuck
  | .ins k fs, .int i => if k = c then ff [.ins k fs, .int i] s else .stuck
  | .int i, .ins k fs => if k = c then ff [.ins k fs, .int i] s else .stuck
  | _, _ => .stuck
theorem opr_eq (o : EqF X.K (g.cls c) f) (Fk : FnOk X.prog X.w X.K X.mg X.base CX k f fd ps (spG g 2 ff)) (hr : Room k X.A) (hb : Binds X.K fd ps []) (hx : Passes CX X E) : OpR X (compareOp .Eq) (rOwn g E c ff ff) := by
  intro pins s σ H x y v u Q I rx ry h
  obtain ⟨m, hF⟩ := I.fr
  rcases h with ⟨a, dx, fs, rfl, ea, h1, h2⟩ | ⟨i, a, dx, fs, rfl, rfl, ea, h2⟩
  · cases (show v = Value.ref a from rx)
    obtain ⟨od, J, e⟩ := ins_at I ea
    rcases h1 with ⟨b, dy, gs, rfl, eb⟩ | ⟨i, rfl⟩
    · cases (show u = Value.ref b from ry)
      obtain ⟨od', J', e'⟩ := ins_at I eb
      exact PySem.W.cmp_ofEq (PySem.W.cmp_K (op := .Eq) (tb := .ref (g.cls c)) hr.units0 hF I.ok.mod.kin J J'.type (by simp [PySem.W.notFirst]) o.hs o.hf (own_run (x := V.ref a) (y := V.ref b) Fk hr hb hx I rfl rfl h2))
    · obtain ⟨t, rfl⟩ := (show ∃ t, u = Value.int i t from ry)
      exact PySem.W.cmp_ofEq (PySem.W.cmp_K (op := .Eq) (tb := .type "int") hr.units0 hF I.ok.mod.kin J (PySem.W.Looks.of_pure rfl) (by simp [PySem.W.notFirst, o.s1]) o.hs o.hf (own_run (x := V.ref a) (y := V.int i) Fk hr hb hx I rfl (show L2.RelV (V.int i) (Value.int i t) from ⟨t, rfl⟩) h2))
  · obtain ⟨t, rfl⟩ := (show ∃ t, v = Value.int i t from rx)
    cases (show u = Value.ref a from ry)
    obtain ⟨od, J, e⟩ := ins_at I ea
    exact eq_refl_own hr.units0 hF I.ok.mod.kin J e o.s2 o.hs o.hf (own_run (x := V.ref a) (y := V.int i) Fk hr hb hx I rfl (show L2.RelV (V.int i) (Value.int i t) from ⟨t, rfl⟩) h2)
theorem od_eqOwn (o : EqF X.K (g.cls c) f) (Fk : FnOk X.prog X.w X.K X.mg X.base CX k f fd ps (spG g 2 ff)) (hr : Room k X.A) (hb : Binds X.K fd ps []) (hx : Passes CX X E) : OpD X g E (compareOp .Eq) (eqOwn c ff) := by
  refine ⟨_, opr_eq o Fk hr hb hx, fun x y s ca F P H v u Q m rx ry p => ?_⟩
  unfold eqOwn at p
  split at p
  · split at p
    · rename_i hk
      obtain ⟨rfl, hk2⟩ := hk
      subst hk2
      have rx' := rx
      have ry' := ry
      simp only [Rep] at rx ry
      obtain ⟨a, dx, xs, rfl, hF, _⟩ := rx
      obtain ⟨b, dy, ys, rfl, hF2, _⟩ := ry
      exact .inl ⟨a, dx, _, rfl, m.sub _ _ hF, .inl ⟨b, dy, _, rfl, m.sub _ _ hF2⟩, sp2 m rx' ry' p⟩
    · exact p.elim
  · rename_i kk fs i
    split at p
    · rename_i hk
      subst hk
      have rx' := rx
      simp only [Rep] at rx
      obtain ⟨a, dx, xs, rfl, hF, _⟩ := rx
      have hu : u = .int i := by simpa only [Rep] using ry
      exact .inl ⟨a, dx, _, rfl, m.sub _ _ hF, .inr ⟨_, hu⟩, sp2 m rx' ry p⟩
    · exact p.elim
  · rename_i i kk fs
    split at p
    · rename_i hk
      subst hk
      have ry' := ry
      simp only [Rep] at ry
      obtain ⟨a, dx, xs, rfl, hF, _⟩ := ry
      have hv : v = .int i := by simpa only [Rep] using rx
      exact .inr ⟨_, a, dx, _, hv, rfl, m.sub _ _ hF, sp2 m ry' rx p⟩
    · exact p.elim
  · exact p.elim
end
end Pm
set_option Elab.async false
set_option linter.all false
set_option maxRecDepth 100000
set_option maxHeartbeats 2000000
namespace Pm
open PySem PySem.Spec PyProof.Rows L2
section
variable {X : Cx} {g : G} {E : XK} {CX : CXT} {c k n nf : Nat} {f C : Addr} {fd : FuncData} {ps ks : List Str} {ff fi : List D → S → Res D} {x m nm : Str} {p pos apos kpos : Pos} {e o : Expr} {es : List Expr} {kws : List Keyword} {me mo : Env → S → Res D} {mr mk : Env → S → Res (List D)}
/-! ### keywords -/
def Ek (X : Cx) (g : G) (E : XK) (kws : List Keyword) (m : Env → S → Res (List D)) : Prop :=
  ∃ t : TA, PK X kws t ∧ ∀ (env : Env) (s : S) (ca : List Addr) (F P H : Hp) (σ : L2.St) (Q : List V → Hp → Prop), Sim g ca F P s H → Slots g ca F env σ →
    Post g ca F P E (fun ds _ ca' F' H' => ∀ vs, Reps g ca' F' ds vs → Q vs H') (m env s) → t σ H Q
theorem ek_nil : Ek X g E [] aNil := ⟨_, pk_nil, fun env s ca F P H σ Q m sl q => q.now m [] .nil⟩
theorem ek_cons {on : Option Str} (ha : Ev X g E e me) (hr : Ek X g E kws mr) : Ek X g E (⟨on, e, kpos⟩ :: kws) (aCons me mr) := by
  obtain ⟨t, p, h⟩ := ha
  obtain ⟨u, p', h'⟩ := hr
  refine ⟨_, pk_cons p p', fun env s ca F P H σ Q m sl q => ?_⟩
  refine h env s ca F P H σ _ m sl (Post.imp (Post.seq q) fun x s1 ca1 F1 H1 k1 k2 m1 q v rv => ?_)
  refine h' env s1 ca1 F1 P H1 σ _ m1 (sl.mono k1 k2) (Post.imp (Post.seq q) fun xs s2 ca2 F2 H2 l1 l2 m2 q2 vs rvs => ?_)
  exact q2.now m2 _ (.cons (Rep.mono l1 l2 _ _ rv) rvs)
/-- how a call with n values and the keywords ks binds: one behind the other -/
def KB (K : PySem.W.Frag) (fd : FuncData) (ps : List Str) (n : Nat) (ks : List Str) : Prop :=
  ∀ (s : Shared) (us ws : List Value), K.In s.heap → us.length = n → ws.length = ks.length → BindsTo s fd ⟨us, ks.zip ws⟩ (ps.zip (us ++ ws))
theorem run_kw {pins : List (Addr × Obj)} {σ : L2.St} {H : Hp} {s : Shared} {Q : VK} {us ws : List Value} {vs zs : List V} {sp : Sp} (F : FnOk X.prog X.w X.K X.mg X.base CX k f fd ps sp) (hr : Room k X.A) (hb : KB X.K fd ps us.length ks) (hx : Passes CX X E)
    (I : Inv X pins σ H s) (r : Vals vs us) (rz : Vals zs ws) (hl : ws.length = ks.length) (h : sp (vs ++ zs) H Q E) : wpAny (model X.prog X.w) X.A (call (.ref f) us (ks.zip ws)) (EP X pins σ Q) X.xe s := by
  refine wpAny_call (codeAny_mono (F.run X.A X.stack s H ⟨us, ks.zip ws⟩ (us ++ ws) (vs ++ zs) Q E hr I.env0 (hb s us ws I.kIn rfl hl) (r.append rz) h) fun r s' hq => ?_)
  cases r with
  | error e => exact hx pins σ H s e s' I hq
  | ok fl =>
    cases fl with
    | ret u => exact I.after hq
    | next => exact False.elim hq
    | brk => exact False.elim hq
    | cont => exact False.elim hq
def mKw (n j : Nat) (ff : List D → S → Res D) (mr mk : Env → S → Res (List D)) : Env → S → Res D := fun env s => (mr env s).bind fun xs s1 => (mk env s1).bind fun ys s2 => if xs.length = n ∧ ys.length = j then ff (xs ++ ys) s2 else .stuck
/-- f(k = v, ..) -/
theorem ev_kw0 (Fk : FnOk X.prog X.w X.K X.mg X.base CX k f fd ps (spG g n ff)) (hr : Room k X.A) (hg : Gl X x) (hm : X.mg x = some (.ref f)) (hk : PySem.W.keepIn X.K (.ref f) = true) (hb : KB X.K fd ps 0 ks) (hn : n = ks.length) (hx : Passes CX X E) (hkw : Ek X g E kws mk)
    (hall : (backToKw pos (keywordEach kws X.env)).all (·.1.isSome) = true := by rfl) (hks : (backToKw pos (keywordEach kws X.env)).filterMap (·.1) = ks := by rfl)
    (hdb : (x == ("__debug__" : Str)) = false := by decide) (hpl : ((backTo pos (starEach [] X.env)).any (·.1) || (backToKw pos (keywordEach kws X.env)).any (·.1.isNone)) = false := by rfl) :
    Ev X g E (.Call (.Name x p) [] kws pos) (mKw 0 n ff aNil mk) := by
  obtain ⟨t, pk, hkw⟩ := hkw
  refine ⟨fun σ H Q => t σ H fun zs H2 => zs.length = ks.length ∧ spG g n ff zs H2 Q E, ⟨fun pins s σ H Q I h => ?_⟩, fun env s ca F P H σ Q m sl q => ?_⟩
  · refine wpAny_Call_Name_kw (ld_glob I hg hm ?_ hdb)
    refine PySem.W.callWith_KW0 (h₀ := X.base) I.ok.mod.kin hk hall (thn (pk.run pos pins s σ H _ I h) fun ws s2 ⟨zs, H2, I2, rz, hl, q2⟩ => ⟨I2.kIn, ?_⟩) hpl
    rw [hks]
    exact run_kw (us := []) (vs := []) Fk hr hb hx I2 .nil rz (by rw [← rz.length]; exact hl) q2
  · simp only [mKw, aNil, Res.bind_ok] at q
    refine hkw env s ca F P H σ _ m sl (Post.imp (Post.seq q) fun ys s1 ca1 F1 H1 k1 k2 m1 q1 vs rs => ?_)
    split at q1
    · rename_i hl
      exact ⟨by rw [← rs.length, ← hn]; exact hl.2, spG_of m1 rs hl.2 (by simpa using q1)⟩
    · exact q1.elim
/-- C(k = v, ..) -/
theorem ev_makeKw0 (M : Mk X.K (g.cls c) f) (Fk : FnOk X.prog X.w X.K X.mg X.base CX k f fd ps (spG g n fi)) (hnf : nf = (g.fn c).length) (hr : Room (k + 1) X.A) (hg : Gl X x) (hm : X.mg x = some (.ref (g.cls c))) (hb : KB X.K fd ps 1 ks) (hn : n = ks.length + 1) (hx : Passes CX X E) (hkw : Ek X g E kws mk)
    (hall : (backToKw pos (keywordEach kws X.env)).all (·.1.isSome) = true := by rfl) (hks : (backToKw pos (keywordEach kws X.env)).filterMap (·.1) = ks := by rfl)
    (hdb : (x == ("__debug__" : Str)) = false := by decide) (hpl : ((backTo pos (starEach [] X.env)).any (·.1) || (backToKw pos (keywordEach kws X.env)).any (·.1.isNone)) = false := by rfl) :
    Ev X g E (.Call (.Name x p) [] kws pos) (mMake c nf n [] fi mk) := by
  obtain ⟨t, pk, hkw⟩ := hkw
  refine ⟨fun σ H Q => t σ H fun zs H2 => zs.length = ks.length ∧ ∀ x dx, H2 x = none → H2 dx = none → dx ≠ x → spG g n fi (.ref x :: zs) (upd (upd H2 dx (.own x)) x (.ins (g.cls c) dx [])) (fun v H3 => v = .non ∧ Q (.ref x) H3) E, ⟨fun pins s σ H Q I h => ?_⟩, fun env s ca F P H σ Q m sl q => ?_⟩
  · refine wpAny_Call_Name_kw (ld_glob I hg hm ?_ hdb)
    refine PySem.W.callWith_KW0 (h₀ := X.base) I.ok.mod.kin M.kp hall (thn (pk.run pos pins s σ H _ I h) fun ws s2 ⟨zs, H2, I2, rz, hl, q2⟩ => ⟨I2.kIn, ?_⟩) hpl
    rw [hks]
    refine run_makeN (n := 0) (us := []) (vs := []) (g := fun a b => a ++ b) (gV := fun a b => a ++ b) M Fk hr ⟨fun s us ws h1 h2 h3 => hb s us ws h1 h2 h3, fun r1 r2 => r1.append r2⟩ hx I2 .nil rz rfl hl fun x dx h1 h2 h3 => ?_
    exact q2 x dx h1 h2 h3
  · refine hkw env s ca F P H σ _ m sl (Post.imp (Post.seq q) fun ys s1 ca1 F1 H1 k1 k2 m1 q1 vs rs => ?_)
    split at q1
    · rename_i hl
      simp only [List.length_nil, Nat.add_zero] at hl
      exact ⟨by rw [← rs.length]; omega, fun x dx hx hdx hne => made_ok hnf m1 rs hl hx hdx hne (by simpa using q1)⟩
    · exact q1.elim
/-- o.m(k = v, ..) -/
def mMethK (c n : Nat) (ff : List D → S → Res D) (mo : Env → S → Res D) (mk : Env → S → Res (List D)) : Env → S → Res D := fun env s => (mo env s).bind fun x s1 => match x with
  | .ins k fs => if k = c then (mk env s1).bind (fun xs s2 => if xs.length + 1 = n then ff (.ins k fs :: xs) s2 else .stuck) else .stuck
  | _ => .stuck
theorem ev_methKw0 {pl : Sem Bool} (he : Ev X g E o mo) (cl : Cls X.K (g.cls c)) (hm : Meth X.K (g.cls c) m f) (hnf : m ∉ g.fn c) (Fk : FnOk X.prog X.w X.K X.mg X.base CX k f fd ps (spG g n ff)) (hr : Room k X.A) (hb : KB X.K fd ps 1 ks) (hn : n = ks.length + 1) (hx : Passes CX X E) (hkw : Ek X g E kws mk)
    (hall : (backToKw pos (keywordEach kws X.env)).all (·.1.isSome) = true := by rfl) (hks : (backToKw pos (keywordEach kws X.env)).filterMap (·.1) = ks := by rfl)
    (hpl : ((backTo pos (starEach [] X.env)).any (·.1) || (backToKw pos (keywordEach kws X.env)).any (·.1.isNone)) = false := by rfl)
    (ht : eval (.Call (.Attribute o m apos) [] kws pos) X.env = (do
      let ov ← eval o X.env
      standAt apos.atName
      let (f, first) ← holding [ov] (getMethod ov m pl)
      callWith pos f first (backTo pos (starEach [] X.env)) (backToKw pos (keywordEach kws X.env))) := by rfl) :
    Ev X g E (.Call (.Attribute o m apos) [] kws pos) (mMethK c n ff mo mk) := by
  obtain ⟨to, po, ho⟩ := he
  obtain ⟨t, pk, hkw⟩ := hkw
  refine ⟨fun σ H Q => to σ H fun x H1 => ∃ a dx fs, x = .ref a ∧ H1 a = some (.ins (g.cls c) dx fs) ∧ fs.lookup m = none ∧ t σ H1 fun zs H2 => zs.length = ks.length ∧ spG g n ff (x :: zs) H2 Q E, ⟨fun pins s σ H Q I h => ?_⟩, fun env s ca F P H σ Q m' sl q => ?_⟩
  · refine PySem.W.methodCall_KW (pl := pl) (thn (po.run pins s σ H _ I h) fun u s1 ⟨x, H1, I1, rx, a, dx, fs, ex, ea, l, q⟩ => ?_) ht
    subst ex
    obtain rfl : u = Value.ref a := rx
    refine getmeth_ok I1 ea cl hm l ?_
    refine PySem.W.callWith_KW0 (first := [.ref a]) (h₀ := X.base) I.ok.mod.kin hm.kp hall (thn (pk.run pos pins s1 σ H1 _ I1 q) fun ws s2 ⟨zs, H2, I2, rz, hl, q2⟩ => ⟨I2.kIn, ?_⟩) hpl
    rw [hks]
    exact run_kw (us := [.ref a]) (vs := [.ref a]) Fk hr hb hx I2 (.cons rfl .nil) rz (by rw [← rz.length]; exact hl) q2
  · refine ho env s ca F P H σ _ m' sl (Post.imp (Post.seq q) fun z s1 ca1 F1 H1 k1 k2 m1 q1 v rv => ?_)
    cases z with
    | ins kk fs =>
      simp only at q1
      split at q1
      · rename_i hk
        subst hk
        have rv' := rv
        simp only [Rep] at rv
        obtain ⟨a, dx, xs, rfl, hF, hl, rs⟩ := rv
        refine ⟨a, dx, _, rfl, m1.sub _ _ hF, zip_lookup_none hnf, ?_⟩
        refine hkw env s1 ca1 F1 P H1 σ _ m1 (sl.mono k1 k2) (Post.imp (Post.seq q1) fun ys s2 ca2 F2 H2 l1 l2 m2 q2 vs rs2 => ?_)
        split at q2
        · rename_i hl
          exact ⟨by rw [← rs2.length]; omega, spG_of m2 (.cons (Rep.mono l1 l2 _ _ rv') rs2) (by simpa using hl) q2⟩
        · exact q2.elim
      · exact q1.elim
    | _ => exact q1.elim
/-- cls(e, ..), the name a local that holds the class -/
def mMakeL (i c nf n : Nat) (dds : List D) (fi : List D → S → Res D) (mr : Env → S → Res (List D)) : Env → S → Res D := fun env s => match env[i]? with
  | some (some (.cls k)) => if k = c then mMake c nf n dds fi mr env s else .stuck
  | _ => .stuck
theorem ev_makeL {i : Nat} {dvs : List V} {dds : List D} {ds : List Value} (M : Mk X.K (g.cls c) f) (Fk : FnOk X.prog X.w X.K X.mg X.base CX k f fd ps (spG g n fi)) (hnf : nf = (g.fn c).length) (hr : Room (k + 1) X.A) (hN : X.N[i]? = some x) (hv : Vis X.env.scope x) (hb : Binds X.K fd ps ds) (hd : Vals dvs ds) (hdd : ∀ ca F, Reps g ca F dds dvs) (hx : Passes CX X E)
    (ha : Ea X g E (e :: es) mr) (hdb : (x == ("__debug__" : Str)) = false := by decide) (hcd : (x == ("__classdict__" : Str)) = false := by decide) (he : starEach (e :: es) X.env = (false, eval e X.env) :: starEach es X.env := by rfl) (hpl : (backTo pos (starEach es X.env)).any (·.1) = false := by rfl) :
    Ev X g E (.Call (.Name x p) (e :: es) [] pos) (mMakeL i c nf n dds fi mr) := by
  obtain ⟨t, pa, ha⟩ := ha
  refine ⟨fun σ H Q => σ[i]? = some (some (.ref (g.cls c))) ∧ tMake (g.cls c) (spG g n fi) dvs E t σ H Q, ⟨fun pins s σ H Q I h => ?_⟩, fun env s ca F P H σ Q m sl q => ?_⟩
  · obtain ⟨h0, h⟩ := h
    refine wpAny_Call_Name_kw (thn ((pe_var (pos := p) hN hv hdb hcd).run pins s σ H (fun v H1 => v = .ref (g.cls c) ∧ H1 = H) I ⟨_, h0, rfl, rfl⟩) fun u s1 ⟨v, H1, I1, r1, q1⟩ => ?_)
    obtain ⟨rfl, rfl⟩ := q1
    cases (show u = Value.ref (g.cls c) from r1)
    refine PySem.W.callWith_K (h₀ := X.base) I.ok.mod.kin M.kp (thn (pa.run pos pins s1 σ _ _ I1 h) fun us s2 ⟨vs, H2, I2, r, q⟩ => ⟨I2.kIn, ?_⟩) he hpl
    exact run_make M Fk hr hb hd hx I2 r q
  · unfold mMakeL at q
    split at q
    · rename_i kk hi
      split at q
      · rename_i hk
        subst hk
        obtain ⟨v, e', r⟩ := sl.2 i _ hi
        simp only [Rep] at r
        subst r
        refine ⟨e', ha env s ca F P H σ _ m sl (Post.imp (Post.seq q) fun xs s1 ca1 F1 H1 k1 k2 m1 q1 vs rs => ?_)⟩
        split at q1
        · rename_i hl
          intro x dx hx hdx hne
          exact made_ok hnf m1 (rs.append (hdd _ _)) (by simpa using hl) hx hdx hne q1
        · exact q1.elim
      · exact q.elim
    · exact q.elim
/-- C.m(e, ..), a classmethod -/
def mCm (c n : Nat) (ff : List D → S → Res D) (mo : Env → S → Res D) (mr : Env → S → Res (List D)) : Env → S → Res D := fun env s => (mo env s).bind fun x s1 => match x with
  | .cls k => if k = c then (mr env s1).bind (fun xs s2 => if xs.length + 1 = n then ff (.cls k :: xs) s2 else .stuck) else .stuck
  | _ => .stuck
theorem ev_cm {pl : Sem Bool} {mc : Value} {pp : Addr} (he : Ev X g E o mo) (r : ClX.CRead X.K (g.cls c) mc) (cm : ClX.CMet X.K (g.cls c) mc m pp f) (Fk : FnOk X.prog X.w X.K X.mg X.base CX k f fd ps (spG g n ff)) (hb : Binds X.K fd ps []) (hr : Room k X.A) (hx : Passes CX X E) (ha : Ea X g E (e :: es) mr)
    (hst : starEach (e :: es) X.env = (false, eval e X.env) :: starEach es X.env := by rfl) (hpl : (backTo pos (starEach es X.env)).any (·.1) = false := by rfl)
    (ht : eval (.Call (.Attribute o m apos) (e :: es) [] pos) X.env = (do
      let ov ← eval o X.env
      standAt apos.atName
      let (f, first) ← holding [ov] (getMethod ov m pl)
      callWith pos f first (backTo pos (starEach (e :: es) X.env)) (backToKw pos (keywordEach [] X.env))) := by rfl) :
    Ev X g E (.Call (.Attribute o m apos) (e :: es) [] pos) (mCm c n ff mo mr) := by
  obtain ⟨to, po, ho⟩ := he
  obtain ⟨t, pa, ha⟩ := ha
  refine ⟨_, ClX.pe_cmeth po r cm (Fk.raw hb .nil) hr hx pa hst hpl ht, fun env s ca F P H σ Q m' sl q => ?_⟩
  refine ho env s ca F P H σ _ m' sl (Post.imp (Post.seq q) fun z s1 ca1 F1 H1 k1 k2 m1 q1 v rv => ?_)
  cases z with
  | cls kk =>
    simp only at q1
    split at q1
    · rename_i hk
      subst hk
      have rv' := rv
      simp only [Rep] at rv
      subst rv
      refine ⟨rfl, ha env s1 ca1 F1 P H1 σ _ m1 (sl.mono k1 k2) (Post.imp (Post.seq q1) fun ys s2 ca2 F2 H2 l1 l2 m2 q2 vs rs2 => ?_)⟩
      split at q2
      · rename_i hl
        exact spG_of m2 (by simpa using Reps.cons (Rep.mono l1 l2 _ _ rv') rs2) (by simpa using hl) q2
      · exact q2.elim
    · exact q1.elim
  | _ => exact q1.elim

/-! ### texts -/
def intTxt (i : Int) : Str := toString i
def bStrI : List D → S → Res D := fun xs s => match xs with
  | [.int i] => if decide (i.natAbs.log2 < 1920) = true then .ok (.str (intTxt i)) s else .stuck
  | _ => .stuck
theorem cd_strI : CallD X g E (.type "str") bStrI := by
  refine ⟨_, call_str_int, fun xs s ca F P H vs Q m rs q => ?_⟩
  unfold bStrI at q
  split at q
  · split at q
    · rename_i i hi
      obtain ⟨v, rfl, r⟩ := reps1 rs
      simp only [Rep] at r
      subst r
      exact ⟨i, rfl, of_decide_eq_true hi, q.now m _ (by simp only [Rep]; rfl)⟩
    · exact q.elim
  · exact q.elim
/-- str(x), x of an own class with its own __str__ -/
def bOwn1 (c : Nat) (ff : List D → S → Res D) : List D → S → Res D := fun xs s => match xs with
  | [.ins k fs] => if k = c then (ff [.ins k fs] s).bind (fun d s1 => match d with
    | .str x => .ok (.str x) s1
    | _ => .stuck) else .stuck
  | _ => .stuck
theorem strback {pins : List (Addr × Obj)} {σ : L2.St} {Q : VK} {u : Value} {s' : Shared} (h : EP X pins σ (fun v H' => (∃ x, v = .str x) ∧ Q v H') u s') : PySem.W.StrBack (EP X pins σ Q) u s' := by
  obtain ⟨v, H', I, rv, ⟨x, rfl⟩, q⟩ := h
  obtain ⟨t, rfl⟩ := (show ∃ t, u = Value.str x t from rv)
  exact ⟨.str x, H', I, ⟨t, rfl⟩, q⟩
theorem own1_sp {ca : List Addr} {F P H : Hp} {s : S} {xs : List D} {vs : List V} {Q : VK} (m : Sim g ca F P s H) (rs : Reps g ca F xs vs) (q : Post g ca F P E (fun d _ ca' F' H' => ∀ w, Rep g ca' F' d w → Q w H') (bOwn1 c ff xs s)) :
    ∃ a dx fs, vs = [.ref a] ∧ H a = some (.ins (g.cls c) dx fs) ∧ spG g 1 ff vs H (fun v H' => (∃ x, v = .str x) ∧ Q v H') E := by
  unfold bOwn1 at q
  split at q
  · split at q
    · rename_i hk
      subst hk
      obtain ⟨v, rfl, r⟩ := reps1 rs
      have r' := r
      simp only [Rep] at r
      obtain ⟨a, dx, ws, rfl, hF, _⟩ := r
      refine ⟨a, dx, _, rfl, m.sub _ _ hF, spG_of m (.cons r' .nil) rfl (Post.imp (Post.seq q) fun d s1 ca1 F1 H1 k1 k2 m1 q1 v rv => ?_)⟩
      cases d with
      | str x => exact ⟨⟨x, by simpa only [Rep] using rv⟩, q1.now m1 v rv⟩
      | _ => exact q1.elim
    · exact q.elim
  · exact q.elim
theorem cd_strOwn (hs : PySem.W.findIn X.K (.ref (g.cls c)) "__str__" = some (some (.ref f))) (hf : PySem.W.isFn X.K (.ref f) = true) (Fk : FnOk X.prog X.w X.K X.mg X.base CX k f fd ps (spG g 1 ff)) (hb : Binds X.K fd ps []) (hr : Room (k + 2) X.A) (hx : Passes CX X E) : CallD X g E (.type "str") (bOwn1 c ff) := by
  refine ⟨fun vs H Q => ∃ a dx fs, vs = [.ref a] ∧ H a = some (.ins (g.cls c) dx fs) ∧ spG g 1 ff vs H (fun v H' => (∃ x, v = .str x) ∧ Q v H') E, fun pins s σ H vs us Q I r h => ?_, fun xs s ca F P H vs Q m rs q => own1_sp m rs q⟩
  obtain ⟨a, dx, fs, rfl, ea, h⟩ := h
  obtain ⟨u, rfl, ru⟩ := vals1 r
  cases (show u = Value.ref a from ru)
  obtain ⟨od, J, e⟩ := ins_at I ea
  have hr2 : Room k X.A.in1.in1 := (show Room (k + 1) X.A.in1 from Room.in1 hr).in1
  refine PySem.W.kso_call hr2.units0 I.kIn J hs hf (wpAny_mono (wpAny_call (SlX.run_at (us := [.ref a]) (ws := [.ref a]) (Fk.raw hb .nil) hr2 I.env0.in1.in1 hx I (.cons rfl .nil) (by simpa using h))) (fun u s' q => strback q) fun _ _ z => z)
theorem cd_reprOwn (hs : PySem.W.findIn X.K (.ref (g.cls c)) "__repr__" = some (some (.ref f))) (hf : PySem.W.isFn X.K (.ref f) = true) (Fk : FnOk X.prog X.w X.K X.mg X.base CX k f fd ps (spG g 1 ff)) (hb : Binds X.K fd ps []) (hr : Room (k + 1) X.A) (hx : Passes CX X E) : CallD X g E (.builtin "repr") (bOwn1 c ff) := by
  refine ⟨fun vs H Q => ∃ a dx fs, vs = [.ref a] ∧ H a = some (.ins (g.cls c) dx fs) ∧ spG g 1 ff vs H (fun v H' => (∃ x, v = .str x) ∧ Q v H') E, fun pins s σ H vs us Q I r h => ?_, fun xs s ca F P H vs Q m rs q => own1_sp m rs q⟩
  obtain ⟨a, dx, fs, rfl, ea, h⟩ := h
  obtain ⟨u, rfl, ru⟩ := vals1 r
  cases (show u = Value.ref a from ru)
  obtain ⟨od, J, e⟩ := ins_at I ea
  obtain ⟨mF, hF⟩ := I.fr
  have hr1 : Room k X.A.in1 := Room.in1 hr
  exact PySem.W.repr_K hr1.units0 hF I.ok.mod.kin J hs hf (wpAny_mono (wpAny_call (SlX.run_at (us := [.ref a]) (ws := [.ref a]) (Fk.raw hb .nil) hr1 I.env0.in1 hx I (.cons rfl .nil) (by simpa using h))) (fun u s' q => strback q) fun _ _ z => z)
/-- {x} of an int, a text -/
def mFmt (me : Env → S → Res D) : Env → S → Res D := fun env s => (me env s).bind fun d s1 => match d with
  | .int i => if decide (i.natAbs.log2 < 1920) = true then .ok (.str (intTxt i)) s1 else .stuck
  | .str y => if y.length ≤ line then .ok (.str y) s1 else .stuck
  | _ => .stuck
theorem ev_fmt (h : Ev X g E e me) : Ev X g E (.FormattedValue e (-1) none pos) (mFmt me) := by
  obtain ⟨t, p, h⟩ := h
  refine ⟨_, pe_fmt p, fun env s ca F P H σ Q m sl q => ?_⟩
  refine h env s ca F P H σ _ m sl (Post.imp (Post.seq q) fun d s1 ca1 F1 H1 k1 k2 m1 q1 v rv => ?_)
  split at q1
  · split at q1
    · rename_i i hi
      simp only [Rep] at rv
      exact .inr ⟨i, rv, of_decide_eq_true hi, q1.now m1 _ (by simp only [Rep]; rfl)⟩
    · exact q1.elim
  · split at q1
    · rename_i y hy
      simp only [Rep] at rv
      exact .inl ⟨y, rv, line_le hy, q1.now m1 _ (by simp only [Rep])⟩
    · exact q1.elim
  · exact q1.elim
inductive Ej (X : Cx) (g : G) (E : XK) : List Expr → List (Env → S → Res D) → Prop where
  | nil : Ej X g E [] []
  | cons {e : Expr} {m : Env → S → Res D} {es : List Expr} {ms : List (Env → S → Res D)} (h : Ev X g E e m) (r : Ej X g E es ms) : Ej X g E (e :: es) (m :: ms)
def jRun : List (Env → S → Res D) → Str → Env → S → Res Str
  | [], acc, _, s => .ok acc s
  | m :: ms, acc, env, s => (m env s).bind fun d s1 => match d with
    | .str y => if (acc ++ y).length ≤ line then jRun ms (acc ++ y) env s1 else .stuck
    | _ => .stuck
def mJoin (ms : List (Env → S → Res D)) : Env → S → Res D := fun env s => (jRun ms Str.empty env s).bind fun x s1 => .ok (.str x) s1
theorem ej_run {es : List Expr} {ms : List (Env → S → Res D)} (h : Ej X g E es ms) : ∃ ts, PJ X es ts ∧ ∀ (env : Env) (s : S) (ca : List Addr) (F P H : Hp) (σ : L2.St) (acc : Str) (Q : Str → Hp → Prop), Sim g ca F P s H → Slots g ca F env σ →
    Post g ca F P E (fun x _ _ _ H' => Q x H') (jRun ms acc env s) → tJs ts acc σ H Q := by
  induction h with
  | nil => exact ⟨[], .nil, fun env s ca F P H σ acc Q m sl q => q.now m⟩
  | @cons e me es ms h r ih =>
    obtain ⟨ts, pj, ih⟩ := ih
    obtain ⟨t, p, h⟩ := h
    refine ⟨t :: ts, .cons p pj, fun env s ca F P H σ acc Q m sl q => ?_⟩
    refine h env s ca F P H σ _ m sl (Post.imp (Post.seq q) fun d s1 ca1 F1 H1 k1 k2 m1 q1 v rv => ?_)
    split at q1
    · split at q1
      · rename_i y hy
        simp only [Rep] at rv
        exact ⟨y, rv, line_le hy, ih env s1 ca1 F1 P H1 σ _ Q m1 (sl.mono k1 k2) q1⟩
      · exact q1.elim
    · exact q1.elim
theorem ev_join {v1 v2 : Expr} {rest : List Expr} {ms : List (Env → S → Res D)} (h : Ej X g E (v1 :: v2 :: rest) ms) : Ev X g E (.JoinedStr (v1 :: v2 :: rest) pos) (mJoin ms) := by
  obtain ⟨ts, pj, h⟩ := ej_run h
  refine ⟨_, pe_joined pj, fun env s ca F P H σ Q m sl q => ?_⟩
  exact h env s ca F P H σ _ _ m sl (Post.imp (Post.seq q) fun x s1 ca1 F1 H1 k1 k2 m1 q1 => q1.now m1 _ (by simp only [Rep]))
/-- + of texts -/
def addS : D → D → S → Res D := fun x y s => match x, y with
  | .str a, .str b => if a.length + b.length ≤ line then .ok (.str (a ++ b)) s else .stuck
  | _, _ => .stuck
theorem od_addS : OpD X g E (binaryOp .Add) addS := by
  refine ⟨_, op_add_str, fun x y s ca F P H v u Q m rx ry q => ?_⟩
  unfold addS at q
  split at q
  · split at q
    · rename_i a b hl
      simp only [Rep] at rx ry
      exact ⟨a, b, rx, ry, line_le hl, q.now m _ (by simp only [Rep])⟩
    · exact q.elim
  · exact q.elim

/-! ### lists that change -/
def mtCell (f : List D → List D → Option (List D)) (mo : Env → S → Res D) (mr : Env → S → Res (List D)) : Env → S → Res D := fun env s => (mo env s).bind fun x s1 => match x with
  | .cell k => (match s1[k]? with
    | some (.lst _) => (mr env s1).bind (fun ys s2 => match s2[k]? with
      | some (.lst ds) => match f ds ys with
        | some es => .ok .non (s2.set k (.lst es))
        | none => .stuck
      | _ => .stuck)
    | _ => .stuck)
  | _ => .stuck
def appF : List D → List D → Option (List D) := fun ds ys => match ys with
  | [y] => if ds.length < line then some (ds ++ [y]) else none
  | _ => none
def extF : List D → List D → Option (List D) := fun ds ys => match ys with
  | [.lst es] => if ds.length + es.length ≤ line then some (ds ++ es) else none
  | _ => none
theorem line_lt {n : Nat} (h : n < line) : n < sizeLine := Nat.lt_of_lt_of_le h (by rw [sizeLine_eq]; decide)
theorem cell_meth {T id : String} {name : Str} {r : V → List V → Hp → VK → Prop} {fl : List D → List D → Option (List D)} {K : PySem.W.Frag}
    (hr : ∀ (ds ys es : List D) (ca : List Addr) (F P H : Hp) (s : S) (a : Addr) (xs vs : List V) (Q : VK), fl ds ys = some es → Sim g ca F P s H → H a = some (.lst xs) → Reps g ca F ds xs → Reps g ca F ys vs →
      (∀ zs, Reps g ca F es zs → Q .non (upd H a (.lst zs))) → r (.ref a) vs H Q)
    {to : TE} {t : TA} (h : ∀ (env : Env) (s : S) (ca : List Addr) (F P H : Hp) (σ : L2.St) (Q : VK), Sim g ca F P s H → Slots g ca F env σ → Post g ca F P E (fun d _ ca' F' H' => ∀ v, Rep g ca' F' d v → Q v H') (mo env s) → to σ H Q)
    (ha : ∀ (env : Env) (s : S) (ca : List Addr) (F P H : Hp) (σ : L2.St) (Q : List V → Hp → Prop), Sim g ca F P s H → Slots g ca F env σ → Post g ca F P E (fun ds _ ca' F' H' => ∀ vs, Reps g ca' F' ds vs → Q vs H') (mr env s) → t σ H Q)
    {env : Env} {s : S} {ca : List Addr} {F P H : Hp} {σ : L2.St} {Q : VK} (m : Sim g ca F P s H) (sl : Slots g ca F env σ) (q : Post g ca F P E (fun d _ ca' F' H' => ∀ v, Rep g ca' F' d v → Q v H') (mtCell fl mo mr env s)) : tBM K "list" r to t σ H Q := by
  refine h env s ca F P H σ _ m sl (Post.imp (Post.seq q) fun x s1 ca1 F1 H1 k1 k2 m1 q1 v rv => ?_)
  cases x with
  | cell kk =>
    simp only [Rep] at rv
    obtain ⟨a, rfl, ha1⟩ := rv
    dsimp only at q1
    split at q1
    · rename_i ds0 hk0
      obtain ⟨xs0, hH0, _⟩ := m1.cellL ha1 hk0
      refine ⟨.inl ⟨rfl, xs0, SqL.of hH0⟩, ha env s1 ca1 F1 P H1 σ _ m1 (sl.mono k1 k2) (Post.imp (Post.seq q1) fun ys s2 ca2 F2 H2 l1 l2 m2 q2 vs rs2 => ?_)⟩
      have ha2 := prefix_get l1 ha1
      split at q2
      · rename_i ds hk
        split at q2
        · rename_i es' he
          obtain ⟨xs, hH, rs⟩ := m2.cellL ha2 hk
          refine hr ds ys es' ca2 F2 P H2 s2 a xs vs Q he m2 hH rs rs2 fun zs hz => ?_
          exact q2 ca2 F2 _ List.prefix_rfl (Sub.refl _) (m2.store ha2 hk (by intro z; cases z) ⟨_, upd_same, hz⟩) _ (by simp only [Rep])
        · exact q2.elim
      · exact q2.elim
    · exact q1.elim
  | _ => exact q1.elim
theorem ev_append (ho : Ev X g E o mo) (ha : Ea X g E (e :: es) mr) (hbase : attributeBase o "append" X.env (eval o X.env) = eval o X.env := by rfl)
    (hfew : ((backTo pos (starEach (e :: es) X.env)).all (fun x => !x.1) && (backToKw pos (keywordEach [] X.env)).all (fun x => x.1.isSome)
      && decide ((e :: es).length + ([] : List Keyword).length + (if ([] : List Keyword).isEmpty then 0 else 1) < 30)) = true := by rfl)
    (hline : (apos.endLine == pos.line) = true := by rfl) (hs : starEach (e :: es) X.env = (false, eval e X.env) :: starEach es X.env := by rfl) (hplain : (backTo pos (starEach es X.env)).any (·.1) = false := by rfl) :
    Ev X g E (.Call (.Attribute o "append" apos) (e :: es) [] pos) (mtCell appF mo mr) := by
  obtain ⟨t, p, h⟩ := ho
  obtain ⟨u, pa, ha⟩ := ha
  refine ⟨_, pe_bm PySem.F.plainAttrs_list PySem.F.slot_list_append PySem.F.type_list_append mt_append p pa hbase hfew hline hs hplain, fun env s ca F P H σ Q m sl q => cell_meth (T := "list") (id := "") (name := "") (fun ds ys es ca F P H s a xs vs Q he m hH rs rv k => ?_) h ha m sl q⟩
  unfold appF at he
  split at he
  · split at he
    · rename_i y hlt
      cases he
      obtain ⟨w, rfl, rw'⟩ := reps1 rv
      exact ⟨a, xs, w, rfl, rfl, hH, by rw [← rs.length]; exact line_lt hlt, k _ (rs.append (.one rw'))⟩
    · cases he
  · cases he
theorem ev_extend (ho : Ev X g E o mo) (ha : Ea X g E (e :: es) mr) (hbase : attributeBase o "extend" X.env (eval o X.env) = eval o X.env := by rfl)
    (hfew : ((backTo pos (starEach (e :: es) X.env)).all (fun x => !x.1) && (backToKw pos (keywordEach [] X.env)).all (fun x => x.1.isSome)
      && decide ((e :: es).length + ([] : List Keyword).length + (if ([] : List Keyword).isEmpty then 0 else 1) < 30)) = true := by rfl)
    (hline : (apos.endLine == pos.line) = true := by rfl) (hs : starEach (e :: es) X.env = (false, eval e X.env) :: starEach es X.env := by rfl) (hplain : (backTo pos (starEach es X.env)).any (·.1) = false := by rfl) :
    Ev X g E (.Call (.Attribute o "extend" apos) (e :: es) [] pos) (mtCell extF mo mr) := by
  obtain ⟨t, p, h⟩ := ho
  obtain ⟨u, pa, ha⟩ := ha
  refine ⟨_, pe_bm PySem.F.plainAttrs_list PySem.F.slot_list_extend PySem.F.type_list_extend mt_extend p pa hbase hfew hline hs hplain, fun env s ca F P H σ Q m sl q => cell_meth (T := "list") (id := "") (name := "") (fun ds ys es ca F P H s a xs vs Q he m hH rs rv k => ?_) h ha m sl q⟩
  unfold extF at he
  split at he
  · split at he
    · rename_i zs hlt
      cases he
      obtain ⟨w, rfl, rw'⟩ := reps1 rv
      simp only [Rep] at rw'
      obtain ⟨b, ws, rfl, hF, rs2⟩ := rw'
      exact ⟨a, b, xs, ws, rfl, rfl, hH, m.sub _ _ hF, by rw [← rs.length, ← rs2.length]; exact line_le hlt, k _ (rs.append rs2)⟩
    · cases he
  · cases he
/-- behind the statement the list in the i-th slot stands still -/
def sFrz (i : Nat) (ms : Env → S → Res Fl) : Env → S → Res Fl := fun env s => (ms env s).bind fun fl s1 => match fl with
  | .nx e => (match e[i]? with
    | some (some (.cell k)) => (match s1[k]? with
      | some (.lst ds) => .ok (.nx (e.set i (some (.lst ds)))) (s1.set k .dead)
      | _ => .stuck)
    | _ => .stuck)
  | _ => .stuck
theorem sv_frz (i : Nat) {st : Stmt} {ms : Env → S → Res Fl} (h : Sv X g E st ms) : Sv X g E st (sFrz i ms) := by
  obtain ⟨t, p, h⟩ := h
  refine ⟨t, p, fun env s ca F P H σ Dn m sl q => ?_⟩
  refine h env s ca F P H σ Dn m sl (Post.imp (Post.seq q) fun fl s1 ca1 F1 H1 k1 k2 m1 q1 => ?_)
  cases fl with
  | nx e =>
    dsimp only at q1
    split at q1
    · rename_i kk hi
      split at q1
      · rename_i ds hk
        intro σ' sl'
        obtain ⟨v, hv, rv⟩ := sl'.2 i _ hi
        simp only [Rep] at rv
        obtain ⟨a, rfl, ha⟩ := rv
        obtain ⟨xs, hH, rs⟩ := m1.cellL ha hk
        obtain ⟨m2, hF⟩ := m1.freeze ha hk (by intro z; cases z) hH
        have sl2 := sl'.mono (List.prefix_rfl) (Sub.new (o := .lst xs) hF)
        refine q1 ca1 _ H1 List.prefix_rfl (Sub.new hF) m2 σ' ⟨by simpa using sl2.1, fun j d e => ?_⟩
        by_cases hj : i = j
        · subst hj
          have hl : i < _ := (List.getElem?_eq_some_iff.mp hi).1
          rw [List.getElem?_set_self hl] at e
          cases e
          refine ⟨_, hv, ?_⟩
          simp only [Rep]
          exact ⟨a, xs, rfl, upd_same, Reps.mono List.prefix_rfl (Sub.new hF) _ _ rs⟩
        · rw [List.getElem?_set_ne hj] at e
          exact sl2.2 j d e
      · exact q1.elim
    · exact q1.elim
  | rt d => exact q1.elim
  | bk e => exact q1.elim
  | ct e => exact q1.elim
end
/-- a def that makes lists of its own that change: behind it they are gone -/
def cutRes (k : Nat) (r : Res D) : Res D := r.bind fun d s1 => if (pureD d && cutOk (s1.take k)) = true then .ok d (s1.take k) else .stuck
theorem spG_cut {g : G} {n : Nat} {f : List D → S → Res D} {vs : List V} {H : Hp} {Q : VK} {E : XK} (h : spG g n (fun ds s => cutRes s.length (f ds s)) vs H Q E) : spG g n f vs H Q E := by
  obtain ⟨ds, ca, F, P, s, hl, m, rs, q⟩ := h
  refine ⟨ds, ca, F, P, s, hl, m, rs, Post.imp (Post.seq0 q) fun d s1 ca1 F1 H1 k1 k2 m1 q1 v rv => ?_⟩
  split at q1
  · rename_i hc
    simp only [Bool.and_eq_true] at hc
    obtain ⟨t, rfl⟩ := k1
    have hlen := m.len
    have m2 := m1.cut (by rw [hlen]; exact cutOk_mem hc.2)
    rw [hlen] at m2
    exact q1 ca F1 H1 List.prefix_rfl k2 m2 v (Rep.bare _ _ hc.1 rv)
  · exact q1.elim
theorem FnCut {Pr : Program} {w : World} {K : PySem.W.Frag} {mg : Str → Option Value} {base : Heap} {CX : CXT} {k : Nat} {fa : Addr} {fd : FuncData} {ps : List Str} {g : G} {n : Nat} {f : List D → S → Res D}
    (F : FnOk Pr w K mg base CX k fa fd ps (spG g n f)) : FnOk Pr w K mg base CX k fa fd ps (spG g n fun ds s => cutRes s.length (f ds s)) := F.imp fun _ _ _ _ h => spG_cut h
end Pm
set_option Elab.async false
set_option linter.all false
set_option maxRecDepth 100000
set_option maxHeartbeats 2000000
namespace Pm
open PySem PySem.Spec PyProof.Rows L2
/-! ### defs where it is known that no repr is under way -/
def FnG (Pr : Program) (w : World) (K : PySem.W.Frag) (mg : Str → Option Value) (base : Heap) (k : Nat) (fa : Addr) (sp : Sp) : Prop :=
  ∀ (A : Around) (outer : List PySem.Env) (s : Shared) (H : Hp) (us : List Value) (vs : List V) (Q : VK) (E : XK), Room k A → A.guards = some [] → Env0 Pr w K mg base A outer s H → Vals vs us → sp vs H Q E →
    codeAny (model Pr w) A (.call (.ref fa) ⟨us, []⟩) (CR (L2.CX Pr w) outer Pr w H s Q E) s
theorem FnG.mono {Pr : Program} {w : World} {K : PySem.W.Frag} {mg : Str → Option Value} {base : Heap} {j k : Nat} {fa : Addr} {sp : Sp} (F : FnG Pr w K mg base j fa sp) (h : j ≤ k) : FnG Pr w K mg base k fa sp :=
  fun A outer s H us vs Q E hr => F A outer s H us vs Q E (hr.mono h)
theorem fnG_of {Pr : Program} {w : World} {K : PySem.W.Frag} {mg : Str → Option Value} {base : Heap} {k : Nat} {fa : Addr} {fd : FuncData} {ps : List Str} {sp : Sp} (F : FnOk Pr w K mg base (L2.CX Pr w) k fa fd ps sp) (hb : Binds K fd ps []) : FnG Pr w K mg base k fa sp :=
  fun A outer s H us vs Q E hr _ e0 rv h => F.raw hb .nil A outer s H us vs Q E hr e0 rv (by simpa using h)
theorem guards_deeper {A : Around} {env : PySem.Env} (h : A.guards = some []) : (A.deeper env).guards = some [] := h
/-- what the body's end is, for the caller -/
theorem end_of {Pr : Program} {w : World} {K : PySem.W.Frag} {mg : Str → Option Value} {base : Heap} {N : List Str} {qual : Str} {scope : Scope} {fa : Addr} {cdv : Value} {A : Around} {outer : List PySem.Env} {s : Shared} {H : Hp} {E : XK} {Q : VK} {fl : Flow} {s' : Shared}
    (hs : SP (cxOf (L2.CX Pr w) Pr w K mg base N qual scope fa cdv A outer s H E) [] { nx := fun _ H' => Q .non H', rt := Q } fl s') :
    match fl with
    | .ret u => CE outer Pr w H s Q u s'
    | .next => CE outer Pr w H s Q .none s'
    | _ => False := by
  cases fl with
  | ret u => obtain ⟨v, _, H', J, rv, q⟩ := hs; exact ⟨v, H', J.os, J.bare, J.base, J.hok, rv, q⟩
  | next => obtain ⟨_, H', J, q⟩ := hs; exact ⟨.non, H', J.os, J.bare, J.base, J.hok, rfl, q⟩
  | brk => obtain ⟨_, _, _, q⟩ := hs; exact q
  | cont => obtain ⟨_, _, _, q⟩ := hs; exact q
theorem fnG_def {Pr : Program} {w : World} {K : PySem.W.Frag} {mg : Str → Option Value} {base : Heap} {g : G} {x qual : Str} {st : Stmt} {fa : Addr} {fd : FuncData} {N ps : List Str} {k n : Nat} {body : Env → S → Res Fl}
    (F : Fun K x qual st fa fd) (Sc : FnScope N ps (defScope st)) (hb : Binds K fd ps []) (hn : n = ps.length)
    (body_ok : ∀ (cdv : Value) (A : Around) (outer : List PySem.Env) (s : Shared) (H : Hp) (E : XK), Room k (A.deeper (envOfC qual (defScope st) s.heap.objs.size fa cdv)) → A.guards = some [] →
      Svs (cxOf (L2.CX Pr w) Pr w K mg base N qual (defScope st) fa cdv A outer s H E) g E (defBody st) body) : FnG Pr w K mg base (k + 1) fa (spG g n (runBody n N.length body)) := by
  intro A outer s H us vs Q E hr hgd e0 rv hsp
  obtain ⟨oc, od, kV, doc, pm, an, cdv, ct, osl, rfl, lk, hcd⟩ := F.ex
  have hvl : vs.length = ps.length := by obtain ⟨_, _, _, _, _, h, _⟩ := hsp; exact h.trans hn
  have hin : K.In s.heap := e0.mod.kin.keeps fun _ _ z => (e0.bs _ _ z).1
  have bound := hb s us hin (by rw [List.append_nil, ← rv.length]; exact hvl)
  rw [List.append_nil] at bound
  refine codeAny_call_function hr.depth (hin fa _ lk) rfl Sc.co Sc.gen rfl (PySem.W.codeRec_of hin hcd) (bound _ _ _ _ (wpAny_newFunctionEnv_cells Sc.kind (fun y hy => ?_) fun env he s1 inb => ?_))
  · have hm := (List.of_mem_zip (a := y.1) (b := y.2) hy).1
    exact (Sc.par y.1 hm).imp id fun c => ⟨c, PySem.W.cellsFrom_some _ _ _ (.inl c)⟩
  · subst he
    obtain ⟨t, pst, ht⟩ := body_run (body_ok cdv A outer s H E (hr.deeper _) hgd) hsp
    have I := inv_start (CX := L2.CX Pr w) (E := E) Sc hr.hd e0 hvl rv inb
    have nolim : s.heap.NoLimit := e0.mod.nolimit.keeps fun _ _ z => (e0.bs _ _ z).1
    refine ⟨nolim.keeps inb.toInCall.keep, codeAny_func (wpAny_mono (pst.run [] s1 _ H _ I ht) (fun fl s' hs => ?_) fun _ _ z => z)⟩
    have := end_of hs
    cases fl with
    | ret u => exact this
    | next => exact this
    | brk => exact this.elim
    | cont => exact this.elim
section
variable {X : Cx} {g : G} {E : XK} {c k n : Nat} {fa : Addr} {ff : List D → S → Res D} {x : Str} {p pos : Pos} {e : Expr} {es : List Expr} {mr : Env → S → Res (List D)}
/-- f(e, ..) of such a def -/
theorem ev_callG (Fk : FnG X.prog X.w X.K X.mg X.base k fa (spG g n ff)) (hr : Room k X.A) (hgd : X.A.guards = some []) (hg : Gl X x) (hm : X.mg x = some (.ref fa)) (hk : PySem.W.keepIn X.K (.ref fa) = true) (hx : Passes (L2.CX X.prog X.w) X E)
    (ha : Ea X g E (e :: es) mr) (hdb : (x == ("__debug__" : Str)) = false := by decide) (he : starEach (e :: es) X.env = (false, eval e X.env) :: starEach es X.env := by rfl) (hpl : (backTo pos (starEach es X.env)).any (·.1) = false := by rfl) :
    Ev X g E (.Call (.Name x p) (e :: es) [] pos) (mCallD (n := n) [] ff mr) := by
  obtain ⟨t, pa, ha⟩ := ha
  refine ⟨fun σ H Q => t σ H fun vs H1 => spG g n ff vs H1 Q E, ⟨fun pins s σ H Q I h => ?_⟩, fun env s ca F P H σ Q m sl q => ?_⟩
  · refine wpAny_Call_Name_kw (ld_glob I hg hm ?_ hdb)
    refine PySem.W.callWith_K (h₀ := X.base) I.ok.mod.kin hk (thn (pa.run pos pins s σ H _ I h) fun us s1 ⟨vs, H1, I1, r, q⟩ => ⟨I1.kIn, ?_⟩) he hpl
    refine wpAny_call (codeAny_mono (Fk X.A X.stack s1 H1 us vs Q E hr hgd I1.env0 r q) fun r s' hq => ?_)
    cases r with
    | error er => exact hx pins σ H1 s1 er s' I1 hq
    | ok fl =>
      cases fl with
      | ret u => exact I1.after hq
      | next => exact False.elim hq
      | brk => exact False.elim hq
      | cont => exact False.elim hq
  · refine ha env s ca F P H σ _ m sl (Post.imp (Post.seq q) fun xs s1 ca1 F1 H1 k1 k2 m1 q1 vs rs => ?_)
    split at q1
    · rename_i hl
      exact spG_of m1 rs (by simpa using hl) (by simpa using q1)
    · exact q1.elim
/-! ### repr of data -/
def bRepr : List D → S → Res D := fun xs s => match xs with
  | [x] => match toPy x with
    | some d => if (SeqAt.shaped d && d.showable && decide (d.shown.length ≤ line)) = true then .ok (.str d.shown) s else .stuck
    | none => .stuck
  | _ => .stuck
def isSeqD : D → Bool
  | .lst _ => true
  | .ro _ => true
  | .tup _ => true
  | .rot _ => true
  | _ => false
theorem toPy_ref {ca : List Addr} {F : Hp} {d : D} {v : V} (h : isSeqD d = true) (r : Rep g ca F d v) : ∃ a, v = .ref a := by
  cases d <;> first | (cases h; done) | (simp only [Rep] at r; obtain ⟨a, _, e, _⟩ := r; exact ⟨a, e⟩)
theorem cd_reprD (hK : g.K = X.K) (hgd : X.A.guards = some []) (hu : X.A.units + 66 < cLine) : CallD X g E (.builtin "repr") (fun xs s => match xs with
    | [x] => if isSeqD x = true then bRepr [x] s else .stuck
    | _ => .stuck) := by
  refine ⟨fun vs H Q => ∃ a d, vs = [.ref a] ∧ Dp X.K H (.ref a) d ∧ SeqAt.shaped d = true ∧ d.showable = true ∧ d.shown.length ≤ sizeLine ∧ Q (.str d.shown) H, fun pins s σ H vs us Q I r h => ?_, fun xs s ca F P H vs Q m rs q => ?_⟩
  · obtain ⟨a, d, rfl, hd, hsh, hsw, hl, q⟩ := h
    obtain ⟨u, rfl, ru⟩ := vals1 r
    cases (show u = Value.ref a from ru)
    obtain ⟨as, hr⟩ := Dp.reads I d _ _ hd rfl
    have hdep := SeqAt.depth_of_shaped hsh
    refine repr_of_reads' hr hsw (PyData.noDict_hsm (PyData.hasDict_of_canLay _ (SeqAt.canLay_of_shaped hsh))) hgd (by omega) (fun _ _ z => z) (fun h' u tk hk => ⟨.str d.shown, H, I.kept hk, ⟨_, rfl⟩, q⟩) hl
  · dsimp only at q
    split at q
    · split at q
      · rename_i x hsq
        unfold bRepr at q
        dsimp only at q
        split at q
        · rename_i d hd
          split at q
          · rename_i hc
            simp only [Bool.and_eq_true, decide_eq_true_eq] at hc
            obtain ⟨v, rfl, r⟩ := reps1 rs
            have hp := dp_of hK m.sub _ _ _ hd r
            obtain ⟨a, rfl⟩ := toPy_ref hsq r
            exact ⟨a, d, rfl, hp, hc.1.1, hc.1.2, line_le hc.2, q.now m _ (by simp only [Rep])⟩
          · exact q.elim
        · exact q.elim
      · exact q.elim
    · exact q.elim
/-! ### x != y of an own class without __ne__ -/
structure NeF (K : PySem.W.Frag) (C : Addr) (f : Addr) : Prop where
  hs : PySem.W.findIn K (.ref C) "__eq__" = some (some (.ref f))
  hf : PySem.W.isFn K (.ref f) = true
  hn : PySem.W.findIn K (.ref C) "__ne__" = some (some (.builtin "object.__ne__"))
  mr : PySem.W.mroIn K C (.type "object") = some true
section
open PySem.W PySem.Builtin
variable {prog : Program} {w : World} {A : Around} {E : Value → Shared → Prop} {s : Shared} {K : Frag} {x y C L f : Addr} {h₀ : Heap} {m : Str → Option Value} {ox oy : Obj} {od od' : Option Obj}
theorem ne_own {Q : Value → Shared → Prop} (hu : A.units + 1 < cLine) (X : K.In s.heap) (I : InstAt s.heap x ox C od) (J : InstAt s.heap y oy C od') (o : NeF K C f)
    (h : wpAny (model prog w) A.in1 (call (.ref f) [.ref x, .ref y]) (fun v s' => ∃ b, v = .bool b ∧ Q (.bool (!b)) s') E s) : wpAny (model prog w) A (compareOp .NotEq (.ref x) (.ref y)) Q E s := by
  have inner : wpAny (model prog w) A (call (.builtin "object.__ne__") [.ref x, .ref y]) (fun v s' => ∃ b, v = .bool b ∧ Q (.bool b) s') E s := by
    refine wpAny_call (codeAny_call_builtin PySem.F.slot_enumerate_ne.plain PySem.F.cmpEntry_ne (check_slot (i := "object.__ne__") (owner := "object") (n := "__ne__") PySem.F.cmpKind_ne PySem.F.cmpSplit_ne (I.type.andThen (looks_mroIn X o.mr)) (PySem.F.cmpArgs_ne _ _) ?_))
    unfold Builtin.«object.__ne__»
    refine wpAny_bind (m := slotArgs "__ne__" 1 _) (wpAny_pure ?_)
    refine wpAny_bind (m := cRoomFor _ _) (wpAny_cRoomFor hu ?_)
    refine wpAny_bind (m := callSpecialIfBound? (.ref x) (Str.ofString "__eq__") [.ref y]) (ifBound_K X I o.hs o.hf (wpAny_mono h (fun r s' hq => ?_) fun _ _ y => y))
    obtain ⟨b, rfl, hq⟩ := hq
    refine wpAny_bind (m := truthy (.bool _)) (wpAny_truthy_bool ?_)
    exact wpAny_pure ⟨_, rfl, hq⟩
  have one : wpAny (model prog w) A (tryCompare (.ref x) "__ne__" (.ref y)) (fun r s' => ∃ v, r = some v ∧ Q v s') E s := by
    unfold tryCompare
    refine wpAny_bind (m := callSpecialIfBound? (.ref x) _ [.ref y]) ?_
    simp only [callSpecialIfBound?, bindSpecialIfBound?]
    refine wpAny_holding (wpAny_bind (wpAny_bind (wpAny_bind (I.type.here ((looks_findIn X o.hn).here ?_)))))
    have hb : bindSpecial (.builtin "object.__ne__") (.ref x) = pure (.builtin "object.__ne__", [.ref x]) := PySem.F.slot_enumerate_ne.bind _
    refine wpAny_bind (wpAny_askSetting (wpAny_ite ?_))
    have fin : wpAny (model prog w) A (call (.builtin "object.__ne__") ([.ref x] ++ [.ref y]) >>= fun v => pure (some v)) (fun r s' => ∃ b, r = some (.bool b) ∧ Q (.bool b) s') E s := wpAny_bind (wpAny_mono inner (fun v s' h' => by obtain ⟨b, rfl, hq⟩ := h'; exact wpAny_pure ⟨b, rfl, hq⟩) fun _ _ h' => h')
    have done : ∀ {r : Option Value} {s' : Shared}, (∃ b, r = some (.bool b) ∧ Q (.bool b) s') → wpAny (model prog w) A (match r with | some .notImplemented => pure none | none => pure none | some v => pure (some v)) (fun r s' => ∃ v, r = some v ∧ Q v s') E s' := fun h' => by
      obtain ⟨b, rfl, hq⟩ := h'
      exact wpAny_pure ⟨_, rfl, hq⟩
    split
    · exact wpAny_bind (wpAny_of_eq hb (wpAny_pure (wpAny_mono fin (fun r s' h' => by obtain ⟨b, rfl, hq⟩ := h'; exact wpAny_pure ⟨_, rfl, hq⟩) fun _ _ z => z)))
    · exact wpAny_tryCatch (wpAny_bind (wpAny_of_eq hb (wpAny_pure (wpAny_mono fin (fun r s' h' => by obtain ⟨b, rfl, hq⟩ := h'; exact wpAny_pure ⟨_, rfl, hq⟩) fun _ _ z => z))))
  refine cmp_ofNotEq ?_
  unfold richCompare
  simp only [oneThing_ref]
  refine wpAny_holding (wpAny_bind (wpAny_cRoomFor (Nat.lt_of_succ_lt hu) ?_))
  refine wpAny_bind (I.type.here (wpAny_bind (J.type.here ?_)))
  rw [show (Value.ref C != Value.ref C) = false from by simp]
  simp only [Bool.false_eq_true, if_false]
  refine wpAny_bind (wpAny_pure ?_)
  simp only [Bool.false_eq_true, if_false]
  refine wpAny_bind (wpAny_mono one (fun r s' z => ?_) fun _ _ e => e)
  obtain ⟨v, rfl, hq⟩ := z
  exact wpAny_pure hq
end
section
variable {X : Cx} {g : G} {E : XK} {CX : CXT} {c k : Nat} {f : Addr} {fd : FuncData} {ps : List Str} {ff : List D → S → Res D}
def neOwn (c : Nat) (ff : List D → S → Res D) : D → D → S → Res D := fun x y s => match x, y with
  | .ins k fs, .ins k' fs' => if k = c ∧ k' = c then (ff [.ins k fs, .ins k' fs'] s).bind (fun d s1 => match d with
    | .bl b => .ok (.bl (!b)) s1
    | _ => .stuck) else .stuck
  | _, _ => .stuck
theorem od_neOwn (o : NeF X.K (g.cls c) f) (Fk : FnOk X.prog X.w X.K X.mg X.base CX k f fd ps (spG g 2 ff)) (hr : Room (k + 1) X.A) (hb : Binds X.K fd ps []) (hx : Passes CX X E) : OpD X g E (compareOp .NotEq) (neOwn c ff) := by
  refine ⟨fun v u H Q => ∃ a b dx dy fs gs, v = .ref a ∧ u = .ref b ∧ H a = some (.ins (g.cls c) dx fs) ∧ H b = some (.ins (g.cls c) dy gs) ∧ spG g 2 ff [v, u] H (fun z H' => ∃ b, z = .bl b ∧ Q (.bl (!b)) H') E, fun pins s σ H x y v u Q I rx ry h => ?_, fun x y s ca F P H v u Q m rx ry q => ?_⟩
  · obtain ⟨a, b, dx, dy, fs, gs, rfl, rfl, ea, eb, h⟩ := h
    cases (show v = Value.ref a from rx)
    cases (show u = Value.ref b from ry)
    obtain ⟨od, J, e⟩ := ins_at I ea
    obtain ⟨od', J', e'⟩ := ins_at I eb
    have hr1 : Room k X.A.in1 := Room.in1 hr
    refine ne_own (by have := hr.units; omega) I.kIn J J' o (wpAny_mono (wpAny_call (SlX.run_at (us := [.ref a, .ref b]) (ws := [.ref a, .ref b]) (Fk.raw hb .nil) hr1 I.env0.in1 hx I (.cons rfl (.cons rfl .nil)) (by rw [List.append_nil]; exact h))) (fun u s' q => ?_) fun _ _ z => z)
    obtain ⟨v, H', I', rv, b', rfl, q⟩ := q
    cases (show u = Value.bool b' from rv)
    exact ⟨b', rfl, .bl (!b'), H', I', rfl, q⟩
  · unfold neOwn at q
    split at q
    · split at q
      · rename_i hk
        obtain ⟨rfl, hk2⟩ := hk
        subst hk2
        have rx' := rx
        have ry' := ry
        simp only [Rep] at rx ry
        obtain ⟨a, dx, xs, rfl, hF, _⟩ := rx
        obtain ⟨b, dy, ys, rfl, hF2, _⟩ := ry
        refine ⟨a, b, dx, dy, _, _, rfl, rfl, m.sub _ _ hF, m.sub _ _ hF2, sp2 m rx' ry' (Post.imp (Post.seq q) fun d s1 ca1 F1 H1 k1 k2 m1 q1 v rv => ?_)⟩
        cases d with
        | bl b =>
          simp only [Rep] at rv
          exact ⟨b, rv, q1.now m1 _ rep_bl⟩
        | _ => exact q1.elim
      · exact q.elim
    · exact q.elim
end
end
end Pm
set_option Elab.async false
set_option linter.all false
set_option maxRecDepth 100000
set_option maxHeartbeats 2000000
namespace Pm
open PySem PySem.Spec PyProof.Rows L2
/-! ### short words for texts that a tool writes -/
open PyProof in
theorem bo_int : bootBuiltins "int" = some (.type "int") := boot_int
open PyProof in
theorem bo_bool : bootBuiltins "bool" = some (.type "bool") := boot_bool
open PyProof in
theorem bo_str : bootBuiltins "str" = some (.type "str") := boot_str
open PyProof in
theorem bo_list : bootBuiltins "list" = some (.type "list") := boot_list
open PyProof in
theorem bo_tuple : bootBuiltins "tuple" = some (.type "tuple") := boot_tuple
open PyProof in
theorem bo_dict : bootBuiltins "dict" = some (.type "dict") := boot_dict
open PyProof in
theorem bo_isinstance : bootBuiltins "isinstance" = some (.builtin "isinstance") := boot_isinstance
open PyProof in
theorem bo_len : bootBuiltins "len" = some (.builtin "len") := boot_len
open PyProof in
theorem bo_abs : bootBuiltins "abs" = some (.builtin "abs") := boot_abs
open PyProof in
theorem bo_max : bootBuiltins "max" = some (.builtin "max") := boot_max
open PyProof in
theorem bo_min : bootBuiltins "min" = some (.builtin "min") := boot_min
open PyProof in
theorem bo_divmod : bootBuiltins "divmod" = some (.builtin "divmod") := boot_divmod
open PyProof in
theorem bo_all : bootBuiltins "all" = some (.builtin "all") := boot_all
open PyProof in
theorem bo_any : bootBuiltins "any" = some (.builtin "any") := boot_any
open PyProof in
theorem bo_repr : bootBuiltins "repr" = some (.builtin "repr") := boot_repr
open PyProof in
theorem bo_sum : bootBuiltins "sum" = some (.builtin "sum") := boot_sum
theorem _root_.L2.Room.un64 {k : Nat} {A : Around} (h : Room k A) : A.units + 64 < cLine := by have := h.un; omega
theorem _root_.L2.Room.un66 {k : Nat} {A : Around} (h : Room k A) : A.units + 66 < cLine := by have := h.un; omega
/-- where nothing may be raised -/
theorem passK {P : Program} {w : World} {X : Cx} : Passes (L2.CX P w) X E0 := fun _ _ _ _ _ _ _ ⟨_, _, _, _, _, _, _, _, _, _, _, _, h⟩ => h.elim
section
variable {X : Cx} {g : G} {E : XK}
def addAll : D → D → S → Res D := fun x y s => (addD x y s).or (addS x y s)
theorem od_addAll : OpD X g E (binaryOp .Add) addAll := od_addD.or od_addS

/-! ### a def of which nothing is known -/
theorem fn_never {P : Program} {w : World} {K : PySem.W.Frag} {mg : Str → Option Value} {base : Heap} {CX : CXT} {k n : Nat} {f : Addr} {fd : FuncData} {ps : List Str} : FnOk P w K mg base CX k f fd ps (spG g n fun _ _ => .stuck) :=
  ⟨fun vs H Q E ⟨_, _, _, _, _, _, _, _, h⟩ => h.elim, fun A outer s H args us vs Q E hr he hb hv ⟨_, _, _, _, _, _, _, _, h⟩ => h.elim⟩
/-! ### the arguments that lack stand by their defaults -/
def BindsV (K : PySem.W.Frag) (fd : FuncData) (ps : List Str) (dvs : List V) : Prop := ∃ ds, Vals dvs ds ∧ Binds K fd ps ds
variable {CX : CXT} {c k n nf : Nat} {f C : Addr} {fd : FuncData} {ps ks : List Str} {ff fi : List D → S → Res D} {x m nm : Str} {p pos apos kpos : Pos} {e o : Expr} {es : List Expr} {kws : List Keyword} {me mo : Env → S → Res D} {mr mk : Env → S → Res (List D)} {dvs : List V} {dds : List D}
theorem ev_makeV (M : Mk X.K (g.cls c) f) (Fk : FnOk X.prog X.w X.K X.mg X.base CX k f fd ps (spG g n fi)) (hnf : nf = (g.fn c).length) (hr : Room (k + 1) X.A) (hg : Gl X x) (hm : X.mg x = some (.ref (g.cls c))) (hb : BindsV X.K fd ps dvs) (hdd : ∀ ca F, Reps g ca F dds dvs) (hx : Passes CX X E)
    (ha : Ea X g E (e :: es) mr) (hdb : (x == ("__debug__" : Str)) = false := by decide) (he : starEach (e :: es) X.env = (false, eval e X.env) :: starEach es X.env := by rfl) (hpl : (backTo pos (starEach es X.env)).any (·.1) = false := by rfl) :
    Ev X g E (.Call (.Name x p) (e :: es) [] pos) (mMake c nf n dds fi mr) := by
  obtain ⟨ds, hd, hb⟩ := hb
  exact ev_make M Fk hnf hr hg hm hb hd hdd hx ha hdb he hpl
theorem ev_makeLV {i : Nat} (M : Mk X.K (g.cls c) f) (Fk : FnOk X.prog X.w X.K X.mg X.base CX k f fd ps (spG g n fi)) (hnf : nf = (g.fn c).length) (hr : Room (k + 1) X.A) (hN : X.N[i]? = some x) (hv : Vis X.env.scope x) (hb : BindsV X.K fd ps dvs) (hdd : ∀ ca F, Reps g ca F dds dvs) (hx : Passes CX X E)
    (ha : Ea X g E (e :: es) mr) (hdb : (x == ("__debug__" : Str)) = false := by decide) (hcd : (x == ("__classdict__" : Str)) = false := by decide) (he : starEach (e :: es) X.env = (false, eval e X.env) :: starEach es X.env := by rfl) (hpl : (backTo pos (starEach es X.env)).any (·.1) = false := by rfl) :
    Ev X g E (.Call (.Name x p) (e :: es) [] pos) (mMakeL i c nf n dds fi mr) := by
  obtain ⟨ds, hd, hb⟩ := hb
  exact ev_makeL M Fk hnf hr hN hv hb hd hdd hx ha hdb hcd he hpl
/-! ### C.m(k = v, ..), a classmethod -/
def mCmK (c n : Nat) (ff : List D → S → Res D) (mo : Env → S → Res D) (mk : Env → S → Res (List D)) : Env → S → Res D := fun env s => (mo env s).bind fun x s1 => match x with
  | .cls k => if k = c then (mk env s1).bind (fun xs s2 => if xs.length + 1 = n then ff (.cls k :: xs) s2 else .stuck) else .stuck
  | _ => .stuck
theorem run_cmKw {pins : List (Addr × Obj)} {σ : L2.St} {H : Hp} {s : Shared} {q : Addr} {Q : VK} {ws : List Value} {zs : List V} {sp : Sp} (F : FnOk X.prog X.w X.K X.mg X.base CX k f fd ps sp) (hr : Room k X.A) (hb : KB X.K fd ps 1 ks) (hx : Passes CX X E)
    (I : Inv X ((q, PySem.W.methodObj (.ref f) (.ref C)) :: pins) σ H s) (rz : Vals zs ws) (hl : ws.length = ks.length) (h : sp (.ref C :: zs) H Q E) : wpAny (model X.prog X.w) X.A (call (.ref q) [] (ks.zip ws)) (EP X pins σ Q) X.xe s := by
  have z : wpAny (model X.prog X.w) X.A (call (.ref q) [] (ks.zip ws)) (EP X ((q, PySem.W.methodObj (.ref f) (.ref C)) :: pins) σ Q) X.xe s := by
    refine wpAny_call (PySem.W.method_call (ClX.pin_at I) (codeAny_mono (F.run X.A X.stack s H ⟨[.ref C], ks.zip ws⟩ (.ref C :: ws) (.ref C :: zs) Q E hr I.env0 (hb s [.ref C] ws I.kIn rfl hl) (.cons rfl rz) h) fun r s' hq => ?_))
    cases r with
    | error e => exact hx _ σ H s e s' I hq
    | ok fl =>
      cases fl with
      | ret u => exact I.after hq
      | next => exact False.elim hq
      | brk => exact False.elim hq
      | cont => exact False.elim hq
  exact thn z fun _ _ y => ClX.unpinE y
theorem ev_cmKw0 {pl : Sem Bool} {mc : Value} {pp : Addr} (he : Ev X g E o mo) (r : ClX.CRead X.K (g.cls c) mc) (cm : ClX.CMet X.K (g.cls c) mc m pp f) (Fk : FnOk X.prog X.w X.K X.mg X.base CX k f fd ps (spG g n ff)) (hr : Room k X.A) (hb : KB X.K fd ps 1 ks) (hn : n = ks.length + 1) (hx : Passes CX X E) (hkw : Ek X g E kws mk)
    (hall : (backToKw pos (keywordEach kws X.env)).all (·.1.isSome) = true := by rfl) (hks : (backToKw pos (keywordEach kws X.env)).filterMap (·.1) = ks := by rfl)
    (hpl : ((backTo pos (starEach [] X.env)).any (·.1) || (backToKw pos (keywordEach kws X.env)).any (·.1.isNone)) = false := by rfl)
    (ht : eval (.Call (.Attribute o m apos) [] kws pos) X.env = (do
      let ov ← eval o X.env
      standAt apos.atName
      let (f, first) ← holding [ov] (getMethod ov m pl)
      callWith pos f first (backTo pos (starEach [] X.env)) (backToKw pos (keywordEach kws X.env))) := by rfl) :
    Ev X g E (.Call (.Attribute o m apos) [] kws pos) (mCmK c n ff mo mk) := by
  obtain ⟨to, po, ho⟩ := he
  obtain ⟨t, pk, hkw⟩ := hkw
  refine ⟨fun σ H Q => to σ H fun x H1 => x = .ref (g.cls c) ∧ t σ H1 fun zs H2 => zs.length = ks.length ∧ spG g n ff (x :: zs) H2 Q E, ⟨fun pins s σ H Q I h => ?_⟩, fun env s ca F P H σ Q m' sl q => ?_⟩
  · refine PySem.W.methodCall_KW (pl := pl) (thn (po.run pins s σ H _ I h) fun u s1 ⟨x, H1, I1, rx, ex, q⟩ => ?_) ht
    subst ex
    obtain rfl : u = Value.ref (g.cls c) := rx
    refine ClX.getmethcm_ok I1 r cm fun s2 I2 => ?_
    refine PySem.W.callWith_of hpl (PySem.W.keeps_M (self := .ref (g.cls c)) cm.fi) (PyProof.Rows.evalArgs_kw2_nil hall (thn (pk.run pos _ s2 σ H1 _ I2 q) fun ws s3 ⟨zs, H2, I3, rz, hl, q2⟩ => ⟨⟨ClX.pin_at I3, I3.kIn⟩, ?_⟩))
    rw [hks]
    exact run_cmKw Fk hr hb hx I3 rz (by rw [← rz.length]; exact hl) q2
  · refine ho env s ca F P H σ _ m' sl (Post.imp (Post.seq q) fun z s1 ca1 F1 H1 k1 k2 m1 q1 v rv => ?_)
    cases z with
    | cls kk =>
      simp only at q1
      split at q1
      · rename_i hk
        subst hk
        have rv' := rv
        simp only [Rep] at rv
        subst rv
        refine ⟨rfl, hkw env s1 ca1 F1 P H1 σ _ m1 (sl.mono k1 k2) (Post.imp (Post.seq q1) fun ys s2 ca2 F2 H2 l1 l2 m2 q2 vs rs2 => ?_)⟩
        split at q2
        · rename_i hl
          exact ⟨by rw [← rs2.length]; omega, spG_of m2 (.cons (Rep.mono l1 l2 _ _ rv') rs2) (by simpa using hl) q2⟩
        · exact q2.elim
      · exact q1.elim
    | _ => exact q1.elim
/-! ### a, b, c = x, y, z -/
theorem reps3 {ca : List Addr} {F : Hp} {a b c : D} {vs : List V} (h : Reps g ca F [a, b, c] vs) : ∃ u v w, vs = [u, v, w] ∧ Rep g ca F a u ∧ Rep g ca F b v ∧ Rep g ca F c w := by
  simp only [Reps] at h
  obtain ⟨u, _, rfl, r1, v, _, rfl, r2, w, _, rfl, r3, rfl⟩ := h
  exact ⟨u, v, w, rfl, r1, r2, r3⟩
def sPar3 (i j l : Nat) (mr : Env → S → Res (List D)) : Env → S → Res Fl := fun env s => (mr env s).bind fun ds s1 => match ds with
  | [x, y, z] => .ok (.nx (((env.set i (some x)).set j (some y)).set l (some z))) s1
  | _ => .stuck
theorem sv_par3 (i j l : Nat) {x y z : Str} {a b d : Expr} {px py pz pt : Pos} {kt k2 pt2} (hc : X.calm = true) (hN : X.N.Nodup) (hi : X.N[i]? = some x) (hj : X.N[j]? = some y) (hl : X.N[l]? = some z) (hij : i ≠ j) (hil : i ≠ l) (hjl : j ≠ l)
    (hx : X.env.scope.names.lookup x = some .local) (hy : X.env.scope.names.lookup y = some .local) (hz : X.env.scope.names.lookup z = some .local) (ha : Ea X g E [a, b, d] mr)
    (hw : swappedStores [.Tuple [.Name x px, .Name y py, .Name z pz] kt pt] (.Tuple [a, b, d] k2 pt2) X.env = pure (some [x, y, z]))
    (hs : swapsWithSole [.Tuple [.Name x px, .Name y py, .Name z pz] kt pt] (.Tuple [a, b, d] k2 pt2) pos.line X.env = pure false := by rfl) :
    Sv X g E (.Assign [.Tuple [.Name x px, .Name y py, .Name z pz] kt pt] (.Tuple [a, b, d] k2 pt2) pos) (sPar3 i j l mr) := by
  obtain ⟨t, p, h⟩ := ha
  refine ⟨_, ps_par3 hc hN hi hj hl hij hil hjl hx hy hz p hw hs, fun env s ca F P H σ Dn m sl q => ?_⟩
  refine h env s ca F P H σ _ m sl (Post.imp (Post.seq q) fun ds s1 ca1 F1 H1 k1 k2 m1 q1 vs rs => ?_)
  split at q1
  · obtain ⟨u, v, w, rfl, r1, r2, r3⟩ := reps3 rs
    exact ⟨u, v, w, rfl, q1.now m1 _ ((((sl.mono k1 k2).set r1).set r2).set r3)⟩
  · exact q1.elim
def MC : Value := .type "type"
end
end Pm
set_option Elab.async false
set_option linter.all false
set_option maxRecDepth 100000
set_option maxHeartbeats 2000000
namespace Pm
open PySem PySem.Spec PyProof.Rows L2
/-! ### the end of a law, for a def that runs where no repr is under way -/
/-- the heap behind the top: the script alone is told, or nothing -/
theorem start_env {P : Program} {w : World} {K : PySem.W.Frag} {mg mb : Str → Option Value} {a : Addr} {t : Shared} {us : List Value} {ns : List Int}
    (hK : K.In t.heap) (hG : t.heap.Ns mainGlobals mg) (hB : t.heap.Ns builtinsNs mb) (hbo : ∀ x : Str, x ≠ "__name__" → mb x = bootBuiltins x) (hN : t.heap.NoLimit) (hgen : t.gens = #[])
    (hobj : t.heap.get? a = some { cls := .type "list", data := .seq us.toArray }) (hints : IntsAre us ns) (hlen : ns.length ≤ sizeLine) :
    ∃ H : Hp, Only H ∧ SqL K H a (ns.map V.int) ∧ Env0 P w K mg (hidT t.heap H) callerA [] t H ∧ K.In (hidT t.heap H) ∧ (hidT t.heap H).Ns mainGlobals mg := by
  have hv : Vals (ns.map V.int) us := vals_ints hints
  -- the common part: a view in which at most the script is told
  have common : ∀ H : Hp, HOk P w H t.heap → (∀ b, H b ≠ none → b = a) → (H a ≠ none → K.lookup a = none) →
      Env0 P w K mg (hidT t.heap H) callerA [] t H ∧ K.In (hidT t.heap H) ∧ (hidT t.heap H).Ns mainGlobals mg := by
    intro H ok only out
    have stays : ∀ {b : Addr} {z : Obj}, t.heap.get? b = some z → H b = none → (hidT t.heap H).get? b = some z := fun p q => hidT_get p q
    have notScript : ∀ {b : Addr} {z : Obj} {q : Array DictEntry} {j : Nat}, t.heap.get? b = some z → z.data = .dict q j → H b = none := by
      intro b z q j p d
      by_cases hb : H b = none
      · exact hb
      · have e := only b hb
        rw [e, hobj] at p
        have e2 := Option.some.inj p
        rw [← e2] at d
        exact absurd (show Data.seq us.toArray _ = Data.dict q j from d) (by intro c; cases c)
    have names : ∀ {b : Addr} {m : Str → Option Value}, t.heap.Ns b m → (hidT t.heap H).Ns b m := by
      intro b m hm
      obtain ⟨z, q, j, p, d, r⟩ := hm
      exact ⟨z, q, j, stays p (notScript p d), d, r⟩
    have kin : K.In (hidT t.heap H) := by
      intro b z e
      refine stays (hK b z e) ?_
      by_cases hb : H b = none
      · exact hb
      · have eb := only b hb
        subst eb
        rw [out hb] at e
        cases e
    refine ⟨⟨rfl, ⟨kin, names hG, ⟨mb, names hB, hbo⟩, ?_⟩, ?_, Nat.le_of_eq (hidT_size _ _), trivial, ?_, ok, .of_eq hgen⟩, kin, names hG⟩
    · obtain ⟨m, p, q⟩ := hN
      exact ⟨m, names p, q⟩
    · intro b z e
      exact of_hidT e
    · intro b hb
      cases hb
  cases hk : K.lookup a with
  | some z =>
    have e := hK a z hk
    rw [hobj] at e
    have e := Option.some.inj e
    subst e
    refine ⟨fun _ => none, fun _ => .inl rfl, .inr ⟨_, us.toArray, _, hk, rfl, rfl, rfl, ?_, ?_⟩, common _ ?_ (fun b q => absurd rfl q) fun q => absurd rfl q⟩
    · rw [List.size_toArray, hints.length]
      exact hlen
    · simpa using hv
    · intro b u q
      have q : (none : Option HO) = some u := q
      cases q
  | none =>
    refine ⟨fun b => if b = a then some (.frz { cls := .type "list", data := .seq us.toArray } (.lst (ns.map V.int))) else none, fun b => ?_, .inl (.inr ⟨{ cls := .type "list", data := .seq us.toArray }, if_pos rfl⟩), common _ ?_ ?_ fun _ => hk⟩
    · by_cases hb : b = a
      · exact .inr ⟨_, _, if_pos hb⟩
      · exact .inl (if_neg hb)
    · intro b u q
      by_cases hb : b = a
      · subst hb
        have q := (if_pos rfl).symm.trans q
        cases q
        exact ⟨hobj, by rw [List.length_map]; exact hlen, us, _, hv, hobj⟩
      · have q := (if_neg hb).symm.trans q
        cases q
    · intro b q
      by_cases hb : b = a
      · exact hb
      · exact absurd (if_neg hb) q
theorem law_callG {P : Program} {w : World} {K : PySem.W.Frag} {mg mb : Str → Option Value} {k : Nat} {fa a : Addr} {sp : Sp} {t : Shared} {us : List Value} {ns : List Int}
    (hK : K.In t.heap) (hG : t.heap.Ns mainGlobals mg) (hB : t.heap.Ns builtinsNs mb) (hbo : ∀ x : Str, x ≠ "__name__" → mb x = bootBuiltins x) (hN : t.heap.NoLimit) (hgen : t.gens = #[])
    (hobj : t.heap.get? a = some { cls := .type "list", data := .seq us.toArray }) (hints : IntsAre us ns) (hlen : ns.length ≤ sizeLine) (hr : Room k callerA)
    (F : ∀ base : Heap, FnG P w K mg base k fa sp) (hsp : ∀ H : Hp, SqL K H a (ns.map V.int) → sp [.ref a] H (fun v _ => v = .bl true) fun _ _ _ => False) :
    codeAny (model P w) callerA (.call (.ref fa) ⟨[.ref a], []⟩) (fun r t' => r = .ok (.ret (.bool true)) ∧ OldK t.heap t'.heap ∧ t'.os = t.os ∧ AllBare t'.gens) t := by
  obtain ⟨H, only, hS, e0, _, _⟩ := start_env (P := P) (w := w) hK hG hB hbo hN hgen hobj hints hlen
  refine codeAny_mono (F _ callerA [] t H [.ref a] [.ref a] (fun v _ => v = .bl true) (fun _ _ _ => False) hr rfl e0 (.cons rfl .nil) (hsp H hS)) ?_
  intro r t' back
  cases r with
  | error z =>
    obtain ⟨_, _, _, _, _, _, _, _, _, _, _, _, no⟩ := back
    exact no.elim
  | ok fl =>
    cases fl with
    | ret u =>
      obtain ⟨v, H', hos, hbare, un, ok', rv, ev⟩ := back
      have ev : v = .bl true := ev
      subst ev
      have eu : u = Value.bool true := rv
      subst eu
      refine ⟨rfl, OldK.of_keep fun b z p => ?_, hos, hbare⟩
      have noMem : ¬ b ∈ ([] : List Addr) := by simp
      by_cases hb : H b = none
      · exact un.keep b z p hb (fun q => absurd (show b ∈ ([] : List Addr) from q) noMem) noMem
      · rcases only b with q | ⟨zz, xs, q⟩
        · exact absurd q hb
        · have p1 := (e0.hok b _ q).1
          have p2 := (ok' b _ (un.frzs b zz _ q)).1
          rw [p] at p1
          cases p1
          exact p2
    | next => exact False.elim back
    | brk => exact False.elim back
    | cont => exact False.elim back
/-- THE END: the law's def by its mirror, and the mirror's answer at every script -/
theorem walkG {l : PySem.W.OpenLaw} {n k : Nat} {q : Program} {loose : List Str} {XP : (Str → Option Value) → Heap → Prop} {YP : World → Heap → Prop} {d : DefRec} {m : List D → S → Res D}
    (hn : l.most = some n) (hn2 : n ≤ sizeLine) (hdf : d.params.defaults = []) (hr : Room k callerA)
    (F : ∀ (w : World) (mg : Str → Option Value) (fa : Addr) (h : Heap), YP w h → h.Ns mainGlobals mg → mg d.name = some (.ref fa) → ∃ (K : PySem.W.Frag) (g : G), K.In h ∧ g.K = K ∧ ∀ base : Heap, FnG l.prog w K mg base k fa (spG g 1 m))
    (ans : ∀ ns : List Int, ns.length ≤ n → ∃ s, m [.ro (ns.map D.int)] [] = .ok (.bl true) s) :
    PySem.W.WalkO q loose XP YP l.row.toRowW d [] (fun f vs => PySem.call f vs) := by
  refine Att.attach_call hn hdf fun w t0 t mg mb fa o pm cd doc a us ns Gr Y ho hd hcd hmg hobj hints hlen hgen => ?_
  obtain ⟨K, g, hK, eg, FG⟩ := F w mg fa _ Y Gr.T.g hmg
  refine law_callG hK Gr.T.g Gr.T.b Gr.T.builtins Gr.T.nolimit hgen hobj hints (Nat.le_trans hlen hn2) hr FG fun H hS => ?_
  obtain ⟨s, e⟩ := ans ns hlen
  have allI : ∀ l : List Int, Reps g [] H (l.map D.int) (l.map V.int) := by
    intro l
    induction l with
    | nil => exact .nil
    | cons i l ih => exact .cons rep_int ih
  have sim0 : Sim g [] H (fun _ => none) [] H := by
    refine ⟨Sub.refl _, ?_, ?_, rfl, ?_, ?_, ?_⟩
    · intro b z q
      have q : (none : Option HO) = some z := q
      cases q
    · intro b z q
      have q : (none : Option HO) = some z := q
      cases q
    · intro i j b q
      simp at q
    · intro i b q
      simp at q
    · intro i b c q
      simp at q
  refine ⟨[.ro (ns.map D.int)], [], H, fun _ => none, [], rfl, sim0, ?_, ?_⟩
  · refine .cons ?_ .nil
    simp only [Rep]
    exact ⟨a, ns.map V.int, rfl, by rw [eg]; exact hS, allI ns⟩
  · rw [e]
    intro ca' F' H' _ _ _ v rv
    simpa only [Rep] using rv
end Pm
set_option Elab.async false
set_option linter.all false
set_option maxRecDepth 100000
set_option maxHeartbeats 2000000
namespace Pm
open PySem PySem.Spec PyProof.Rows L2
/-! ### what the top has left, by names: one look at the written part -/
abbrev Fr' := PySem.W.Frag
/-- a def: its place, its names, its text, its defaults -/
structure DefP where
  place : Fr' → Addr
  nm : Str
  qn : Str
  st : Stmt
  dv : List V := []
def DefP.see (K : Fr') (p : DefP) : He.FnW :=
  match K.lookup (p.place K) with
  | some ⟨_, _, .func z, _⟩ => some (z.name, z.qualname, z.params, z.body, z.scope, z.globals, z.closure, z.builtins)
  | _ => none
def DefP.due (p : DefP) : He.FnW := some (p.nm, p.qn, defArgs p.st, .stmts (defBody p.st), defScope p.st, mainGlobals, [], builtinsNs)
def DefP.fine (K : Fr') (p : DefP) : Bool :=
  PySem.W.keepIn K (.ref (p.place K)) &&
    match K.lookup (p.place K) with
    | some ⟨_, _, .func z, _⟩ => PySem.W.codeIn K z.code p.qn && (He.dflB K z.defaults p.dv && He.kwdB K z.kwdefaults [])
    | _ => false
theorem and2 {a b : Bool} (h : (a && b) = true) : a = true ∧ b = true := by simpa using h
theorem DefP.fund {K : Fr'} {p : DefP} (e : p.see K = p.due) (c : p.fine K = true) : ∃ fd, FunD K p.nm p.qn (defArgs p.st) (defBody p.st) (defScope p.st) p.dv [] (p.place K) fd := by
  obtain ⟨kp, c⟩ := and2 c
  unfold DefP.see DefP.due at e
  split at e
  · rename_i oc od z sl lk
    rw [lk] at c
    obtain ⟨c1, c⟩ := and2 c
    obtain ⟨c2, c3⟩ := and2 c
    cases z
    simp only [Option.some.injEq, Prod.mk.injEq] at e
    obtain ⟨e1, e2, e3, e4, e5, e6, e7, e8⟩ := e
    subst e1 e2 e3 e4 e5 e6 e7 e8
    exact ⟨_, ⟨_, _, _, _, _, _, _, _, _, _, rfl, lk, c1, He.dflB_ok c2, He.kwdB_ok c3⟩, kp⟩
  · cases e
theorem fun_of {K : Fr'} {x q : Str} {st : Stmt} {f : Addr} {fd : FuncData} (F : FunD K x q (defArgs st) (defBody st) (defScope st) [] [] f fd) : Fun K x q st f fd := by
  obtain ⟨⟨oc, od, dV, kV, doc, pm, an, cdv, ct, sl, e, lk, hc, hD, _⟩, kp⟩ := F
  rcases hD with ⟨_, rfl⟩ | ⟨no, _⟩
  · exact ⟨⟨oc, od, kV, doc, pm, an, cdv, ct, sl, e, lk, hc⟩, kp⟩
  · exact absurd rfl no
abbrev AlP : Type := List He.FnW × Bool
def adP (g : Addr → Option Obj) : Nat → List Addr
  | 0 => [mainGlobals, cStatics]
  | n + 1 => He.growD g (adP g n)
def obsP (n : Nat) (ds : List DefP) (fs : List (Fr' → Bool)) (g : Addr → Option Obj) : AlP :=
  let K := He.frG g (adP g n)
  (ds.map (DefP.see K), ds.all (DefP.fine K) && fs.all (fun f => f K))
def valP (ds : List DefP) : AlP := (ds.map DefP.due, true)
structure SaysP (ds : List DefP) (fs : List (Fr' → Bool)) (K : Fr') : Prop where
  see : ds.map (DefP.see K) = ds.map DefP.due
  fine : ds.all (DefP.fine K) = true
  fs : fs.all (fun f => f K) = true
def hookP (n : Nat) (ds : List DefP) (fs : List (Fr' → Bool)) : PySem.W.Hook where
  α := AlP
  obs := fun s => obsP n ds fs s.heap.get?
  val := fun _ => valP ds
  says := fun _ h => ∃ K : Fr', K.In h ∧ SaysP ds fs K
  of := fun _ _ e => ⟨_, He.frG_in, congrArg (fun z : AlP => z.1) e, (and2 (congrArg (fun z : AlP => z.2) e)).1, (and2 (congrArg (fun z : AlP => z.2) e)).2⟩
  keeps := fun _ _ _ ⟨K, k1, k2⟩ k => ⟨K, PySem.W.Frag.In.keeps k1 k, k2⟩
theorem obsP_eq {n : Nat} {ds : List DefP} {fs : List (Fr' → Bool)} {g : Addr → Option Obj} {s : Shared} (h : ∀ a, g a = s.heap.get? a) : obsP n ds fs g = (hookP n ds fs).obs s :=
  congrArg (obsP n ds fs) (funext h)
theorem SaysP.fact {ds : List DefP} {fs : List (Fr' → Bool)} {K : Fr'} (c : SaysP ds fs K) (i : Nat) {f : Fr' → Bool} (h : fs[i]? = some f) : f K = true :=
  List.all_eq_true.mp c.fs f (List.mem_of_getElem? h)
theorem SaysP.fund {ds : List DefP} {fs : List (Fr' → Bool)} {K : Fr'} (c : SaysP ds fs K) (i : Nat) {p : DefP} (h : ds[i]? = some p) : ∃ fd, FunD K p.nm p.qn (defArgs p.st) (defBody p.st) (defScope p.st) p.dv [] (p.place K) fd := by
  have e := congrArg (fun l => l[i]?) c.see
  simp only [List.getElem?_map, h, Option.map_some, Option.some.injEq] at e
  exact DefP.fund e (List.all_eq_true.mp c.fine p (List.mem_of_getElem? h))
/-! ### places -/
def pG (x : Str) : Fr' → Addr := fun K => He.ga K x
def pM (C m : Str) : Fr' → Addr := fun K => He.ma K (He.ga K C) m
def pRec (T : String) (p : Fr' → Addr) : Fr' → Addr := fun K =>
  match PySem.W.recIn K (p K) T with
  | some (.ref g :: _) => g
  | _ => 0
def pCm (C m : Str) : Fr' → Addr := fun K =>
  match PySem.W.findCls K (.ref (He.ga K C)) MC m with
  | some (.get _ (.ref p) _ _) => p
  | _ => 0
/-! ### facts, each a look -/
def faA (f : He.Fa) : Fr' → Bool := fun K => f.ok K
def faB (x : Str) (id : String) : Fr' → Bool := fun K => He.eqO (PySem.W.nsIn K mainGlobals x) (some (some (.builtin id)))
theorem faB_ok {K : Fr'} {h : Heap} {mg : Str → Option Value} (X : K.In h) (G : h.Ns mainGlobals mg) {x : Str} {id : String} (c : faB x id K = true) : mg x = some (.builtin id) := PySem.W.mg_of X G (He.eqO_ok c)
def faP (C m : Str) : Fr' → Bool := fun K =>
  He.eqO (PySem.W.findIn K (.ref (He.ga K C)) m) (some (some (.ref (pM C m K)))) &&
  (He.eqO (PySem.W.specialIn K (.ref (pM C m K)) "__get__") (some (some (.builtin "property.__get__"))) &&
  (decide (PySem.W.takesIn K (.ref (pM C m K)) = some true) &&
  match PySem.W.recIn K (pM C m K) "property" with
  | some (.ref _ :: _) => true
  | _ => false))
theorem faP_ok {K : Fr'} {C m : Str} (c : faP C m K = true) : PropOf K (He.ga K C) m (pM C m K) (pRec "property" (pM C m) K) := by
  obtain ⟨c1, c⟩ := and2 c
  obtain ⟨c2, c⟩ := and2 c
  obtain ⟨c3, c4⟩ := and2 c
  refine ⟨He.eqO_ok c1, He.eqO_ok c2, of_decide_eq_true c3, ?_⟩
  unfold pRec
  split at c4
  · rename_i g r e
    exact ⟨r, by rw [e]⟩
  · cases c4
def faC (C m : Str) : Fr' → Bool := fun K =>
  (match PySem.W.findCls K (.ref (He.ga K C)) MC m with
  | some (.get g (.ref _) z c) => decide (g = .builtin "classmethod.__get__" ∧ z = .none ∧ c = .ref (He.ga K C))
  | _ => false) &&
  ((match PySem.W.recIn K (pCm C m K) "classmethod" with
  | some (.ref _ :: _) => true
  | _ => false) && PySem.W.fnIn K (pRec "classmethod" (pCm C m) K))
theorem faC_ok {K : Fr'} {C m : Str} (c : faC C m K = true) : ClX.CMet K (He.ga K C) MC m (pCm C m K) (pRec "classmethod" (pCm C m) K) := by
  obtain ⟨c1, c⟩ := and2 c
  obtain ⟨c2, c3⟩ := and2 c
  refine ⟨?_, ?_, c3⟩
  · unfold pCm
    split at c1
    · rename_i g p z c e
      obtain ⟨rfl, rfl, rfl⟩ := of_decide_eq_true c1
      rw [e]
    · cases c1
  · unfold pRec
    split at c2
    · rename_i g r e
      exact ⟨r, by rw [e]⟩
    · cases c2
def faR (C : Str) : Fr' → Bool := fun K => PySem.W.readsIn K (He.ga K C) MC && He.eqO (PySem.W.specialIn K (.ref (He.ga K C)) "__getattribute__") (some (some (.builtin "type.__getattribute__")))
theorem faR_ok {K : Fr'} {C : Str} (c : faR C K = true) : ClX.CRead K (He.ga K C) MC := ⟨(and2 c).1, He.eqO_ok (and2 c).2⟩
def faI (C : Str) : Fr' → Bool := fun K =>
  (He.Fa.cls C).ok K && (He.eqO (PySem.W.findIn K (.ref (He.ga K C)) "__class__") (some (some (.builtin "object.__class__"))) &&
  (He.eqO (PySem.W.specialIn K (.builtin "object.__class__") "__get__") (some (some (.builtin "getset_descriptor.__get__"))) &&
  (decide (PySem.W.takesIn K (.builtin "object.__class__") = some true) && decide (PySem.W.mroIn K (He.ga K C) (.type "object") = some true))))
theorem faI_ok {K : Fr'} {C : Str} (c : faI C K = true) : IsF K (He.ga K C) := by
  obtain ⟨c1, c⟩ := and2 c
  obtain ⟨c2, c⟩ := and2 c
  obtain ⟨c3, c⟩ := and2 c
  obtain ⟨c4, c5⟩ := and2 c
  exact ⟨He.cls_ok c1, He.eqO_ok c2, He.eqO_ok c3, of_decide_eq_true c4, of_decide_eq_true c5⟩
/-- the own classes for isinstance -/
def faK (Cs : List Str) : Fr' → Bool := fun K =>
  Cs.all (fun C => faI C K && (["int", "bool", "str", "list", "tuple", "dict"].all (fun t => decide (PySem.W.kitOne K (.ref (He.ga K C)) (.type t) = some false)) &&
    ["NoneType", "bool", "int", "str", "list", "tuple", "dict"].all (fun t => decide (PySem.W.kitOne K (.type t) (.ref (He.ga K C)) = some false)))) &&
  (List.range Cs.length).all fun i => (List.range Cs.length).all fun j => decide (PySem.W.kitOne K (.ref (He.ga K (Cs.getD i ""))) (.ref (He.ga K (Cs.getD j ""))) = some (i == j))
theorem faK_ok {K : Fr'} {Cs : List Str} {g : G} (hg : ∀ i, i < Cs.length → g.cls i = He.ga K (Cs.getD i "")) (c : faK Cs K = true) : ClsF K g Cs.length := by
  obtain ⟨c1, c2⟩ := and2 c
  have each : ∀ i, i < Cs.length → faI (Cs.getD i "") K = true ∧ (["int", "bool", "str", "list", "tuple", "dict"].all (fun t => decide (PySem.W.kitOne K (.ref (He.ga K (Cs.getD i ""))) (.type t) = some false)) = true ∧
      ["NoneType", "bool", "int", "str", "list", "tuple", "dict"].all (fun t => decide (PySem.W.kitOne K (.type t) (.ref (He.ga K (Cs.getD i ""))) = some false)) = true) := by
    intro i hi
    have hm : Cs.getD i "" ∈ Cs := by
      have e : Cs.getD i "" = Cs[i] := by simp [List.getD_eq_getElem?_getD, hi]
      rw [e]
      exact List.getElem_mem hi
    have z := List.all_eq_true.mp c1 _ hm
    exact ⟨(and2 z).1, and2 (and2 z).2⟩
  refine ⟨fun i hi => by rw [hg i hi]; exact faI_ok (each i hi).1, fun i t hi => ?_, fun i t x hi e => ?_, fun i j hi hj => ?_⟩
  · rw [hg i hi]
    exact of_decide_eq_true (List.all_eq_true.mp (each i hi).2.1 t.name (by cases t <;> decide))
  · rw [hg i hi]
    refine of_decide_eq_true (List.all_eq_true.mp (each i hi).2.2 x ?_)
    cases t <;> cases e <;> decide
  · rw [hg i hi, hg j hj]
    exact of_decide_eq_true (List.all_eq_true.mp (List.all_eq_true.mp c2 i (List.mem_range.mpr hi)) j (List.mem_range.mpr hj))
/-- own operators -/
def faO (C f r : Str) : Fr' → Bool := fun K =>
  PySem.W.selfFirst K (He.ga K C) && ((He.Fa.meth C f).ok K && ((He.Fa.meth C r).ok K && ((PySem.W.findIn K (.type "int") f).isSome && ((PySem.W.findIn K (.type "int") r).isSome &&
  (decide (PySem.W.subIn K (.type "int") (.ref (He.ga K C)) = some false) && decide (PySem.W.subIn K (.ref (He.ga K C)) (.type "int") = some false))))))
theorem faO_ok {K : Fr'} {C f r : Str} {op : Operator} {id : String} (c : faO C f r K = true) (hf : PySem.dunder op.info.2 = f) (hr : dunderR op.info.2 = r) (sl : Slot "int" f id) (fi : fillsNumberSlot (.type "int") op.info.2 = pure true) (de : Declines id (He.ga K C)) :
    OpF K (He.ga K C) op (pM C f K) (pM C r K) id := by
  obtain ⟨c1, c⟩ := and2 c
  obtain ⟨c2, c⟩ := and2 c
  obtain ⟨c3, c⟩ := and2 c
  obtain ⟨c4, c⟩ := and2 c
  obtain ⟨c5, c⟩ := and2 c
  obtain ⟨c6, c7⟩ := and2 c
  have mf := He.meth_ok c2
  have mr := He.meth_ok c3
  subst hf hr
  exact ⟨c1, mf.at_, mf.fn, mr.at_, mr.fn, Option.isSome_iff_exists.mp c4, Option.isSome_iff_exists.mp c5, of_decide_eq_true c6, of_decide_eq_true c7, sl, fi, de⟩
def faE (C : Str) : Fr' → Bool := fun K => (He.Fa.meth C "__eq__").ok K && (decide (PySem.W.subIn K (.type "int") (.ref (He.ga K C)) = some false) && (decide (PySem.W.subIn K (.ref (He.ga K C)) (.type "int") = some false) &&
  (He.eqO (PySem.W.findIn K (.ref (He.ga K C)) "__ne__") (some (some (.builtin "object.__ne__"))) && decide (PySem.W.mroIn K (He.ga K C) (.type "object") = some true))))
theorem faE_ok {K : Fr'} {C : Str} (c : faE C K = true) : EqF K (He.ga K C) (pM C "__eq__" K) ∧ NeF K (He.ga K C) (pM C "__eq__" K) := by
  obtain ⟨c1, c⟩ := and2 c
  obtain ⟨c2, c⟩ := and2 c
  obtain ⟨c3, c⟩ := and2 c
  obtain ⟨c4, c5⟩ := and2 c
  have m := He.meth_ok c1
  exact ⟨⟨m.at_, m.fn, of_decide_eq_true c2, of_decide_eq_true c3⟩, ⟨m.at_, m.fn, He.eqO_ok c4, of_decide_eq_true c5⟩⟩
/-! ### how arguments bind -/
theorem kb_of {K : Fr'} {x q : Str} {pa : Arguments} {bo : List Stmt} {sc : Scope} {dv : List V} {f : Addr} {fd : FuncData} {ps ks : List Str} {n : Nat} (F : FunD K x q pa bo sc dv [] f fd) (hd : dv ≠ [])
    (h : ∀ (T : Addr) (kV doc pm : Value) (an : Option Addr) (cdv ct : Value) (us ws its : List Value), us.length = n → ws.length = ks.length → its.length = dv.length →
      ∃ k, bindArgs (PySem.W.fnOf x q pa bo sc (.ref T) kV doc pm an cdv ct) ⟨us, ks.zip ws⟩ = seqItems? (.ref T) >>= k ∧ k (some its.toArray) = pure (ps.zip (us ++ ws))) : KB K fd ps n ks := by
  obtain ⟨oc, od, dV, kV, doc, pm, an, cdv, ct, sl, rfl, lk, hc, hD, _⟩ := F.ex
  rcases hD with ⟨no, _⟩ | ⟨_, T, o, its, m, rfl, lT, oT, rT⟩
  · exact absurd no hd
  · intro s us ws X hu hw
    obtain ⟨k, k1, k2⟩ := h T kV doc pm an cdv ct us ws its hu hw rT.length.symm
    exact PySem.W.binds_K X rfl lT oT k1 k2
theorem kb0_of {K : Fr'} {x q : Str} {st : Stmt} {f : Addr} {fd : FuncData} {ps ks : List Str} {n : Nat} (F : Fun K x q st f fd)
    (h : ∀ (kV doc pm : Value) (an : Option Addr) (cdv ct : Value) (us ws : List Value), us.length = n → ws.length = ks.length →
      bindArgs (PySem.W.fnOf x q (defArgs st) (defBody st) (defScope st) .none kV doc pm an cdv ct) ⟨us, ks.zip ws⟩ = pure (ps.zip (us ++ ws))) : KB K fd ps n ks := by
  obtain ⟨oc, od, kV, doc, pm, an, cdv, ct, sl, rfl, lk, hc⟩ := F.ex
  intro s us ws X hu hw
  exact .of_eq (h kV doc pm an cdv ct us ws hu hw)
end Pm
set_option Elab.async false
set_option linter.all false
set_option maxRecDepth 100000
set_option maxHeartbeats 2000000
/-! truth, is, slices, chains, stars; min, sum, count of data -/
namespace Pm
open PySem PySem.Spec PyProof.Rows L2
section
variable {X : Cx} {g : G} {E : XK} {a b c e : Expr} {es rest : List Expr} {ma mb mc me mo : Env → S → Res D} {mr : Env → S → Res (List D)} {pos apos : Pos}

/-! ### truth -/
def truD (s : S) : D → Option Bool
  | .non => some false
  | .bl b => some b
  | .int i => some (i != 0)
  | .lst ds => some (!ds.isEmpty)
  | .ro ds => some (!ds.isEmpty)
  | .tup ds => some (!ds.isEmpty)
  | .rot ds => some (!ds.isEmpty)
  | .cell k => match s[k]? with
    | some (.lst ds) => some (!ds.isEmpty)
    | _ => none
  | _ => none
theorem reps_empty {ca : List Addr} {F : Hp} {ds : List D} {vs : List V} (r : Reps g ca F ds vs) : (!ds.isEmpty) = !vs.isEmpty := by
  have := r.length
  cases ds <;> cases vs <;> simp_all
theorem tru_rep (hK : g.K = X.K) {ca : List Addr} {F P H : Hp} {s : S} {d : D} {k : Bool} {v : V} (m : Sim g ca F P s H) (h : truD s d = some k) (r : Rep g ca F d v) : TruV X.K v H k := by
  unfold truD at h
  split at h
  · cases h; simp only [Rep] at r; subst r; rfl
  · cases h; simp only [Rep] at r; subst r; rfl
  · cases h; simp only [Rep] at r; subst r; rfl
  · cases h; simp only [Rep] at r; obtain ⟨a, xs, rfl, hF, rs⟩ := r; exact .inl ⟨xs, .of (m.sub _ _ hF), reps_empty rs⟩
  · cases h; simp only [Rep] at r; obtain ⟨a, xs, rfl, hF, rs⟩ := r; exact .inl ⟨xs, hK ▸ same_l m.sub hF, reps_empty rs⟩
  · cases h; simp only [Rep] at r; obtain ⟨a, xs, rfl, hF, rs⟩ := r; exact .inr (.inl ⟨xs, .of (m.sub _ _ hF), reps_empty rs⟩)
  · cases h; simp only [Rep] at r; obtain ⟨a, xs, rfl, hF, rs⟩ := r; exact .inr (.inl ⟨xs, hK ▸ same_t m.sub hF, reps_empty rs⟩)
  · split at h
    · rename_i hk
      cases h
      simp only [Rep] at r
      obtain ⟨a, rfl, ha⟩ := r
      obtain ⟨xs, hH, rs⟩ := m.cellL ha hk
      exact .inl ⟨xs, .of hH, reps_empty rs⟩
    · cases h
  · cases h
def mBt (f : Env → S → Res D) : Env → S → Res Bool := fun env s => (f env s).bind fun x s1 => match truD s1 x with
  | some b => .ok b s1
  | none => .stuck
theorem et_tru (hK : g.K = X.K) (h : Ev X g E e me) (he : ∀ whole, isTrue e X.env whole = (do let v ← whole; standAt e.pos; holding [v] (truthy v)) := by intro _; rfl) : Et X g E e (mBt me) := by
  obtain ⟨t, p, h⟩ := h
  refine ⟨_, pt_truth p he, fun env s ca F P H σ Q m sl q => ?_⟩
  refine h env s ca F P H σ _ m sl (Post.imp (Post.seq q) fun x s1 ca1 F1 H1 _ _ m1 q v rv => ?_)
  split at q
  · rename_i b hb
    exact ⟨b, tru_rep hK m1 hb rv, q.now m1⟩
  · exact q.elim
/-- not e, by e's truth -/
def mNotV (me : Env → S → Res D) : Env → S → Res D := fun env s => (me env s).bind fun x s1 => match truD s1 x with
  | some b => .ok (.bl (!b)) s1
  | none => .stuck
theorem ev_notV (hK : g.K = X.K) (h : Ev X g E a ma) : Ev X g E (.UnaryOp .Not a pos) (mNotV ma) := by
  obtain ⟨t, p, h⟩ := h
  refine ⟨_, pe_notT p, fun env s ca F P H σ Q m sl q => ?_⟩
  refine h env s ca F P H σ _ m sl (Post.imp (Post.seq q) fun x s1 ca1 F1 H1 _ _ m1 q v rv => ?_)
  split at q
  · rename_i b hb
    exact ⟨b, tru_rep hK m1 hb rv, q.now m1 _ rfl⟩
  · exact q.elim

/-! ### is, is not: None, True, False -/
def isNon : D → Bool
  | .non => true
  | _ => false
theorem isNon_rep {ca : List Addr} {F : Hp} {d : D} {v : V} (r : Rep g ca F d v) : decide (v = V.non) = isNon d := by
  cases d <;> simp only [Rep] at r
  case non => subst r; rfl
  case bl => subst r; exact decide_eq_false (by intro h; cases h)
  case int => subst r; exact decide_eq_false (by intro h; cases h)
  case str => subst r; exact decide_eq_false (by intro h; cases h)
  case lst => obtain ⟨a, xs, rfl, _⟩ := r; exact decide_eq_false (by intro h; cases h)
  case ro => obtain ⟨a, xs, rfl, _⟩ := r; exact decide_eq_false (by intro h; cases h)
  case tup => obtain ⟨a, xs, rfl, _⟩ := r; exact decide_eq_false (by intro h; cases h)
  case rot => obtain ⟨a, xs, rfl, _⟩ := r; exact decide_eq_false (by intro h; cases h)
  case ins => obtain ⟨a, dx, xs, rfl, _⟩ := r; exact decide_eq_false (by intro h; cases h)
  case cell => obtain ⟨a, rfl, _⟩ := r; exact decide_eq_false (by intro h; cases h)
  case cls => subst r; exact decide_eq_false (by intro h; cases h)
  case ty => subst r; exact decide_eq_false (by intro h; cases h)
  case mty => obtain ⟨a, rfl, _⟩ := r; exact decide_eq_false (by intro h; cases h)
def isF (neg : Bool) : D → D → S → Res D := fun x y s => match y with
  | .non => .ok (.bl (if neg then !isNon x else isNon x)) s
  | _ => .stuck
def isB (neg : Bool) : D → D → S → Res D := fun x y s => match x, y with
  | .bl a, .bl b => .ok (.bl (if neg then !decide (a = b) else decide (a = b))) s
  | _, _ => .stuck
def isD (neg : Bool) : D → D → S → Res D := fun x y s => (isF neg x y s).or (isB neg x y s)
theorem od_is : OpD X g E (compareOp .Is) (isD false) := by
  refine OpD.or ⟨_, op_isN, fun x y s ca F P H v u Q m rx ry p => ?_⟩ ⟨_, op_isBl, fun x y s ca F P H v u Q m rx ry p => ?_⟩
  · unfold isF at p
    split at p
    · simp only [Rep] at ry
      exact ⟨ry, p.now m _ (by rw [isNon_rep rx]; exact rfl)⟩
    · exact p.elim
  · unfold isB at p
    split at p
    · simp only [Rep] at rx ry
      exact ⟨_, _, rx, ry, p.now m _ rfl⟩
    · exact p.elim
theorem od_isnot : OpD X g E (compareOp .IsNot) (isD true) := by
  refine OpD.or ⟨_, op_notN, fun x y s ca F P H v u Q m rx ry p => ?_⟩ ⟨_, op_notBl, fun x y s ca F P H v u Q m rx ry p => ?_⟩
  · unfold isF at p
    split at p
    · simp only [Rep] at ry
      exact ⟨ry, p.now m _ (by rw [isNon_rep rx]; exact rfl)⟩
    · exact p.elim
  · unfold isB at p
    split at p
    · simp only [Rep] at rx ry
      exact ⟨_, _, rx, ry, p.now m _ rfl⟩
    · exact p.elim

/-! ### slices of lists -/
def Eo (X : Cx) (g : G) (E : XK) (o : Option Expr) (m : Env → S → Res (Option Int)) : Prop :=
  ∃ t : TO, PO X o t ∧ ∀ (env : Env) (s : S) (ca : List Addr) (F P H : Hp) (σ : L2.St) (Q : Option Int → Hp → Prop), Sim g ca F P s H → Slots g ca F env σ →
    Post g ca F P E (fun i _ _ _ H' => Q i H') (m env s) → t σ H Q
def oN : Env → S → Res (Option Int) := fun _ s => .ok none s
def oS (me : Env → S → Res D) : Env → S → Res (Option Int) := fun env s => (me env s).bind fun x s1 => match x with
  | .int i => .ok (some i) s1
  | _ => .stuck
theorem eo_n : Eo X g E none oN := ⟨_, po_none, fun env s ca F P H σ Q m sl q => q.now m⟩
theorem eo_s (h : Ev X g E e me) : Eo X g E (some e) (oS me) := by
  obtain ⟨t, p, h⟩ := h
  refine ⟨_, po_some p, fun env s ca F P H σ Q m sl q => ?_⟩
  refine h env s ca F P H σ _ m sl (Post.imp (Post.seq q) fun x s1 ca1 F1 H1 _ _ m1 q v rv => ?_)
  cases x with
  | int i => simp only [Rep] at rv; exact ⟨i, rv, q.now m1⟩
  | _ => exact q.elim
def lisOf (s : S) : D → Option (List D)
  | .lst ds => some ds
  | .ro ds => some ds
  | .cell k => match s[k]? with
    | some (.lst ds) => some ds
    | _ => none
  | _ => none
theorem lis_rep {K : PySem.W.Frag} (hK : g.K = K) {ca : List Addr} {F P H : Hp} {s : S} {d : D} {ds : List D} {v : V} (m : Sim g ca F P s H) (h : lisOf s d = some ds) (r : Rep g ca F d v) : ∃ a xs, v = .ref a ∧ SqL K H a xs ∧ Reps g ca F ds xs := by
  unfold lisOf at h
  split at h
  · cases h; simp only [Rep] at r; obtain ⟨a, xs, rfl, hF, rs⟩ := r; exact ⟨a, xs, rfl, .of (m.sub _ _ hF), rs⟩
  · cases h; simp only [Rep] at r; obtain ⟨a, xs, rfl, hF, rs⟩ := r; exact ⟨a, xs, rfl, hK ▸ same_l m.sub hF, rs⟩
  · split at h
    · rename_i hk
      cases h
      simp only [Rep] at r
      obtain ⟨a, rfl, ha⟩ := r
      obtain ⟨xs, hH, rs⟩ := m.cellL ha hk
      exact ⟨a, xs, rfl, .of hH, rs⟩
    · cases h
  · cases h
def tupOf : D → Option (List D)
  | .tup ds => some ds
  | .rot ds => some ds
  | _ => none
theorem tup_rep {K : PySem.W.Frag} (hK : g.K = K) {ca : List Addr} {F P H : Hp} {s : S} {d : D} {ds : List D} {v : V} (m : Sim g ca F P s H) (h : tupOf d = some ds) (r : Rep g ca F d v) : ∃ a xs, v = .ref a ∧ SqT K H a xs ∧ Reps g ca F ds xs := by
  unfold tupOf at h
  split at h
  · cases h; simp only [Rep] at r; obtain ⟨a, xs, rfl, hF, rs⟩ := r; exact ⟨a, xs, rfl, .of (m.sub _ _ hF), rs⟩
  · cases h; simp only [Rep] at r; obtain ⟨a, xs, rfl, hF, rs⟩ := r; exact ⟨a, xs, rfl, hK ▸ same_t m.sub hF, rs⟩
  · cases h
theorem lisOf_seqOf {s : S} {d : D} {ds : List D} (h : lisOf s d = some ds) : seqOf s d = some ds := by
  unfold lisOf at h
  split at h <;> first | exact h | (split at h <;> first | (unfold seqOf; simp_all) | cases h) | cases h
def sxD (n d : Nat) : Option Int → Nat
  | none => d
  | some v => if v < 0 then (v + (n : Int)).toNat else min v.toNat n
def cutD (ds : List D) (lo hi : Option Int) : List D := (ds.drop (sxD ds.length 0 lo)).take (sxD ds.length ds.length hi - sxD ds.length 0 lo)
theorem sxD_eq (n d : Nat) (o : Option Int) : sxD n d o = HT.sIx n d o := by cases o <;> rfl
theorem cut_rep {ca : List Addr} {F : Hp} {ds : List D} {vs : List V} (r : Reps g ca F ds vs) (lo hi : Option Int) : Reps g ca F (cutD ds lo hi) (cutV vs lo hi) := by
  unfold cutD cutV
  rw [sxD_eq, sxD_eq, r.length]
  exact (r.drop _).take _
theorem cutD_le (ds : List D) (lo hi : Option Int) : (cutD ds lo hi).length ≤ ds.length := by
  unfold cutD
  rw [List.length_take, List.length_drop]
  omega
def mSlice (me : Env → S → Res D) (ml mh : Env → S → Res (Option Int)) : Env → S → Res D := fun env s => (me env s).bind fun x s1 => (ml env s1).bind fun lo s2 => (mh env s2).bind fun hi s3 => match lisOf s3 x with
  | some ds => newL (cutD ds lo hi) s3
  | none => .stuck
theorem ev_slice {lo hi : Option Expr} {ml mh : Env → S → Res (Option Int)} {p2 : Pos} (hK : g.K = X.K) (he : Ev X g E e me) (hl : Eo X g E lo ml) (hh : Eo X g E hi mh) : Ev X g E (.Subscript e (.Slice lo hi none p2) pos) (mSlice me ml mh) := by
  obtain ⟨t, p, h⟩ := he
  obtain ⟨tl, pl, hl⟩ := hl
  obtain ⟨th, ph, hh⟩ := hh
  refine ⟨_, pe_slice sl_list p pl ph, fun env s ca F P H σ Q m sl q => ?_⟩
  refine h env s ca F P H σ _ m sl (Post.imp (Post.seq q) fun x s1 ca1 F1 H1 k1 k2 m1 q v rv => ?_)
  refine hl env s1 ca1 F1 P H1 σ _ m1 (sl.mono k1 k2) (Post.imp (Post.seq q) fun i s2 ca2 F2 H2 l1 l2 m2 q => ?_)
  refine hh env s2 ca2 F2 P H2 σ _ m2 ((sl.mono k1 k2).mono l1 l2) (Post.imp (Post.seq q) fun j s3 ca3 F3 H3 n1 n2 m3 q => ?_)
  split at q
  · rename_i ds hd
    obtain ⟨a, xs, rfl, hq, rs⟩ := lis_rep hK m3 hd (Rep.mono (l1.trans n1) (l2.trans n2) _ _ rv)
    exact ⟨a, xs, rfl, hq, (newL_ok m3 (cut_rep rs i j) q).2⟩
  · exact q.elim
theorem rev_rep {ca : List Addr} {F : Hp} : ∀ {ds : List D} {vs : List V}, Reps g ca F ds vs → Reps g ca F ds.reverse vs.reverse
  | [], vs, r => by simp only [Reps] at r; subst r; exact .nil
  | d :: ds, vs, r => by
    simp only [Reps] at r
    obtain ⟨v, ws, rfl, r1, r2⟩ := r
    rw [List.reverse_cons, List.reverse_cons]
    exact (rev_rep r2).append (.one r1)
def mRevL (me : Env → S → Res D) : Env → S → Res D := fun env s => (me env s).bind fun x s1 => match lisOf s1 x with
  | some ds => newL ds.reverse s1
  | none => .stuck
theorem ev_revL {k : Nat} {p1 p2 p3 : Pos} (hK : g.K = X.K) (he : Ev X g E e me) : Ev X g E (.Subscript e (.Slice none none (some (.UnaryOp .USub (.Constant (.int 1) k p1) p2)) p3) pos) (mRevL me) := by
  obtain ⟨t, p, h⟩ := he
  refine ⟨_, pe_revL p, fun env s ca F P H σ Q m sl q => ?_⟩
  refine h env s ca F P H σ _ m sl (Post.imp (Post.seq q) fun x s1 ca1 F1 H1 k1 k2 m1 q v rv => ?_)
  split at q
  · rename_i ds hd
    obtain ⟨a, xs, rfl, hq, rs⟩ := lis_rep hK m1 hd rv
    exact ⟨a, xs, rfl, hq, (newL_ok m1 (rev_rep rs) q).2⟩
  · exact q.elim

/-! ### chains -/
theorem chain_run {f f' : D → D → S → Res D} {r r' : R2} {ta tb tc : TE}
    (ha : ∀ (env : Env) (s : S) (ca : List Addr) (F P H : Hp) (σ : L2.St) (Q : VK), Sim g ca F P s H → Slots g ca F env σ → Post g ca F P E (fun d _ ca' F' H' => ∀ v, Rep g ca' F' d v → Q v H') (ma env s) → ta σ H Q)
    (hb : ∀ (env : Env) (s : S) (ca : List Addr) (F P H : Hp) (σ : L2.St) (Q : VK), Sim g ca F P s H → Slots g ca F env σ → Post g ca F P E (fun d _ ca' F' H' => ∀ v, Rep g ca' F' d v → Q v H') (mb env s) → tb σ H Q)
    (hc : ∀ (env : Env) (s : S) (ca : List Addr) (F P H : Hp) (σ : L2.St) (Q : VK), Sim g ca F P s H → Slots g ca F env σ → Post g ca F P E (fun d _ ca' F' H' => ∀ v, Rep g ca' F' d v → Q v H') (mc env s) → tc σ H Q)
    (h1 : ∀ (x y : D) (s : S) (ca : List Addr) (F P H : Hp) (v u : V) (Q : VK), Sim g ca F P s H → Rep g ca F x v → Rep g ca F y u → Post g ca F P E (fun d _ ca' F' H' => ∀ w, Rep g ca' F' d w → Q w H') (f x y s) → r v u H Q)
    (h2 : ∀ (x y : D) (s : S) (ca : List Addr) (F P H : Hp) (v u : V) (Q : VK), Sim g ca F P s H → Rep g ca F x v → Rep g ca F y u → Post g ca F P E (fun d _ ca' F' H' => ∀ w, Rep g ca' F' d w → Q w H') (f' x y s) → r' v u H Q)
    {env : Env} {s : S} {ca : List Addr} {F P H : Hp} {σ : L2.St} {Q : VK} (m : Sim g ca F P s H) (sl : Slots g ca F env σ) (q : Post g ca F P E (fun d _ ca' F' H' => ∀ v, Rep g ca' F' d v → Q v H') (mChain f f' ma mb mc env s)) :
    tChain r r' ta tb tc σ H Q := by
  refine ha env s ca F P H σ _ m sl (Post.imp (Post.seq q) fun x s1 ca1 F1 H1 k1 k2 m1 q v rv => ?_)
  refine hb env s1 ca1 F1 P H1 σ _ m1 (sl.mono k1 k2) (Post.imp (Post.seq q) fun y s2 ca2 F2 H2 l1 l2 m2 q u ru => ?_)
  refine h1 x y s2 ca2 F2 P H2 v u _ m2 (Rep.mono l1 l2 _ _ rv) ru (Post.imp (Post.seq q) fun z s3 ca3 F3 H3 n1 n2 m3 q w rw' => ?_)
  cases z with
  | bl k =>
    simp only [Rep] at rw'
    refine ⟨k, rw', ?_⟩
    cases k with
    | true =>
      refine hc env s3 ca3 F3 P H3 σ _ m3 (((sl.mono k1 k2).mono l1 l2).mono n1 n2) (Post.imp (Post.seq q) fun w s4 ca4 F4 H4 o1 o2 m4 q u' ru' => ?_)
      exact h2 y w s4 ca4 F4 P H4 u u' Q m4 (Rep.mono (n1.trans o1) (n2.trans o2) _ _ ru) ru' q
    | false => exact q.now m3 _ rfl
  | _ => exact q.elim
theorem ev_chain {op op' : CmpOp} {f f' : D → D → S → Res D} (ho : OpD X g E (compareOp op) f) (ho' : OpD X g E (compareOp op') f') (ha : Ev X g E a ma) (hb : Ev X g E b mb) (hc : Ev X g E c mc)
    (hm : lastMarks [op, op'] [b, c] = false := by with_unfolding_all rfl) : Ev X g E (.Compare a [op, op'] [b, c] pos) (mChain f f' ma mb mc) := by
  obtain ⟨r, h1, h2⟩ := ho
  obtain ⟨r', h1', h2'⟩ := ho'
  obtain ⟨ta, pa, ha⟩ := ha
  obtain ⟨tb, pb, hb⟩ := hb
  obtain ⟨tc, pc, hc⟩ := hc
  exact ⟨_, pe_chain h1 h1' pa pb pc hm, fun env s ca F P H σ Q m sl q => chain_run ha hb hc h2 h2' m sl q⟩
theorem et_chain {op op' : CmpOp} {f f' : D → D → S → Res D} (ho : OpD X g E (compareOp op) f) (ho' : OpD X g E (compareOp op') f') (ha : Ev X g E a ma) (hb : Ev X g E b mb) (hc : Ev X g E c mc)
    (hm : lastMarks [op, op'] [b, c] = false := by with_unfolding_all rfl) : Et X g E (.Compare a [op, op'] [b, c] pos) (mB (mChain f f' ma mb mc)) := by
  obtain ⟨r, h1, h2⟩ := ho
  obtain ⟨r', h1', h2'⟩ := ho'
  obtain ⟨ta, pa, ha⟩ := ha
  obtain ⟨tb, pb, hb⟩ := hb
  obtain ⟨tc, pc, hc⟩ := hc
  refine ⟨_, pt_chain h1 h1' pa pb pc hm, fun env s ca F P H σ Q m sl q => ?_⟩
  refine chain_run (Q := fun x H' => ∃ k, x = .bl k ∧ Q k H') ha hb hc h2 h2' m sl (Post.imp (Post.seq q) fun x s1 ca1 F1 H1 _ _ m1 q v rv => ?_)
  cases x with
  | bl b => exact ⟨b, rv, q.now m1⟩
  | _ => exact q.elim

/-! ### a star in a display -/
def aStar (me : Env → S → Res D) (mr : Env → S → Res (List D)) : Env → S → Res (List D) := fun env s => (me env s).bind fun x s1 => match seqOf s1 x with
  | some ds => (mr env s1).bind fun xs s2 => .ok (ds ++ xs) s2
  | none => .stuck
theorem ea_star {p : Pos} (hK : g.K = X.K) (ha : Ev X g E e me) (hr : Ea X g E es mr) (hs : starEach (.Starred e p :: es) X.env = (true, eval e X.env) :: starEach es X.env := by rfl) : Ea X g E (.Starred e p :: es) (aStar me mr) := by
  obtain ⟨t, pt, h⟩ := ha
  obtain ⟨u, p', h'⟩ := hr
  refine ⟨_, StX.pa_star pt p' hs, fun env s ca F P H σ Q m sl q => ?_⟩
  refine h env s ca F P H σ _ m sl (Post.imp (Post.seq q) fun x s1 ca1 F1 H1 k1 k2 m1 q v rv => ?_)
  split at q
  · rename_i ds hd
    obtain ⟨a, xs, rfl, hq, rs⟩ := seq_rep' hK m1 hd rv
    refine ⟨a, xs, rfl, hq.symm, h' env s1 ca1 F1 P H1 σ _ m1 (sl.mono k1 k2) (Post.imp (Post.seq q) fun ys s2 ca2 F2 H2 l1 l2 m2 q2 vs rvs => ?_)⟩
    exact q2.now m2 _ ((Reps.mono l1 l2 _ _ rs).append rvs)
  · exact q.elim

/-! ### a list or a tuple is walked -/
def iLT (me : Env → S → Res D) : Env → S → Res (List D) := fun env s => (iLst me env s).or (iT me env s)
theorem iv_lt {tg : Expr} (hK : g.K = X.K) (h : Ev X g E e me) : Iv X g E tg e (iLT me) := by
  obtain ⟨w1, p1, h1⟩ := iv_l (tg := tg) hK h
  obtain ⟨w2, p2, h2⟩ := iv_t (tg := tg) hK h
  exact ⟨fun σ H R => w1 σ H R ∨ w2 σ H R, ⟨fun pins s σ H R I h => h.elim (p1.run pins s σ H R I) (p2.run pins s σ H R I)⟩, fun env s ca F P H σ R m sl q => q.or.imp (h1 env s ca F P H σ R m sl) (h2 env s ca F P H σ R m sl)⟩
end
end Pm
set_option Elab.async false
set_option linter.all false
set_option maxRecDepth 100000
set_option maxHeartbeats 400000
namespace K11
open PySem PySem.Spec PyProof.Rows L2 Pm
def top (i : Nat) : Stmt := PySem.Challenge.pw_fewcorners_k11_ratios_reckoned.main.body.getD i (.Pass ⟨0, 0, 0, 0⟩)
abbrev s_is_integer : Stmt := top 2
abbrev s_is_count : Stmt := top 3
abbrev s_is_list : Stmt := top 4
abbrev s_c0_init_ : Stmt := inClass (top 10) 0
abbrev s_c0_top : Stmt := inClass (top 10) 1
abbrev s_c0_bottom : Stmt := inClass (top 10) 2
abbrev s_c0_sign : Stmt := inClass (top 10) 3
abbrev s_c0_is_whole : Stmt := inClass (top 10) 4
abbrev s_is_number : Stmt := top 11
abbrev s_parts_of : Stmt := top 12
abbrev s_c0_add_ : Stmt := inClass (top 10) 6
abbrev s_c0_radd_ : Stmt := inClass (top 10) 7
abbrev s_c0_sub_ : Stmt := inClass (top 10) 8
abbrev s_c0_neg_ : Stmt := inClass (top 10) 12
abbrev s_c0_rsub_ : Stmt := inClass (top 10) 9
abbrev s_c0_mul_ : Stmt := inClass (top 10) 10
abbrev s_c0_rmul_ : Stmt := inClass (top 10) 11
abbrev s_c0_over : Stmt := inClass (top 10) 13
abbrev s_c0_unsigned : Stmt := inClass (top 10) 14
abbrev s_c0_is_below : Stmt := inClass (top 10) 15
abbrev s_c0_is_at_most : Stmt := inClass (top 10) 16
abbrev s_c0_eq_ : Stmt := inClass (top 10) 17
abbrev s_c0_str_ : Stmt := inClass (top 10) 18
abbrev s_c0_repr_ : Stmt := inClass (top 10) 19
abbrev s_c0_total : Stmt := inClass (top 10) 5
abbrev s_law_pot : Stmt := top 14
abbrev s_law_draw : Stmt := top 15
abbrev s_law_pick : Stmt := top 16
abbrev s_law_low : Stmt := top 17
abbrev s_law_sum : Stmt := top 18
abbrev s_law_by : Stmt := top 19
abbrev s_law_less : Stmt := top 20
abbrev s_law_over : Stmt := top 21
abbrev s_law_total : Stmt := top 22
abbrev s_law_pair : Stmt := top 23
abbrev s_law_pairs : Stmt := top 24
abbrev s_law_shown : Stmt := top 25
abbrev s_law_raw : Stmt := top 26
abbrev s_law_one_right : Stmt := top 27
abbrev s_law_two_right : Stmt := top 28
abbrev s_law_right : Stmt := top 29
abbrev s_law : Stmt := top 30
structure Ad where
  C_Ratio : Addr
  a_is_integer : Addr
  d_is_integer : FuncData
  a_is_count : Addr
  d_is_count : FuncData
  a_is_list : Addr
  d_is_list : FuncData
  a_c0_init_ : Addr
  d_c0_init_ : FuncData
  a_c0_top : Addr
  d_c0_top : FuncData
  p_c0_top : Addr
  a_c0_bottom : Addr
  d_c0_bottom : FuncData
  p_c0_bottom : Addr
  a_c0_sign : Addr
  d_c0_sign : FuncData
  p_c0_sign : Addr
  a_c0_is_whole : Addr
  d_c0_is_whole : FuncData
  p_c0_is_whole : Addr
  a_is_number : Addr
  d_is_number : FuncData
  a_parts_of : Addr
  d_parts_of : FuncData
  a_c0_add_ : Addr
  d_c0_add_ : FuncData
  a_c0_radd_ : Addr
  d_c0_radd_ : FuncData
  a_c0_sub_ : Addr
  d_c0_sub_ : FuncData
  a_c0_neg_ : Addr
  d_c0_neg_ : FuncData
  a_c0_rsub_ : Addr
  d_c0_rsub_ : FuncData
  a_c0_mul_ : Addr
  d_c0_mul_ : FuncData
  a_c0_rmul_ : Addr
  d_c0_rmul_ : FuncData
  a_c0_over : Addr
  d_c0_over : FuncData
  a_c0_unsigned : Addr
  d_c0_unsigned : FuncData
  a_c0_is_below : Addr
  d_c0_is_below : FuncData
  a_c0_is_at_most : Addr
  d_c0_is_at_most : FuncData
  a_c0_eq_ : Addr
  d_c0_eq_ : FuncData
  a_c0_str_ : Addr
  d_c0_str_ : FuncData
  a_c0_repr_ : Addr
  d_c0_repr_ : FuncData
  a_c0_total : Addr
  d_c0_total : FuncData
  p_c0_total : Addr
  a_law_pot : Addr
  d_law_pot : FuncData
  a_law_draw : Addr
  d_law_draw : FuncData
  a_law_pick : Addr
  d_law_pick : FuncData
  a_law_low : Addr
  d_law_low : FuncData
  a_law_sum : Addr
  d_law_sum : FuncData
  a_law_by : Addr
  d_law_by : FuncData
  a_law_less : Addr
  d_law_less : FuncData
  a_law_over : Addr
  d_law_over : FuncData
  a_law_total : Addr
  d_law_total : FuncData
  a_law_pair : Addr
  d_law_pair : FuncData
  a_law_pairs : Addr
  d_law_pairs : FuncData
  a_law_shown : Addr
  d_law_shown : FuncData
  a_law_raw : Addr
  d_law_raw : FuncData
  a_law_one_right : Addr
  d_law_one_right : FuncData
  a_law_two_right : Addr
  d_law_two_right : FuncData
  a_law_right : Addr
  d_law_right : FuncData
  a_law : Addr
  d_law : FuncData
def gg (K : PySem.W.Frag) (d : Ad) : G where
  K := K
  cls := fun c =>  d.C_Ratio
  fn := fun c => if c = 0 then ["_top", "_bottom"] else  []
theorem nd_Ratio : (["_top", "_bottom"] : List Str).Nodup := by decide +kernel
theorem lt_Ratio : (["_top", "_bottom"] : List Str).length < 1000 := by decide
theorem nm_c0_top : ¬ (("top" : Str) ∈ (["_top", "_bottom"] : List Str)) := by decide +kernel
theorem nm_c0_bottom : ¬ (("bottom" : Str) ∈ (["_top", "_bottom"] : List Str)) := by decide +kernel
theorem nm_c0_sign : ¬ (("sign" : Str) ∈ (["_top", "_bottom"] : List Str)) := by decide +kernel
theorem nm_c0_is_whole : ¬ (("is_whole" : Str) ∈ (["_top", "_bottom"] : List Str)) := by decide +kernel
theorem nm_c0_over : ¬ (("over" : Str) ∈ (["_top", "_bottom"] : List Str)) := by decide +kernel
theorem nm_c0_unsigned : ¬ (("unsigned" : Str) ∈ (["_top", "_bottom"] : List Str)) := by decide +kernel
theorem nm_c0_is_below : ¬ (("is_below" : Str) ∈ (["_top", "_bottom"] : List Str)) := by decide +kernel
theorem nm_c0_is_at_most : ¬ (("is_at_most" : Str) ∈ (["_top", "_bottom"] : List Str)) := by decide +kernel
theorem nm_c0_total : ¬ (("total" : Str) ∈ (["_top", "_bottom"] : List Str)) := by decide +kernel
structure Tx (K : PySem.W.Frag) (mg : Str → Option Value) (d : Ad) : Prop where
  cl_Ratio : Cls K d.C_Ratio
  m_Ratio : mg "Ratio" = some (.ref d.C_Ratio)
  na_Ratio_top : NoAttr K d.C_Ratio "_top"
  na_Ratio_bottom : NoAttr K d.C_Ratio "_bottom"
  mk_Ratio : Mk K d.C_Ratio d.a_c0_init_
  clsf : ClsF K (gg K d) 1
  n_abs : mg "abs" = none
  n_bool : mg "bool" = none
  n_divmod : mg "divmod" = none
  n_int : mg "int" = none
  n_isinstance : mg "isinstance" = none
  n_len : mg "len" = none
  n_list : mg "list" = none
  n_max : mg "max" = none
  n_range : mg "range" = none
  n_repr : mg "repr" = none
  n_str : mg "str" = none
  n_tuple : mg "tuple" = none
  m_gcd : mg "gcd" = some (.builtin "math.gcd")
  f_is_integer : Fun K "is_integer" "is_integer" s_is_integer d.a_is_integer d.d_is_integer
  b_is_integer : Binds K d.d_is_integer ["value"] []
  m_is_integer : mg "is_integer" = some (.ref d.a_is_integer)
  k_is_integer : PySem.W.keepIn K (.ref d.a_is_integer) = true
  f_is_count : Fun K "is_count" "is_count" s_is_count d.a_is_count d.d_is_count
  b_is_count : Binds K d.d_is_count ["value"] []
  m_is_count : mg "is_count" = some (.ref d.a_is_count)
  k_is_count : PySem.W.keepIn K (.ref d.a_is_count) = true
  f_is_list : Fun K "is_list" "is_list" s_is_list d.a_is_list d.d_is_list
  b_is_list : Binds K d.d_is_list ["value"] []
  m_is_list : mg "is_list" = some (.ref d.a_is_list)
  k_is_list : PySem.W.keepIn K (.ref d.a_is_list) = true
  f_c0_init_ : FunD K "__init__" "Ratio.__init__" (defArgs s_c0_init_) (defBody s_c0_init_) (defScope s_c0_init_) [V.int 1] [] d.a_c0_init_ d.d_c0_init_
  b0_c0_init_ : BindsV K d.d_c0_init_ ["self", "top", "bottom"] []
  b1_c0_init_ : BindsV K d.d_c0_init_ ["self", "top", "bottom"] [V.int 1]
  f_c0_top : Fun K "top" "Ratio.top" s_c0_top d.a_c0_top d.d_c0_top
  b_c0_top : Binds K d.d_c0_top ["self"] []
  pr_c0_top : PropOf K d.C_Ratio "top" d.p_c0_top d.a_c0_top
  f_c0_bottom : Fun K "bottom" "Ratio.bottom" s_c0_bottom d.a_c0_bottom d.d_c0_bottom
  b_c0_bottom : Binds K d.d_c0_bottom ["self"] []
  pr_c0_bottom : PropOf K d.C_Ratio "bottom" d.p_c0_bottom d.a_c0_bottom
  f_c0_sign : Fun K "sign" "Ratio.sign" s_c0_sign d.a_c0_sign d.d_c0_sign
  b_c0_sign : Binds K d.d_c0_sign ["self"] []
  pr_c0_sign : PropOf K d.C_Ratio "sign" d.p_c0_sign d.a_c0_sign
  f_c0_is_whole : Fun K "is_whole" "Ratio.is_whole" s_c0_is_whole d.a_c0_is_whole d.d_c0_is_whole
  b_c0_is_whole : Binds K d.d_c0_is_whole ["self"] []
  pr_c0_is_whole : PropOf K d.C_Ratio "is_whole" d.p_c0_is_whole d.a_c0_is_whole
  f_is_number : Fun K "is_number" "is_number" s_is_number d.a_is_number d.d_is_number
  b_is_number : Binds K d.d_is_number ["value"] []
  m_is_number : mg "is_number" = some (.ref d.a_is_number)
  k_is_number : PySem.W.keepIn K (.ref d.a_is_number) = true
  f_parts_of : Fun K "parts_of" "parts_of" s_parts_of d.a_parts_of d.d_parts_of
  b_parts_of : Binds K d.d_parts_of ["number"] []
  m_parts_of : mg "parts_of" = some (.ref d.a_parts_of)
  k_parts_of : PySem.W.keepIn K (.ref d.a_parts_of) = true
  f_c0_add_ : Fun K "__add__" "Ratio.__add__" s_c0_add_ d.a_c0_add_ d.d_c0_add_
  b_c0_add_ : Binds K d.d_c0_add_ ["self", "other"] []
  f_c0_radd_ : Fun K "__radd__" "Ratio.__radd__" s_c0_radd_ d.a_c0_radd_ d.d_c0_radd_
  b_c0_radd_ : Binds K d.d_c0_radd_ ["self", "other"] []
  f_c0_sub_ : Fun K "__sub__" "Ratio.__sub__" s_c0_sub_ d.a_c0_sub_ d.d_c0_sub_
  b_c0_sub_ : Binds K d.d_c0_sub_ ["self", "other"] []
  f_c0_neg_ : Fun K "__neg__" "Ratio.__neg__" s_c0_neg_ d.a_c0_neg_ d.d_c0_neg_
  b_c0_neg_ : Binds K d.d_c0_neg_ ["self"] []
  f_c0_rsub_ : Fun K "__rsub__" "Ratio.__rsub__" s_c0_rsub_ d.a_c0_rsub_ d.d_c0_rsub_
  b_c0_rsub_ : Binds K d.d_c0_rsub_ ["self", "other"] []
  f_c0_mul_ : Fun K "__mul__" "Ratio.__mul__" s_c0_mul_ d.a_c0_mul_ d.d_c0_mul_
  b_c0_mul_ : Binds K d.d_c0_mul_ ["self", "other"] []
  f_c0_rmul_ : Fun K "__rmul__" "Ratio.__rmul__" s_c0_rmul_ d.a_c0_rmul_ d.d_c0_rmul_
  b_c0_rmul_ : Binds K d.d_c0_rmul_ ["self", "other"] []
  f_c0_over : Fun K "over" "Ratio.over" s_c0_over d.a_c0_over d.d_c0_over
  b_c0_over : Binds K d.d_c0_over ["self", "other"] []
  me_c0_over : Meth K d.C_Ratio "over" d.a_c0_over
  f_c0_unsigned : Fun K "unsigned" "Ratio.unsigned" s_c0_unsigned d.a_c0_unsigned d.d_c0_unsigned
  b_c0_unsigned : Binds K d.d_c0_unsigned ["self"] []
  me_c0_unsigned : Meth K d.C_Ratio "unsigned" d.a_c0_unsigned
  f_c0_is_below : Fun K "is_below" "Ratio.is_below" s_c0_is_below d.a_c0_is_below d.d_c0_is_below
  b_c0_is_below : Binds K d.d_c0_is_below ["self", "other"] []
  me_c0_is_below : Meth K d.C_Ratio "is_below" d.a_c0_is_below
  f_c0_is_at_most : Fun K "is_at_most" "Ratio.is_at_most" s_c0_is_at_most d.a_c0_is_at_most d.d_c0_is_at_most
  b_c0_is_at_most : Binds K d.d_c0_is_at_most ["self", "other"] []
  me_c0_is_at_most : Meth K d.C_Ratio "is_at_most" d.a_c0_is_at_most
  f_c0_eq_ : Fun K "__eq__" "Ratio.__eq__" s_c0_eq_ d.a_c0_eq_ d.d_c0_eq_
  b_c0_eq_ : Binds K d.d_c0_eq_ ["self", "other"] []
  f_c0_str_ : Fun K "__str__" "Ratio.__str__" s_c0_str_ d.a_c0_str_ d.d_c0_str_
  b_c0_str_ : Binds K d.d_c0_str_ ["self"] []
  f_c0_repr_ : Fun K "__repr__" "Ratio.__repr__" s_c0_repr_ d.a_c0_repr_ d.d_c0_repr_
  b_c0_repr_ : Binds K d.d_c0_repr_ ["self"] []
  f_c0_total : Fun K "total" "Ratio.total" s_c0_total d.a_c0_total d.d_c0_total
  b_c0_total : Binds K d.d_c0_total ["cls", "numbers"] []
  cm_c0_total : ClX.CMet K d.C_Ratio MC "total" d.p_c0_total d.a_c0_total
  f_law_pot : Fun K "_law_pot" "_law_pot" s_law_pot d.a_law_pot d.d_law_pot
  b_law_pot : Binds K d.d_law_pot ["_law_script", "_law_k"] []
  m_law_pot : mg "_law_pot" = some (.ref d.a_law_pot)
  k_law_pot : PySem.W.keepIn K (.ref d.a_law_pot) = true
  f_law_draw : Fun K "_law_draw" "_law_draw" s_law_draw d.a_law_draw d.d_law_draw
  b_law_draw : Binds K d.d_law_draw ["_law_pot_here", "_law_size"] []
  m_law_draw : mg "_law_draw" = some (.ref d.a_law_draw)
  k_law_draw : PySem.W.keepIn K (.ref d.a_law_draw) = true
  f_law_pick : Fun K "_law_pick" "_law_pick" s_law_pick d.a_law_pick d.d_law_pick
  b_law_pick : Binds K d.d_law_pick ["_law_pot_here", "_law_some"] []
  m_law_pick : mg "_law_pick" = some (.ref d.a_law_pick)
  k_law_pick : PySem.W.keepIn K (.ref d.a_law_pick) = true
  f_law_low : Fun K "_law_low" "_law_low" s_law_low d.a_law_low d.d_law_low
  b_law_low : Binds K d.d_law_low ["_law_top", "_law_bottom"] []
  m_law_low : mg "_law_low" = some (.ref d.a_law_low)
  k_law_low : PySem.W.keepIn K (.ref d.a_law_low) = true
  f_law_sum : Fun K "_law_sum" "_law_sum" s_law_sum d.a_law_sum d.d_law_sum
  b_law_sum : Binds K d.d_law_sum ["_law_one", "_law_other"] []
  m_law_sum : mg "_law_sum" = some (.ref d.a_law_sum)
  k_law_sum : PySem.W.keepIn K (.ref d.a_law_sum) = true
  f_law_by : Fun K "_law_by" "_law_by" s_law_by d.a_law_by d.d_law_by
  b_law_by : Binds K d.d_law_by ["_law_one", "_law_other"] []
  m_law_by : mg "_law_by" = some (.ref d.a_law_by)
  k_law_by : PySem.W.keepIn K (.ref d.a_law_by) = true
  f_law_less : Fun K "_law_less" "_law_less" s_law_less d.a_law_less d.d_law_less
  b_law_less : Binds K d.d_law_less ["_law_one", "_law_other"] []
  m_law_less : mg "_law_less" = some (.ref d.a_law_less)
  k_law_less : PySem.W.keepIn K (.ref d.a_law_less) = true
  f_law_over : Fun K "_law_over" "_law_over" s_law_over d.a_law_over d.d_law_over
  b_law_over : Binds K d.d_law_over ["_law_one", "_law_other"] []
  m_law_over : mg "_law_over" = some (.ref d.a_law_over)
  k_law_over : PySem.W.keepIn K (.ref d.a_law_over) = true
  f_law_total : Fun K "_law_total" "_law_total" s_law_total d.a_law_total d.d_law_total
  b_law_total : Binds K d.d_law_total ["_law_pairs_here"] []
  m_law_total : mg "_law_total" = some (.ref d.a_law_total)
  k_law_total : PySem.W.keepIn K (.ref d.a_law_total) = true
  f_law_pair : Fun K "_law_pair" "_law_pair" s_law_pair d.a_law_pair d.d_law_pair
  b_law_pair : Binds K d.d_law_pair ["_law_value"] []
  m_law_pair : mg "_law_pair" = some (.ref d.a_law_pair)
  k_law_pair : PySem.W.keepIn K (.ref d.a_law_pair) = true
  f_law_pairs : Fun K "_law_pairs" "_law_pairs" s_law_pairs d.a_law_pairs d.d_law_pairs
  b_law_pairs : Binds K d.d_law_pairs ["_law_value"] []
  m_law_pairs : mg "_law_pairs" = some (.ref d.a_law_pairs)
  k_law_pairs : PySem.W.keepIn K (.ref d.a_law_pairs) = true
  f_law_shown : Fun K "_law_shown" "_law_shown" s_law_shown d.a_law_shown d.d_law_shown
  b_law_shown : Binds K d.d_law_shown ["_law_pair_here"] []
  m_law_shown : mg "_law_shown" = some (.ref d.a_law_shown)
  k_law_shown : PySem.W.keepIn K (.ref d.a_law_shown) = true
  f_law_raw : Fun K "_law_raw" "_law_raw" s_law_raw d.a_law_raw d.d_law_raw
  b_law_raw : Binds K d.d_law_raw ["_law_pot_here"] []
  m_law_raw : mg "_law_raw" = some (.ref d.a_law_raw)
  k_law_raw : PySem.W.keepIn K (.ref d.a_law_raw) = true
  f_law_one_right : Fun K "_law_one_right" "_law_one_right" s_law_one_right d.a_law_one_right d.d_law_one_right
  b_law_one_right : Binds K d.d_law_one_right ["_law_raw_here"] []
  m_law_one_right : mg "_law_one_right" = some (.ref d.a_law_one_right)
  k_law_one_right : PySem.W.keepIn K (.ref d.a_law_one_right) = true
  f_law_two_right : Fun K "_law_two_right" "_law_two_right" s_law_two_right d.a_law_two_right d.d_law_two_right
  b_law_two_right : Binds K d.d_law_two_right ["_law_raw_here", "_law_other_raw", "_law_number"] []
  m_law_two_right : mg "_law_two_right" = some (.ref d.a_law_two_right)
  k_law_two_right : PySem.W.keepIn K (.ref d.a_law_two_right) = true
  f_law_right : Fun K "_law_right" "_law_right" s_law_right d.a_law_right d.d_law_right
  b_law_right : Binds K d.d_law_right ["_law_pot_here"] []
  m_law_right : mg "_law_right" = some (.ref d.a_law_right)
  k_law_right : PySem.W.keepIn K (.ref d.a_law_right) = true
  f_law : Fun K "law" "law" s_law d.a_law d.d_law
  b_law : Binds K d.d_law ["_law_script"] []
  m_law : mg "law" = some (.ref d.a_law)
  k_law : PySem.W.keepIn K (.ref d.a_law) = true
  cr_Ratio : ClX.CRead K d.C_Ratio MC
  kb_c0_init__top_bottom : KB K d.d_c0_init_ ["self", "top", "bottom"] 1 ["top", "bottom"]
  kb_c0_over_other : KB K d.d_c0_over ["self", "other"] 1 ["other"]
  kb_c0_total_numbers : KB K d.d_c0_total ["cls", "numbers"] 1 ["numbers"]
  o_pAdd : OpF K d.C_Ratio .Add d.a_c0_add_ d.a_c0_radd_ "int.__add__"
  o_pSub : OpF K d.C_Ratio .Sub d.a_c0_sub_ d.a_c0_rsub_ "int.__sub__"
  o_pMul : OpF K d.C_Ratio .Mult d.a_c0_mul_ d.a_c0_rmul_ "int.__mul__"
  g_neg1 : PySem.W.findIn K (.ref d.C_Ratio) "__neg__" = some (some (.ref d.a_c0_neg_))
  g_neg2 : PySem.W.isFn K (.ref d.a_c0_neg_) = true
  o_eq : EqF K d.C_Ratio d.a_c0_eq_
  o_ne : NeF K d.C_Ratio d.a_c0_eq_
  g_str1 : PySem.W.findIn K (.ref d.C_Ratio) "__str__" = some (some (.ref d.a_c0_str_))
  g_str2 : PySem.W.isFn K (.ref d.a_c0_str_) = true
  g_repr1 : PySem.W.findIn K (.ref d.C_Ratio) "__repr__" = some (some (.ref d.a_c0_repr_))
  g_repr2 : PySem.W.isFn K (.ref d.a_c0_repr_) = true
section
variable {P : Program} {w : World} {K : PySem.W.Frag} {mg : Str → Option Value} {base : Heap} {d : Ad}

/-! is_integer -/
def b_is_integer : Pm.Env → S → Res Fl := (sRet (mAnd (mCall (bIs 1) (aCons (mVar 0) (aCons (mC (.ty .int)) aNil))) (mNot (mCall (bIs 1) (aCons (mVar 0) (aCons (mC (.ty .bool)) aNil))))))
def m_is_integer : List D → S → Res D := runBody 1 1 b_is_integer
theorem sc_is_integer : FnScope ["value"] ["value"] (defScope s_is_integer) := ⟨rfl, rfl, rfl, by decide +kernel, rfl, by decide +kernel, by decide +kernel⟩
theorem ok_is_integer (T : Tx K mg d) : FnOk P w K mg base (L2.CX P w) 1 d.a_is_integer d.d_is_integer ["value"] (spG (gg K d) 1 m_is_integer) :=
  (fn_def (N := ["value"]) T.f_is_integer sc_is_integer rfl (body := b_is_integer) fun cdv A outer s H E hr =>
    (svs_one (sv_ret (ev_and (ev_callB (cd_isinstance (by rfl) T.clsf) (by rfl) T.n_isinstance bo_isinstance (ea_cons (ev_var 0) (ea_cons (ev_bty .int (by rfl) T.n_int bo_int) ea_nil))) (ev_one (ev_not (ev_callB (cd_isinstance (by rfl) T.clsf) (by rfl) T.n_isinstance bo_isinstance (ea_cons (ev_var 0) (ea_cons (ev_bty .bool (by rfl) T.n_bool bo_bool) ea_nil)))))))))

/-! is_count -/
def b_is_count : Pm.Env → S → Res Fl := (sRet (mAnd (mCallD (n := 1) [] m_is_integer (aCons (mVar 0) aNil)) (m2 geI (mVar 0) (mC (.int 0)))))
def m_is_count : List D → S → Res D := runBody 1 1 b_is_count
theorem sc_is_count : FnScope ["value"] ["value"] (defScope s_is_count) := ⟨rfl, rfl, rfl, by decide +kernel, rfl, by decide +kernel, by decide +kernel⟩
theorem ok_is_count (T : Tx K mg d) : FnOk P w K mg base (L2.CX P w) 2 d.a_is_count d.d_is_count ["value"] (spG (gg K d) 1 m_is_count) :=
  (fn_def (N := ["value"]) T.f_is_count sc_is_count rfl (body := b_is_count) fun cdv A outer s H E hr =>
    (svs_one (sv_ret (ev_and (ev_call (ok_is_integer (P := P) (w := w) (base := base) T) (hr.mono (by decide)) (by rfl) T.m_is_integer T.k_is_integer T.b_is_integer .nil (fun _ _ => .nil) passB (ea_cons (ev_var 0) ea_nil)) (ev_one (ev_cmp od_ge (ev_var 0) ev_int))))))

/-! is_list -/
def b_is_list : Pm.Env → S → Res Fl := (sRet (mCall (bIs 1) (aCons (mVar 0) (aCons (mTup (aCons (mC (.ty .list)) (aCons (mC (.ty .tuple)) aNil))) aNil))))
def m_is_list : List D → S → Res D := runBody 1 1 b_is_list
theorem sc_is_list : FnScope ["value"] ["value"] (defScope s_is_list) := ⟨rfl, rfl, rfl, by decide +kernel, rfl, by decide +kernel, by decide +kernel⟩
theorem ok_is_list (T : Tx K mg d) : FnOk P w K mg base (L2.CX P w) 1 d.a_is_list d.d_is_list ["value"] (spG (gg K d) 1 m_is_list) :=
  (fn_def (N := ["value"]) T.f_is_list sc_is_list rfl (body := b_is_list) fun cdv A outer s H E hr =>
    (svs_one (sv_ret (ev_callB (cd_isinstance (by rfl) T.clsf) (by rfl) T.n_isinstance bo_isinstance (ea_cons (ev_var 0) (ea_cons (ev_tup (ea_cons (ev_bty .list (by rfl) T.n_list bo_list) (ea_cons (ev_bty .tuple (by rfl) T.n_tuple bo_tuple) ea_nil))) ea_nil))))))

/-! Ratio.__init__ -/
def b_c0_init_ : Pm.Env → S → Res Fl := (sSeq (sIf (mNotT (mB (mCallD (n := 1) [] m_is_integer (aCons (mVar 1) aNil)))) sStuck sNext)
  (sSeq (sIf (mOrT (mNotT (mB (mCallD (n := 1) [] m_is_integer (aCons (mVar 2) aNil)))) (mB (m2 (eqP false) (mVar 2) (mC (.int 0))))) sStuck sNext)
  (sSeq (sSet 3 (mCall (bInt2 (fun _ _ => true) fun i j => .int (gcdI i j)) (aCons (mVar 1) (aCons (mVar 2) aNil))))
  (sSeq (sIf (mB (m2 ltI (mVar 2) (mC (.int 0)))) (sSet 3 (m1 negI (mVar 3))) sNext)
  (sSeq (sFld 0 0 (mVar 0) (m2 divI (mVar 1) (mVar 3)))
  (sFld 0 1 (mVar 0) (m2 divI (mVar 2) (mVar 3))))))))
def m_c0_init_ : List D → S → Res D := runBody 3 4 b_c0_init_
theorem sc_c0_init_ : FnScope ["self", "top", "bottom", "shared"] ["self", "top", "bottom"] (defScope s_c0_init_) := ⟨rfl, rfl, rfl, by decide +kernel, rfl, by decide +kernel, by decide +kernel⟩
theorem ok_c0_init_ (T : Tx K mg d) : FnOk P w K mg base (L2.CX P w) 2 d.a_c0_init_ d.d_c0_init_ ["self", "top", "bottom"] (spG (gg K d) 3 m_c0_init_) :=
  (fn_defD (N := ["self", "top", "bottom", "shared"]) T.f_c0_init_ sc_c0_init_ rfl (body := b_c0_init_) fun cdv A outer s H E hr =>
    (svs_cons (sv_if (et_not (et_val (ev_call (ok_is_integer (P := P) (w := w) (base := base) T) (hr.mono (by decide)) (by rfl) T.m_is_integer T.k_is_integer T.b_is_integer .nil (fun _ _ => .nil) passB (ea_cons (ev_var 1) ea_nil)))) (svs_one sv_never) svs_nil)
    (svs_cons (sv_if (ew_or (et_not (et_val (ev_call (ok_is_integer (P := P) (w := w) (base := base) T) (hr.mono (by decide)) (by rfl) T.m_is_integer T.k_is_integer T.b_is_integer .nil (fun _ _ => .nil) passB (ea_cons (ev_var 2) ea_nil)))) (ew_or1 (et_cmp (od_eqP (by rfl) hr.un64) (ev_var 2) ev_int))).et (svs_one sv_never) svs_nil)
    (svs_cons (sv_set 3 sc_c0_init_.nd (by rfl) (Or.inl (by rfl)) (ev_callF cd_gcd (by rfl) T.m_gcd (ea_cons (ev_var 1) (ea_cons (ev_var 2) ea_nil))))
    (svs_cons (sv_if (et_cmp od_lt (ev_var 2) ev_int) (svs_one (sv_set 3 sc_c0_init_.nd (by rfl) (Or.inl (by rfl)) (ev_un ud_neg (ev_var 3)))) svs_nil)
    (svs_cons (sv_fld (c := 0) (i := 0) (ev_var 0) (ev_bin od_div (ev_var 1) (ev_var 3)) T.cl_Ratio T.na_Ratio_top (by rfl) nd_Ratio (lt_Ratio))
    (svs_one (sv_fld (c := 0) (i := 1) (ev_var 0) (ev_bin od_div (ev_var 2) (ev_var 3)) T.cl_Ratio T.na_Ratio_bottom (by rfl) nd_Ratio (lt_Ratio)))))))))

/-! Ratio.top -/
def b_c0_top : Pm.Env → S → Res Fl := (sRet (mFld 0 0 (mVar 0)))
def m_c0_top : List D → S → Res D := runBody 1 1 b_c0_top
theorem sc_c0_top : FnScope ["self"] ["self"] (defScope s_c0_top) := ⟨rfl, rfl, rfl, by decide +kernel, rfl, by decide +kernel, by decide +kernel⟩
theorem ok_c0_top (T : Tx K mg d) : FnOk P w K mg base (L2.CX P w) 1 d.a_c0_top d.d_c0_top ["self"] (spG (gg K d) 1 m_c0_top) :=
  (fn_def (N := ["self"]) T.f_c0_top sc_c0_top rfl (body := b_c0_top) fun cdv A outer s H E hr =>
    (svs_one (sv_ret (ev_fld (c := 0) (i := 0) (ev_var 0) T.cl_Ratio T.na_Ratio_top (by rfl) nd_Ratio))))

/-! Ratio.bottom -/
def b_c0_bottom : Pm.Env → S → Res Fl := (sRet (mFld 0 1 (mVar 0)))
def m_c0_bottom : List D → S → Res D := runBody 1 1 b_c0_bottom
theorem sc_c0_bottom : FnScope ["self"] ["self"] (defScope s_c0_bottom) := ⟨rfl, rfl, rfl, by decide +kernel, rfl, by decide +kernel, by decide +kernel⟩
theorem ok_c0_bottom (T : Tx K mg d) : FnOk P w K mg base (L2.CX P w) 1 d.a_c0_bottom d.d_c0_bottom ["self"] (spG (gg K d) 1 m_c0_bottom) :=
  (fn_def (N := ["self"]) T.f_c0_bottom sc_c0_bottom rfl (body := b_c0_bottom) fun cdv A outer s H E hr =>
    (svs_one (sv_ret (ev_fld (c := 0) (i := 1) (ev_var 0) T.cl_Ratio T.na_Ratio_bottom (by rfl) nd_Ratio))))

/-! Ratio.sign -/
def b_c0_sign : Pm.Env → S → Res Fl := (sSeq (sIf (mB (m2 (eqP false) (mFld 0 0 (mVar 0)) (mC (.int 0)))) (sRet (mC (.int 0))) sNext)
  (sRet (mIf (mB (m2 gtI (mFld 0 0 (mVar 0)) (mC (.int 0)))) (mC (.int 1)) (m1 negI (mC (.int 1))))))
def m_c0_sign : List D → S → Res D := runBody 1 1 b_c0_sign
theorem sc_c0_sign : FnScope ["self"] ["self"] (defScope s_c0_sign) := ⟨rfl, rfl, rfl, by decide +kernel, rfl, by decide +kernel, by decide +kernel⟩
theorem ok_c0_sign (T : Tx K mg d) : FnOk P w K mg base (L2.CX P w) 1 d.a_c0_sign d.d_c0_sign ["self"] (spG (gg K d) 1 m_c0_sign) :=
  (fn_def (N := ["self"]) T.f_c0_sign sc_c0_sign rfl (body := b_c0_sign) fun cdv A outer s H E hr =>
    (svs_cons (sv_if (et_cmp (od_eqP (by rfl) hr.un64) (ev_fld (c := 0) (i := 0) (ev_var 0) T.cl_Ratio T.na_Ratio_top (by rfl) nd_Ratio) ev_int) (svs_one (sv_ret ev_int)) svs_nil)
    (svs_one (sv_ret (ev_if (et_cmp od_gt (ev_fld (c := 0) (i := 0) (ev_var 0) T.cl_Ratio T.na_Ratio_top (by rfl) nd_Ratio) ev_int) ev_int (ev_un ud_neg ev_int))))))

/-! Ratio.is_whole -/
def b_c0_is_whole : Pm.Env → S → Res Fl := (sRet (m2 (eqP false) (mFld 0 1 (mVar 0)) (mC (.int 1))))
def m_c0_is_whole : List D → S → Res D := runBody 1 1 b_c0_is_whole
theorem sc_c0_is_whole : FnScope ["self"] ["self"] (defScope s_c0_is_whole) := ⟨rfl, rfl, rfl, by decide +kernel, rfl, by decide +kernel, by decide +kernel⟩
theorem ok_c0_is_whole (T : Tx K mg d) : FnOk P w K mg base (L2.CX P w) 1 d.a_c0_is_whole d.d_c0_is_whole ["self"] (spG (gg K d) 1 m_c0_is_whole) :=
  (fn_def (N := ["self"]) T.f_c0_is_whole sc_c0_is_whole rfl (body := b_c0_is_whole) fun cdv A outer s H E hr =>
    (svs_one (sv_ret (ev_cmp (od_eqP (by rfl) hr.un64) (ev_fld (c := 0) (i := 1) (ev_var 0) T.cl_Ratio T.na_Ratio_bottom (by rfl) nd_Ratio) ev_int))))

/-! is_number -/
def b_is_number : Pm.Env → S → Res Fl := (sRet (mOr (mCallD (n := 1) [] m_is_integer (aCons (mVar 0) aNil)) (mCall (bIs 1) (aCons (mVar 0) (aCons (mC (.cls 0)) aNil)))))
def m_is_number : List D → S → Res D := runBody 1 1 b_is_number
theorem sc_is_number : FnScope ["value"] ["value"] (defScope s_is_number) := ⟨rfl, rfl, rfl, by decide +kernel, rfl, by decide +kernel, by decide +kernel⟩
theorem ok_is_number (T : Tx K mg d) : FnOk P w K mg base (L2.CX P w) 2 d.a_is_number d.d_is_number ["value"] (spG (gg K d) 1 m_is_number) :=
  (fn_def (N := ["value"]) T.f_is_number sc_is_number rfl (body := b_is_number) fun cdv A outer s H E hr =>
    (svs_one (sv_ret (ev_or (ev_call (ok_is_integer (P := P) (w := w) (base := base) T) (hr.mono (by decide)) (by rfl) T.m_is_integer T.k_is_integer T.b_is_integer .nil (fun _ _ => .nil) passB (ea_cons (ev_var 0) ea_nil)) (ev_one (ev_callB (cd_isinstance (by rfl) T.clsf) (by rfl) T.n_isinstance bo_isinstance (ea_cons (ev_var 0) (ea_cons (ev_cls 0 (by rfl) T.m_Ratio) ea_nil))))))))

/-! parts_of -/
def b_parts_of : Pm.Env → S → Res Fl := (sSeq (sIf (mB (mCall (bIs 1) (aCons (mVar 0) (aCons (mC (.cls 0)) aNil)))) (sRet (mTup (aCons (mProp 0 m_c0_top (mVar 0)) (aCons (mProp 0 m_c0_bottom (mVar 0)) aNil)))) sNext)
  (sSeq (sIf (mB (mCallD (n := 1) [] m_is_integer (aCons (mVar 0) aNil))) (sRet (mTup (aCons (mVar 0) (aCons (mC (.int 1)) aNil)))) sNext)
  sStuck))
def m_parts_of : List D → S → Res D := runBody 1 1 b_parts_of
theorem sc_parts_of : FnScope ["number"] ["number"] (defScope s_parts_of) := ⟨rfl, rfl, rfl, by decide +kernel, rfl, by decide +kernel, by decide +kernel⟩
theorem ok_parts_of (T : Tx K mg d) : FnOk P w K mg base (L2.CX P w) 3 d.a_parts_of d.d_parts_of ["number"] (spG (gg K d) 1 m_parts_of) :=
  (fn_def (N := ["number"]) T.f_parts_of sc_parts_of rfl (body := b_parts_of) fun cdv A outer s H E hr =>
    (svs_cons (sv_if (et_val (ev_callB (cd_isinstance (by rfl) T.clsf) (by rfl) T.n_isinstance bo_isinstance (ea_cons (ev_var 0) (ea_cons (ev_cls 0 (by rfl) T.m_Ratio) ea_nil)))) (svs_one (sv_ret (ev_tup (ea_cons (ev_prop (E' := E0) (ev_var 0) T.cl_Ratio T.pr_c0_top (ok_c0_top (P := P) (w := w) (base := base) T) (hr.mono (by decide)) T.b_c0_top passK) (ea_cons (ev_prop (E' := E0) (ev_var 0) T.cl_Ratio T.pr_c0_bottom (ok_c0_bottom (P := P) (w := w) (base := base) T) (hr.mono (by decide)) T.b_c0_bottom passK) ea_nil))))) svs_nil)
    (svs_cons (sv_if (et_val (ev_call (ok_is_integer (P := P) (w := w) (base := base) T) (hr.mono (by decide)) (by rfl) T.m_is_integer T.k_is_integer T.b_is_integer .nil (fun _ _ => .nil) passB (ea_cons (ev_var 0) ea_nil))) (svs_one (sv_ret (ev_tup (ea_cons (ev_var 0) (ea_cons ev_int ea_nil))))) svs_nil)
    (svs_one sv_never))))

/-! Ratio.__add__ -/
def b_c0_add_ : Pm.Env → S → Res Fl := (sSeq (sAsg (mCallD (n := 1) [] m_parts_of (aCons (mVar 1) aNil)) (taTup 2 (taCons (aN (tName 2)) (taCons (aN (tName 3)) taNil))))
  (sRet (mMake 0 2 3 [] m_c0_init_ (aCons (m2 addAll (m2 mulD (mFld 0 0 (mVar 0)) (mVar 3)) (m2 mulD (mVar 2) (mFld 0 1 (mVar 0)))) (aCons (m2 mulD (mFld 0 1 (mVar 0)) (mVar 3)) aNil)))))
def m_c0_add_ : List D → S → Res D := runBody 2 4 b_c0_add_
theorem sc_c0_add_ : FnScope ["self", "other", "top", "bottom"] ["self", "other"] (defScope s_c0_add_) := ⟨rfl, rfl, rfl, by decide +kernel, rfl, by decide +kernel, by decide +kernel⟩
theorem ok_c0_add_ (T : Tx K mg d) : FnOk P w K mg base (L2.CX P w) 4 d.a_c0_add_ d.d_c0_add_ ["self", "other"] (spG (gg K d) 2 m_c0_add_) :=
  (fn_def (N := ["self", "other", "top", "bottom"]) T.f_c0_add_ sc_c0_add_ rfl (body := b_c0_add_) fun cdv A outer s H E hr =>
    (svs_cons (sv_asg (ev_call (ok_parts_of (P := P) (w := w) (base := base) T) (hr.mono (by decide)) (by rfl) T.m_parts_of T.k_parts_of T.b_parts_of .nil (fun _ _ => .nil) passB (ea_cons (ev_var 1) ea_nil)) (ta_tup (by rfl) (by rfl) (tas_cons (ta_n (tn_name 2 sc_c0_add_.nd (by rfl) (Or.inl (by rfl)))) (tas_cons (ta_n (tn_name 3 sc_c0_add_.nd (by rfl) (Or.inl (by rfl)))) tas_nil))))
    (svs_one (sv_ret (ev_makeV T.mk_Ratio (ok_c0_init_ (P := P) (w := w) (base := base) T) (by rfl) (hr.mono (by decide)) (by rfl) T.m_Ratio T.b0_c0_init_ (fun _ _ => .nil) passB (ea_cons (ev_bin od_addAll (ev_bin od_mulD (ev_fld (c := 0) (i := 0) (ev_var 0) T.cl_Ratio T.na_Ratio_top (by rfl) nd_Ratio) (ev_var 3)) (ev_bin od_mulD (ev_var 2) (ev_fld (c := 0) (i := 1) (ev_var 0) T.cl_Ratio T.na_Ratio_bottom (by rfl) nd_Ratio))) (ea_cons (ev_bin od_mulD (ev_fld (c := 0) (i := 1) (ev_var 0) T.cl_Ratio T.na_Ratio_bottom (by rfl) nd_Ratio) (ev_var 3)) ea_nil)))))))

/-! Ratio.__radd__ -/
def b_c0_radd_ : Pm.Env → S → Res Fl := (sRet (m2 (opOwn 0 m_c0_add_ fun _ _ => .stuck) (mVar 0) (mVar 1)))
def m_c0_radd_ : List D → S → Res D := runBody 2 2 b_c0_radd_
theorem sc_c0_radd_ : FnScope ["self", "other"] ["self", "other"] (defScope s_c0_radd_) := ⟨rfl, rfl, rfl, by decide +kernel, rfl, by decide +kernel, by decide +kernel⟩
theorem ok_c0_radd_ (T : Tx K mg d) : FnOk P w K mg base (L2.CX P w) 5 d.a_c0_radd_ d.d_c0_radd_ ["self", "other"] (spG (gg K d) 2 m_c0_radd_) :=
  (fn_def (N := ["self", "other"]) T.f_c0_radd_ sc_c0_radd_ rfl (body := b_c0_radd_) fun cdv A outer s H E hr =>
    (svs_one (sv_ret (ev_bin (od_own (c := 0) T.o_pAdd (ok_c0_add_ (P := P) (w := w) (base := base) T) (fn_never (k := 0)) (hr.mono (by decide)) (hr.mono (by decide)) T.b_c0_add_ T.b_c0_radd_ passB) (ev_var 0) (ev_var 1)))))

/-! Ratio.__sub__ -/
def b_c0_sub_ : Pm.Env → S → Res Fl := (sSeq (sAsg (mCallD (n := 1) [] m_parts_of (aCons (mVar 1) aNil)) (taTup 2 (taCons (aN (tName 2)) (taCons (aN (tName 3)) taNil))))
  (sRet (mMake 0 2 3 [] m_c0_init_ (aCons (m2 subI (m2 mulD (mFld 0 0 (mVar 0)) (mVar 3)) (m2 mulD (mVar 2) (mFld 0 1 (mVar 0)))) (aCons (m2 mulD (mFld 0 1 (mVar 0)) (mVar 3)) aNil)))))
def m_c0_sub_ : List D → S → Res D := runBody 2 4 b_c0_sub_
theorem sc_c0_sub_ : FnScope ["self", "other", "top", "bottom"] ["self", "other"] (defScope s_c0_sub_) := ⟨rfl, rfl, rfl, by decide +kernel, rfl, by decide +kernel, by decide +kernel⟩
theorem ok_c0_sub_ (T : Tx K mg d) : FnOk P w K mg base (L2.CX P w) 4 d.a_c0_sub_ d.d_c0_sub_ ["self", "other"] (spG (gg K d) 2 m_c0_sub_) :=
  (fn_def (N := ["self", "other", "top", "bottom"]) T.f_c0_sub_ sc_c0_sub_ rfl (body := b_c0_sub_) fun cdv A outer s H E hr =>
    (svs_cons (sv_asg (ev_call (ok_parts_of (P := P) (w := w) (base := base) T) (hr.mono (by decide)) (by rfl) T.m_parts_of T.k_parts_of T.b_parts_of .nil (fun _ _ => .nil) passB (ea_cons (ev_var 1) ea_nil)) (ta_tup (by rfl) (by rfl) (tas_cons (ta_n (tn_name 2 sc_c0_sub_.nd (by rfl) (Or.inl (by rfl)))) (tas_cons (ta_n (tn_name 3 sc_c0_sub_.nd (by rfl) (Or.inl (by rfl)))) tas_nil))))
    (svs_one (sv_ret (ev_makeV T.mk_Ratio (ok_c0_init_ (P := P) (w := w) (base := base) T) (by rfl) (hr.mono (by decide)) (by rfl) T.m_Ratio T.b0_c0_init_ (fun _ _ => .nil) passB (ea_cons (ev_bin od_sub (ev_bin od_mulD (ev_fld (c := 0) (i := 0) (ev_var 0) T.cl_Ratio T.na_Ratio_top (by rfl) nd_Ratio) (ev_var 3)) (ev_bin od_mulD (ev_var 2) (ev_fld (c := 0) (i := 1) (ev_var 0) T.cl_Ratio T.na_Ratio_bottom (by rfl) nd_Ratio))) (ea_cons (ev_bin od_mulD (ev_fld (c := 0) (i := 1) (ev_var 0) T.cl_Ratio T.na_Ratio_bottom (by rfl) nd_Ratio) (ev_var 3)) ea_nil)))))))

/-! Ratio.__neg__ -/
def b_c0_neg_ : Pm.Env → S → Res Fl := (sRet (mMake 0 2 3 [] m_c0_init_ (aCons (m1 negI (mFld 0 0 (mVar 0))) (aCons (mFld 0 1 (mVar 0)) aNil))))
def m_c0_neg_ : List D → S → Res D := runBody 1 1 b_c0_neg_
theorem sc_c0_neg_ : FnScope ["self"] ["self"] (defScope s_c0_neg_) := ⟨rfl, rfl, rfl, by decide +kernel, rfl, by decide +kernel, by decide +kernel⟩
theorem ok_c0_neg_ (T : Tx K mg d) : FnOk P w K mg base (L2.CX P w) 4 d.a_c0_neg_ d.d_c0_neg_ ["self"] (spG (gg K d) 1 m_c0_neg_) :=
  (fn_def (N := ["self"]) T.f_c0_neg_ sc_c0_neg_ rfl (body := b_c0_neg_) fun cdv A outer s H E hr =>
    (svs_one (sv_ret (ev_makeV T.mk_Ratio (ok_c0_init_ (P := P) (w := w) (base := base) T) (by rfl) (hr.mono (by decide)) (by rfl) T.m_Ratio T.b0_c0_init_ (fun _ _ => .nil) passB (ea_cons (ev_un ud_neg (ev_fld (c := 0) (i := 0) (ev_var 0) T.cl_Ratio T.na_Ratio_top (by rfl) nd_Ratio)) (ea_cons (ev_fld (c := 0) (i := 1) (ev_var 0) T.cl_Ratio T.na_Ratio_bottom (by rfl) nd_Ratio) ea_nil))))))

/-! Ratio.__rsub__ -/
def b_c0_rsub_ : Pm.Env → S → Res Fl := (sRet (m2 (opOwn 0 m_c0_add_ fun _ _ => .stuck) (m1 (fun x s => match x with | .ins k fs => if k = 0 then m_c0_neg_ [.ins k fs] s else .stuck | _ => .stuck) (mVar 0)) (mVar 1)))
def m_c0_rsub_ : List D → S → Res D := runBody 2 2 b_c0_rsub_
theorem sc_c0_rsub_ : FnScope ["self", "other"] ["self", "other"] (defScope s_c0_rsub_) := ⟨rfl, rfl, rfl, by decide +kernel, rfl, by decide +kernel, by decide +kernel⟩
theorem ok_c0_rsub_ (T : Tx K mg d) : FnOk P w K mg base (L2.CX P w) 5 d.a_c0_rsub_ d.d_c0_rsub_ ["self", "other"] (spG (gg K d) 2 m_c0_rsub_) :=
  (fn_def (N := ["self", "other"]) T.f_c0_rsub_ sc_c0_rsub_ rfl (body := b_c0_rsub_) fun cdv A outer s H E hr =>
    (svs_one (sv_ret (ev_bin (od_own (c := 0) T.o_pAdd (ok_c0_add_ (P := P) (w := w) (base := base) T) (fn_never (k := 0)) (hr.mono (by decide)) (hr.mono (by decide)) T.b_c0_add_ T.b_c0_radd_ passB) (ev_un (ud_own (c := 0) T.g_neg1 T.g_neg2 (ok_c0_neg_ (P := P) (w := w) (base := base) T) (hr.mono (by decide)) T.b_c0_neg_ passB) (ev_var 0)) (ev_var 1)))))

/-! Ratio.__mul__ -/
def b_c0_mul_ : Pm.Env → S → Res Fl := (sSeq (sAsg (mCallD (n := 1) [] m_parts_of (aCons (mVar 1) aNil)) (taTup 2 (taCons (aN (tName 2)) (taCons (aN (tName 3)) taNil))))
  (sRet (mMake 0 2 3 [] m_c0_init_ (aCons (m2 mulD (mFld 0 0 (mVar 0)) (mVar 2)) (aCons (m2 mulD (mFld 0 1 (mVar 0)) (mVar 3)) aNil)))))
def m_c0_mul_ : List D → S → Res D := runBody 2 4 b_c0_mul_
theorem sc_c0_mul_ : FnScope ["self", "other", "top", "bottom"] ["self", "other"] (defScope s_c0_mul_) := ⟨rfl, rfl, rfl, by decide +kernel, rfl, by decide +kernel, by decide +kernel⟩
theorem ok_c0_mul_ (T : Tx K mg d) : FnOk P w K mg base (L2.CX P w) 4 d.a_c0_mul_ d.d_c0_mul_ ["self", "other"] (spG (gg K d) 2 m_c0_mul_) :=
  (fn_def (N := ["self", "other", "top", "bottom"]) T.f_c0_mul_ sc_c0_mul_ rfl (body := b_c0_mul_) fun cdv A outer s H E hr =>
    (svs_cons (sv_asg (ev_call (ok_parts_of (P := P) (w := w) (base := base) T) (hr.mono (by decide)) (by rfl) T.m_parts_of T.k_parts_of T.b_parts_of .nil (fun _ _ => .nil) passB (ea_cons (ev_var 1) ea_nil)) (ta_tup (by rfl) (by rfl) (tas_cons (ta_n (tn_name 2 sc_c0_mul_.nd (by rfl) (Or.inl (by rfl)))) (tas_cons (ta_n (tn_name 3 sc_c0_mul_.nd (by rfl) (Or.inl (by rfl)))) tas_nil))))
    (svs_one (sv_ret (ev_makeV T.mk_Ratio (ok_c0_init_ (P := P) (w := w) (base := base) T) (by rfl) (hr.mono (by decide)) (by rfl) T.m_Ratio T.b0_c0_init_ (fun _ _ => .nil) passB (ea_cons (ev_bin od_mulD (ev_fld (c := 0) (i := 0) (ev_var 0) T.cl_Ratio T.na_Ratio_top (by rfl) nd_Ratio) (ev_var 2)) (ea_cons (ev_bin od_mulD (ev_fld (c := 0) (i := 1) (ev_var 0) T.cl_Ratio T.na_Ratio_bottom (by rfl) nd_Ratio) (ev_var 3)) ea_nil)))))))

/-! Ratio.__rmul__ -/
def b_c0_rmul_ : Pm.Env → S → Res Fl := (sRet (m2 (opOwn 0 m_c0_mul_ fun _ _ => .stuck) (mVar 0) (mVar 1)))
def m_c0_rmul_ : List D → S → Res D := runBody 2 2 b_c0_rmul_
theorem sc_c0_rmul_ : FnScope ["self", "other"] ["self", "other"] (defScope s_c0_rmul_) := ⟨rfl, rfl, rfl, by decide +kernel, rfl, by decide +kernel, by decide +kernel⟩
theorem ok_c0_rmul_ (T : Tx K mg d) : FnOk P w K mg base (L2.CX P w) 5 d.a_c0_rmul_ d.d_c0_rmul_ ["self", "other"] (spG (gg K d) 2 m_c0_rmul_) :=
  (fn_def (N := ["self", "other"]) T.f_c0_rmul_ sc_c0_rmul_ rfl (body := b_c0_rmul_) fun cdv A outer s H E hr =>
    (svs_one (sv_ret (ev_bin (od_own (c := 0) T.o_pMul (ok_c0_mul_ (P := P) (w := w) (base := base) T) (fn_never (k := 0)) (hr.mono (by decide)) (hr.mono (by decide)) T.b_c0_mul_ T.b_c0_rmul_ passB) (ev_var 0) (ev_var 1)))))

/-! Ratio.over -/
def b_c0_over : Pm.Env → S → Res Fl := (sSeq (sAsg (mCallD (n := 1) [] m_parts_of (aCons (mVar 1) aNil)) (taTup 2 (taCons (aN (tName 2)) (taCons (aN (tName 3)) taNil))))
  (sSeq (sIf (mB (m2 (eqP false) (mVar 2) (mC (.int 0)))) sStuck sNext)
  (sRet (mMake 0 2 3 [] m_c0_init_ (aCons (m2 mulD (mFld 0 0 (mVar 0)) (mVar 3)) (aCons (m2 mulD (mFld 0 1 (mVar 0)) (mVar 2)) aNil))))))
def m_c0_over : List D → S → Res D := runBody 2 4 b_c0_over
theorem sc_c0_over : FnScope ["self", "other", "top", "bottom"] ["self", "other"] (defScope s_c0_over) := ⟨rfl, rfl, rfl, by decide +kernel, rfl, by decide +kernel, by decide +kernel⟩
theorem ok_c0_over (T : Tx K mg d) : FnOk P w K mg base (L2.CX P w) 4 d.a_c0_over d.d_c0_over ["self", "other"] (spG (gg K d) 2 m_c0_over) :=
  (fn_def (N := ["self", "other", "top", "bottom"]) T.f_c0_over sc_c0_over rfl (body := b_c0_over) fun cdv A outer s H E hr =>
    (svs_cons (sv_asg (ev_call (ok_parts_of (P := P) (w := w) (base := base) T) (hr.mono (by decide)) (by rfl) T.m_parts_of T.k_parts_of T.b_parts_of .nil (fun _ _ => .nil) passB (ea_cons (ev_var 1) ea_nil)) (ta_tup (by rfl) (by rfl) (tas_cons (ta_n (tn_name 2 sc_c0_over.nd (by rfl) (Or.inl (by rfl)))) (tas_cons (ta_n (tn_name 3 sc_c0_over.nd (by rfl) (Or.inl (by rfl)))) tas_nil))))
    (svs_cons (sv_if (et_cmp (od_eqP (by rfl) hr.un64) (ev_var 2) ev_int) (svs_one sv_never) svs_nil)
    (svs_one (sv_ret (ev_makeV T.mk_Ratio (ok_c0_init_ (P := P) (w := w) (base := base) T) (by rfl) (hr.mono (by decide)) (by rfl) T.m_Ratio T.b0_c0_init_ (fun _ _ => .nil) passB (ea_cons (ev_bin od_mulD (ev_fld (c := 0) (i := 0) (ev_var 0) T.cl_Ratio T.na_Ratio_top (by rfl) nd_Ratio) (ev_var 3)) (ea_cons (ev_bin od_mulD (ev_fld (c := 0) (i := 1) (ev_var 0) T.cl_Ratio T.na_Ratio_bottom (by rfl) nd_Ratio) (ev_var 2)) ea_nil))))))))

/-! Ratio.unsigned -/
def b_c0_unsigned : Pm.Env → S → Res Fl := (sRet (mMake 0 2 3 [] m_c0_init_ (aCons (mCall (bInt1 fun i => .int (absI i)) (aCons (mFld 0 0 (mVar 0)) aNil)) (aCons (mFld 0 1 (mVar 0)) aNil))))
def m_c0_unsigned : List D → S → Res D := runBody 1 1 b_c0_unsigned
theorem sc_c0_unsigned : FnScope ["self"] ["self"] (defScope s_c0_unsigned) := ⟨rfl, rfl, rfl, by decide +kernel, rfl, by decide +kernel, by decide +kernel⟩
theorem ok_c0_unsigned (T : Tx K mg d) : FnOk P w K mg base (L2.CX P w) 4 d.a_c0_unsigned d.d_c0_unsigned ["self"] (spG (gg K d) 1 m_c0_unsigned) :=
  (fn_def (N := ["self"]) T.f_c0_unsigned sc_c0_unsigned rfl (body := b_c0_unsigned) fun cdv A outer s H E hr =>
    (svs_one (sv_ret (ev_makeV T.mk_Ratio (ok_c0_init_ (P := P) (w := w) (base := base) T) (by rfl) (hr.mono (by decide)) (by rfl) T.m_Ratio T.b0_c0_init_ (fun _ _ => .nil) passB (ea_cons (ev_callB (cd_abs) (by rfl) T.n_abs bo_abs (ea_cons (ev_fld (c := 0) (i := 0) (ev_var 0) T.cl_Ratio T.na_Ratio_top (by rfl) nd_Ratio) ea_nil)) (ea_cons (ev_fld (c := 0) (i := 1) (ev_var 0) T.cl_Ratio T.na_Ratio_bottom (by rfl) nd_Ratio) ea_nil))))))

/-! Ratio.is_below -/
def b_c0_is_below : Pm.Env → S → Res Fl := (sSeq (sAsg (mCallD (n := 1) [] m_parts_of (aCons (mVar 1) aNil)) (taTup 2 (taCons (aN (tName 2)) (taCons (aN (tName 3)) taNil))))
  (sRet (m2 ltI (m2 mulD (mFld 0 0 (mVar 0)) (mVar 3)) (m2 mulD (mVar 2) (mFld 0 1 (mVar 0))))))
def m_c0_is_below : List D → S → Res D := runBody 2 4 b_c0_is_below
theorem sc_c0_is_below : FnScope ["self", "other", "top", "bottom"] ["self", "other"] (defScope s_c0_is_below) := ⟨rfl, rfl, rfl, by decide +kernel, rfl, by decide +kernel, by decide +kernel⟩
theorem ok_c0_is_below (T : Tx K mg d) : FnOk P w K mg base (L2.CX P w) 4 d.a_c0_is_below d.d_c0_is_below ["self", "other"] (spG (gg K d) 2 m_c0_is_below) :=
  (fn_def (N := ["self", "other", "top", "bottom"]) T.f_c0_is_below sc_c0_is_below rfl (body := b_c0_is_below) fun cdv A outer s H E hr =>
    (svs_cons (sv_asg (ev_call (ok_parts_of (P := P) (w := w) (base := base) T) (hr.mono (by decide)) (by rfl) T.m_parts_of T.k_parts_of T.b_parts_of .nil (fun _ _ => .nil) passB (ea_cons (ev_var 1) ea_nil)) (ta_tup (by rfl) (by rfl) (tas_cons (ta_n (tn_name 2 sc_c0_is_below.nd (by rfl) (Or.inl (by rfl)))) (tas_cons (ta_n (tn_name 3 sc_c0_is_below.nd (by rfl) (Or.inl (by rfl)))) tas_nil))))
    (svs_one (sv_ret (ev_cmp od_lt (ev_bin od_mulD (ev_fld (c := 0) (i := 0) (ev_var 0) T.cl_Ratio T.na_Ratio_top (by rfl) nd_Ratio) (ev_var 3)) (ev_bin od_mulD (ev_var 2) (ev_fld (c := 0) (i := 1) (ev_var 0) T.cl_Ratio T.na_Ratio_bottom (by rfl) nd_Ratio)))))))

/-! Ratio.is_at_most -/
def b_c0_is_at_most : Pm.Env → S → Res Fl := (sSeq (sAsg (mCallD (n := 1) [] m_parts_of (aCons (mVar 1) aNil)) (taTup 2 (taCons (aN (tName 2)) (taCons (aN (tName 3)) taNil))))
  (sRet (m2 leI (m2 mulD (mFld 0 0 (mVar 0)) (mVar 3)) (m2 mulD (mVar 2) (mFld 0 1 (mVar 0))))))
def m_c0_is_at_most : List D → S → Res D := runBody 2 4 b_c0_is_at_most
theorem sc_c0_is_at_most : FnScope ["self", "other", "top", "bottom"] ["self", "other"] (defScope s_c0_is_at_most) := ⟨rfl, rfl, rfl, by decide +kernel, rfl, by decide +kernel, by decide +kernel⟩
theorem ok_c0_is_at_most (T : Tx K mg d) : FnOk P w K mg base (L2.CX P w) 4 d.a_c0_is_at_most d.d_c0_is_at_most ["self", "other"] (spG (gg K d) 2 m_c0_is_at_most) :=
  (fn_def (N := ["self", "other", "top", "bottom"]) T.f_c0_is_at_most sc_c0_is_at_most rfl (body := b_c0_is_at_most) fun cdv A outer s H E hr =>
    (svs_cons (sv_asg (ev_call (ok_parts_of (P := P) (w := w) (base := base) T) (hr.mono (by decide)) (by rfl) T.m_parts_of T.k_parts_of T.b_parts_of .nil (fun _ _ => .nil) passB (ea_cons (ev_var 1) ea_nil)) (ta_tup (by rfl) (by rfl) (tas_cons (ta_n (tn_name 2 sc_c0_is_at_most.nd (by rfl) (Or.inl (by rfl)))) (tas_cons (ta_n (tn_name 3 sc_c0_is_at_most.nd (by rfl) (Or.inl (by rfl)))) tas_nil))))
    (svs_one (sv_ret (ev_cmp od_le (ev_bin od_mulD (ev_fld (c := 0) (i := 0) (ev_var 0) T.cl_Ratio T.na_Ratio_top (by rfl) nd_Ratio) (ev_var 3)) (ev_bin od_mulD (ev_var 2) (ev_fld (c := 0) (i := 1) (ev_var 0) T.cl_Ratio T.na_Ratio_bottom (by rfl) nd_Ratio)))))))

/-! Ratio.__eq__ -/
def b_c0_eq_ : Pm.Env → S → Res Fl := (sRet (mAnd (mCall (bIs 1) (aCons (mVar 1) (aCons (mC (.cls 0)) aNil))) (mAnd (m2 (eqP false) (mFld 0 0 (mVar 0)) (mFld 0 0 (mVar 1))) (m2 (eqP false) (mFld 0 1 (mVar 0)) (mFld 0 1 (mVar 1))))))
def m_c0_eq_ : List D → S → Res D := runBody 2 2 b_c0_eq_
theorem sc_c0_eq_ : FnScope ["self", "other"] ["self", "other"] (defScope s_c0_eq_) := ⟨rfl, rfl, rfl, by decide +kernel, rfl, by decide +kernel, by decide +kernel⟩
theorem ok_c0_eq_ (T : Tx K mg d) : FnOk P w K mg base (L2.CX P w) 1 d.a_c0_eq_ d.d_c0_eq_ ["self", "other"] (spG (gg K d) 2 m_c0_eq_) :=
  (fn_def (N := ["self", "other"]) T.f_c0_eq_ sc_c0_eq_ rfl (body := b_c0_eq_) fun cdv A outer s H E hr =>
    (svs_one (sv_ret (ev_and (ev_callB (cd_isinstance (by rfl) T.clsf) (by rfl) T.n_isinstance bo_isinstance (ea_cons (ev_var 1) (ea_cons (ev_cls 0 (by rfl) T.m_Ratio) ea_nil))) (ev_and (ev_cmp (od_eqP (by rfl) hr.un64) (ev_fld (c := 0) (i := 0) (ev_var 0) T.cl_Ratio T.na_Ratio_top (by rfl) nd_Ratio) (ev_fld (c := 0) (i := 0) (ev_var 1) T.cl_Ratio T.na_Ratio_top (by rfl) nd_Ratio)) (ev_one (ev_cmp (od_eqP (by rfl) hr.un64) (ev_fld (c := 0) (i := 1) (ev_var 0) T.cl_Ratio T.na_Ratio_bottom (by rfl) nd_Ratio) (ev_fld (c := 0) (i := 1) (ev_var 1) T.cl_Ratio T.na_Ratio_bottom (by rfl) nd_Ratio))))))))

/-! Ratio.__str__ -/
def b_c0_str_ : Pm.Env → S → Res Fl := (sSeq (sIf (mB (m2 (eqP false) (mFld 0 1 (mVar 0)) (mC (.int 1)))) (sRet (mCall bStrI (aCons (mFld 0 0 (mVar 0)) aNil))) sNext)
  (sRet (mJoin [(mFmt (mFld 0 0 (mVar 0))), (mC (.str "/")), (mFmt (mFld 0 1 (mVar 0)))])))
def m_c0_str_ : List D → S → Res D := runBody 1 1 b_c0_str_
theorem sc_c0_str_ : FnScope ["self"] ["self"] (defScope s_c0_str_) := ⟨rfl, rfl, rfl, by decide +kernel, rfl, by decide +kernel, by decide +kernel⟩
theorem ok_c0_str_ (T : Tx K mg d) : FnOk P w K mg base (L2.CX P w) 1 d.a_c0_str_ d.d_c0_str_ ["self"] (spG (gg K d) 1 m_c0_str_) :=
  (fn_def (N := ["self"]) T.f_c0_str_ sc_c0_str_ rfl (body := b_c0_str_) fun cdv A outer s H E hr =>
    (svs_cons (sv_if (et_cmp (od_eqP (by rfl) hr.un64) (ev_fld (c := 0) (i := 1) (ev_var 0) T.cl_Ratio T.na_Ratio_bottom (by rfl) nd_Ratio) ev_int) (svs_one (sv_ret (ev_callTy cd_strI (by rfl) T.n_str bo_str (ea_cons (ev_fld (c := 0) (i := 0) (ev_var 0) T.cl_Ratio T.na_Ratio_top (by rfl) nd_Ratio) ea_nil)))) svs_nil)
    (svs_one (sv_ret (ev_join (Ej.cons (ev_fmt (ev_fld (c := 0) (i := 0) (ev_var 0) T.cl_Ratio T.na_Ratio_top (by rfl) nd_Ratio)) (Ej.cons ev_str (Ej.cons (ev_fmt (ev_fld (c := 0) (i := 1) (ev_var 0) T.cl_Ratio T.na_Ratio_bottom (by rfl) nd_Ratio)) Ej.nil))))))))

/-! Ratio.__repr__ -/
def b_c0_repr_ : Pm.Env → S → Res Fl := (sRet (mJoin [(mC (.str "Ratio(")), (mFmt (mFld 0 0 (mVar 0))), (mC (.str ", ")), (mFmt (mFld 0 1 (mVar 0))), (mC (.str ")"))]))
def m_c0_repr_ : List D → S → Res D := runBody 1 1 b_c0_repr_
theorem sc_c0_repr_ : FnScope ["self"] ["self"] (defScope s_c0_repr_) := ⟨rfl, rfl, rfl, by decide +kernel, rfl, by decide +kernel, by decide +kernel⟩
theorem ok_c0_repr_ (T : Tx K mg d) : FnOk P w K mg base (L2.CX P w) 1 d.a_c0_repr_ d.d_c0_repr_ ["self"] (spG (gg K d) 1 m_c0_repr_) :=
  (fn_def (N := ["self"]) T.f_c0_repr_ sc_c0_repr_ rfl (body := b_c0_repr_) fun cdv A outer s H E hr =>
    (svs_one (sv_ret (ev_join (Ej.cons ev_str (Ej.cons (ev_fmt (ev_fld (c := 0) (i := 0) (ev_var 0) T.cl_Ratio T.na_Ratio_top (by rfl) nd_Ratio)) (Ej.cons ev_str (Ej.cons (ev_fmt (ev_fld (c := 0) (i := 1) (ev_var 0) T.cl_Ratio T.na_Ratio_bottom (by rfl) nd_Ratio)) (Ej.cons ev_str Ej.nil)))))))))
def pAdd : D → D → S → Res D := fun x y s => (addAll x y s).or (opOwn 0 m_c0_add_ m_c0_radd_ x y s)
theorem od_pAdd {X : Cx} {E : XK} (T : Tx X.K X.mg d) (hr : Room 5 X.A) (hx : Passes (L2.CX X.prog X.w) X E) : OpD X (gg X.K d) E (binaryOp .Add) pAdd :=
  od_addAll.or (od_own (c := 0) T.o_pAdd (ok_c0_add_ (P := X.prog) (w := X.w) (base := X.base) T) (ok_c0_radd_ (P := X.prog) (w := X.w) (base := X.base) T) (hr.mono (by decide)) (hr.mono (by decide)) T.b_c0_add_ T.b_c0_radd_ hx)
def pSub : D → D → S → Res D := fun x y s => (subI x y s).or (opOwn 0 m_c0_sub_ m_c0_rsub_ x y s)
theorem od_pSub {X : Cx} {E : XK} (T : Tx X.K X.mg d) (hr : Room 5 X.A) (hx : Passes (L2.CX X.prog X.w) X E) : OpD X (gg X.K d) E (binaryOp .Sub) pSub :=
  od_sub.or (od_own (c := 0) T.o_pSub (ok_c0_sub_ (P := X.prog) (w := X.w) (base := X.base) T) (ok_c0_rsub_ (P := X.prog) (w := X.w) (base := X.base) T) (hr.mono (by decide)) (hr.mono (by decide)) T.b_c0_sub_ T.b_c0_rsub_ hx)
def pMul : D → D → S → Res D := fun x y s => (mulD x y s).or (opOwn 0 m_c0_mul_ m_c0_rmul_ x y s)
theorem od_pMul {X : Cx} {E : XK} (T : Tx X.K X.mg d) (hr : Room 5 X.A) (hx : Passes (L2.CX X.prog X.w) X E) : OpD X (gg X.K d) E (binaryOp .Mult) pMul :=
  od_mulD.or (od_own (c := 0) T.o_pMul (ok_c0_mul_ (P := X.prog) (w := X.w) (base := X.base) T) (ok_c0_rmul_ (P := X.prog) (w := X.w) (base := X.base) T) (hr.mono (by decide)) (hr.mono (by decide)) T.b_c0_mul_ T.b_c0_rmul_ hx)
def pNeg : D → S → Res D := fun x s => (negI x s).or (match x with
  | .ins k fs => if k = 0 then m_c0_neg_ [.ins k fs] s else .stuck
  | _ => .stuck)
theorem ud_pNeg {X : Cx} {E : XK} (T : Tx X.K X.mg d) (hr : Room 5 X.A) (hx : Passes (L2.CX X.prog X.w) X E) : UnD X (gg X.K d) E (unaryOp .USub) pNeg :=
  ud_neg.or (ud_own (c := 0) T.g_neg1 T.g_neg2 (ok_c0_neg_ (P := X.prog) (w := X.w) (base := X.base) T) (hr.mono (by decide)) T.b_c0_neg_ hx)
def pEq : D → D → S → Res D := fun x y s => (eqP false x y s).or (eqOwn 0 m_c0_eq_ x y s)
theorem od_pEq {X : Cx} {E : XK} (T : Tx X.K X.mg d) (hr : Room 1 X.A) (hx : Passes (L2.CX X.prog X.w) X E) : OpD X (gg X.K d) E (compareOp .Eq) pEq :=
  (od_eqP rfl hr.un64).or (od_eqOwn (c := 0) T.o_eq (ok_c0_eq_ (P := X.prog) (w := X.w) (base := X.base) T) (hr.mono (by decide)) T.b_c0_eq_ hx)
def pNe : D → D → S → Res D := fun x y s => (eqP true x y s).or (neOwn 0 m_c0_eq_ x y s)
theorem od_pNe {X : Cx} {E : XK} (T : Tx X.K X.mg d) (hr : Room 2 X.A) (hx : Passes (L2.CX X.prog X.w) X E) : OpD X (gg X.K d) E (compareOp .NotEq) pNe :=
  (od_neP rfl hr.un64).or (od_neOwn (c := 0) (k := 1) T.o_ne (ok_c0_eq_ (P := X.prog) (w := X.w) (base := X.base) T) (hr.mono (by decide)) T.b_c0_eq_ hx)
def pStr : List D → S → Res D := fun x s => (bStrI x s).or (bOwn1 0 m_c0_str_ x s)
theorem cd_pStr {X : Cx} {E : XK} (T : Tx X.K X.mg d) (hr : Room 3 X.A) (hx : Passes (L2.CX X.prog X.w) X E) : CallD X (gg X.K d) E (.type "str") pStr :=
  cd_strI.or (cd_strOwn (c := 0) (k := 1) T.g_str1 T.g_str2 (ok_c0_str_ (P := X.prog) (w := X.w) (base := X.base) T) T.b_c0_str_ hr hx)
def pRepr : List D → S → Res D := fun x s => (match x with
  | [y] => if isSeqD y = true then bRepr [y] s else .stuck
  | _ => .stuck : Res D).or (bOwn1 0 m_c0_repr_ x s)
theorem cd_pRepr {X : Cx} {E : XK} (T : Tx X.K X.mg d) (hr : Room 2 X.A) (hx : Passes (L2.CX X.prog X.w) X E) (hgd : X.A.guards = some []) : CallD X (gg X.K d) E (.builtin "repr") pRepr :=
  (cd_reprD rfl hgd hr.un66).or (cd_reprOwn (c := 0) (k := 1) T.g_repr1 T.g_repr2 (ok_c0_repr_ (P := X.prog) (w := X.w) (base := X.base) T) T.b_c0_repr_ hr hx)

/-! Ratio.total -/
def b_c0_total : Pm.Env → S → Res Fl := (sSeq (sIf (mNotT (mB (mCallD (n := 1) [] m_is_list (aCons (mVar 1) aNil)))) sStuck sNext)
  (sSeq (sSet 2 (mMakeL 0 0 2 3 [.int (1)] m_c0_init_ (aCons (mC (.int 0)) aNil)))
  (sSeq (sFor (iLT (mVar 1)) (tName 3) (sSet 2 (m2 pAdd (mVar 2) (mVar 3))))
  (sRet (mVar 2)))))
def m_c0_total : List D → S → Res D := runBody 2 4 b_c0_total
theorem sc_c0_total : FnScope ["cls", "numbers", "result", "number"] ["cls", "numbers"] (defScope s_c0_total) := ⟨rfl, rfl, rfl, by decide +kernel, rfl, by decide +kernel, by decide +kernel⟩
theorem ok_c0_total (T : Tx K mg d) : FnOk P w K mg base (L2.CX P w) 6 d.a_c0_total d.d_c0_total ["cls", "numbers"] (spG (gg K d) 2 m_c0_total) :=
  (fn_def (N := ["cls", "numbers", "result", "number"]) T.f_c0_total sc_c0_total rfl (body := b_c0_total) fun cdv A outer s H E hr =>
    (svs_cons (sv_if (et_not (et_val (ev_call (ok_is_list (P := P) (w := w) (base := base) T) (hr.mono (by decide)) (by rfl) T.m_is_list T.k_is_list T.b_is_list .nil (fun _ _ => .nil) passB (ea_cons (ev_var 1) ea_nil)))) (svs_one sv_never) svs_nil)
    (svs_cons (sv_set 2 sc_c0_total.nd (by rfl) (Or.inl (by rfl)) (ev_makeLV (i := 0) T.mk_Ratio (ok_c0_init_ (P := P) (w := w) (base := base) T) (by rfl) (hr.mono (by decide)) (by rfl) (Or.inl (by rfl)) T.b1_c0_init_ (fun _ _ => .cons rep_int .nil) passB (ea_cons ev_int ea_nil)))
    (svs_cons (sv_for (L2.passes_of (by rfl)) (by rfl) (iv_lt (by rfl) (ev_var 1)) (tn_name 3 sc_c0_total.nd (by rfl) (Or.inl (by rfl))) (svs_one (sv_set 2 sc_c0_total.nd (by rfl) (Or.inl (by rfl)) (ev_bin (od_pAdd T (hr.mono (by decide)) passB) (ev_var 2) (ev_var 3)))))
    (svs_one (sv_ret (ev_var 2)))))))

/-! _law_pot -/
def b_law_pot : Pm.Env → S → Res Fl := (sSeq (sSet 2 (m2 addAll (m2 mulD (mC (.int 127)) (mVar 1)) (mC (.int 59))))
  (sSeq (sIf (mB (m2 ltI (mVar 1) (mCall bLen (aCons (mVar 0) aNil)))) (sSet 2 (mCall (bInt1 fun i => .int (absI i)) (aCons (m2 ixD (mVar 0) (mVar 1)) aNil))) sNext)
  (sRet (mCell (aCons (mCall (bInt2 (fun _ _ => true) fun i j => .int (maxI i j)) (aCons (mC (.int 0)) (aCons (m2 subI (mVar 2) (m2 powI (mC (.int 10)) (mC (.int 18)))) aNil))) (aCons (m2 addAll (m2 modI (m2 mulD (mCall (bInt1 fun i => .int i) (aCons (m2 addAll (m2 modI (mCall (bInt1 fun i => .int i) (aCons (mVar 2) aNil)) (mC (.int 2147483549))) (mC (.int 59))) aNil)) (m2 powI (m2 addAll (m2 mulD (mC (.int 2)) (mVar 1)) (mC (.int 3))) (mC (.int 3)))) (mC (.int 2147483477))) (mC (.int 1))) aNil))))))
def m_law_pot : List D → S → Res D := runBody 2 3 b_law_pot
theorem sc_law_pot : FnScope ["_law_script", "_law_k", "_law_cell"] ["_law_script", "_law_k"] (defScope s_law_pot) := ⟨rfl, rfl, rfl, by decide +kernel, rfl, by decide +kernel, by decide +kernel⟩
theorem ok_law_pot (T : Tx K mg d) : FnOk P w K mg base (L2.CX P w) 1 d.a_law_pot d.d_law_pot ["_law_script", "_law_k"] (spG (gg K d) 2 m_law_pot) :=
  (fn_def (N := ["_law_script", "_law_k", "_law_cell"]) T.f_law_pot sc_law_pot rfl (body := b_law_pot) fun cdv A outer s H E hr =>
    (svs_cons (sv_set 2 sc_law_pot.nd (by rfl) (Or.inl (by rfl)) (ev_bin od_addAll (ev_bin od_mulD ev_int (ev_var 1)) ev_int))
    (svs_cons (sv_if (et_cmp od_lt (ev_var 1) (ev_callB (cd_len (by rfl)) (by rfl) T.n_len bo_len (ea_cons (ev_var 0) ea_nil))) (svs_one (sv_set 2 sc_law_pot.nd (by rfl) (Or.inl (by rfl)) (ev_callB (cd_abs) (by rfl) T.n_abs bo_abs (ea_cons (ev_ix (ixd (by rfl)) (ev_var 0) (ev_var 1)) ea_nil)))) svs_nil)
    (svs_one (sv_ret (ev_cell (ea_cons (ev_callB (cd_max2 (by rfl)) (by rfl) T.n_max bo_max (ea_cons ev_int (ea_cons (ev_bin od_sub (ev_var 2) (ev_bin od_pow ev_int ev_int)) ea_nil))) (ea_cons (ev_bin od_addAll (ev_bin od_mod (ev_bin od_mulD (ev_callTy (cd_int) (by rfl) T.n_int bo_int (ea_cons (ev_bin od_addAll (ev_bin od_mod (ev_callTy (cd_int) (by rfl) T.n_int bo_int (ea_cons (ev_var 2) ea_nil)) ev_int) ev_int) ea_nil)) (ev_bin od_pow (ev_bin od_addAll (ev_bin od_mulD ev_int (ev_var 1)) ev_int) ev_int)) ev_int) ev_int) ea_nil))))))))

/-! _law_draw -/
def b_law_draw : Pm.Env → S → Res Fl := (sSeq (sIf (mB (m2 gtI (m2 ixD (mVar 0) (mC (.int 0))) (mC (.int 0)))) (sSeq (sAsg (mCall bDivmod (aCons (m2 ixD (mVar 0) (mC (.int 0))) (aCons (mVar 1) aNil))) (taTup 2 (taCons (taSub (mVar 0) (mC (.int 0))) (taCons (aN (tName 2)) taNil))))
  (sRet (mVar 2))) sNext)
  (sSeq (sAsg (m2 modI (mCall (bInt1 fun i => .int i) (aCons (m2 addAll (m2 mulD (m2 ixD (mVar 0) (mC (.int 1))) (mC (.int 48271))) (mC (.int 18140))) aNil)) (mC (.int 2147483587))) (taSub (mVar 0) (mC (.int 1))))
  (sRet (m2 modI (mCall (bInt1 fun i => .int i) (aCons (m2 divI (m2 modI (mCall (bInt1 fun i => .int i) (aCons (m2 mulD (m2 ixD (mVar 0) (mC (.int 1))) (m2 ixD (mVar 0) (mC (.int 1)))) aNil)) (mC (.int 2147483549))) (mC (.int 29))) aNil)) (mVar 1)))))
def m_law_draw : List D → S → Res D := runBody 2 3 b_law_draw
theorem sc_law_draw : FnScope ["_law_pot_here", "_law_size", "_law_digit"] ["_law_pot_here", "_law_size"] (defScope s_law_draw) := ⟨rfl, rfl, rfl, by decide +kernel, rfl, by decide +kernel, by decide +kernel⟩
theorem ok_law_draw (T : Tx K mg d) : FnOk P w K mg base (L2.CX P w) 1 d.a_law_draw d.d_law_draw ["_law_pot_here", "_law_size"] (spG (gg K d) 2 m_law_draw) :=
  (fn_def (N := ["_law_pot_here", "_law_size", "_law_digit"]) T.f_law_draw sc_law_draw rfl (body := b_law_draw) fun cdv A outer s H E hr =>
    (svs_cons (sv_if (et_cmp od_gt (ev_ix (ixd (by rfl)) (ev_var 0) ev_int) ev_int) (svs_cons (sv_asg (ev_callB (cd_divmod) (by rfl) T.n_divmod bo_divmod (ea_cons (ev_ix (ixd (by rfl)) (ev_var 0) ev_int) (ea_cons (ev_var 1) ea_nil))) (ta_tup (by rfl) (by rfl) (tas_cons (ta_sub (ev_var 0) ev_int) (tas_cons (ta_n (tn_name 2 sc_law_draw.nd (by rfl) (Or.inl (by rfl)))) tas_nil))))
    (svs_one (sv_ret (ev_var 2)))) svs_nil)
    (svs_cons (sv_asg (ev_bin od_mod (ev_callTy (cd_int) (by rfl) T.n_int bo_int (ea_cons (ev_bin od_addAll (ev_bin od_mulD (ev_ix (ixd (by rfl)) (ev_var 0) ev_int) ev_int) ev_int) ea_nil)) ev_int) (ta_sub (ev_var 0) ev_int))
    (svs_one (sv_ret (ev_bin od_mod (ev_callTy (cd_int) (by rfl) T.n_int bo_int (ea_cons (ev_bin od_div (ev_bin od_mod (ev_callTy (cd_int) (by rfl) T.n_int bo_int (ea_cons (ev_bin od_mulD (ev_ix (ixd (by rfl)) (ev_var 0) ev_int) (ev_ix (ixd (by rfl)) (ev_var 0) ev_int)) ea_nil)) ev_int) ev_int) ea_nil)) (ev_var 1)))))))

/-! _law_pick -/
def b_law_pick : Pm.Env → S → Res Fl := (sRet (m2 ixD (mVar 1) (mCallD (n := 2) [] m_law_draw (aCons (mVar 0) (aCons (mCall bLen (aCons (mVar 1) aNil)) aNil)))))
def m_law_pick : List D → S → Res D := runBody 2 2 b_law_pick
theorem sc_law_pick : FnScope ["_law_pot_here", "_law_some"] ["_law_pot_here", "_law_some"] (defScope s_law_pick) := ⟨rfl, rfl, rfl, by decide +kernel, rfl, by decide +kernel, by decide +kernel⟩
theorem ok_law_pick (T : Tx K mg d) : FnOk P w K mg base (L2.CX P w) 2 d.a_law_pick d.d_law_pick ["_law_pot_here", "_law_some"] (spG (gg K d) 2 m_law_pick) :=
  (fn_def (N := ["_law_pot_here", "_law_some"]) T.f_law_pick sc_law_pick rfl (body := b_law_pick) fun cdv A outer s H E hr =>
    (svs_one (sv_ret (ev_ix (ixd (by rfl)) (ev_var 1) (ev_call (ok_law_draw (P := P) (w := w) (base := base) T) (hr.mono (by decide)) (by rfl) T.m_law_draw T.k_law_draw T.b_law_draw .nil (fun _ _ => .nil) passB (ea_cons (ev_var 0) (ea_cons (ev_callB (cd_len (by rfl)) (by rfl) T.n_len bo_len (ea_cons (ev_var 1) ea_nil)) ea_nil)))))))

/-! _law_low -/
def b_law_low : Pm.Env → S → Res Fl := (sSeq (sPar 2 3 (aCons (mCall (bInt1 fun i => .int (absI i)) (aCons (mVar 0) aNil)) (aCons (mCall (bInt1 fun i => .int (absI i)) (aCons (mVar 1) aNil)) aNil)))
  (sSeq (whileL (mB (m2 gtI (mVar 3) (mC (.int 0)))) (sPar 2 3 (aCons (mVar 3) (aCons (m2 modI (mCall (bInt1 fun i => .int i) (aCons (mVar 2) aNil)) (mVar 3)) aNil))) 100000)
  (sSeq (sSet 2 (mIf (mB (m2 gtI (mVar 1) (mC (.int 0)))) (mVar 2) (m2 subI (mC (.int 0)) (mVar 2))))
  (sRet (mTup (aCons (m2 divI (mVar 0) (mVar 2)) (aCons (m2 divI (mVar 1) (mVar 2)) aNil)))))))
def m_law_low : List D → S → Res D := runBody 2 4 b_law_low
theorem sc_law_low : FnScope ["_law_top", "_law_bottom", "_law_one", "_law_other"] ["_law_top", "_law_bottom"] (defScope s_law_low) := ⟨rfl, rfl, rfl, by decide +kernel, rfl, by decide +kernel, by decide +kernel⟩
theorem ok_law_low (T : Tx K mg d) : FnOk P w K mg base (L2.CX P w) 1 d.a_law_low d.d_law_low ["_law_top", "_law_bottom"] (spG (gg K d) 2 m_law_low) :=
  (fn_def (N := ["_law_top", "_law_bottom", "_law_one", "_law_other"]) T.f_law_low sc_law_low rfl (body := b_law_low) fun cdv A outer s H E hr =>
    (svs_cons (sv_par 2 3 (by rfl) sc_law_low.nd (by rfl) (by rfl) (by decide) (by rfl) (by rfl) (ea_cons (ev_callB (cd_abs) (by rfl) T.n_abs bo_abs (ea_cons (ev_var 0) ea_nil)) (ea_cons (ev_callB (cd_abs) (by rfl) T.n_abs bo_abs (ea_cons (ev_var 1) ea_nil)) ea_nil)) (by rfl))
    (svs_cons (sv_while 100000 (L2.passes_of (by rfl)) (et_cmp od_gt (ev_var 3) ev_int) (svs_one (sv_par 2 3 (by rfl) sc_law_low.nd (by rfl) (by rfl) (by decide) (by rfl) (by rfl) (ea_cons (ev_var 3) (ea_cons (ev_bin od_mod (ev_callTy (cd_int) (by rfl) T.n_int bo_int (ea_cons (ev_var 2) ea_nil)) (ev_var 3)) ea_nil)) (by rfl))))
    (svs_cons (sv_set 2 sc_law_low.nd (by rfl) (Or.inl (by rfl)) (ev_if (et_cmp od_gt (ev_var 1) ev_int) (ev_var 2) (ev_bin od_sub ev_int (ev_var 2))))
    (svs_one (sv_ret (ev_tup (ea_cons (ev_bin od_div (ev_var 0) (ev_var 2)) (ea_cons (ev_bin od_div (ev_var 1) (ev_var 2)) ea_nil)))))))))

/-! _law_sum -/
def b_law_sum : Pm.Env → S → Res Fl := (sRet (mCallD (n := 2) [] m_law_low (aCons (m2 addAll (m2 mulD (m2 ixD (mVar 0) (mC (.int 0))) (m2 ixD (mVar 1) (mC (.int 1)))) (m2 mulD (m2 ixD (mVar 1) (mC (.int 0))) (m2 ixD (mVar 0) (mC (.int 1))))) (aCons (m2 mulD (m2 ixD (mVar 0) (mC (.int 1))) (m2 ixD (mVar 1) (mC (.int 1)))) aNil))))
def m_law_sum : List D → S → Res D := runBody 2 2 b_law_sum
theorem sc_law_sum : FnScope ["_law_one", "_law_other"] ["_law_one", "_law_other"] (defScope s_law_sum) := ⟨rfl, rfl, rfl, by decide +kernel, rfl, by decide +kernel, by decide +kernel⟩
theorem ok_law_sum (T : Tx K mg d) : FnOk P w K mg base (L2.CX P w) 2 d.a_law_sum d.d_law_sum ["_law_one", "_law_other"] (spG (gg K d) 2 m_law_sum) :=
  (fn_def (N := ["_law_one", "_law_other"]) T.f_law_sum sc_law_sum rfl (body := b_law_sum) fun cdv A outer s H E hr =>
    (svs_one (sv_ret (ev_call (ok_law_low (P := P) (w := w) (base := base) T) (hr.mono (by decide)) (by rfl) T.m_law_low T.k_law_low T.b_law_low .nil (fun _ _ => .nil) passB (ea_cons (ev_bin od_addAll (ev_bin od_mulD (ev_ix (ixd (by rfl)) (ev_var 0) ev_int) (ev_ix (ixd (by rfl)) (ev_var 1) ev_int)) (ev_bin od_mulD (ev_ix (ixd (by rfl)) (ev_var 1) ev_int) (ev_ix (ixd (by rfl)) (ev_var 0) ev_int))) (ea_cons (ev_bin od_mulD (ev_ix (ixd (by rfl)) (ev_var 0) ev_int) (ev_ix (ixd (by rfl)) (ev_var 1) ev_int)) ea_nil))))))

/-! _law_by -/
def b_law_by : Pm.Env → S → Res Fl := (sRet (mCallD (n := 2) [] m_law_low (aCons (m2 mulD (m2 ixD (mVar 0) (mC (.int 0))) (m2 ixD (mVar 1) (mC (.int 0)))) (aCons (m2 mulD (m2 ixD (mVar 0) (mC (.int 1))) (m2 ixD (mVar 1) (mC (.int 1)))) aNil))))
def m_law_by : List D → S → Res D := runBody 2 2 b_law_by
theorem sc_law_by : FnScope ["_law_one", "_law_other"] ["_law_one", "_law_other"] (defScope s_law_by) := ⟨rfl, rfl, rfl, by decide +kernel, rfl, by decide +kernel, by decide +kernel⟩
theorem ok_law_by (T : Tx K mg d) : FnOk P w K mg base (L2.CX P w) 2 d.a_law_by d.d_law_by ["_law_one", "_law_other"] (spG (gg K d) 2 m_law_by) :=
  (fn_def (N := ["_law_one", "_law_other"]) T.f_law_by sc_law_by rfl (body := b_law_by) fun cdv A outer s H E hr =>
    (svs_one (sv_ret (ev_call (ok_law_low (P := P) (w := w) (base := base) T) (hr.mono (by decide)) (by rfl) T.m_law_low T.k_law_low T.b_law_low .nil (fun _ _ => .nil) passB (ea_cons (ev_bin od_mulD (ev_ix (ixd (by rfl)) (ev_var 0) ev_int) (ev_ix (ixd (by rfl)) (ev_var 1) ev_int)) (ea_cons (ev_bin od_mulD (ev_ix (ixd (by rfl)) (ev_var 0) ev_int) (ev_ix (ixd (by rfl)) (ev_var 1) ev_int)) ea_nil))))))

/-! _law_less -/
def b_law_less : Pm.Env → S → Res Fl := (sRet (mCallD (n := 2) [] m_law_sum (aCons (mVar 0) (aCons (mTup (aCons (m2 subI (mC (.int 0)) (m2 ixD (mVar 1) (mC (.int 0)))) (aCons (m2 ixD (mVar 1) (mC (.int 1))) aNil))) aNil))))
def m_law_less : List D → S → Res D := runBody 2 2 b_law_less
theorem sc_law_less : FnScope ["_law_one", "_law_other"] ["_law_one", "_law_other"] (defScope s_law_less) := ⟨rfl, rfl, rfl, by decide +kernel, rfl, by decide +kernel, by decide +kernel⟩
theorem ok_law_less (T : Tx K mg d) : FnOk P w K mg base (L2.CX P w) 3 d.a_law_less d.d_law_less ["_law_one", "_law_other"] (spG (gg K d) 2 m_law_less) :=
  (fn_def (N := ["_law_one", "_law_other"]) T.f_law_less sc_law_less rfl (body := b_law_less) fun cdv A outer s H E hr =>
    (svs_one (sv_ret (ev_call (ok_law_sum (P := P) (w := w) (base := base) T) (hr.mono (by decide)) (by rfl) T.m_law_sum T.k_law_sum T.b_law_sum .nil (fun _ _ => .nil) passB (ea_cons (ev_var 0) (ea_cons (ev_tup (ea_cons (ev_bin od_sub ev_int (ev_ix (ixd (by rfl)) (ev_var 1) ev_int)) (ea_cons (ev_ix (ixd (by rfl)) (ev_var 1) ev_int) ea_nil))) ea_nil))))))

/-! _law_over -/
def b_law_over : Pm.Env → S → Res Fl := (sRet (mCallD (n := 2) [] m_law_low (aCons (m2 mulD (m2 ixD (mVar 0) (mC (.int 0))) (m2 ixD (mVar 1) (mC (.int 1)))) (aCons (m2 mulD (m2 ixD (mVar 0) (mC (.int 1))) (m2 ixD (mVar 1) (mC (.int 0)))) aNil))))
def m_law_over : List D → S → Res D := runBody 2 2 b_law_over
theorem sc_law_over : FnScope ["_law_one", "_law_other"] ["_law_one", "_law_other"] (defScope s_law_over) := ⟨rfl, rfl, rfl, by decide +kernel, rfl, by decide +kernel, by decide +kernel⟩
theorem ok_law_over (T : Tx K mg d) : FnOk P w K mg base (L2.CX P w) 2 d.a_law_over d.d_law_over ["_law_one", "_law_other"] (spG (gg K d) 2 m_law_over) :=
  (fn_def (N := ["_law_one", "_law_other"]) T.f_law_over sc_law_over rfl (body := b_law_over) fun cdv A outer s H E hr =>
    (svs_one (sv_ret (ev_call (ok_law_low (P := P) (w := w) (base := base) T) (hr.mono (by decide)) (by rfl) T.m_law_low T.k_law_low T.b_law_low .nil (fun _ _ => .nil) passB (ea_cons (ev_bin od_mulD (ev_ix (ixd (by rfl)) (ev_var 0) ev_int) (ev_ix (ixd (by rfl)) (ev_var 1) ev_int)) (ea_cons (ev_bin od_mulD (ev_ix (ixd (by rfl)) (ev_var 0) ev_int) (ev_ix (ixd (by rfl)) (ev_var 1) ev_int)) ea_nil))))))

/-! _law_total -/
def b_law_total : Pm.Env → S → Res Fl := (sSeq (sSet 1 (mTup (aCons (mC (.int 0)) (aCons (mC (.int 1)) aNil))))
  (sSeq (sFor (iLst (mVar 0)) (tName 2) (sSet 1 (mCallD (n := 2) [] m_law_sum (aCons (mVar 1) (aCons (mVar 2) aNil)))))
  (sRet (mVar 1))))
def m_law_total : List D → S → Res D := runBody 1 3 b_law_total
theorem sc_law_total : FnScope ["_law_pairs_here", "_law_found", "_law_pair_here"] ["_law_pairs_here"] (defScope s_law_total) := ⟨rfl, rfl, rfl, by decide +kernel, rfl, by decide +kernel, by decide +kernel⟩
theorem ok_law_total (T : Tx K mg d) : FnOk P w K mg base (L2.CX P w) 3 d.a_law_total d.d_law_total ["_law_pairs_here"] (spG (gg K d) 1 m_law_total) :=
  (fn_def (N := ["_law_pairs_here", "_law_found", "_law_pair_here"]) T.f_law_total sc_law_total rfl (body := b_law_total) fun cdv A outer s H E hr =>
    (svs_cons (sv_set 1 sc_law_total.nd (by rfl) (Or.inl (by rfl)) (ev_tup (ea_cons ev_int (ea_cons ev_int ea_nil))))
    (svs_cons (sv_for (L2.passes_of (by rfl)) (by rfl) (iv_l (by rfl) (ev_var 0)) (tn_name 2 sc_law_total.nd (by rfl) (Or.inl (by rfl))) (svs_one (sv_set 1 sc_law_total.nd (by rfl) (Or.inl (by rfl)) (ev_call (ok_law_sum (P := P) (w := w) (base := base) T) (hr.mono (by decide)) (by rfl) T.m_law_sum T.k_law_sum T.b_law_sum .nil (fun _ _ => .nil) passB (ea_cons (ev_var 1) (ea_cons (ev_var 2) ea_nil))))))
    (svs_one (sv_ret (ev_var 1))))))

/-! _law_pair -/
def b_law_pair : Pm.Env → S → Res Fl := (sRet (mIf (mB (mCall (bIs 1) (aCons (mVar 0) (aCons (mC (.cls 0)) aNil)))) (mTup (aCons (mProp 0 m_c0_top (mVar 0)) (aCons (mProp 0 m_c0_bottom (mVar 0)) aNil))) (mC .non)))
def m_law_pair : List D → S → Res D := runBody 1 1 b_law_pair
theorem sc_law_pair : FnScope ["_law_value"] ["_law_value"] (defScope s_law_pair) := ⟨rfl, rfl, rfl, by decide +kernel, rfl, by decide +kernel, by decide +kernel⟩
theorem ok_law_pair (T : Tx K mg d) : FnOk P w K mg base (L2.CX P w) 3 d.a_law_pair d.d_law_pair ["_law_value"] (spG (gg K d) 1 m_law_pair) :=
  (fn_def (N := ["_law_value"]) T.f_law_pair sc_law_pair rfl (body := b_law_pair) fun cdv A outer s H E hr =>
    (svs_one (sv_ret (ev_if (et_val (ev_callB (cd_isinstance (by rfl) T.clsf) (by rfl) T.n_isinstance bo_isinstance (ea_cons (ev_var 0) (ea_cons (ev_cls 0 (by rfl) T.m_Ratio) ea_nil)))) (ev_tup (ea_cons (ev_prop (E' := E0) (ev_var 0) T.cl_Ratio T.pr_c0_top (ok_c0_top (P := P) (w := w) (base := base) T) (hr.mono (by decide)) T.b_c0_top passK) (ea_cons (ev_prop (E' := E0) (ev_var 0) T.cl_Ratio T.pr_c0_bottom (ok_c0_bottom (P := P) (w := w) (base := base) T) (hr.mono (by decide)) T.b_c0_bottom passK) ea_nil))) ev_non))))

/-! _law_pairs -/
def b_law_pairs : Pm.Env → S → Res Fl := (sRet (mIf (mB (mCall (bIs 1) (aCons (mVar 0) (aCons (mC (.ty .list)) aNil)))) (mCompF finL [1] (iLst (mVar 0)) (tName 1) mYes (mCallD (n := 1) [] m_law_pair (aCons (mVar 1) aNil))) (mC .non)))
def m_law_pairs : List D → S → Res D := runBody 1 2 b_law_pairs
theorem sc_law_pairs : FnScope ["_law_value", "_law_one"] ["_law_value"] (defScope s_law_pairs) := ⟨rfl, rfl, rfl, by decide +kernel, rfl, by decide +kernel, by decide +kernel⟩
theorem ok_law_pairs (T : Tx K mg d) : FnOk P w K mg base (L2.CX P w) 4 d.a_law_pairs d.d_law_pairs ["_law_value"] (spG (gg K d) 1 m_law_pairs) :=
  (fn_def (N := ["_law_value", "_law_one"]) T.f_law_pairs sc_law_pairs rfl (body := b_law_pairs) fun cdv A outer s H E hr =>
    (svs_one (sv_ret (ev_if (et_val (ev_callB (cd_isinstance (by rfl) T.clsf) (by rfl) T.n_isinstance bo_isinstance (ea_cons (ev_var 0) (ea_cons (ev_bty .list (by rfl) T.n_list bo_list) ea_nil)))) (ev_lcF fin_l (own := [("_law_one", 1)]) (by rfl) sc_law_pairs.nd (iv_l (by rfl) (ev_var 0)) (blkOk_by (N := ["_law_value", "_law_one"]) (sc := defScope s_law_pairs) (by decide +kernel)) (by decide) (fun _ _ _ _ _ => (tn_name 1 sc_law_pairs.nd (by rfl) (Or.inl (by rfl)))) (fun _ _ _ _ _ => ets_nil) (fun _ _ _ _ _ => (ev_call (ok_law_pair (P := P) (w := w) (base := base) T) (hr.mono (by decide)) (by rfl) T.m_law_pair T.k_law_pair T.b_law_pair .nil (fun _ _ => .nil) passK (ea_cons (ev_var 1) ea_nil)))) ev_non))))

/-! _law_shown -/
def b_law_shown : Pm.Env → S → Res Fl := (sRet (mIf (mB (m2 (eqP false) (m2 ixD (mVar 0) (mC (.int 1))) (mC (.int 1)))) (mCall bStrI (aCons (m2 ixD (mVar 0) (mC (.int 0))) aNil)) (m2 addAll (m2 addAll (mCall bStrI (aCons (m2 ixD (mVar 0) (mC (.int 0))) aNil)) (mC (.str "/"))) (mCall bStrI (aCons (m2 ixD (mVar 0) (mC (.int 1))) aNil)))))
def m_law_shown : List D → S → Res D := runBody 1 1 b_law_shown
theorem sc_law_shown : FnScope ["_law_pair_here"] ["_law_pair_here"] (defScope s_law_shown) := ⟨rfl, rfl, rfl, by decide +kernel, rfl, by decide +kernel, by decide +kernel⟩
theorem ok_law_shown (T : Tx K mg d) : FnOk P w K mg base (L2.CX P w) 1 d.a_law_shown d.d_law_shown ["_law_pair_here"] (spG (gg K d) 1 m_law_shown) :=
  (fn_def (N := ["_law_pair_here"]) T.f_law_shown sc_law_shown rfl (body := b_law_shown) fun cdv A outer s H E hr =>
    (svs_one (sv_ret (ev_if (et_cmp (od_eqP (by rfl) hr.un64) (ev_ix (ixd (by rfl)) (ev_var 0) ev_int) ev_int) (ev_callTy cd_strI (by rfl) T.n_str bo_str (ea_cons (ev_ix (ixd (by rfl)) (ev_var 0) ev_int) ea_nil)) (ev_bin od_addAll (ev_bin od_addAll (ev_callTy cd_strI (by rfl) T.n_str bo_str (ea_cons (ev_ix (ixd (by rfl)) (ev_var 0) ev_int) ea_nil)) ev_str) (ev_callTy cd_strI (by rfl) T.n_str bo_str (ea_cons (ev_ix (ixd (by rfl)) (ev_var 0) ev_int) ea_nil)))))))

/-! _law_raw -/
def b_law_raw : Pm.Env → S → Res Fl := (sSeq (sSet 1 (m2 subI (mCallD (n := 2) [] m_law_draw (aCons (mVar 0) (aCons (mC (.int 25)) aNil))) (mC (.int 12))))
  (sSeq (sSet 2 (m2 addAll (mC (.int 1)) (mCallD (n := 2) [] m_law_draw (aCons (mVar 0) (aCons (mC (.int 12)) aNil)))))
  (sSeq (sIf (mB (m2 (eqP false) (mCallD (n := 2) [] m_law_draw (aCons (mVar 0) (aCons (mC (.int 3)) aNil))) (mC (.int 0)))) (sSeq (sSet 1 (m2 addAll (m2 mulD (mVar 1) (m2 powI (mC (.int 10007)) (mC (.int 6)))) (mCallD (n := 2) [] m_law_draw (aCons (mVar 0) (aCons (mC (.int 9)) aNil)))))
  (sSet 2 (m2 addAll (m2 addAll (m2 mulD (mVar 2) (m2 powI (mC (.int 10)) (mC (.int 20)))) (mCallD (n := 2) [] m_law_draw (aCons (mVar 0) (aCons (mC (.int 9)) aNil)))) (mC (.int 1))))) sNext)
  (sSeq (sSet 3 (mCallD (n := 2) [] m_law_pick (aCons (mVar 0) (aCons (mLst (aCons (mC (.int 1)) (aCons (mC (.int 6)) (aCons (mC (.int 35)) (aCons (m2 powI (mC (.int 10)) (mC (.int 9))) aNil))))) aNil))))
  (sSeq (sSet 4 (mCallD (n := 2) [] m_law_pick (aCons (mVar 0) (aCons (mLst (aCons (mC (.int 1)) (aCons (m1 negI (mC (.int 1))) aNil))) aNil))))
  (sRet (mTup (aCons (m2 mulD (m2 mulD (mVar 1) (mVar 3)) (mVar 4)) (aCons (m2 mulD (m2 mulD (mVar 2) (mVar 3)) (mVar 4)) aNil)))))))))
def m_law_raw : List D → S → Res D := runBody 1 5 b_law_raw
theorem sc_law_raw : FnScope ["_law_pot_here", "_law_top", "_law_bottom", "_law_common", "_law_sign"] ["_law_pot_here"] (defScope s_law_raw) := ⟨rfl, rfl, rfl, by decide +kernel, rfl, by decide +kernel, by decide +kernel⟩
theorem ok_law_raw (T : Tx K mg d) : FnOk P w K mg base (L2.CX P w) 3 d.a_law_raw d.d_law_raw ["_law_pot_here"] (spG (gg K d) 1 m_law_raw) :=
  (fn_def (N := ["_law_pot_here", "_law_top", "_law_bottom", "_law_common", "_law_sign"]) T.f_law_raw sc_law_raw rfl (body := b_law_raw) fun cdv A outer s H E hr =>
    (svs_cons (sv_set 1 sc_law_raw.nd (by rfl) (Or.inl (by rfl)) (ev_bin od_sub (ev_call (ok_law_draw (P := P) (w := w) (base := base) T) (hr.mono (by decide)) (by rfl) T.m_law_draw T.k_law_draw T.b_law_draw .nil (fun _ _ => .nil) passB (ea_cons (ev_var 0) (ea_cons ev_int ea_nil))) ev_int))
    (svs_cons (sv_set 2 sc_law_raw.nd (by rfl) (Or.inl (by rfl)) (ev_bin od_addAll ev_int (ev_call (ok_law_draw (P := P) (w := w) (base := base) T) (hr.mono (by decide)) (by rfl) T.m_law_draw T.k_law_draw T.b_law_draw .nil (fun _ _ => .nil) passB (ea_cons (ev_var 0) (ea_cons ev_int ea_nil)))))
    (svs_cons (sv_if (et_cmp (od_eqP (by rfl) hr.un64) (ev_call (ok_law_draw (P := P) (w := w) (base := base) T) (hr.mono (by decide)) (by rfl) T.m_law_draw T.k_law_draw T.b_law_draw .nil (fun _ _ => .nil) passB (ea_cons (ev_var 0) (ea_cons ev_int ea_nil))) ev_int) (svs_cons (sv_set 1 sc_law_raw.nd (by rfl) (Or.inl (by rfl)) (ev_bin od_addAll (ev_bin od_mulD (ev_var 1) (ev_bin od_pow ev_int ev_int)) (ev_call (ok_law_draw (P := P) (w := w) (base := base) T) (hr.mono (by decide)) (by rfl) T.m_law_draw T.k_law_draw T.b_law_draw .nil (fun _ _ => .nil) passB (ea_cons (ev_var 0) (ea_cons ev_int ea_nil)))))
    (svs_one (sv_set 2 sc_law_raw.nd (by rfl) (Or.inl (by rfl)) (ev_bin od_addAll (ev_bin od_addAll (ev_bin od_mulD (ev_var 2) (ev_bin od_pow ev_int ev_int)) (ev_call (ok_law_draw (P := P) (w := w) (base := base) T) (hr.mono (by decide)) (by rfl) T.m_law_draw T.k_law_draw T.b_law_draw .nil (fun _ _ => .nil) passB (ea_cons (ev_var 0) (ea_cons ev_int ea_nil)))) ev_int)))) svs_nil)
    (svs_cons (sv_set 3 sc_law_raw.nd (by rfl) (Or.inl (by rfl)) (ev_call (ok_law_pick (P := P) (w := w) (base := base) T) (hr.mono (by decide)) (by rfl) T.m_law_pick T.k_law_pick T.b_law_pick .nil (fun _ _ => .nil) passB (ea_cons (ev_var 0) (ea_cons (ev_lst (ea_cons ev_int (ea_cons ev_int (ea_cons ev_int (ea_cons (ev_bin od_pow ev_int ev_int) ea_nil))))) ea_nil))))
    (svs_cons (sv_set 4 sc_law_raw.nd (by rfl) (Or.inl (by rfl)) (ev_call (ok_law_pick (P := P) (w := w) (base := base) T) (hr.mono (by decide)) (by rfl) T.m_law_pick T.k_law_pick T.b_law_pick .nil (fun _ _ => .nil) passB (ea_cons (ev_var 0) (ea_cons (ev_lst (ea_cons ev_int (ea_cons (ev_un ud_neg ev_int) ea_nil))) ea_nil))))
    (svs_one (sv_ret (ev_tup (ea_cons (ev_bin od_mulD (ev_bin od_mulD (ev_var 1) (ev_var 3)) (ev_var 4)) (ea_cons (ev_bin od_mulD (ev_bin od_mulD (ev_var 2) (ev_var 3)) (ev_var 4)) ea_nil)))))))))))

/-! _law_one_right -/
def b_law_one_right : Pm.Env → S → Res Fl := (sSeq (sPar 1 2 (aCons (mMake 0 2 3 [] m_c0_init_ (aCons (m2 ixD (mVar 0) (mC (.int 0))) (aCons (m2 ixD (mVar 0) (mC (.int 1))) aNil))) (aCons (mCallD (n := 2) [] m_law_low (aCons (m2 ixD (mVar 0) (mC (.int 0))) (aCons (m2 ixD (mVar 0) (mC (.int 1))) aNil))) aNil)))
  (sSeq (sIf (mOrT (mB (m2 pNe (mCallD (n := 1) [] m_law_pair (aCons (mVar 1) aNil)) (mVar 2))) (mB (m2 pNe (mCall pStr (aCons (mVar 1) aNil)) (mCallD (n := 1) [] m_law_shown (aCons (mVar 2) aNil))))) (sRet (mC (.bl false))) sNext)
  (sSeq (sIf (mB (m2 pNe (mCall pRepr (aCons (mVar 1) aNil)) (m2 pAdd (m2 pAdd (m2 pAdd (m2 pAdd (mC (.str "Ratio(")) (mCall pStr (aCons (m2 ixD (mVar 2) (mC (.int 0))) aNil))) (mC (.str ", "))) (mCall pStr (aCons (m2 ixD (mVar 2) (mC (.int 1))) aNil))) (mC (.str ")"))))) (sRet (mC (.bl false))) sNext)
  (sSeq (sSet 3 (mIf (mB (m2 pEq (m2 ixD (mVar 2) (mC (.int 0))) (mC (.int 0)))) (mC (.int 0)) (mIf (mB (m2 gtI (m2 ixD (mVar 2) (mC (.int 0))) (mC (.int 0)))) (mC (.int 1)) (m1 pNeg (mC (.int 1))))))
  (sSeq (sIf (mB (m2 pNe (mCall pRepr (aCons (mLst (aCons (mProp 0 m_c0_sign (mVar 1)) (aCons (mProp 0 m_c0_is_whole (mVar 1)) aNil))) aNil)) (mCall pRepr (aCons (mLst (aCons (mVar 3) (aCons (m2 pEq (m2 ixD (mVar 2) (mC (.int 1))) (mC (.int 1))) aNil))) aNil)))) (sRet (mC (.bl false))) sNext)
  (sSeq (sIf (mB (m2 pNe (mCallD (n := 1) [] m_law_pair (aCons (mMeth (n := 1) 0 [] m_c0_unsigned (mVar 1) aNil) aNil)) (mTup (aCons (mCall (bInt1 fun i => .int (absI i)) (aCons (m2 ixD (mVar 2) (mC (.int 0))) aNil)) (aCons (m2 ixD (mVar 2) (mC (.int 1))) aNil))))) (sRet (mC (.bl false))) sNext)
  (sSeq (sIf (mOrT (mB (m2 pNe (mCallD (n := 1) [] m_law_pair (aCons (m2 pSub (mC (.int 0)) (mVar 1)) aNil)) (mTup (aCons (m2 pSub (mC (.int 0)) (m2 ixD (mVar 2) (mC (.int 0)))) (aCons (m2 ixD (mVar 2) (mC (.int 1))) aNil))))) (mB (m2 pNe (mCallD (n := 1) [] m_law_pair (aCons (m1 pNeg (mVar 1)) aNil)) (mTup (aCons (m2 pSub (mC (.int 0)) (m2 ixD (mVar 2) (mC (.int 0)))) (aCons (m2 ixD (mVar 2) (mC (.int 1))) aNil)))))) (sRet (mC (.bl false))) sNext)
  (sSeq (sIf (mB (m2 pNe (mLst (aCons (mCallD (n := 1) [] m_is_number (aCons (mVar 1) aNil)) (aCons (mCallD (n := 1) [] m_is_integer (aCons (mVar 1) aNil)) (aCons (mCallD (n := 1) [] m_is_count (aCons (mVar 1) aNil)) aNil)))) (mLst (aCons (mC (.bl true)) (aCons (mC (.bl false)) (aCons (mC (.bl false)) aNil)))))) (sRet (mC (.bl false))) sNext)
  (sRet (m2 pEq (mCallD (n := 1) [] m_law_pair (aCons (mMake 0 2 3 [] m_c0_init_ (aCons (m2 ixD (mVar 0) (mC (.int 0))) (aCons (m2 ixD (mVar 0) (mC (.int 1))) aNil))) aNil)) (mVar 2)))))))))))
def m_law_one_right : List D → S → Res D := runBody 1 4 b_law_one_right
theorem sc_law_one_right : FnScope ["_law_raw_here", "_law_made", "_law_pair_here", "_law_sign"] ["_law_raw_here"] (defScope s_law_one_right) := ⟨rfl, rfl, rfl, by decide +kernel, rfl, by decide +kernel, by decide +kernel⟩
theorem ok_law_one_right (T : Tx K mg d) : FnG P w K mg base 6 d.a_law_one_right (spG (gg K d) 1 m_law_one_right) :=
  fnG_def (N := ["_law_raw_here", "_law_made", "_law_pair_here", "_law_sign"]) T.f_law_one_right sc_law_one_right T.b_law_one_right rfl (body := b_law_one_right) fun cdv A outer s H E hr hgd =>
    (svs_cons (sv_par 1 2 (by rfl) sc_law_one_right.nd (by rfl) (by rfl) (by decide) (by rfl) (by rfl) (ea_cons (ev_makeV T.mk_Ratio (ok_c0_init_ (P := P) (w := w) (base := base) T) (by rfl) (hr.mono (by decide)) (by rfl) T.m_Ratio T.b0_c0_init_ (fun _ _ => .nil) passB (ea_cons (ev_ix (ixd (by rfl)) (ev_var 0) ev_int) (ea_cons (ev_ix (ixd (by rfl)) (ev_var 0) ev_int) ea_nil))) (ea_cons (ev_call (ok_law_low (P := P) (w := w) (base := base) T) (hr.mono (by decide)) (by rfl) T.m_law_low T.k_law_low T.b_law_low .nil (fun _ _ => .nil) passB (ea_cons (ev_ix (ixd (by rfl)) (ev_var 0) ev_int) (ea_cons (ev_ix (ixd (by rfl)) (ev_var 0) ev_int) ea_nil))) ea_nil)) (by rfl))
    (svs_cons (sv_if (ew_or (et_cmp (od_pNe T (hr.mono (by decide)) passB) (ev_call (ok_law_pair (P := P) (w := w) (base := base) T) (hr.mono (by decide)) (by rfl) T.m_law_pair T.k_law_pair T.b_law_pair .nil (fun _ _ => .nil) passB (ea_cons (ev_var 1) ea_nil)) (ev_var 2)) (ew_or1 (et_cmp (od_pNe T (hr.mono (by decide)) passB) (ev_callTy (cd_pStr T (hr.mono (by decide)) passB) (by rfl) T.n_str bo_str (ea_cons (ev_var 1) ea_nil)) (ev_call (ok_law_shown (P := P) (w := w) (base := base) T) (hr.mono (by decide)) (by rfl) T.m_law_shown T.k_law_shown T.b_law_shown .nil (fun _ _ => .nil) passB (ea_cons (ev_var 2) ea_nil))))).et (svs_one (sv_ret ev_bl)) svs_nil)
    (svs_cons (sv_if (et_cmp (od_pNe T (hr.mono (by decide)) passB) (ev_callB (cd_pRepr T (hr.mono (by decide)) passB hgd) (by rfl) T.n_repr bo_repr (ea_cons (ev_var 1) ea_nil)) (ev_bin (od_pAdd T (hr.mono (by decide)) passB) (ev_bin (od_pAdd T (hr.mono (by decide)) passB) (ev_bin (od_pAdd T (hr.mono (by decide)) passB) (ev_bin (od_pAdd T (hr.mono (by decide)) passB) ev_str (ev_callTy (cd_pStr T (hr.mono (by decide)) passB) (by rfl) T.n_str bo_str (ea_cons (ev_ix (ixd (by rfl)) (ev_var 2) ev_int) ea_nil))) ev_str) (ev_callTy (cd_pStr T (hr.mono (by decide)) passB) (by rfl) T.n_str bo_str (ea_cons (ev_ix (ixd (by rfl)) (ev_var 2) ev_int) ea_nil))) ev_str)) (svs_one (sv_ret ev_bl)) svs_nil)
    (svs_cons (sv_set 3 sc_law_one_right.nd (by rfl) (Or.inl (by rfl)) (ev_if (et_cmp (od_pEq T (hr.mono (by decide)) passB) (ev_ix (ixd (by rfl)) (ev_var 2) ev_int) ev_int) ev_int (ev_if (et_cmp od_gt (ev_ix (ixd (by rfl)) (ev_var 2) ev_int) ev_int) ev_int (ev_un (ud_pNeg T (hr.mono (by decide)) passB) ev_int))))
    (svs_cons (sv_if (et_cmp (od_pNe T (hr.mono (by decide)) passB) (ev_callB (cd_pRepr T (hr.mono (by decide)) passB hgd) (by rfl) T.n_repr bo_repr (ea_cons (ev_lst (ea_cons (ev_prop (E' := E0) (ev_var 1) T.cl_Ratio T.pr_c0_sign (ok_c0_sign (P := P) (w := w) (base := base) T) (hr.mono (by decide)) T.b_c0_sign passK) (ea_cons (ev_prop (E' := E0) (ev_var 1) T.cl_Ratio T.pr_c0_is_whole (ok_c0_is_whole (P := P) (w := w) (base := base) T) (hr.mono (by decide)) T.b_c0_is_whole passK) ea_nil))) ea_nil)) (ev_callB (cd_pRepr T (hr.mono (by decide)) passB hgd) (by rfl) T.n_repr bo_repr (ea_cons (ev_lst (ea_cons (ev_var 3) (ea_cons (ev_cmp (od_pEq T (hr.mono (by decide)) passB) (ev_ix (ixd (by rfl)) (ev_var 2) ev_int) ev_int) ea_nil))) ea_nil))) (svs_one (sv_ret ev_bl)) svs_nil)
    (svs_cons (sv_if (et_cmp (od_pNe T (hr.mono (by decide)) passB) (ev_call (ok_law_pair (P := P) (w := w) (base := base) T) (hr.mono (by decide)) (by rfl) T.m_law_pair T.k_law_pair T.b_law_pair .nil (fun _ _ => .nil) passB (ea_cons (ev_meth0 (c := 0) (ev_var 1) T.cl_Ratio T.me_c0_unsigned nm_c0_unsigned (ok_c0_unsigned (P := P) (w := w) (base := base) T) (hr.mono (by decide)) T.b_c0_unsigned .nil (fun _ _ => .nil) passB) ea_nil)) (ev_tup (ea_cons (ev_callB (cd_abs) (by rfl) T.n_abs bo_abs (ea_cons (ev_ix (ixd (by rfl)) (ev_var 2) ev_int) ea_nil)) (ea_cons (ev_ix (ixd (by rfl)) (ev_var 2) ev_int) ea_nil)))) (svs_one (sv_ret ev_bl)) svs_nil)
    (svs_cons (sv_if (ew_or (et_cmp (od_pNe T (hr.mono (by decide)) passB) (ev_call (ok_law_pair (P := P) (w := w) (base := base) T) (hr.mono (by decide)) (by rfl) T.m_law_pair T.k_law_pair T.b_law_pair .nil (fun _ _ => .nil) passB (ea_cons (ev_bin (od_pSub T (hr.mono (by decide)) passB) ev_int (ev_var 1)) ea_nil)) (ev_tup (ea_cons (ev_bin (od_pSub T (hr.mono (by decide)) passB) ev_int (ev_ix (ixd (by rfl)) (ev_var 2) ev_int)) (ea_cons (ev_ix (ixd (by rfl)) (ev_var 2) ev_int) ea_nil)))) (ew_or1 (et_cmp (od_pNe T (hr.mono (by decide)) passB) (ev_call (ok_law_pair (P := P) (w := w) (base := base) T) (hr.mono (by decide)) (by rfl) T.m_law_pair T.k_law_pair T.b_law_pair .nil (fun _ _ => .nil) passB (ea_cons (ev_un (ud_pNeg T (hr.mono (by decide)) passB) (ev_var 1)) ea_nil)) (ev_tup (ea_cons (ev_bin (od_pSub T (hr.mono (by decide)) passB) ev_int (ev_ix (ixd (by rfl)) (ev_var 2) ev_int)) (ea_cons (ev_ix (ixd (by rfl)) (ev_var 2) ev_int) ea_nil)))))).et (svs_one (sv_ret ev_bl)) svs_nil)
    (svs_cons (sv_if (et_cmp (od_pNe T (hr.mono (by decide)) passB) (ev_lst (ea_cons (ev_call (ok_is_number (P := P) (w := w) (base := base) T) (hr.mono (by decide)) (by rfl) T.m_is_number T.k_is_number T.b_is_number .nil (fun _ _ => .nil) passB (ea_cons (ev_var 1) ea_nil)) (ea_cons (ev_call (ok_is_integer (P := P) (w := w) (base := base) T) (hr.mono (by decide)) (by rfl) T.m_is_integer T.k_is_integer T.b_is_integer .nil (fun _ _ => .nil) passB (ea_cons (ev_var 1) ea_nil)) (ea_cons (ev_call (ok_is_count (P := P) (w := w) (base := base) T) (hr.mono (by decide)) (by rfl) T.m_is_count T.k_is_count T.b_is_count .nil (fun _ _ => .nil) passB (ea_cons (ev_var 1) ea_nil)) ea_nil)))) (ev_lst (ea_cons ev_bl (ea_cons ev_bl (ea_cons ev_bl ea_nil))))) (svs_one (sv_ret ev_bl)) svs_nil)
    (svs_one (sv_ret (ev_cmp (od_pEq T (hr.mono (by decide)) passB) (ev_call (ok_law_pair (P := P) (w := w) (base := base) T) (hr.mono (by decide)) (by rfl) T.m_law_pair T.k_law_pair T.b_law_pair .nil (fun _ _ => .nil) passB (ea_cons (ev_makeKw0 T.mk_Ratio (ok_c0_init_ (P := P) (w := w) (base := base) T) (by rfl) (hr.mono (by decide)) (by rfl) T.m_Ratio T.kb_c0_init__top_bottom (by rfl) passB (ek_cons (ev_ix (ixd (by rfl)) (ev_var 0) ev_int) (ek_cons (ev_ix (ixd (by rfl)) (ev_var 0) ev_int) ek_nil))) ea_nil)) (ev_var 2))))))))))))

/-! _law_two_right -/
def b_law_two_right : Pm.Env → S → Res Fl := (sSeq (sPar 3 4 (aCons (mMake 0 2 3 [] m_c0_init_ (aCons (m2 ixD (mVar 0) (mC (.int 0))) (aCons (m2 ixD (mVar 0) (mC (.int 1))) aNil))) (aCons (mMake 0 2 3 [] m_c0_init_ (aCons (m2 ixD (mVar 1) (mC (.int 0))) (aCons (m2 ixD (mVar 1) (mC (.int 1))) aNil))) aNil)))
  (sSeq (sPar3 5 6 7 (aCons (mCallD (n := 2) [] m_law_low (aCons (m2 ixD (mVar 0) (mC (.int 0))) (aCons (m2 ixD (mVar 0) (mC (.int 1))) aNil))) (aCons (mCallD (n := 2) [] m_law_low (aCons (m2 ixD (mVar 1) (mC (.int 0))) (aCons (m2 ixD (mVar 1) (mC (.int 1))) aNil))) (aCons (mTup (aCons (mVar 2) (aCons (mC (.int 1)) aNil))) aNil))))
  (sSeq (sSet 8 (mCell (aCons (m2 pAdd (mVar 3) (mVar 4)) (aCons (m2 pSub (mVar 3) (mVar 4)) (aCons (m2 pMul (mVar 3) (mVar 4)) (aCons (m2 pAdd (mVar 3) (mVar 2)) (aCons (m2 pAdd (mVar 2) (mVar 3)) (aCons (m2 pMul (mVar 3) (mVar 2)) (aCons (m2 pMul (mVar 2) (mVar 3)) aNil)))))))))
  (sSeq (sFrz 8 (sExpr (mtCell extF (mVar 8) (aCons (mLst (aCons (m2 pSub (mVar 2) (mVar 3)) (aCons (m2 pSub (mVar 3) (mVar 2)) aNil))) aNil))))
  (sSeq (sSet 9 (mCell (aCons (mCallD (n := 2) [] m_law_sum (aCons (mVar 5) (aCons (mVar 6) aNil))) (aCons (mCallD (n := 2) [] m_law_less (aCons (mVar 5) (aCons (mVar 6) aNil))) (aCons (mCallD (n := 2) [] m_law_by (aCons (mVar 5) (aCons (mVar 6) aNil))) (aCons (mCallD (n := 2) [] m_law_sum (aCons (mVar 5) (aCons (mVar 7) aNil))) (aCons (mCallD (n := 2) [] m_law_sum (aCons (mVar 5) (aCons (mVar 7) aNil))) aNil)))))))
  (sSeq (sFrz 9 (sExpr (mtCell extF (mVar 9) (aCons (mLst (aCons (mCallD (n := 2) [] m_law_by (aCons (mVar 5) (aCons (mVar 7) aNil))) (aCons (mCallD (n := 2) [] m_law_by (aCons (mVar 5) (aCons (mVar 7) aNil))) (aCons (mCallD (n := 2) [] m_law_less (aCons (mVar 7) (aCons (mVar 5) aNil))) (aCons (mCallD (n := 2) [] m_law_less (aCons (mVar 5) (aCons (mVar 7) aNil))) aNil))))) aNil))))
  (sSeq (sIf (mB (m2 pNe (mCallD (n := 1) [] m_law_pairs (aCons (mVar 8) aNil)) (mVar 9))) (sRet (mC (.bl false))) sNext)
  (sSeq (sIf (mAndT (mB (m2 pNe (m2 ixD (mVar 6) (mC (.int 0))) (mC (.int 0)))) (mB (m2 pNe (mLst (aCons (mCallD (n := 1) [] m_law_pair (aCons (mMeth (n := 2) 0 [] m_c0_over (mVar 3) (aCons (mVar 4) aNil)) aNil)) (aCons (mCallD (n := 1) [] m_law_pair (aCons (mMethK 0 2 m_c0_over (mVar 3) (aCons (mVar 4) aNil)) aNil)) aNil))) (m2 pMul (mLst (aCons (mCallD (n := 2) [] m_law_over (aCons (mVar 5) (aCons (mVar 6) aNil))) aNil)) (mC (.int 2)))))) (sRet (mC (.bl false))) sNext)
  (sSeq (sIf (mAndT (mB (m2 pNe (mVar 2) (mC (.int 0)))) (mB (m2 pNe (mCallD (n := 1) [] m_law_pair (aCons (mMeth (n := 2) 0 [] m_c0_over (mVar 3) (aCons (mVar 2) aNil)) aNil)) (mCallD (n := 2) [] m_law_over (aCons (mVar 5) (aCons (mVar 7) aNil)))))) (sRet (mC (.bl false))) sNext)
  (sSeq (sSet 10 (m2 ltI (m2 pMul (m2 ixD (mVar 5) (mC (.int 0))) (m2 ixD (mVar 6) (mC (.int 1)))) (m2 pMul (m2 ixD (mVar 6) (mC (.int 0))) (m2 ixD (mVar 5) (mC (.int 1))))))
  (sSeq (sSet 8 (mLst (aCons (mMeth (n := 2) 0 [] m_c0_is_below (mVar 3) (aCons (mVar 4) aNil)) (aCons (mMeth (n := 2) 0 [] m_c0_is_below (mVar 4) (aCons (mVar 3) aNil)) (aCons (mMeth (n := 2) 0 [] m_c0_is_at_most (mVar 3) (aCons (mVar 4) aNil)) (aCons (m2 pEq (mVar 3) (mVar 4)) (aCons (m2 pNe (mVar 3) (mVar 4)) aNil)))))))
  (sSeq (sSet 11 (m2 gtI (m2 pMul (m2 ixD (mVar 5) (mC (.int 0))) (m2 ixD (mVar 6) (mC (.int 1)))) (m2 pMul (m2 ixD (mVar 6) (mC (.int 0))) (m2 ixD (mVar 5) (mC (.int 1))))))
  (sSeq (sIf (mB (m2 pNe (mVar 8) (mLst (aCons (mVar 10) (aCons (mVar 11) (aCons (mNot (mVar 11)) (aCons (m2 pEq (mVar 5) (mVar 6)) (aCons (m2 pNe (mVar 5) (mVar 6)) aNil)))))))) (sRet (mC (.bl false))) sNext)
  (sSeq (sSet 8 (mLst (aCons (mMeth (n := 2) 0 [] m_c0_is_below (mVar 3) (aCons (mVar 2) aNil)) (aCons (mMeth (n := 2) 0 [] m_c0_is_at_most (mVar 3) (aCons (mVar 2) aNil)) (aCons (m2 pEq (mVar 3) (mVar 2)) (aCons (m2 pEq (mVar 2) (mVar 3)) aNil))))))
  (sRet (m2 pEq (mVar 8) (mLst (aCons (m2 ltI (m2 ixD (mVar 5) (mC (.int 0))) (m2 pMul (mVar 2) (m2 ixD (mVar 5) (mC (.int 1))))) (aCons (m2 leI (m2 ixD (mVar 5) (mC (.int 0))) (m2 pMul (mVar 2) (m2 ixD (mVar 5) (mC (.int 1))))) (aCons (mC (.bl false)) (aCons (mC (.bl false)) aNil)))))))))))))))))))))
def m_law_two_right : List D → S → Res D := fun ds s => cutRes s.length (runBody 3 12 b_law_two_right ds s)
theorem sc_law_two_right : FnScope ["_law_raw_here", "_law_other_raw", "_law_number", "_law_made", "_law_mate", "_law_one", "_law_two", "_law_whole", "_law_told", "_law_due", "_law_below", "_law_above"] ["_law_raw_here", "_law_other_raw", "_law_number"] (defScope s_law_two_right) := ⟨rfl, rfl, rfl, by decide +kernel, rfl, by decide +kernel, by decide +kernel⟩
theorem ok_law_two_right (T : Tx K mg d) : FnOk P w K mg base (L2.CX P w) 6 d.a_law_two_right d.d_law_two_right ["_law_raw_here", "_law_other_raw", "_law_number"] (spG (gg K d) 3 m_law_two_right) :=
  FnCut (fn_def (N := ["_law_raw_here", "_law_other_raw", "_law_number", "_law_made", "_law_mate", "_law_one", "_law_two", "_law_whole", "_law_told", "_law_due", "_law_below", "_law_above"]) T.f_law_two_right sc_law_two_right rfl (body := b_law_two_right) fun cdv A outer s H E hr =>
    (svs_cons (sv_par 3 4 (by rfl) sc_law_two_right.nd (by rfl) (by rfl) (by decide) (by rfl) (by rfl) (ea_cons (ev_makeV T.mk_Ratio (ok_c0_init_ (P := P) (w := w) (base := base) T) (by rfl) (hr.mono (by decide)) (by rfl) T.m_Ratio T.b0_c0_init_ (fun _ _ => .nil) passB (ea_cons (ev_ix (ixd (by rfl)) (ev_var 0) ev_int) (ea_cons (ev_ix (ixd (by rfl)) (ev_var 0) ev_int) ea_nil))) (ea_cons (ev_makeV T.mk_Ratio (ok_c0_init_ (P := P) (w := w) (base := base) T) (by rfl) (hr.mono (by decide)) (by rfl) T.m_Ratio T.b0_c0_init_ (fun _ _ => .nil) passB (ea_cons (ev_ix (ixd (by rfl)) (ev_var 1) ev_int) (ea_cons (ev_ix (ixd (by rfl)) (ev_var 1) ev_int) ea_nil))) ea_nil)) (by rfl))
    (svs_cons (sv_par3 5 6 7 (by rfl) sc_law_two_right.nd (by rfl) (by rfl) (by rfl) (by decide) (by decide) (by decide) (by rfl) (by rfl) (by rfl) (ea_cons (ev_call (ok_law_low (P := P) (w := w) (base := base) T) (hr.mono (by decide)) (by rfl) T.m_law_low T.k_law_low T.b_law_low .nil (fun _ _ => .nil) passB (ea_cons (ev_ix (ixd (by rfl)) (ev_var 0) ev_int) (ea_cons (ev_ix (ixd (by rfl)) (ev_var 0) ev_int) ea_nil))) (ea_cons (ev_call (ok_law_low (P := P) (w := w) (base := base) T) (hr.mono (by decide)) (by rfl) T.m_law_low T.k_law_low T.b_law_low .nil (fun _ _ => .nil) passB (ea_cons (ev_ix (ixd (by rfl)) (ev_var 1) ev_int) (ea_cons (ev_ix (ixd (by rfl)) (ev_var 1) ev_int) ea_nil))) (ea_cons (ev_tup (ea_cons (ev_var 2) (ea_cons ev_int ea_nil))) ea_nil))) (by rfl))
    (svs_cons (sv_set 8 sc_law_two_right.nd (by rfl) (Or.inl (by rfl)) (ev_cell (ea_cons (ev_bin (od_pAdd T (hr.mono (by decide)) passB) (ev_var 3) (ev_var 4)) (ea_cons (ev_bin (od_pSub T (hr.mono (by decide)) passB) (ev_var 3) (ev_var 4)) (ea_cons (ev_bin (od_pMul T (hr.mono (by decide)) passB) (ev_var 3) (ev_var 4)) (ea_cons (ev_bin (od_pAdd T (hr.mono (by decide)) passB) (ev_var 3) (ev_var 2)) (ea_cons (ev_bin (od_pAdd T (hr.mono (by decide)) passB) (ev_var 2) (ev_var 3)) (ea_cons (ev_bin (od_pMul T (hr.mono (by decide)) passB) (ev_var 3) (ev_var 2)) (ea_cons (ev_bin (od_pMul T (hr.mono (by decide)) passB) (ev_var 2) (ev_var 3)) ea_nil)))))))))
    (svs_cons (sv_frz 8 (sv_expr (ev_extend (ev_var 8) (ea_cons (ev_lst (ea_cons (ev_bin (od_pSub T (hr.mono (by decide)) passB) (ev_var 2) (ev_var 3)) (ea_cons (ev_bin (od_pSub T (hr.mono (by decide)) passB) (ev_var 3) (ev_var 2)) ea_nil))) ea_nil))))
    (svs_cons (sv_set 9 sc_law_two_right.nd (by rfl) (Or.inl (by rfl)) (ev_cell (ea_cons (ev_call (ok_law_sum (P := P) (w := w) (base := base) T) (hr.mono (by decide)) (by rfl) T.m_law_sum T.k_law_sum T.b_law_sum .nil (fun _ _ => .nil) passB (ea_cons (ev_var 5) (ea_cons (ev_var 6) ea_nil))) (ea_cons (ev_call (ok_law_less (P := P) (w := w) (base := base) T) (hr.mono (by decide)) (by rfl) T.m_law_less T.k_law_less T.b_law_less .nil (fun _ _ => .nil) passB (ea_cons (ev_var 5) (ea_cons (ev_var 6) ea_nil))) (ea_cons (ev_call (ok_law_by (P := P) (w := w) (base := base) T) (hr.mono (by decide)) (by rfl) T.m_law_by T.k_law_by T.b_law_by .nil (fun _ _ => .nil) passB (ea_cons (ev_var 5) (ea_cons (ev_var 6) ea_nil))) (ea_cons (ev_call (ok_law_sum (P := P) (w := w) (base := base) T) (hr.mono (by decide)) (by rfl) T.m_law_sum T.k_law_sum T.b_law_sum .nil (fun _ _ => .nil) passB (ea_cons (ev_var 5) (ea_cons (ev_var 7) ea_nil))) (ea_cons (ev_call (ok_law_sum (P := P) (w := w) (base := base) T) (hr.mono (by decide)) (by rfl) T.m_law_sum T.k_law_sum T.b_law_sum .nil (fun _ _ => .nil) passB (ea_cons (ev_var 5) (ea_cons (ev_var 7) ea_nil))) ea_nil)))))))
    (svs_cons (sv_frz 9 (sv_expr (ev_extend (ev_var 9) (ea_cons (ev_lst (ea_cons (ev_call (ok_law_by (P := P) (w := w) (base := base) T) (hr.mono (by decide)) (by rfl) T.m_law_by T.k_law_by T.b_law_by .nil (fun _ _ => .nil) passB (ea_cons (ev_var 5) (ea_cons (ev_var 7) ea_nil))) (ea_cons (ev_call (ok_law_by (P := P) (w := w) (base := base) T) (hr.mono (by decide)) (by rfl) T.m_law_by T.k_law_by T.b_law_by .nil (fun _ _ => .nil) passB (ea_cons (ev_var 5) (ea_cons (ev_var 7) ea_nil))) (ea_cons (ev_call (ok_law_less (P := P) (w := w) (base := base) T) (hr.mono (by decide)) (by rfl) T.m_law_less T.k_law_less T.b_law_less .nil (fun _ _ => .nil) passB (ea_cons (ev_var 7) (ea_cons (ev_var 5) ea_nil))) (ea_cons (ev_call (ok_law_less (P := P) (w := w) (base := base) T) (hr.mono (by decide)) (by rfl) T.m_law_less T.k_law_less T.b_law_less .nil (fun _ _ => .nil) passB (ea_cons (ev_var 5) (ea_cons (ev_var 7) ea_nil))) ea_nil))))) ea_nil))))
    (svs_cons (sv_if (et_cmp (od_pNe T (hr.mono (by decide)) passB) (ev_call (ok_law_pairs (P := P) (w := w) (base := base) T) (hr.mono (by decide)) (by rfl) T.m_law_pairs T.k_law_pairs T.b_law_pairs .nil (fun _ _ => .nil) passB (ea_cons (ev_var 8) ea_nil)) (ev_var 9)) (svs_one (sv_ret ev_bl)) svs_nil)
    (svs_cons (sv_if (ew_and (et_cmp (od_pNe T (hr.mono (by decide)) passB) (ev_ix (ixd (by rfl)) (ev_var 6) ev_int) ev_int) (ew_and1 (et_cmp (od_pNe T (hr.mono (by decide)) passB) (ev_lst (ea_cons (ev_call (ok_law_pair (P := P) (w := w) (base := base) T) (hr.mono (by decide)) (by rfl) T.m_law_pair T.k_law_pair T.b_law_pair .nil (fun _ _ => .nil) passB (ea_cons (ev_meth (c := 0) (ev_var 3) T.cl_Ratio T.me_c0_over nm_c0_over (ok_c0_over (P := P) (w := w) (base := base) T) (hr.mono (by decide)) T.b_c0_over .nil (fun _ _ => .nil) passB (ea_cons (ev_var 4) ea_nil)) ea_nil)) (ea_cons (ev_call (ok_law_pair (P := P) (w := w) (base := base) T) (hr.mono (by decide)) (by rfl) T.m_law_pair T.k_law_pair T.b_law_pair .nil (fun _ _ => .nil) passB (ea_cons (ev_methKw0 (c := 0) (ev_var 3) T.cl_Ratio T.me_c0_over nm_c0_over (ok_c0_over (P := P) (w := w) (base := base) T) (hr.mono (by decide)) T.kb_c0_over_other (by rfl) passB (ek_cons (ev_var 4) ek_nil)) ea_nil)) ea_nil))) (ev_bin (od_pMul T (hr.mono (by decide)) passB) (ev_lst (ea_cons (ev_call (ok_law_over (P := P) (w := w) (base := base) T) (hr.mono (by decide)) (by rfl) T.m_law_over T.k_law_over T.b_law_over .nil (fun _ _ => .nil) passB (ea_cons (ev_var 5) (ea_cons (ev_var 6) ea_nil))) ea_nil)) ev_int)))).et (svs_one (sv_ret ev_bl)) svs_nil)
    (svs_cons (sv_if (ew_and (et_cmp (od_pNe T (hr.mono (by decide)) passB) (ev_var 2) ev_int) (ew_and1 (et_cmp (od_pNe T (hr.mono (by decide)) passB) (ev_call (ok_law_pair (P := P) (w := w) (base := base) T) (hr.mono (by decide)) (by rfl) T.m_law_pair T.k_law_pair T.b_law_pair .nil (fun _ _ => .nil) passB (ea_cons (ev_meth (c := 0) (ev_var 3) T.cl_Ratio T.me_c0_over nm_c0_over (ok_c0_over (P := P) (w := w) (base := base) T) (hr.mono (by decide)) T.b_c0_over .nil (fun _ _ => .nil) passB (ea_cons (ev_var 2) ea_nil)) ea_nil)) (ev_call (ok_law_over (P := P) (w := w) (base := base) T) (hr.mono (by decide)) (by rfl) T.m_law_over T.k_law_over T.b_law_over .nil (fun _ _ => .nil) passB (ea_cons (ev_var 5) (ea_cons (ev_var 7) ea_nil)))))).et (svs_one (sv_ret ev_bl)) svs_nil)
    (svs_cons (sv_set 10 sc_law_two_right.nd (by rfl) (Or.inl (by rfl)) (ev_cmp od_lt (ev_bin (od_pMul T (hr.mono (by decide)) passB) (ev_ix (ixd (by rfl)) (ev_var 5) ev_int) (ev_ix (ixd (by rfl)) (ev_var 6) ev_int)) (ev_bin (od_pMul T (hr.mono (by decide)) passB) (ev_ix (ixd (by rfl)) (ev_var 6) ev_int) (ev_ix (ixd (by rfl)) (ev_var 5) ev_int))))
    (svs_cons (sv_set 8 sc_law_two_right.nd (by rfl) (Or.inl (by rfl)) (ev_lst (ea_cons (ev_meth (c := 0) (ev_var 3) T.cl_Ratio T.me_c0_is_below nm_c0_is_below (ok_c0_is_below (P := P) (w := w) (base := base) T) (hr.mono (by decide)) T.b_c0_is_below .nil (fun _ _ => .nil) passB (ea_cons (ev_var 4) ea_nil)) (ea_cons (ev_meth (c := 0) (ev_var 4) T.cl_Ratio T.me_c0_is_below nm_c0_is_below (ok_c0_is_below (P := P) (w := w) (base := base) T) (hr.mono (by decide)) T.b_c0_is_below .nil (fun _ _ => .nil) passB (ea_cons (ev_var 3) ea_nil)) (ea_cons (ev_meth (c := 0) (ev_var 3) T.cl_Ratio T.me_c0_is_at_most nm_c0_is_at_most (ok_c0_is_at_most (P := P) (w := w) (base := base) T) (hr.mono (by decide)) T.b_c0_is_at_most .nil (fun _ _ => .nil) passB (ea_cons (ev_var 4) ea_nil)) (ea_cons (ev_cmp (od_pEq T (hr.mono (by decide)) passB) (ev_var 3) (ev_var 4)) (ea_cons (ev_cmp (od_pNe T (hr.mono (by decide)) passB) (ev_var 3) (ev_var 4)) ea_nil)))))))
    (svs_cons (sv_set 11 sc_law_two_right.nd (by rfl) (Or.inl (by rfl)) (ev_cmp od_gt (ev_bin (od_pMul T (hr.mono (by decide)) passB) (ev_ix (ixd (by rfl)) (ev_var 5) ev_int) (ev_ix (ixd (by rfl)) (ev_var 6) ev_int)) (ev_bin (od_pMul T (hr.mono (by decide)) passB) (ev_ix (ixd (by rfl)) (ev_var 6) ev_int) (ev_ix (ixd (by rfl)) (ev_var 5) ev_int))))
    (svs_cons (sv_if (et_cmp (od_pNe T (hr.mono (by decide)) passB) (ev_var 8) (ev_lst (ea_cons (ev_var 10) (ea_cons (ev_var 11) (ea_cons (ev_not (ev_var 11)) (ea_cons (ev_cmp (od_pEq T (hr.mono (by decide)) passB) (ev_var 5) (ev_var 6)) (ea_cons (ev_cmp (od_pNe T (hr.mono (by decide)) passB) (ev_var 5) (ev_var 6)) ea_nil))))))) (svs_one (sv_ret ev_bl)) svs_nil)
    (svs_cons (sv_set 8 sc_law_two_right.nd (by rfl) (Or.inl (by rfl)) (ev_lst (ea_cons (ev_meth (c := 0) (ev_var 3) T.cl_Ratio T.me_c0_is_below nm_c0_is_below (ok_c0_is_below (P := P) (w := w) (base := base) T) (hr.mono (by decide)) T.b_c0_is_below .nil (fun _ _ => .nil) passB (ea_cons (ev_var 2) ea_nil)) (ea_cons (ev_meth (c := 0) (ev_var 3) T.cl_Ratio T.me_c0_is_at_most nm_c0_is_at_most (ok_c0_is_at_most (P := P) (w := w) (base := base) T) (hr.mono (by decide)) T.b_c0_is_at_most .nil (fun _ _ => .nil) passB (ea_cons (ev_var 2) ea_nil)) (ea_cons (ev_cmp (od_pEq T (hr.mono (by decide)) passB) (ev_var 3) (ev_var 2)) (ea_cons (ev_cmp (od_pEq T (hr.mono (by decide)) passB) (ev_var 2) (ev_var 3)) ea_nil))))))
    (svs_one (sv_ret (ev_cmp (od_pEq T (hr.mono (by decide)) passB) (ev_var 8) (ev_lst (ea_cons (ev_cmp od_lt (ev_ix (ixd (by rfl)) (ev_var 5) ev_int) (ev_bin (od_pMul T (hr.mono (by decide)) passB) (ev_var 2) (ev_ix (ixd (by rfl)) (ev_var 5) ev_int))) (ea_cons (ev_cmp od_le (ev_ix (ixd (by rfl)) (ev_var 5) ev_int) (ev_bin (od_pMul T (hr.mono (by decide)) passB) (ev_var 2) (ev_ix (ixd (by rfl)) (ev_var 5) ev_int))) (ea_cons ev_bl (ea_cons ev_bl ea_nil)))))))))))))))))))))))

/-! _law_right -/
def b_law_right : Pm.Env → S → Res Fl := (sSeq (sSet 1 (mCompF finC [3] (iR1 (aCons (mC (.int 6)) aNil)) (tName 3) mYes (mCallD (n := 1) [] m_law_raw (aCons (mVar 0) aNil))))
  (sSeq (sExpr (mtCell appF (mVar 1) (aCons (mTup (aCons (m2 pMul (m2 ixD (m2 ixD (mVar 1) (mC (.int 0))) (mC (.int 0))) (mC (.int 3))) (aCons (m2 pMul (m2 ixD (m2 ixD (mVar 1) (mC (.int 0))) (mC (.int 1))) (mC (.int 3))) aNil))) aNil)))
  (sSeq (sFrz 1 (sExpr (mtCell appF (mVar 1) (aCons (mTup (aCons (mC (.int 0)) (aCons (m2 ixD (m2 ixD (mVar 1) (mC (.int 1))) (mC (.int 1))) aNil))) aNil))))
  (sSeq (sFor (iLst (mVar 1)) (tName 2) (sIf (mNotT (mB (mCallD (n := 1) [] m_law_one_right (aCons (mVar 2) aNil)))) (sRet (mC (.bl false))) sNext))
  (sSeq (sFor (iR1 (aCons (mC (.int 12)) aNil)) (tName 3) (sIf (mNotT (mB (mCallD (n := 3) [] m_law_two_right (aCons (mCallD (n := 2) [] m_law_pick (aCons (mVar 0) (aCons (mVar 1) aNil))) (aCons (mCallD (n := 2) [] m_law_pick (aCons (mVar 0) (aCons (mVar 1) aNil))) (aCons (m2 pSub (mCallD (n := 2) [] m_law_draw (aCons (mVar 0) (aCons (mC (.int 41)) aNil))) (mC (.int 20))) aNil)))))) (sRet (mC (.bl false))) sNext))
  (sSeq (sSet 4 (mCompF finL [2] (iLst (mVar 1)) (tName 2) mYes (mCallD (n := 2) [] m_law_low (aCons (m2 ixD (mVar 2) (mC (.int 0))) (aCons (m2 ixD (mVar 2) (mC (.int 1))) aNil)))))
  (sSeq (sSet 5 (m2 pAdd (mCompF finL [2] (iLst (mVar 1)) (tName 2) mYes (mMake 0 2 3 [] m_c0_init_ (aCons (m2 ixD (mVar 2) (mC (.int 0))) (aCons (m2 ixD (mVar 2) (mC (.int 1))) aNil)))) (mLst (aCons (mC (.int 7)) aNil))))
  (sSeq (sSet 6 (mLst (aCons (mCm 0 2 m_c0_total (mC (.cls 0)) (aCons (mVar 5) aNil)) (aCons (mCm 0 2 m_c0_total (mC (.cls 0)) (aCons (mCall bTuple (aCons (mVar 5) aNil)) aNil)) (aCons (mCmK 0 2 m_c0_total (mC (.cls 0)) (aCons (mVar 5) aNil)) (aCons (mCm 0 2 m_c0_total (mC (.cls 0)) (aCons (mLst aNil) aNil)) aNil))))))
  (sSeq (sIf (mB (m2 pNe (mCallD (n := 1) [] m_law_pairs (aCons (mVar 6) aNil)) (m2 pAdd (m2 pMul (mLst (aCons (mCallD (n := 1) [] m_law_total (aCons (m2 pAdd (mVar 4) (mLst (aCons (mTup (aCons (mC (.int 7)) (aCons (mC (.int 1)) aNil))) aNil))) aNil)) aNil)) (mC (.int 3))) (mLst (aCons (mTup (aCons (mC (.int 0)) (aCons (mC (.int 1)) aNil))) aNil))))) (sRet (mC (.bl false))) sNext)
  (sSeq (sSet 7 (mLst (aCons (mC (.int 0)) (aCons (mC (.int 1)) (aCons (m1 pNeg (mC (.int 1))) (aCons (mC (.int 5)) (aCons (mC (.bl true)) (aCons (mC (.bl false)) (aCons (mC .non) (aCons (mC (.str "1")) (aCons (mLst (aCons (mC (.int 1)) aNil)) (aCons (mTup (aCons (mC (.int 1)) (aCons (mC (.int 2)) aNil))) (aCons (m2 powI (mC (.int 10)) (mC (.int 5))) aNil)))))))))))))
  (sSeq (sSet 6 (mCompF finL [9] (iLst (mVar 7)) (tName 9) mYes (mLst (aCons (mCallD (n := 1) [] m_is_number (aCons (mVar 9) aNil)) (aCons (mCallD (n := 1) [] m_is_integer (aCons (mVar 9) aNil)) (aCons (mCallD (n := 1) [] m_is_count (aCons (mVar 9) aNil)) aNil))))))
  (sSeq (sSet 8 (mLst (aCons (mLst (aCons (mC (.bl true)) (aCons (mC (.bl true)) (aCons (mC (.bl true)) aNil)))) (aCons (mLst (aCons (mC (.bl true)) (aCons (mC (.bl true)) (aCons (mC (.bl true)) aNil)))) (aCons (mLst (aCons (mC (.bl true)) (aCons (mC (.bl true)) (aCons (mC (.bl false)) aNil)))) (aCons (mLst (aCons (mC (.bl true)) (aCons (mC (.bl true)) (aCons (mC (.bl true)) aNil)))) aNil))))))
  (sRet (m2 pEq (mVar 6) (m2 pAdd (m2 pAdd (mVar 8) (mCompF finL [3] (iR1 (aCons (mC (.int 6)) aNil)) (tName 3) mYes (m2 pMul (mLst (aCons (mC (.bl false)) aNil)) (mC (.int 3))))) (mLst (aCons (mLst (aCons (mC (.bl true)) (aCons (mC (.bl true)) (aCons (mC (.bl true)) aNil)))) aNil)))))))))))))))))
def m_law_right : List D → S → Res D := runBody 1 10 b_law_right
theorem sc_law_right : FnScope ["_law_pot_here", "_law_raws", "_law_raw_here", "_law_turn", "_law_pairs_here", "_law_given", "_law_told", "_law_values", "_law_due", "_law_one"] ["_law_pot_here"] (defScope s_law_right) := ⟨rfl, rfl, rfl, by decide +kernel, rfl, by decide +kernel, by decide +kernel⟩
theorem ok_law_right (T : Tx K mg d) : FnG P w K mg base 7 d.a_law_right (spG (gg K d) 1 m_law_right) :=
  fnG_def (N := ["_law_pot_here", "_law_raws", "_law_raw_here", "_law_turn", "_law_pairs_here", "_law_given", "_law_told", "_law_values", "_law_due", "_law_one"]) T.f_law_right sc_law_right T.b_law_right rfl (body := b_law_right) fun cdv A outer s H E hr hgd =>
    (svs_cons (sv_setLcF fin_c 1 (own := [("_law_turn", 3)]) (by rfl) sc_law_right.nd (by rfl) (by rfl) (by rfl) (iv_r1 (by rfl) T.n_range (ea_cons ev_int ea_nil)) (blkOk_by (N := ["_law_pot_here", "_law_raws", "_law_raw_here", "_law_turn", "_law_pairs_here", "_law_given", "_law_told", "_law_values", "_law_due", "_law_one"]) (sc := defScope s_law_right) (by decide +kernel)) (by decide) (fun _ _ _ _ _ => (tn_name 3 sc_law_right.nd (by rfl) (by first | exact Or.inl rfl | exact Or.inr rfl))) (fun _ _ _ _ _ => ets_nil) (fun _ _ _ _ _ => (ev_call (ok_law_raw (P := P) (w := w) (base := base) T) (hr.mono (by decide)) (by rfl) T.m_law_raw T.k_law_raw T.b_law_raw .nil (fun _ _ => .nil) passK (ea_cons (ev_var 0) ea_nil))))
    (svs_cons (sv_expr (ev_append (ev_var 1) (ea_cons (ev_tup (ea_cons (ev_bin (od_pMul T (hr.mono (by decide)) passB) (ev_ix (ixd (by rfl)) (ev_ix (ixd (by rfl)) (ev_var 1) ev_int) ev_int) ev_int) (ea_cons (ev_bin (od_pMul T (hr.mono (by decide)) passB) (ev_ix (ixd (by rfl)) (ev_ix (ixd (by rfl)) (ev_var 1) ev_int) ev_int) ev_int) ea_nil))) ea_nil)))
    (svs_cons (sv_frz 1 (sv_expr (ev_append (ev_var 1) (ea_cons (ev_tup (ea_cons ev_int (ea_cons (ev_ix (ixd (by rfl)) (ev_ix (ixd (by rfl)) (ev_var 1) ev_int) ev_int) ea_nil))) ea_nil))))
    (svs_cons (sv_for (L2.passes_of (by rfl)) (by rfl) (iv_l (by rfl) (ev_var 1)) (tn_name 2 sc_law_right.nd (by rfl) (by first | exact Or.inl rfl | exact Or.inr rfl)) (svs_one (sv_if (et_not (et_val (ev_callG (ok_law_one_right (P := P) (w := w) (base := base) T) (hr.mono (by decide)) hgd (by rfl) T.m_law_one_right T.k_law_one_right passB (ea_cons (ev_var 2) ea_nil)))) (svs_one (sv_ret ev_bl)) svs_nil)))
    (svs_cons (sv_for (L2.passes_of (by rfl)) (by rfl) (iv_r1 (by rfl) T.n_range (ea_cons ev_int ea_nil)) (tn_name 3 sc_law_right.nd (by rfl) (by first | exact Or.inl rfl | exact Or.inr rfl)) (svs_one (sv_if (et_not (et_val (ev_call (ok_law_two_right (P := P) (w := w) (base := base) T) (hr.mono (by decide)) (by rfl) T.m_law_two_right T.k_law_two_right T.b_law_two_right .nil (fun _ _ => .nil) passB (ea_cons (ev_call (ok_law_pick (P := P) (w := w) (base := base) T) (hr.mono (by decide)) (by rfl) T.m_law_pick T.k_law_pick T.b_law_pick .nil (fun _ _ => .nil) passB (ea_cons (ev_var 0) (ea_cons (ev_var 1) ea_nil))) (ea_cons (ev_call (ok_law_pick (P := P) (w := w) (base := base) T) (hr.mono (by decide)) (by rfl) T.m_law_pick T.k_law_pick T.b_law_pick .nil (fun _ _ => .nil) passB (ea_cons (ev_var 0) (ea_cons (ev_var 1) ea_nil))) (ea_cons (ev_bin (od_pSub T (hr.mono (by decide)) passB) (ev_call (ok_law_draw (P := P) (w := w) (base := base) T) (hr.mono (by decide)) (by rfl) T.m_law_draw T.k_law_draw T.b_law_draw .nil (fun _ _ => .nil) passB (ea_cons (ev_var 0) (ea_cons ev_int ea_nil))) ev_int) ea_nil)))))) (svs_one (sv_ret ev_bl)) svs_nil)))
    (svs_cons (sv_setLcF fin_l 4 (own := [("_law_raw_here", 2)]) (by rfl) sc_law_right.nd (by rfl) (by rfl) (by rfl) (iv_l (by rfl) (ev_var 1)) (blkOk_by (N := ["_law_pot_here", "_law_raws", "_law_raw_here", "_law_turn", "_law_pairs_here", "_law_given", "_law_told", "_law_values", "_law_due", "_law_one"]) (sc := defScope s_law_right) (by decide +kernel)) (by decide) (fun _ _ _ _ _ => (tn_name 2 sc_law_right.nd (by rfl) (by first | exact Or.inl rfl | exact Or.inr rfl))) (fun _ _ _ _ _ => ets_nil) (fun _ _ _ _ _ => (ev_call (ok_law_low (P := P) (w := w) (base := base) T) (hr.mono (by decide)) (by rfl) T.m_law_low T.k_law_low T.b_law_low .nil (fun _ _ => .nil) passK (ea_cons (ev_ix (ixd (by rfl)) (ev_var 2) ev_int) (ea_cons (ev_ix (ixd (by rfl)) (ev_var 2) ev_int) ea_nil)))))
    (svs_cons (sv_set 5 sc_law_right.nd (by rfl) (by first | exact Or.inl rfl | exact Or.inr rfl) (ev_bin (od_pAdd T (hr.mono (by decide)) passB) (ev_lcF fin_l (own := [("_law_raw_here", 2)]) (by rfl) sc_law_right.nd (iv_l (by rfl) (ev_var 1)) (blkOk_by (N := ["_law_pot_here", "_law_raws", "_law_raw_here", "_law_turn", "_law_pairs_here", "_law_given", "_law_told", "_law_values", "_law_due", "_law_one"]) (sc := defScope s_law_right) (by decide +kernel)) (by decide) (fun _ _ _ _ _ => (tn_name 2 sc_law_right.nd (by rfl) (by first | exact Or.inl rfl | exact Or.inr rfl))) (fun _ _ _ _ _ => ets_nil) (fun _ _ _ _ _ => (ev_makeV T.mk_Ratio (ok_c0_init_ (P := P) (w := w) (base := base) T) (by rfl) (hr.mono (by decide)) (by rfl) T.m_Ratio T.b0_c0_init_ (fun _ _ => .nil) passK (ea_cons (ev_ix (ixd (by rfl)) (ev_var 2) ev_int) (ea_cons (ev_ix (ixd (by rfl)) (ev_var 2) ev_int) ea_nil))))) (ev_lst (ea_cons ev_int ea_nil))))
    (svs_cons (sv_set 6 sc_law_right.nd (by rfl) (by first | exact Or.inl rfl | exact Or.inr rfl) (ev_lst (ea_cons (ev_cm (c := 0) (ev_cls 0 (by rfl) T.m_Ratio) T.cr_Ratio T.cm_c0_total (ok_c0_total (P := P) (w := w) (base := base) T) T.b_c0_total (hr.mono (by decide)) passB (ea_cons (ev_var 5) ea_nil)) (ea_cons (ev_cm (c := 0) (ev_cls 0 (by rfl) T.m_Ratio) T.cr_Ratio T.cm_c0_total (ok_c0_total (P := P) (w := w) (base := base) T) T.b_c0_total (hr.mono (by decide)) passB (ea_cons (ev_callTy (cd_tuple (by rfl)) (by rfl) T.n_tuple bo_tuple (ea_cons (ev_var 5) ea_nil)) ea_nil)) (ea_cons (ev_cmKw0 (c := 0) (ev_cls 0 (by rfl) T.m_Ratio) T.cr_Ratio T.cm_c0_total (ok_c0_total (P := P) (w := w) (base := base) T) (hr.mono (by decide)) T.kb_c0_total_numbers (by rfl) passB (ek_cons (ev_var 5) ek_nil)) (ea_cons (ev_cm (c := 0) (ev_cls 0 (by rfl) T.m_Ratio) T.cr_Ratio T.cm_c0_total (ok_c0_total (P := P) (w := w) (base := base) T) T.b_c0_total (hr.mono (by decide)) passB (ea_cons (ev_lst ea_nil) ea_nil)) ea_nil))))))
    (svs_cons (sv_if (et_cmp (od_pNe T (hr.mono (by decide)) passB) (ev_call (ok_law_pairs (P := P) (w := w) (base := base) T) (hr.mono (by decide)) (by rfl) T.m_law_pairs T.k_law_pairs T.b_law_pairs .nil (fun _ _ => .nil) passB (ea_cons (ev_var 6) ea_nil)) (ev_bin (od_pAdd T (hr.mono (by decide)) passB) (ev_bin (od_pMul T (hr.mono (by decide)) passB) (ev_lst (ea_cons (ev_call (ok_law_total (P := P) (w := w) (base := base) T) (hr.mono (by decide)) (by rfl) T.m_law_total T.k_law_total T.b_law_total .nil (fun _ _ => .nil) passB (ea_cons (ev_bin (od_pAdd T (hr.mono (by decide)) passB) (ev_var 4) (ev_lst (ea_cons (ev_tup (ea_cons ev_int (ea_cons ev_int ea_nil))) ea_nil))) ea_nil)) ea_nil)) ev_int) (ev_lst (ea_cons (ev_tup (ea_cons ev_int (ea_cons ev_int ea_nil))) ea_nil)))) (svs_one (sv_ret ev_bl)) svs_nil)
    (svs_cons (sv_set 7 sc_law_right.nd (by rfl) (by first | exact Or.inl rfl | exact Or.inr rfl) (ev_lst (ea_cons ev_int (ea_cons ev_int (ea_cons (ev_un (ud_pNeg T (hr.mono (by decide)) passB) ev_int) (ea_cons ev_int (ea_cons ev_bl (ea_cons ev_bl (ea_cons ev_non (ea_cons ev_str (ea_cons (ev_lst (ea_cons ev_int ea_nil)) (ea_cons (ev_tup (ea_cons ev_int (ea_cons ev_int ea_nil))) (ea_cons (ev_bin od_pow ev_int ev_int) ea_nil)))))))))))))
    (svs_cons (sv_setLcF fin_l 6 (own := [("_law_one", 9)]) (by rfl) sc_law_right.nd (by rfl) (by rfl) (by rfl) (iv_l (by rfl) (ev_var 7)) (blkOk_by (N := ["_law_pot_here", "_law_raws", "_law_raw_here", "_law_turn", "_law_pairs_here", "_law_given", "_law_told", "_law_values", "_law_due", "_law_one"]) (sc := defScope s_law_right) (by decide +kernel)) (by decide) (fun _ _ _ _ _ => (tn_name 9 sc_law_right.nd (by rfl) (by first | exact Or.inl rfl | exact Or.inr rfl))) (fun _ _ _ _ _ => ets_nil) (fun _ _ _ _ _ => (ev_lst (ea_cons (ev_call (ok_is_number (P := P) (w := w) (base := base) T) (hr.mono (by decide)) (by rfl) T.m_is_number T.k_is_number T.b_is_number .nil (fun _ _ => .nil) passK (ea_cons (ev_var 9) ea_nil)) (ea_cons (ev_call (ok_is_integer (P := P) (w := w) (base := base) T) (hr.mono (by decide)) (by rfl) T.m_is_integer T.k_is_integer T.b_is_integer .nil (fun _ _ => .nil) passK (ea_cons (ev_var 9) ea_nil)) (ea_cons (ev_call (ok_is_count (P := P) (w := w) (base := base) T) (hr.mono (by decide)) (by rfl) T.m_is_count T.k_is_count T.b_is_count .nil (fun _ _ => .nil) passK (ea_cons (ev_var 9) ea_nil)) ea_nil))))))
    (svs_cons (sv_set 8 sc_law_right.nd (by rfl) (by first | exact Or.inl rfl | exact Or.inr rfl) (ev_lst (ea_cons (ev_lst (ea_cons ev_bl (ea_cons ev_bl (ea_cons ev_bl ea_nil)))) (ea_cons (ev_lst (ea_cons ev_bl (ea_cons ev_bl (ea_cons ev_bl ea_nil)))) (ea_cons (ev_lst (ea_cons ev_bl (ea_cons ev_bl (ea_cons ev_bl ea_nil)))) (ea_cons (ev_lst (ea_cons ev_bl (ea_cons ev_bl (ea_cons ev_bl ea_nil)))) ea_nil))))))
    (svs_one (sv_ret (ev_cmp (od_pEq T (hr.mono (by decide)) passB) (ev_var 6) (ev_bin (od_pAdd T (hr.mono (by decide)) passB) (ev_bin (od_pAdd T (hr.mono (by decide)) passB) (ev_var 8) (ev_lcF fin_l (own := [("_law_turn", 3)]) (by rfl) sc_law_right.nd (iv_r1 (by rfl) T.n_range (ea_cons ev_int ea_nil)) (blkOk_by (N := ["_law_pot_here", "_law_raws", "_law_raw_here", "_law_turn", "_law_pairs_here", "_law_given", "_law_told", "_law_values", "_law_due", "_law_one"]) (sc := defScope s_law_right) (by decide +kernel)) (by decide) (fun _ _ _ _ _ => (tn_name 3 sc_law_right.nd (by rfl) (by first | exact Or.inl rfl | exact Or.inr rfl))) (fun _ _ _ _ _ => ets_nil) (fun _ _ _ _ _ => (ev_bin (od_pMul T (hr.mono (by decide)) passK) (ev_lst (ea_cons ev_bl ea_nil)) ev_int)))) (ev_lst (ea_cons (ev_lst (ea_cons ev_bl (ea_cons ev_bl (ea_cons ev_bl ea_nil)))) ea_nil))))))))))))))))))

/-! law -/
def b_law : Pm.Env → S → Res Fl := (sRet (mCallD (n := 1) [] m_law_right (aCons (mCallD (n := 2) [] m_law_pot (aCons (mVar 0) (aCons (mC (.int 0)) aNil))) aNil)))
def m_law : List D → S → Res D := runBody 1 1 b_law
theorem sc_law : FnScope ["_law_script"] ["_law_script"] (defScope s_law) := ⟨rfl, rfl, rfl, by decide +kernel, rfl, by decide +kernel, by decide +kernel⟩
theorem ok_law (T : Tx K mg d) : FnG P w K mg base 8 d.a_law (spG (gg K d) 1 m_law) :=
  fnG_def (N := ["_law_script"]) T.f_law sc_law T.b_law rfl (body := b_law) fun cdv A outer s H E hr hgd =>
    (svs_one (sv_ret (ev_callG (ok_law_right (P := P) (w := w) (base := base) T) (hr.mono (by decide)) hgd (by rfl) T.m_law_right T.k_law_right passB (ea_cons (ev_call (ok_law_pot (P := P) (w := w) (base := base) T) (hr.mono (by decide)) (by rfl) T.m_law_pot T.k_law_pot T.b_law_pot .nil (fun _ _ => .nil) passB (ea_cons (ev_var 0) (ea_cons ev_int ea_nil))) ea_nil))))
end
/-! what the top has left -/
abbrev D_is_integer : DefP := ⟨pG "is_integer", "is_integer", "is_integer", s_is_integer, []⟩
abbrev D_is_count : DefP := ⟨pG "is_count", "is_count", "is_count", s_is_count, []⟩
abbrev D_is_list : DefP := ⟨pG "is_list", "is_list", "is_list", s_is_list, []⟩
abbrev D_c0_init_ : DefP := ⟨pM "Ratio" "__init__", "__init__", "Ratio.__init__", s_c0_init_, [V.int 1]⟩
abbrev D_c0_top : DefP := ⟨pRec "property" (pM "Ratio" "top"), "top", "Ratio.top", s_c0_top, []⟩
abbrev D_c0_bottom : DefP := ⟨pRec "property" (pM "Ratio" "bottom"), "bottom", "Ratio.bottom", s_c0_bottom, []⟩
abbrev D_c0_sign : DefP := ⟨pRec "property" (pM "Ratio" "sign"), "sign", "Ratio.sign", s_c0_sign, []⟩
abbrev D_c0_is_whole : DefP := ⟨pRec "property" (pM "Ratio" "is_whole"), "is_whole", "Ratio.is_whole", s_c0_is_whole, []⟩
abbrev D_is_number : DefP := ⟨pG "is_number", "is_number", "is_number", s_is_number, []⟩
abbrev D_parts_of : DefP := ⟨pG "parts_of", "parts_of", "parts_of", s_parts_of, []⟩
abbrev D_c0_add_ : DefP := ⟨pM "Ratio" "__add__", "__add__", "Ratio.__add__", s_c0_add_, []⟩
abbrev D_c0_radd_ : DefP := ⟨pM "Ratio" "__radd__", "__radd__", "Ratio.__radd__", s_c0_radd_, []⟩
abbrev D_c0_sub_ : DefP := ⟨pM "Ratio" "__sub__", "__sub__", "Ratio.__sub__", s_c0_sub_, []⟩
abbrev D_c0_neg_ : DefP := ⟨pM "Ratio" "__neg__", "__neg__", "Ratio.__neg__", s_c0_neg_, []⟩
abbrev D_c0_rsub_ : DefP := ⟨pM "Ratio" "__rsub__", "__rsub__", "Ratio.__rsub__", s_c0_rsub_, []⟩
abbrev D_c0_mul_ : DefP := ⟨pM "Ratio" "__mul__", "__mul__", "Ratio.__mul__", s_c0_mul_, []⟩
abbrev D_c0_rmul_ : DefP := ⟨pM "Ratio" "__rmul__", "__rmul__", "Ratio.__rmul__", s_c0_rmul_, []⟩
abbrev D_c0_over : DefP := ⟨pM "Ratio" "over", "over", "Ratio.over", s_c0_over, []⟩
abbrev D_c0_unsigned : DefP := ⟨pM "Ratio" "unsigned", "unsigned", "Ratio.unsigned", s_c0_unsigned, []⟩
abbrev D_c0_is_below : DefP := ⟨pM "Ratio" "is_below", "is_below", "Ratio.is_below", s_c0_is_below, []⟩
abbrev D_c0_is_at_most : DefP := ⟨pM "Ratio" "is_at_most", "is_at_most", "Ratio.is_at_most", s_c0_is_at_most, []⟩
abbrev D_c0_eq_ : DefP := ⟨pM "Ratio" "__eq__", "__eq__", "Ratio.__eq__", s_c0_eq_, []⟩
abbrev D_c0_str_ : DefP := ⟨pM "Ratio" "__str__", "__str__", "Ratio.__str__", s_c0_str_, []⟩
abbrev D_c0_repr_ : DefP := ⟨pM "Ratio" "__repr__", "__repr__", "Ratio.__repr__", s_c0_repr_, []⟩
abbrev D_c0_total : DefP := ⟨pRec "classmethod" (pCm "Ratio" "total"), "total", "Ratio.total", s_c0_total, []⟩
abbrev D_law_pot : DefP := ⟨pG "_law_pot", "_law_pot", "_law_pot", s_law_pot, []⟩
abbrev D_law_draw : DefP := ⟨pG "_law_draw", "_law_draw", "_law_draw", s_law_draw, []⟩
abbrev D_law_pick : DefP := ⟨pG "_law_pick", "_law_pick", "_law_pick", s_law_pick, []⟩
abbrev D_law_low : DefP := ⟨pG "_law_low", "_law_low", "_law_low", s_law_low, []⟩
abbrev D_law_sum : DefP := ⟨pG "_law_sum", "_law_sum", "_law_sum", s_law_sum, []⟩
abbrev D_law_by : DefP := ⟨pG "_law_by", "_law_by", "_law_by", s_law_by, []⟩
abbrev D_law_less : DefP := ⟨pG "_law_less", "_law_less", "_law_less", s_law_less, []⟩
abbrev D_law_over : DefP := ⟨pG "_law_over", "_law_over", "_law_over", s_law_over, []⟩
abbrev D_law_total : DefP := ⟨pG "_law_total", "_law_total", "_law_total", s_law_total, []⟩
abbrev D_law_pair : DefP := ⟨pG "_law_pair", "_law_pair", "_law_pair", s_law_pair, []⟩
abbrev D_law_pairs : DefP := ⟨pG "_law_pairs", "_law_pairs", "_law_pairs", s_law_pairs, []⟩
abbrev D_law_shown : DefP := ⟨pG "_law_shown", "_law_shown", "_law_shown", s_law_shown, []⟩
abbrev D_law_raw : DefP := ⟨pG "_law_raw", "_law_raw", "_law_raw", s_law_raw, []⟩
abbrev D_law_one_right : DefP := ⟨pG "_law_one_right", "_law_one_right", "_law_one_right", s_law_one_right, []⟩
abbrev D_law_two_right : DefP := ⟨pG "_law_two_right", "_law_two_right", "_law_two_right", s_law_two_right, []⟩
abbrev D_law_right : DefP := ⟨pG "_law_right", "_law_right", "_law_right", s_law_right, []⟩
abbrev D_law : DefP := ⟨pG "law", "law", "law", s_law, []⟩
def defs : List DefP := [D_is_integer, D_is_count, D_is_list, D_c0_init_, D_c0_top, D_c0_bottom, D_c0_sign, D_c0_is_whole, D_is_number, D_parts_of, D_c0_add_, D_c0_radd_, D_c0_sub_, D_c0_neg_, D_c0_rsub_, D_c0_mul_, D_c0_rmul_, D_c0_over, D_c0_unsigned, D_c0_is_below, D_c0_is_at_most, D_c0_eq_, D_c0_str_, D_c0_repr_, D_c0_total, D_law_pot, D_law_draw, D_law_pick, D_law_low, D_law_sum, D_law_by, D_law_less, D_law_over, D_law_total, D_law_pair, D_law_pairs, D_law_shown, D_law_raw, D_law_one_right, D_law_two_right, D_law_right, D_law]
def facts : List (Fr' → Bool) := [faA (.cls "Ratio"), faA (.glo "Ratio"), faA (.noat "Ratio" "_top"), faA (.noat "Ratio" "_bottom"), faA (.mkr "Ratio"), faK ["Ratio"], faA (.free "abs"), faA (.free "bool"), faA (.free "divmod"), faA (.free "int"), faA (.free "isinstance"), faA (.free "len"), faA (.free "list"), faA (.free "max"), faA (.free "range"), faA (.free "repr"), faA (.free "str"), faA (.free "tuple"), faB "gcd" "math.gcd", faA (.glo "is_integer"), faA (.glo "is_count"), faA (.glo "is_list"), faP "Ratio" "top", faP "Ratio" "bottom", faP "Ratio" "sign", faP "Ratio" "is_whole", faA (.glo "is_number"), faA (.glo "parts_of"), faA (.meth "Ratio" "over"), faA (.meth "Ratio" "unsigned"), faA (.meth "Ratio" "is_below"), faA (.meth "Ratio" "is_at_most"), faC "Ratio" "total", faA (.glo "_law_pot"), faA (.glo "_law_draw"), faA (.glo "_law_pick"), faA (.glo "_law_low"), faA (.glo "_law_sum"), faA (.glo "_law_by"), faA (.glo "_law_less"), faA (.glo "_law_over"), faA (.glo "_law_total"), faA (.glo "_law_pair"), faA (.glo "_law_pairs"), faA (.glo "_law_shown"), faA (.glo "_law_raw"), faA (.glo "_law_one_right"), faA (.glo "_law_two_right"), faA (.glo "_law_right"), faA (.glo "law"), faR "Ratio", faO "Ratio" "__add__" "__radd__", faO "Ratio" "__sub__" "__rsub__", faO "Ratio" "__mul__" "__rmul__", faA (.meth "Ratio" "__neg__"), faE "Ratio", faA (.meth "Ratio" "__str__"), faA (.meth "Ratio" "__repr__")]
theorem tx_of {K : Fr'} {h : Heap} {mg : Str → Option Value} (X : K.In h) (G : h.Ns mainGlobals mg) (c : SaysP defs facts K) : ∃ d : Ad, d.a_law = He.ga K "law" ∧ Tx K mg d := by
  obtain ⟨d_is_integer, F_is_integer⟩ := c.fund 0 (p := D_is_integer) rfl
  obtain ⟨d_is_count, F_is_count⟩ := c.fund 1 (p := D_is_count) rfl
  obtain ⟨d_is_list, F_is_list⟩ := c.fund 2 (p := D_is_list) rfl
  obtain ⟨d_c0_init_, F_c0_init_⟩ := c.fund 3 (p := D_c0_init_) rfl
  obtain ⟨d_c0_top, F_c0_top⟩ := c.fund 4 (p := D_c0_top) rfl
  obtain ⟨d_c0_bottom, F_c0_bottom⟩ := c.fund 5 (p := D_c0_bottom) rfl
  obtain ⟨d_c0_sign, F_c0_sign⟩ := c.fund 6 (p := D_c0_sign) rfl
  obtain ⟨d_c0_is_whole, F_c0_is_whole⟩ := c.fund 7 (p := D_c0_is_whole) rfl
  obtain ⟨d_is_number, F_is_number⟩ := c.fund 8 (p := D_is_number) rfl
  obtain ⟨d_parts_of, F_parts_of⟩ := c.fund 9 (p := D_parts_of) rfl
  obtain ⟨d_c0_add_, F_c0_add_⟩ := c.fund 10 (p := D_c0_add_) rfl
  obtain ⟨d_c0_radd_, F_c0_radd_⟩ := c.fund 11 (p := D_c0_radd_) rfl
  obtain ⟨d_c0_sub_, F_c0_sub_⟩ := c.fund 12 (p := D_c0_sub_) rfl
  obtain ⟨d_c0_neg_, F_c0_neg_⟩ := c.fund 13 (p := D_c0_neg_) rfl
  obtain ⟨d_c0_rsub_, F_c0_rsub_⟩ := c.fund 14 (p := D_c0_rsub_) rfl
  obtain ⟨d_c0_mul_, F_c0_mul_⟩ := c.fund 15 (p := D_c0_mul_) rfl
  obtain ⟨d_c0_rmul_, F_c0_rmul_⟩ := c.fund 16 (p := D_c0_rmul_) rfl
  obtain ⟨d_c0_over, F_c0_over⟩ := c.fund 17 (p := D_c0_over) rfl
  obtain ⟨d_c0_unsigned, F_c0_unsigned⟩ := c.fund 18 (p := D_c0_unsigned) rfl
  obtain ⟨d_c0_is_below, F_c0_is_below⟩ := c.fund 19 (p := D_c0_is_below) rfl
  obtain ⟨d_c0_is_at_most, F_c0_is_at_most⟩ := c.fund 20 (p := D_c0_is_at_most) rfl
  obtain ⟨d_c0_eq_, F_c0_eq_⟩ := c.fund 21 (p := D_c0_eq_) rfl
  obtain ⟨d_c0_str_, F_c0_str_⟩ := c.fund 22 (p := D_c0_str_) rfl
  obtain ⟨d_c0_repr_, F_c0_repr_⟩ := c.fund 23 (p := D_c0_repr_) rfl
  obtain ⟨d_c0_total, F_c0_total⟩ := c.fund 24 (p := D_c0_total) rfl
  obtain ⟨d_law_pot, F_law_pot⟩ := c.fund 25 (p := D_law_pot) rfl
  obtain ⟨d_law_draw, F_law_draw⟩ := c.fund 26 (p := D_law_draw) rfl
  obtain ⟨d_law_pick, F_law_pick⟩ := c.fund 27 (p := D_law_pick) rfl
  obtain ⟨d_law_low, F_law_low⟩ := c.fund 28 (p := D_law_low) rfl
  obtain ⟨d_law_sum, F_law_sum⟩ := c.fund 29 (p := D_law_sum) rfl
  obtain ⟨d_law_by, F_law_by⟩ := c.fund 30 (p := D_law_by) rfl
  obtain ⟨d_law_less, F_law_less⟩ := c.fund 31 (p := D_law_less) rfl
  obtain ⟨d_law_over, F_law_over⟩ := c.fund 32 (p := D_law_over) rfl
  obtain ⟨d_law_total, F_law_total⟩ := c.fund 33 (p := D_law_total) rfl
  obtain ⟨d_law_pair, F_law_pair⟩ := c.fund 34 (p := D_law_pair) rfl
  obtain ⟨d_law_pairs, F_law_pairs⟩ := c.fund 35 (p := D_law_pairs) rfl
  obtain ⟨d_law_shown, F_law_shown⟩ := c.fund 36 (p := D_law_shown) rfl
  obtain ⟨d_law_raw, F_law_raw⟩ := c.fund 37 (p := D_law_raw) rfl
  obtain ⟨d_law_one_right, F_law_one_right⟩ := c.fund 38 (p := D_law_one_right) rfl
  obtain ⟨d_law_two_right, F_law_two_right⟩ := c.fund 39 (p := D_law_two_right) rfl
  obtain ⟨d_law_right, F_law_right⟩ := c.fund 40 (p := D_law_right) rfl
  obtain ⟨d_law, F_law⟩ := c.fund 41 (p := D_law) rfl
  refine ⟨{ C_Ratio := He.ga K "Ratio", a_is_integer := (pG "is_integer") K, d_is_integer := d_is_integer, a_is_count := (pG "is_count") K, d_is_count := d_is_count, a_is_list := (pG "is_list") K, d_is_list := d_is_list, a_c0_init_ := (pM "Ratio" "__init__") K, d_c0_init_ := d_c0_init_, a_c0_top := (pRec "property" (pM "Ratio" "top")) K, d_c0_top := d_c0_top, p_c0_top := pM "Ratio" "top" K, a_c0_bottom := (pRec "property" (pM "Ratio" "bottom")) K, d_c0_bottom := d_c0_bottom, p_c0_bottom := pM "Ratio" "bottom" K, a_c0_sign := (pRec "property" (pM "Ratio" "sign")) K, d_c0_sign := d_c0_sign, p_c0_sign := pM "Ratio" "sign" K, a_c0_is_whole := (pRec "property" (pM "Ratio" "is_whole")) K, d_c0_is_whole := d_c0_is_whole, p_c0_is_whole := pM "Ratio" "is_whole" K, a_is_number := (pG "is_number") K, d_is_number := d_is_number, a_parts_of := (pG "parts_of") K, d_parts_of := d_parts_of, a_c0_add_ := (pM "Ratio" "__add__") K, d_c0_add_ := d_c0_add_, a_c0_radd_ := (pM "Ratio" "__radd__") K, d_c0_radd_ := d_c0_radd_, a_c0_sub_ := (pM "Ratio" "__sub__") K, d_c0_sub_ := d_c0_sub_, a_c0_neg_ := (pM "Ratio" "__neg__") K, d_c0_neg_ := d_c0_neg_, a_c0_rsub_ := (pM "Ratio" "__rsub__") K, d_c0_rsub_ := d_c0_rsub_, a_c0_mul_ := (pM "Ratio" "__mul__") K, d_c0_mul_ := d_c0_mul_, a_c0_rmul_ := (pM "Ratio" "__rmul__") K, d_c0_rmul_ := d_c0_rmul_, a_c0_over := (pM "Ratio" "over") K, d_c0_over := d_c0_over, a_c0_unsigned := (pM "Ratio" "unsigned") K, d_c0_unsigned := d_c0_unsigned, a_c0_is_below := (pM "Ratio" "is_below") K, d_c0_is_below := d_c0_is_below, a_c0_is_at_most := (pM "Ratio" "is_at_most") K, d_c0_is_at_most := d_c0_is_at_most, a_c0_eq_ := (pM "Ratio" "__eq__") K, d_c0_eq_ := d_c0_eq_, a_c0_str_ := (pM "Ratio" "__str__") K, d_c0_str_ := d_c0_str_, a_c0_repr_ := (pM "Ratio" "__repr__") K, d_c0_repr_ := d_c0_repr_, a_c0_total := (pRec "classmethod" (pCm "Ratio" "total")) K, d_c0_total := d_c0_total, p_c0_total := pCm "Ratio" "total" K, a_law_pot := (pG "_law_pot") K, d_law_pot := d_law_pot, a_law_draw := (pG "_law_draw") K, d_law_draw := d_law_draw, a_law_pick := (pG "_law_pick") K, d_law_pick := d_law_pick, a_law_low := (pG "_law_low") K, d_law_low := d_law_low, a_law_sum := (pG "_law_sum") K, d_law_sum := d_law_sum, a_law_by := (pG "_law_by") K, d_law_by := d_law_by, a_law_less := (pG "_law_less") K, d_law_less := d_law_less, a_law_over := (pG "_law_over") K, d_law_over := d_law_over, a_law_total := (pG "_law_total") K, d_law_total := d_law_total, a_law_pair := (pG "_law_pair") K, d_law_pair := d_law_pair, a_law_pairs := (pG "_law_pairs") K, d_law_pairs := d_law_pairs, a_law_shown := (pG "_law_shown") K, d_law_shown := d_law_shown, a_law_raw := (pG "_law_raw") K, d_law_raw := d_law_raw, a_law_one_right := (pG "_law_one_right") K, d_law_one_right := d_law_one_right, a_law_two_right := (pG "_law_two_right") K, d_law_two_right := d_law_two_right, a_law_right := (pG "_law_right") K, d_law_right := d_law_right, a_law := (pG "law") K, d_law := d_law }, rfl, ?_⟩
  exact {
    cl_Ratio := He.cls_ok (c.fact 0 (f := faA (.cls "Ratio")) rfl)
    m_Ratio := He.glo_ok X G (c.fact 1 (f := faA (.glo "Ratio")) rfl)
    na_Ratio_top := He.noat_ok (c.fact 2 (f := faA (.noat "Ratio" "_top")) rfl)
    na_Ratio_bottom := He.noat_ok (c.fact 3 (f := faA (.noat "Ratio" "_bottom")) rfl)
    mk_Ratio := He.mkr_ok (c.fact 4 (f := faA (.mkr "Ratio")) rfl)
    clsf := faK_ok (Cs := ["Ratio"]) (by intro i hi; have hi : i < 1 := hi; match i, hi with | 0, _ => rfl) (c.fact 5 (f := faK ["Ratio"]) rfl)
    n_abs := He.free_ok X G (c.fact 6 (f := faA (.free "abs")) rfl)
    n_bool := He.free_ok X G (c.fact 7 (f := faA (.free "bool")) rfl)
    n_divmod := He.free_ok X G (c.fact 8 (f := faA (.free "divmod")) rfl)
    n_int := He.free_ok X G (c.fact 9 (f := faA (.free "int")) rfl)
    n_isinstance := He.free_ok X G (c.fact 10 (f := faA (.free "isinstance")) rfl)
    n_len := He.free_ok X G (c.fact 11 (f := faA (.free "len")) rfl)
    n_list := He.free_ok X G (c.fact 12 (f := faA (.free "list")) rfl)
    n_max := He.free_ok X G (c.fact 13 (f := faA (.free "max")) rfl)
    n_range := He.free_ok X G (c.fact 14 (f := faA (.free "range")) rfl)
    n_repr := He.free_ok X G (c.fact 15 (f := faA (.free "repr")) rfl)
    n_str := He.free_ok X G (c.fact 16 (f := faA (.free "str")) rfl)
    n_tuple := He.free_ok X G (c.fact 17 (f := faA (.free "tuple")) rfl)
    m_gcd := faB_ok X G (c.fact 18 (f := faB "gcd" "math.gcd") rfl)
    f_is_integer := fun_of F_is_integer
    b_is_integer := Fun.binds (fun_of F_is_integer) fun _ _ _ _ _ _ us hl => match us, hl with | [_], _ => rfl
    m_is_integer := He.glo_ok X G (c.fact 19 (f := faA (.glo "is_integer")) rfl)
    k_is_integer := F_is_integer.kp
    f_is_count := fun_of F_is_count
    b_is_count := Fun.binds (fun_of F_is_count) fun _ _ _ _ _ _ us hl => match us, hl with | [_], _ => rfl
    m_is_count := He.glo_ok X G (c.fact 20 (f := faA (.glo "is_count")) rfl)
    k_is_count := F_is_count.kp
    f_is_list := fun_of F_is_list
    b_is_list := Fun.binds (fun_of F_is_list) fun _ _ _ _ _ _ us hl => match us, hl with | [_], _ => rfl
    m_is_list := He.glo_ok X G (c.fact 21 (f := faA (.glo "is_list")) rfl)
    k_is_list := F_is_list.kp
    f_c0_init_ := F_c0_init_
    b0_c0_init_ := F_c0_init_.binds1 3 1 (by decide) (by decide) fun _ _ _ _ _ _ _ us its hu hi => match us, its, hu, hi with | [_, _, _], [_], _, _ => ⟨_, rfl, rfl⟩
    b1_c0_init_ := F_c0_init_.binds1 2 0 (by decide) (by decide) fun _ _ _ _ _ _ _ us its hu hi => match us, its, hu, hi with | [_, _], [_], _, _ => ⟨_, rfl, rfl⟩
    f_c0_top := fun_of F_c0_top
    b_c0_top := Fun.binds (fun_of F_c0_top) fun _ _ _ _ _ _ us hl => match us, hl with | [_], _ => rfl
    pr_c0_top := faP_ok (c.fact 22 (f := faP "Ratio" "top") rfl)
    f_c0_bottom := fun_of F_c0_bottom
    b_c0_bottom := Fun.binds (fun_of F_c0_bottom) fun _ _ _ _ _ _ us hl => match us, hl with | [_], _ => rfl
    pr_c0_bottom := faP_ok (c.fact 23 (f := faP "Ratio" "bottom") rfl)
    f_c0_sign := fun_of F_c0_sign
    b_c0_sign := Fun.binds (fun_of F_c0_sign) fun _ _ _ _ _ _ us hl => match us, hl with | [_], _ => rfl
    pr_c0_sign := faP_ok (c.fact 24 (f := faP "Ratio" "sign") rfl)
    f_c0_is_whole := fun_of F_c0_is_whole
    b_c0_is_whole := Fun.binds (fun_of F_c0_is_whole) fun _ _ _ _ _ _ us hl => match us, hl with | [_], _ => rfl
    pr_c0_is_whole := faP_ok (c.fact 25 (f := faP "Ratio" "is_whole") rfl)
    f_is_number := fun_of F_is_number
    b_is_number := Fun.binds (fun_of F_is_number) fun _ _ _ _ _ _ us hl => match us, hl with | [_], _ => rfl
    m_is_number := He.glo_ok X G (c.fact 26 (f := faA (.glo "is_number")) rfl)
    k_is_number := F_is_number.kp
    f_parts_of := fun_of F_parts_of
    b_parts_of := Fun.binds (fun_of F_parts_of) fun _ _ _ _ _ _ us hl => match us, hl with | [_], _ => rfl
    m_parts_of := He.glo_ok X G (c.fact 27 (f := faA (.glo "parts_of")) rfl)
    k_parts_of := F_parts_of.kp
    f_c0_add_ := fun_of F_c0_add_
    b_c0_add_ := Fun.binds (fun_of F_c0_add_) fun _ _ _ _ _ _ us hl => match us, hl with | [_, _], _ => rfl
    f_c0_radd_ := fun_of F_c0_radd_
    b_c0_radd_ := Fun.binds (fun_of F_c0_radd_) fun _ _ _ _ _ _ us hl => match us, hl with | [_, _], _ => rfl
    f_c0_sub_ := fun_of F_c0_sub_
    b_c0_sub_ := Fun.binds (fun_of F_c0_sub_) fun _ _ _ _ _ _ us hl => match us, hl with | [_, _], _ => rfl
    f_c0_neg_ := fun_of F_c0_neg_
    b_c0_neg_ := Fun.binds (fun_of F_c0_neg_) fun _ _ _ _ _ _ us hl => match us, hl with | [_], _ => rfl
    f_c0_rsub_ := fun_of F_c0_rsub_
    b_c0_rsub_ := Fun.binds (fun_of F_c0_rsub_) fun _ _ _ _ _ _ us hl => match us, hl with | [_, _], _ => rfl
    f_c0_mul_ := fun_of F_c0_mul_
    b_c0_mul_ := Fun.binds (fun_of F_c0_mul_) fun _ _ _ _ _ _ us hl => match us, hl with | [_, _], _ => rfl
    f_c0_rmul_ := fun_of F_c0_rmul_
    b_c0_rmul_ := Fun.binds (fun_of F_c0_rmul_) fun _ _ _ _ _ _ us hl => match us, hl with | [_, _], _ => rfl
    f_c0_over := fun_of F_c0_over
    b_c0_over := Fun.binds (fun_of F_c0_over) fun _ _ _ _ _ _ us hl => match us, hl with | [_, _], _ => rfl
    me_c0_over := He.meth_ok (c.fact 28 (f := faA (.meth "Ratio" "over")) rfl)
    f_c0_unsigned := fun_of F_c0_unsigned
    b_c0_unsigned := Fun.binds (fun_of F_c0_unsigned) fun _ _ _ _ _ _ us hl => match us, hl with | [_], _ => rfl
    me_c0_unsigned := He.meth_ok (c.fact 29 (f := faA (.meth "Ratio" "unsigned")) rfl)
    f_c0_is_below := fun_of F_c0_is_below
    b_c0_is_below := Fun.binds (fun_of F_c0_is_below) fun _ _ _ _ _ _ us hl => match us, hl with | [_, _], _ => rfl
    me_c0_is_below := He.meth_ok (c.fact 30 (f := faA (.meth "Ratio" "is_below")) rfl)
    f_c0_is_at_most := fun_of F_c0_is_at_most
    b_c0_is_at_most := Fun.binds (fun_of F_c0_is_at_most) fun _ _ _ _ _ _ us hl => match us, hl with | [_, _], _ => rfl
    me_c0_is_at_most := He.meth_ok (c.fact 31 (f := faA (.meth "Ratio" "is_at_most")) rfl)
    f_c0_eq_ := fun_of F_c0_eq_
    b_c0_eq_ := Fun.binds (fun_of F_c0_eq_) fun _ _ _ _ _ _ us hl => match us, hl with | [_, _], _ => rfl
    f_c0_str_ := fun_of F_c0_str_
    b_c0_str_ := Fun.binds (fun_of F_c0_str_) fun _ _ _ _ _ _ us hl => match us, hl with | [_], _ => rfl
    f_c0_repr_ := fun_of F_c0_repr_
    b_c0_repr_ := Fun.binds (fun_of F_c0_repr_) fun _ _ _ _ _ _ us hl => match us, hl with | [_], _ => rfl
    f_c0_total := fun_of F_c0_total
    b_c0_total := Fun.binds (fun_of F_c0_total) fun _ _ _ _ _ _ us hl => match us, hl with | [_, _], _ => rfl
    cm_c0_total := faC_ok (c.fact 32 (f := faC "Ratio" "total") rfl)
    f_law_pot := fun_of F_law_pot
    b_law_pot := Fun.binds (fun_of F_law_pot) fun _ _ _ _ _ _ us hl => match us, hl with | [_, _], _ => rfl
    m_law_pot := He.glo_ok X G (c.fact 33 (f := faA (.glo "_law_pot")) rfl)
    k_law_pot := F_law_pot.kp
    f_law_draw := fun_of F_law_draw
    b_law_draw := Fun.binds (fun_of F_law_draw) fun _ _ _ _ _ _ us hl => match us, hl with | [_, _], _ => rfl
    m_law_draw := He.glo_ok X G (c.fact 34 (f := faA (.glo "_law_draw")) rfl)
    k_law_draw := F_law_draw.kp
    f_law_pick := fun_of F_law_pick
    b_law_pick := Fun.binds (fun_of F_law_pick) fun _ _ _ _ _ _ us hl => match us, hl with | [_, _], _ => rfl
    m_law_pick := He.glo_ok X G (c.fact 35 (f := faA (.glo "_law_pick")) rfl)
    k_law_pick := F_law_pick.kp
    f_law_low := fun_of F_law_low
    b_law_low := Fun.binds (fun_of F_law_low) fun _ _ _ _ _ _ us hl => match us, hl with | [_, _], _ => rfl
    m_law_low := He.glo_ok X G (c.fact 36 (f := faA (.glo "_law_low")) rfl)
    k_law_low := F_law_low.kp
    f_law_sum := fun_of F_law_sum
    b_law_sum := Fun.binds (fun_of F_law_sum) fun _ _ _ _ _ _ us hl => match us, hl with | [_, _], _ => rfl
    m_law_sum := He.glo_ok X G (c.fact 37 (f := faA (.glo "_law_sum")) rfl)
    k_law_sum := F_law_sum.kp
    f_law_by := fun_of F_law_by
    b_law_by := Fun.binds (fun_of F_law_by) fun _ _ _ _ _ _ us hl => match us, hl with | [_, _], _ => rfl
    m_law_by := He.glo_ok X G (c.fact 38 (f := faA (.glo "_law_by")) rfl)
    k_law_by := F_law_by.kp
    f_law_less := fun_of F_law_less
    b_law_less := Fun.binds (fun_of F_law_less) fun _ _ _ _ _ _ us hl => match us, hl with | [_, _], _ => rfl
    m_law_less := He.glo_ok X G (c.fact 39 (f := faA (.glo "_law_less")) rfl)
    k_law_less := F_law_less.kp
    f_law_over := fun_of F_law_over
    b_law_over := Fun.binds (fun_of F_law_over) fun _ _ _ _ _ _ us hl => match us, hl with | [_, _], _ => rfl
    m_law_over := He.glo_ok X G (c.fact 40 (f := faA (.glo "_law_over")) rfl)
    k_law_over := F_law_over.kp
    f_law_total := fun_of F_law_total
    b_law_total := Fun.binds (fun_of F_law_total) fun _ _ _ _ _ _ us hl => match us, hl with | [_], _ => rfl
    m_law_total := He.glo_ok X G (c.fact 41 (f := faA (.glo "_law_total")) rfl)
    k_law_total := F_law_total.kp
    f_law_pair := fun_of F_law_pair
    b_law_pair := Fun.binds (fun_of F_law_pair) fun _ _ _ _ _ _ us hl => match us, hl with | [_], _ => rfl
    m_law_pair := He.glo_ok X G (c.fact 42 (f := faA (.glo "_law_pair")) rfl)
    k_law_pair := F_law_pair.kp
    f_law_pairs := fun_of F_law_pairs
    b_law_pairs := Fun.binds (fun_of F_law_pairs) fun _ _ _ _ _ _ us hl => match us, hl with | [_], _ => rfl
    m_law_pairs := He.glo_ok X G (c.fact 43 (f := faA (.glo "_law_pairs")) rfl)
    k_law_pairs := F_law_pairs.kp
    f_law_shown := fun_of F_law_shown
    b_law_shown := Fun.binds (fun_of F_law_shown) fun _ _ _ _ _ _ us hl => match us, hl with | [_], _ => rfl
    m_law_shown := He.glo_ok X G (c.fact 44 (f := faA (.glo "_law_shown")) rfl)
    k_law_shown := F_law_shown.kp
    f_law_raw := fun_of F_law_raw
    b_law_raw := Fun.binds (fun_of F_law_raw) fun _ _ _ _ _ _ us hl => match us, hl with | [_], _ => rfl
    m_law_raw := He.glo_ok X G (c.fact 45 (f := faA (.glo "_law_raw")) rfl)
    k_law_raw := F_law_raw.kp
    f_law_one_right := fun_of F_law_one_right
    b_law_one_right := Fun.binds (fun_of F_law_one_right) fun _ _ _ _ _ _ us hl => match us, hl with | [_], _ => rfl
    m_law_one_right := He.glo_ok X G (c.fact 46 (f := faA (.glo "_law_one_right")) rfl)
    k_law_one_right := F_law_one_right.kp
    f_law_two_right := fun_of F_law_two_right
    b_law_two_right := Fun.binds (fun_of F_law_two_right) fun _ _ _ _ _ _ us hl => match us, hl with | [_, _, _], _ => rfl
    m_law_two_right := He.glo_ok X G (c.fact 47 (f := faA (.glo "_law_two_right")) rfl)
    k_law_two_right := F_law_two_right.kp
    f_law_right := fun_of F_law_right
    b_law_right := Fun.binds (fun_of F_law_right) fun _ _ _ _ _ _ us hl => match us, hl with | [_], _ => rfl
    m_law_right := He.glo_ok X G (c.fact 48 (f := faA (.glo "_law_right")) rfl)
    k_law_right := F_law_right.kp
    f_law := fun_of F_law
    b_law := Fun.binds (fun_of F_law) fun _ _ _ _ _ _ us hl => match us, hl with | [_], _ => rfl
    m_law := He.glo_ok X G (c.fact 49 (f := faA (.glo "law")) rfl)
    k_law := F_law.kp
    cr_Ratio := faR_ok (c.fact 50 (f := faR "Ratio") rfl)
    kb_c0_init__top_bottom := kb_of F_c0_init_ (by decide) fun _ _ _ _ _ _ _ us ws its hu hw hi => match us, ws, its, hu, hw, hi with | [_], [_, _], [_], _, _, _ => ⟨_, rfl, rfl⟩
    kb_c0_over_other := kb0_of (fun_of F_c0_over) fun _ _ _ _ _ _ us ws hu hw => match us, ws, hu, hw with | [_], [_], _, _ => rfl
    kb_c0_total_numbers := kb0_of (fun_of F_c0_total) fun _ _ _ _ _ _ us ws hu hw => match us, ws, hu, hw with | [_], [_], _, _ => rfl
    o_pAdd := faO_ok (c.fact 51 (f := faO "Ratio" "__add__" "__radd__") rfl) rfl rfl (by first | exact PySem.F.slot_int_add | exact slot_int_add) PySem.F.fills_int_add dec_add
    o_pSub := faO_ok (c.fact 52 (f := faO "Ratio" "__sub__" "__rsub__") rfl) rfl rfl (by first | exact PySem.F.slot_int_sub | exact slot_int_sub) PySem.F.fills_int_sub dec_sub
    o_pMul := faO_ok (c.fact 53 (f := faO "Ratio" "__mul__" "__rmul__") rfl) rfl rfl (by first | exact PySem.F.slot_int_mul | exact slot_int_mul) PySem.F.fills_int_mul dec_mul
    g_neg1 := (He.meth_ok (c.fact 54 (f := faA (.meth "Ratio" "__neg__")) rfl)).at_
    g_neg2 := (He.meth_ok (c.fact 54 (f := faA (.meth "Ratio" "__neg__")) rfl)).fn
    o_eq := (faE_ok (c.fact 55 (f := faE "Ratio") rfl)).1
    o_ne := (faE_ok (c.fact 55 (f := faE "Ratio") rfl)).2
    g_str1 := (He.meth_ok (c.fact 56 (f := faA (.meth "Ratio" "__str__")) rfl)).at_
    g_str2 := (He.meth_ok (c.fact 56 (f := faA (.meth "Ratio" "__str__")) rfl)).fn
    g_repr1 := (He.meth_ok (c.fact 57 (f := faA (.meth "Ratio" "__repr__")) rfl)).at_
    g_repr2 := (He.meth_ok (c.fact 57 (f := faA (.meth "Ratio" "__repr__")) rfl)).fn }
end K11
set_option Elab.async false
set_option linter.all false
set_option maxRecDepth 100000
namespace K11
open Pm PySem
theorem is_integer_int (i : Int) (s : S) : m_is_integer [.int i] s = .ok (.bl true) s := by rfl
theorem eq_int (i j : Int) (s : S) : eqP false (.int i) (.int j) s = .ok (.bl (decide (i = j))) s := by rfl
/-- Euclid's steps -/
def euc : Nat → Nat → Nat → Option Nat
  | 0, _, _ => none
  | n + 1, a, b => if 0 < b then euc n b (a % b) else some a
theorem euc_gcd : ∀ (n a b : Nat), b < 2 ^ n → euc (2 * n + 1) a b = some (Nat.gcd a b) := by
  intro n
  induction n with
  | zero =>
    intro a b h
    have e : b = 0 := by omega
    subst e
    simp [euc]
  | succ n ih =>
    intro a b h
    by_cases hb : 0 < b
    · show (if 0 < b then euc (2 * n + 2) b (a % b) else some a) = _
      rw [if_pos hb]
      have g1 : Nat.gcd a b = Nat.gcd b (a % b) := by rw [Nat.gcd_comm a b, Nat.gcd_rec b a, Nat.gcd_comm]
      by_cases hr : 0 < a % b
      · show (if 0 < a % b then euc (2 * n + 1) (a % b) (b % (a % b)) else some b) = _
        rw [if_pos hr]
        have lt : a % b < b := Nat.mod_lt _ hb
        have lt2 : b % (a % b) < a % b := Nat.mod_lt _ hr
        have half : b % (a % b) < 2 ^ n := by
          have h2 : 2 ^ (n + 1) = 2 * 2 ^ n := by rw [Nat.pow_succ]; omega
          by_cases q : 2 * (a % b) ≤ b
          · omega
          · have e : b % (a % b) = b - a % b := by
              rw [Nat.mod_eq_sub_mod (Nat.le_of_lt lt), Nat.mod_eq_of_lt (by omega)]
            omega
        rw [ih _ _ half, g1, Nat.gcd_comm b (a % b), Nat.gcd_rec (a % b) b, Nat.gcd_comm]
      · have e : a % b = 0 := by omega
        rw [g1, e]
        simp [euc]
    · have e : b = 0 := by omega
      subst e
      simp [euc]
theorem euc_more : ∀ (n a b r : Nat), euc n a b = some r → ∀ m, n ≤ m → euc m a b = some r := by
  intro n
  induction n with
  | zero => intro a b r h; simp [euc] at h
  | succ n ih =>
    intro a b r h m hm
    obtain ⟨m, rfl⟩ : ∃ k, m = k + 1 := ⟨m - 1, by omega⟩
    unfold euc at h ⊢
    split
    · rename_i hb
      rw [if_pos hb] at h
      exact ih _ _ _ h m (by omega)
    · rename_i hb
      rwa [if_neg hb] at h
def lowT : Pm.Env → S → Res Bool := mB (m2 gtI (mVar 3) (mC (D.int 0)))
def lowB : Pm.Env → S → Res Fl := sPar 2 3 (aCons (mVar 3) (aCons (m2 modI (mCall (bInt1 fun i => D.int i) (aCons (mVar 2) aNil)) (mVar 3)) aNil))
theorem low_loop : ∀ (n : Nat) (t b : Option D) (a o r : Nat) (s : S), euc n a o = some r → whileL lowT lowB n [t, b, some (.int a), some (.int o)] s = .ok (.nx [t, b, some (.int r), some (.int 0)]) s := by
  intro n
  induction n with
  | zero => intro t b a o r s h; simp [euc] at h
  | succ n ih =>
    intro t b a o r s h
    unfold euc at h
    by_cases ho : 0 < o
    · rw [if_pos ho] at h
      have hm : ((a : Int).fmod (o : Int)) = ((a % o : Nat) : Int) := by
        rw [Int.fmod_eq_emod_of_nonneg _ (by omega)]
        rfl
      have hp : (0 : Int) < (o : Int) := by omega
      have hz : ((o : Int)) ≠ 0 := by omega
      simp only [whileL, lowT, lowB, mB, m2, mVar, mC, gtI, intOp, sPar, aCons, aNil, mCall, bInt1, modI, cMod, Res.bind, List.getElem?_cons_succ, List.getElem?_cons_zero, List.set, hm, hp, hz, decide_true, if_true, ne_eq, not_false_eq_true]
      exact ih t b o (a % o) r s h
    · rw [if_neg ho] at h
      cases h
      have e : o = 0 := by omega
      subst e
      rfl
theorem natAbs_eq (i : Int) : absI i = (i.natAbs : Int) := by
  unfold absI
  split <;> omega
def sg (t b : Int) : Int := if 0 < b then gcdI t b else - gcdI t b
theorem lt_pow {n k : Nat} (h : n.log2 < k) : n < 2 ^ k := by
  by_cases h0 : n = 0
  · subst h0
    exact Nat.two_pow_pos k
  · exact (Nat.log2_lt h0).mp h
theorem low_ (t b : Int) (s : S) (hb : b ≠ 0) (h : b.natAbs.log2 < 5000) (hg : (gcdI t b).natAbs.log2 < 9000) :
    b_law_low [some (.int t), some (.int b), none, none] s = .ok (.rt (.tup [.int (t.fdiv (sg t b)), .int (b.fdiv (sg t b))])) s := by
  have e1 : euc 100000 t.natAbs b.natAbs = some (Nat.gcd t.natAbs b.natAbs) := euc_more _ _ _ _ (euc_gcd 5000 t.natAbs b.natAbs (lt_pow h)) 100000 (by decide)
  have L := low_loop 100000 (some (.int t)) (some (.int b)) t.natAbs b.natAbs _ s e1
  unfold lowT lowB at L
  have hz : gcdI t b ≠ 0 := by
    unfold gcdI
    intro q
    have := Nat.gcd_eq_zero_iff.mp (by omega : Nat.gcd t.natAbs b.natAbs = 0)
    omega
  have hgd : ((Nat.gcd t.natAbs b.natAbs : Nat) : Int) = gcdI t b := rfl
  unfold b_law_low
  simp only [sSeq, sPar, aCons, aNil, mCall, bInt1, mVar, natAbs_eq, Res.bind, List.getElem?_cons_succ, List.getElem?_cons_zero, List.set]
  rw [L]
  by_cases hp : 0 < b
  · simp [sSet, mIf, mB, m2, mVar, mC, gtI, intOp, hp, sRet, mTup, aCons, aNil, divI, cDiv, newT, line, sg, hgd, hz, hg]
  · simp [sSet, mIf, mB, m2, mVar, mC, gtI, intOp, hp, sRet, mTup, aCons, aNil, divI, cDiv, newT, line, sg, hgd, hz, hg, subI]
theorem m_low_ (t b : Int) (s : S) (hb : b ≠ 0) (h : b.natAbs.log2 < 5000) (hg : (gcdI t b).natAbs.log2 < 9000) :
    m_law_low [.int t, .int b] s = .ok (.tup [.int (t.fdiv (sg t b)), .int (b.fdiv (sg t b))]) s := by
  simp [m_law_low, runBody, low_ t b s hb h hg]
/-! ### sizes -/
theorem lg {n : Nat} {k : Nat} (h : n < 2 ^ k) (hk : 0 < k) : n.log2 < k := by
  by_cases h0 : n = 0
  · subst h0
    simpa using hk
  · exact (Nat.log2_lt h0).mpr h
abbrev Sm (i : Int) : Prop := i.natAbs < 2 ^ 4000
theorem gcdI_ne {t b : Int} (hb : b ≠ 0) : gcdI t b ≠ 0 := by
  unfold gcdI
  intro q
  have := Nat.gcd_eq_zero_iff.mp (by omega : Nat.gcd t.natAbs b.natAbs = 0)
  omega
theorem gcdI_le {t b : Int} (hb : b ≠ 0) : (gcdI t b).natAbs ≤ b.natAbs := by
  unfold gcdI
  have := Nat.gcd_le_right t.natAbs (n := b.natAbs) (by omega)
  simpa using this
theorem lgb {b : Int} (h : Sm b) : b.natAbs.log2 < 4000 := lg h (by decide)
theorem lgg {t b : Int} (hb : b ≠ 0) (h : Sm b) : (gcdI t b).natAbs.log2 < 9000 :=
  Nat.lt_trans (lg (Nat.lt_of_le_of_lt (gcdI_le hb) h) (by decide)) (by decide)
/-- lowest terms -/
def lo (t b : Int) : Int × Int := (t.fdiv (sg t b), b.fdiv (sg t b))
abbrev dN (p : Int × Int) : D := .ins 0 [.int p.1, .int p.2]
abbrev dP (p : Int × Int) : D := .tup [.int p.1, .int p.2]
theorem low_ok (t b : Int) (s : S) (hb : b ≠ 0) (h : Sm b) : m_law_low [.int t, .int b] s = .ok (dP (lo t b)) s :=
  m_low_ t b s hb (Nat.lt_trans (lgb h) (by decide)) (lgg hb h)
theorem init_ (t b : Int) (s : S) (hb : b ≠ 0) (h : Sm b) :
    m_c0_init_ [.cell s.length, .int t, .int b] (s ++ [.ins 0 []]) = .ok .non (s ++ [.ins 0 [.int (lo t b).1, .int (lo t b).2]]) := by
  have hg : gcdI t b ≠ 0 := gcdI_ne hb
  have hl := lgg (t := t) hb h
  by_cases hneg : b < 0
  · have hp : ¬ 0 < b := by omega
    simp [lo, sg, hp, m_c0_init_, runBody, b_c0_init_, sSeq, sIf, mNotT, mB, mCallD, aCons, aNil, mVar, is_integer_int, sNext, mOrT, m2, eq_int, mC, hb, sSet, mCall, bInt2, ltI, intOp, hneg, m1, negI, sFld, divI, cDiv, hg, hl]
  · have hp : 0 < b := by omega
    simp [lo, sg, hp, m_c0_init_, runBody, b_c0_init_, sSeq, sIf, mNotT, mB, mCallD, aCons, aNil, mVar, is_integer_int, sNext, mOrT, m2, eq_int, mC, hb, sSet, mCall, bInt2, ltI, intOp, hneg, m1, negI, sFld, divI, cDiv, hg, hl]
/-- what stands in the state may be cut at any length -/
def Fine (s : S) : Prop := cutOk s = true
theorem make_ok {mr : Pm.Env → S → Res (List D)} {env : Pm.Env} {s s1 : S} (t b : Int) (e : mr env s = .ok [.int t, .int b] s1) (f : Fine s1) (hb : b ≠ 0) (h : Sm b) : mMake 0 2 3 [] m_c0_init_ mr env s = .ok (dN (lo t b)) s1 := by
  simp [mMake, e, made, init_ t b s1 hb h, List.take_append, pureL, pureD, show cutOk s1 = true from f]
theorem make1_ok {mr : Pm.Env → S → Res (List D)} {env : Pm.Env} {s s1 : S} (t : Int) (e : mr env s = .ok [.int t] s1) (f : Fine s1) : mMake 0 2 3 [.int 1] m_c0_init_ mr env s = .ok (dN (lo t 1)) s1 := by
  simp [mMake, e, made, init_ t 1 s1 (by decide) (show (1 : Nat) < 2 ^ 4000 from Nat.one_lt_two_pow (by decide)), List.take_append, pureL, pureD, show cutOk s1 = true from f]
end K11
set_option Elab.async false
set_option linter.all false
set_option maxRecDepth 100000
set_option exponentiation.threshold 5000
namespace K11
open Pm PySem
/-- what parts_of tells -/
structure Pt (d : D) (q : Int × Int) : Prop where
  h : ∀ s, m_parts_of [d] s = .ok (dP q) s
theorem pt_n (q : Int × Int) : Pt (dN q) q := ⟨fun s => rfl⟩
theorem pt_i (i : Int) : Pt (.int i) (i, 1) := ⟨fun s => rfl⟩
theorem mul_int (i j : Int) (s : S) (hi : Sm i) (hj : Sm j) : mulD (.int i) (.int j) s = .ok (.int (i * j)) s := by
  have h : i.natAbs.log2 + j.natAbs.log2 < 1000000 := by
    have := lgb hi
    have := lgb hj
    omega
  simp [mulD, mulI, intOp, cMul, h, Res.or]
theorem add_int (i j : Int) (s : S) : addAll (.int i) (.int j) s = .ok (.int (i + j)) s := by rfl
theorem sub_int (i j : Int) (s : S) : subI (.int i) (.int j) s = .ok (.int (i - j)) s := by rfl
section
variable {p q : Int × Int} {d : D} {s : S}
/-- top, bottom = parts_of(other) -/
def sPt : Pm.Env → S → Res Fl := sAsg (mCallD (n := 1) [] m_parts_of (aCons (mVar 1) aNil)) (taTup 2 (taCons (aN (tName 2)) (taCons (aN (tName 3)) taNil)))
theorem sPt_ok (hq : Pt d q) (x y z : Option D) : sPt [x, some d, y, z] s = .ok (.nx [x, some d, some (.int q.1), some (.int q.2)]) s := by
  simp [sPt, sAsg, mCallD, aCons, aNil, mVar, hq.h, taTup, taCons, taNil, aN, tName]
theorem run2 {body : Pm.Env → S → Res Fl} {a b r : D} {N : Nat} {s1 : S} (h : body ([some a, some b] ++ List.replicate (N - 2) none) s = .ok (.rt r) s1) : runBody 2 N body [a, b] s = .ok r s1 := by
  simp only [List.cons_append, List.nil_append] at h
  simp [runBody, h]
theorem run1 {body : Pm.Env → S → Res Fl} {a r : D} {N : Nat} {s1 : S} (h : body ([some a] ++ List.replicate (N - 1) none) s = .ok (.rt r) s1) : runBody 1 N body [a] s = .ok r s1 := by
  simp only [List.cons_append, List.nil_append] at h
  simp [runBody, h]
theorem seq_ok {a b : Pm.Env → S → Res Fl} {e e1 : Pm.Env} {s1 : S} (h : a e s = .ok (.nx e1) s1) : sSeq a b e s = b e1 s1 := by simp [sSeq, h]
theorem ret_ok {m : Pm.Env → S → Res D} {e : Pm.Env} {r : D} {s1 : S} (h : m e s = .ok r s1) : sRet m e s = .ok (.rt r) s1 := by simp [sRet, h]
theorem add_ok (hq : Pt d q) (f : Fine s) (h1 : Sm p.1) (h2 : Sm p.2) (h3 : Sm q.1) (h4 : Sm q.2) (hb : p.2 * q.2 ≠ 0) (h : Sm (p.2 * q.2)) :
    m_c0_add_ [dN p, d] s = .ok (dN (lo (p.1 * q.2 + q.1 * p.2) (p.2 * q.2))) s := by
  refine run2 ((seq_ok (sPt_ok hq _ _ _)).trans (ret_ok (make_ok _ _ ?_ f hb h)))
  simp [aCons, aNil, m2, mFld, mVar, mul_int, h1, h2, h3, h4, add_int]
theorem sub_ok (hq : Pt d q) (f : Fine s) (h1 : Sm p.1) (h2 : Sm p.2) (h3 : Sm q.1) (h4 : Sm q.2) (hb : p.2 * q.2 ≠ 0) (h : Sm (p.2 * q.2)) :
    m_c0_sub_ [dN p, d] s = .ok (dN (lo (p.1 * q.2 - q.1 * p.2) (p.2 * q.2))) s := by
  refine run2 ((seq_ok (sPt_ok hq _ _ _)).trans (ret_ok (make_ok _ _ ?_ f hb h)))
  simp [aCons, aNil, m2, mFld, mVar, mul_int, h1, h2, h3, h4, sub_int]
theorem mul_ok (hq : Pt d q) (f : Fine s) (h1 : Sm p.1) (h2 : Sm p.2) (h3 : Sm q.1) (h4 : Sm q.2) (hb : p.2 * q.2 ≠ 0) (h : Sm (p.2 * q.2)) :
    m_c0_mul_ [dN p, d] s = .ok (dN (lo (p.1 * q.1) (p.2 * q.2))) s := by
  refine run2 ((seq_ok (sPt_ok hq _ _ _)).trans (ret_ok (make_ok _ _ ?_ f hb h)))
  simp [aCons, aNil, m2, mFld, mVar, mul_int, h1, h2, h3, h4]
theorem neg_ok (f : Fine s) (hb : p.2 ≠ 0) (h : Sm p.2) : m_c0_neg_ [dN p] s = .ok (dN (lo (-p.1) p.2)) s := by
  refine run1 (ret_ok (make_ok _ _ ?_ f hb h))
  simp [aCons, aNil, m1, negI, mFld, mVar]
theorem over_ok (hq : Pt d q) (f : Fine s) (h1 : Sm p.1) (h2 : Sm p.2) (h3 : Sm q.1) (h4 : Sm q.2) (hn : q.1 ≠ 0) (hb : p.2 * q.1 ≠ 0) (h : Sm (p.2 * q.1)) :
    m_c0_over [dN p, d] s = .ok (dN (lo (p.1 * q.2) (p.2 * q.1))) s := by
  refine run2 ((seq_ok (sPt_ok hq _ _ _)).trans ((seq_ok (e1 := [some (dN p), some d, some (.int q.1), some (.int q.2)]) (s1 := s) ?_).trans (ret_ok (make_ok _ _ ?_ f hb h))))
  · simp [sIf, mB, m2, mVar, mC, eq_int, hn, sNext]
  · simp [aCons, aNil, m2, mFld, mVar, mul_int, h1, h2, h3, h4]
theorem below_ok (hq : Pt d q) (h1 : Sm p.1) (h2 : Sm p.2) (h3 : Sm q.1) (h4 : Sm q.2) : m_c0_is_below [dN p, d] s = .ok (.bl (decide (p.1 * q.2 < q.1 * p.2))) s := by
  refine run2 ((seq_ok (sPt_ok hq _ _ _)).trans (ret_ok ?_))
  simp [m2, mFld, mVar, mul_int, h1, h2, h3, h4, ltI, intOp]
theorem atmost_ok (hq : Pt d q) (h1 : Sm p.1) (h2 : Sm p.2) (h3 : Sm q.1) (h4 : Sm q.2) : m_c0_is_at_most [dN p, d] s = .ok (.bl (decide (p.1 * q.2 ≤ q.1 * p.2))) s := by
  refine run2 ((seq_ok (sPt_ok hq _ _ _)).trans (ret_ok ?_))
  simp [m2, mFld, mVar, mul_int, h1, h2, h3, h4, leI, intOp]
end
end K11
set_option Elab.async false
set_option linter.all false
set_option maxRecDepth 100000
set_option exponentiation.threshold 5000
namespace K11
open Pm PySem
section
variable {p q : Int × Int} {d : D} {s : S}
theorem ix0 : ixD (dP p) (.int 0) s = .ok (.int p.1) s := by rfl
theorem ix1 : ixD (dP p) (.int 1) s = .ok (.int p.2) s := by rfl
theorem call2_ok {f : List D → S → Res D} {mr : Pm.Env → S → Res (List D)} {e : Pm.Env} {a b r : D} {s1 s2 : S} (h : mr e s = .ok [a, b] s1) (h2 : f [a, b] s1 = .ok r s2) : mCallD (n := 2) [] f mr e s = .ok r s2 := by simp [mCallD, h, h2]
theorem lsum_ok (h1 : Sm p.1) (h2 : Sm p.2) (h3 : Sm q.1) (h4 : Sm q.2) (hb : p.2 * q.2 ≠ 0) (h : Sm (p.2 * q.2)) :
    m_law_sum [dP p, dP q] s = .ok (dP (lo (p.1 * q.2 + q.1 * p.2) (p.2 * q.2))) s := by
  refine run2 (ret_ok (call2_ok ?_ (low_ok _ _ s hb h)))
  simp [aCons, aNil, m2, mVar, mC, ix0, ix1, mul_int, h1, h2, h3, h4, add_int]
theorem lby_ok (h1 : Sm p.1) (h2 : Sm p.2) (h3 : Sm q.1) (h4 : Sm q.2) (hb : p.2 * q.2 ≠ 0) (h : Sm (p.2 * q.2)) :
    m_law_by [dP p, dP q] s = .ok (dP (lo (p.1 * q.1) (p.2 * q.2))) s := by
  refine run2 (ret_ok (call2_ok ?_ (low_ok _ _ s hb h)))
  simp [aCons, aNil, m2, mVar, mC, ix0, ix1, mul_int, h1, h2, h3, h4]
theorem lover_ok (h1 : Sm p.1) (h2 : Sm p.2) (h3 : Sm q.1) (h4 : Sm q.2) (hb : p.2 * q.1 ≠ 0) (h : Sm (p.2 * q.1)) :
    m_law_over [dP p, dP q] s = .ok (dP (lo (p.1 * q.2) (p.2 * q.1))) s := by
  refine run2 (ret_ok (call2_ok ?_ (low_ok _ _ s hb h)))
  simp [aCons, aNil, m2, mVar, mC, ix0, ix1, mul_int, h1, h2, h3, h4]
theorem lless_ok (h1 : Sm p.1) (h2 : Sm p.2) (h3 : Sm q.1) (h4 : Sm q.2) (hb : p.2 * q.2 ≠ 0) (h : Sm (p.2 * q.2)) :
    m_law_less [dP p, dP q] s = .ok (dP (lo (p.1 * q.2 - q.1 * p.2) (p.2 * q.2))) s := by
  have hm : Sm (0 - q.1) := by unfold Sm at h3 ⊢; omega
  have e : p.1 * q.2 - q.1 * p.2 = p.1 * q.2 + (0 - q.1) * p.2 := by rw [Int.sub_mul, Int.zero_mul]; omega
  rw [e]
  refine run2 (ret_ok (call2_ok ?_ (lsum_ok (p := p) (q := (0 - q.1, q.2)) h1 h2 hm h4 hb h)))
  simp [aCons, aNil, m2, mVar, mC, ix0, ix1, sub_int, mTup, newT, line]
theorem lpair_ok : m_law_pair [dN p] s = .ok (dP p) s := by rfl
end
end K11
set_option Elab.async false
set_option linter.all false
set_option maxRecDepth 100000
set_option exponentiation.threshold 5000
namespace K11
open Pm PySem
theorem small_Sm {i : Int} (h : i.natAbs < 2 ^ 200) : Sm i := Nat.lt_of_lt_of_le h (Nat.pow_le_pow_right (by decide) (by decide))
section
variable {s : S} {k : Nat} {a b n : Int}
theorem lt_len (e : s[k]? = some (.lst [.int a, .int b])) : k < s.length := (List.getElem?_eq_some_iff.mp e).1
theorem at0 {x y : D} : L2.atI [x, y] 0 = some x := by rfl
theorem at1 {x y : D} : L2.atI [x, y] 1 = some y := by rfl
theorem ixn0 : L2.ixN 2 0 = some 0 := by rfl
theorem ixn1 : L2.ixN 2 1 = some 1 := by rfl
theorem pot0 (e : s[k]? = some (.lst [.int a, .int b])) : ixD (.cell k) (.int 0) s = .ok (.int a) s := by
  simp [ixD, ixL, e, at0, at1, Res.or]
theorem pot1 (e : s[k]? = some (.lst [.int a, .int b])) : ixD (.cell k) (.int 1) s = .ok (.int b) s := by
  simp [ixD, ixL, e, at0, at1, Res.or]
def nextB (b : Int) : Int := (b * 48271 + 18140).fmod 2147483587
def drawR (c n : Int) : Int := (((c * c).fmod 2147483549).fdiv 29).fmod n
theorem draw_a (e : s[k]? = some (.lst [.int a, .int b])) (ha : 0 < a) (hn : 0 < n ∧ n < 1073741824) :
    m_law_draw [.cell k, .int n] s = .ok (.int (a % n)) (s.set k (.lst [.int (a / n), .int b])) := by
  refine run2 ?_
  simp [b_law_draw, sSeq, sIf, mB, m2, mVar, mC, pot0 e, gtI, intOp, ha, sAsg, mCall, aCons, aNil, bDivmod, cDiv0, hn, newT, line, taTup, taCons, taNil, taSub, aN, tName, e, ixn0, sRet]
theorem fmod_bd (x : Int) {m : Int} (h : 0 < m) : 0 ≤ x.fmod m ∧ x.fmod m < m := by
  rw [Int.fmod_eq_emod_of_nonneg _ (by omega)]
  exact ⟨Int.emod_nonneg _ (by omega), Int.emod_lt_of_pos _ h⟩
theorem draw_b (e : s[k]? = some (.lst [.int a, .int b])) (ha : ¬ 0 < a) (hb : 0 ≤ b ∧ b < 2 ^ 32) (hn : 0 < n) :
    m_law_draw [.cell k, .int n] s = .ok (.int (drawR (nextB b) n)) (s.set k (.lst [.int a, .int (nextB b)])) := by
  have hc : 0 ≤ nextB b ∧ nextB b < 2147483587 := fmod_bd _ (by decide)
  have e2 : (s.set k (.lst [.int a, .int (nextB b)]))[k]? = some (.lst [.int a, .int (nextB b)]) := List.getElem?_set_self (lt_len e)
  have s1 : Sm b := small_Sm (by omega)
  have s2 : Sm (nextB b) := small_Sm (by omega)
  have s3 : Sm 48271 := small_Sm (by decide)
  have hz : n ≠ 0 := by omega
  have hm : (b * 48271 + 18140).fmod 2147483587 = nextB b := rfl
  have h29 : Nat.log2 29 < 9000 := by decide
  refine run2 ((seq_ok (e1 := [some (.cell k), some (.int n), none]) (s1 := s) ?_).trans ((seq_ok (e1 := [some (.cell k), some (.int n), none]) (s1 := s.set k (.lst [.int a, .int (nextB b)])) ?_).trans (ret_ok ?_)))
  · simp [sIf, mB, m2, mVar, mC, pot0 e, gtI, intOp, ha, sNext]
  · simp [sAsg, m2, mVar, mC, mCall, aCons, aNil, pot1 e, mul_int _ _ _ s1 s3, add_int, bInt1, modI, intOp, cMod, hm, taSub, e, ixn1]
  · simp [m2, mVar, mC, mCall, aCons, aNil, pot1 e2, mul_int _ _ _ s2 s2, bInt1, modI, intOp, cMod, divI, cDiv, drawR, hz, h29]
/-- the pot, in the state's k-th place -/
def PotOk (s : S) (k : Nat) : Prop := ∃ a b : Int, s[k]? = some (.lst [.int a, .int b]) ∧ 0 ≤ a ∧ 0 ≤ b ∧ b < 2 ^ 32
/-- a draw: a number below n, another pot -/
theorem draw_ok (h : PotOk s k) (hn : 0 < n ∧ n < 1073741824) : ∃ (r a' b' : Int), m_law_draw [.cell k, .int n] s = .ok (.int r) (s.set k (.lst [.int a', .int b'])) ∧ 0 ≤ r ∧ r < n ∧ PotOk (s.set k (.lst [.int a', .int b'])) k := by
  obtain ⟨a, b, e, h1, h2, h3⟩ := h
  by_cases ha : 0 < a
  · refine ⟨_, _, _, draw_a e ha hn, Int.emod_nonneg _ (by omega), Int.emod_lt_of_pos _ hn.1, _, _, List.getElem?_set_self (lt_len e), Int.ediv_nonneg (by omega) (by omega), h2, h3⟩
  · have hc : 0 ≤ nextB b ∧ nextB b < 2147483587 := fmod_bd _ (by decide)
    have hr := fmod_bd (((nextB b * nextB b).fmod 2147483549).fdiv 29) hn.1
    exact ⟨_, _, _, draw_b e ha ⟨h2, h3⟩ hn.1, hr.1, hr.2, _, _, List.getElem?_set_self (lt_len e), h1, hc.1, by omega⟩
end
end K11
set_option Elab.async false
set_option linter.all false
set_option maxRecDepth 100000
set_option exponentiation.threshold 5000
namespace K11
open Pm PySem
/-- an item in its place -/
theorem at_pos {α : Type} {xs : List α} {x : α} {j : Nat} (h : xs[j]? = some x) : L2.atI xs (j : Int) = some x := by
  have hl : j < xs.length := (List.getElem?_eq_some_iff.mp h).1
  unfold L2.atI L2.ixN
  rw [if_pos (by omega), if_pos (by omega)]
  simpa using h
theorem pow18 (s : S) : powI (.int 10) (.int 18) s = .ok (.int 1000000000000000000) s := by rfl
theorem pow3 (s : S) : powI (.int 3) (.int 3) s = .ok (.int 27) s := by rfl
theorem mulc (i j : Int) (s : S) (hi : i.natAbs < 2 ^ 200) (hj : j.natAbs < 2 ^ 200) : mulD (.int i) (.int j) s = .ok (.int (i * j)) s := mul_int i j s (small_Sm hi) (small_Sm hj)
/-- what the pot is made of -/
def potOf (c : Int) : S := [.lst [.int (maxI 0 (c - 1000000000000000000)), .int (((c.fmod 2147483549 + 59) * 27).fmod 2147483477 + 1)]]
theorem pot_ok (c : Int) : PotOk (potOf c) 0 := by
  refine ⟨_, _, rfl, ?_, ?_, ?_⟩
  · unfold maxI
    split <;> omega
  · have := fmod_bd ((c.fmod 2147483549 + 59) * 27) (show (0 : Int) < 2147483477 by decide)
    omega
  · have := fmod_bd ((c.fmod 2147483549 + 59) * 27) (show (0 : Int) < 2147483477 by decide)
    omega
theorem pot_end (e0 : Option D) (c : Int) : sRet (mCell (aCons (mCall (bInt2 (fun _ _ => true) fun i j => .int (maxI i j)) (aCons (mC (.int 0)) (aCons (m2 subI (mVar 2) (m2 powI (mC (.int 10)) (mC (.int 18)))) aNil))) (aCons (m2 addAll (m2 modI (m2 mulD (mCall (bInt1 fun i => .int i) (aCons (m2 addAll (m2 modI (mCall (bInt1 fun i => .int i) (aCons (mVar 2) aNil)) (mC (.int 2147483549))) (mC (.int 59))) aNil)) (m2 powI (m2 addAll (m2 mulD (mC (.int 2)) (mVar 1)) (mC (.int 3))) (mC (.int 3)))) (mC (.int 2147483477))) (mC (.int 1))) aNil)))
    [e0, some (.int 0), some (.int c)] [] = .ok (.rt (.cell 0)) (potOf c) := by
  have b1 := fmod_bd c (show (0 : Int) < 2147483549 by decide)
  have m1 : ∀ s, mulD (.int (c.fmod 2147483549 + 59)) (.int 27) s = .ok (.int ((c.fmod 2147483549 + 59) * 27)) s := fun s => mulc _ _ s (by omega) (by decide)
  have m2' : ∀ s, mulD (.int 2) (.int 0) s = .ok (.int 0) s := fun s => by rfl
  simp [sRet, mCell, aCons, aNil, mCall, bInt2, bInt1, m2, mVar, mC, sub_int, pow18, modI, intOp, cMod, add_int, m1, m2', pow3, line, potOf]
theorem law_pot_ok (ns : List Int) : ∃ c, m_law_pot [.ro (ns.map D.int), .int 0] [] = .ok (.cell 0) (potOf c) := by
  cases ns with
  | nil =>
    refine ⟨59, run2 ((seq_ok (e1 := [some (.ro []), some (.int 0), some (.int 59)]) (s1 := []) ?_).trans ((seq_ok (e1 := [some (.ro []), some (.int 0), some (.int 59)]) (s1 := []) ?_).trans (pot_end _ 59)))⟩
    · rfl
    · rfl
  | cons c ns =>
    have hl : (0 : Int) < ((ns.length : Int) + 1) := by omega
    refine ⟨absI c, run2 ((seq_ok (e1 := [some (.ro ((c :: ns).map D.int)), some (.int 0), some (.int 59)]) (s1 := []) ?_).trans ((seq_ok (e1 := [some (.ro ((c :: ns).map D.int)), some (.int 0), some (.int (absI c))]) (s1 := []) ?_).trans (pot_end _ (absI c))))⟩
    · rfl
    · simp [sIf, mB, m2, mVar, mC, ltI, intOp, mCall, aCons, aNil, bLen, seqOf, hl, sSet, bInt1, ixD, ixL, Res.or]
      rw [show L2.atI (D.int c :: ns.map D.int) 0 = some (.int c) from at_pos (j := 0) rfl]
      rfl
end K11
set_option Elab.async false
set_option linter.all false
set_option maxRecDepth 100000
set_option exponentiation.threshold 5000
namespace K11
open Pm PySem
/-- s but for the pot in its k-th place -/
structure Nx (s s' : S) (k : Nat) : Prop where
  eq : ∃ c, s' = s.set k c
  pot : PotOk s' k
section
variable {s s' s2 : S} {k : Nat} {n : Int}
theorem Nx.refl (h : PotOk s k) : Nx s s k := by
  obtain ⟨a, b, e, h2⟩ := id h
  exact ⟨⟨.lst [.int a, .int b], (List.ext_getElem? fun i => by
    by_cases hi : k = i
    · subst hi
      rw [List.getElem?_set_self (lt_len e), e]
    · rw [List.getElem?_set_ne hi])⟩, h⟩
theorem Nx.trans (h : Nx s s' k) (h2 : Nx s' s2 k) : Nx s s2 k := by
  obtain ⟨⟨c, rfl⟩, _⟩ := h
  obtain ⟨⟨c2, rfl⟩, p⟩ := h2
  exact ⟨⟨c2, by rw [List.set_set]⟩, p⟩
theorem draw_nx (h : PotOk s k) (hn : 0 < n ∧ n < 1073741824) : ∃ (r : Int) (s' : S), m_law_draw [.cell k, .int n] s = .ok (.int r) s' ∧ 0 ≤ r ∧ r < n ∧ Nx s s' k := by
  obtain ⟨r, a, b, e, h1, h2, p⟩ := draw_ok h hn
  exact ⟨r, _, e, h1, h2, ⟨_, rfl⟩, p⟩
theorem pick_nx {xs : List D} (h : PotOk s k) (h0 : 0 < xs.length) (h1 : xs.length < 1000) : ∃ (x : D) (s' : S), m_law_pick [.cell k, .lst xs] s = .ok x s' ∧ x ∈ xs ∧ Nx s s' k := by
  obtain ⟨r, s', e, r0, r1, nx⟩ := draw_nx (n := (xs.length : Int)) h ⟨by omega, by omega⟩
  obtain ⟨j, rfl⟩ : ∃ j : Nat, r = (j : Int) := ⟨r.toNat, by omega⟩
  have hj : j < xs.length := by omega
  refine ⟨xs[j], s', run2 (ret_ok ?_), List.getElem_mem hj, nx⟩
  have e2 : L2.atI xs (j : Int) = some xs[j] := at_pos (List.getElem?_eq_getElem hj)
  simp [m2, mVar, mCallD, aCons, aNil, mCall, bLen, seqOf, e, ixD, ixL, e2, Res.or]
end
end K11
set_option Elab.async false
set_option linter.all false
set_option maxRecDepth 100000
set_option exponentiation.threshold 5000
namespace K11
open Pm PySem
section
variable {s s1 : S} {k : Nat} {n : Int} {env : Pm.Env}
theorem drawE (h : env[0]? = some (some (.cell k))) : mCallD (n := 2) [] m_law_draw (aCons (mVar 0) (aCons (mC (.int n)) aNil)) env s = m_law_draw [.cell k, .int n] s := by
  simp [mCallD, aCons, aNil, mVar, mC, h]
theorem p6 (s : S) : powI (.int 10007) (.int 6) s = .ok (.int (10007 ^ 6)) s := by rfl
theorem p20 (s : S) : powI (.int 10) (.int 20) s = .ok (.int (10 ^ 20)) s := by rfl
theorem p9 (s : S) : powI (.int 10) (.int 9) s = .ok (.int (10 ^ 9)) s := by rfl
def rawIf : Pm.Env → S → Res Fl := (sIf (mB (m2 (eqP false) (mCallD (n := 2) [] m_law_draw (aCons (mVar 0) (aCons (mC (.int 3)) aNil))) (mC (.int 0)))) (sSeq (sSet 1 (m2 addAll (m2 mulD (mVar 1) (m2 powI (mC (.int 10007)) (mC (.int 6)))) (mCallD (n := 2) [] m_law_draw (aCons (mVar 0) (aCons (mC (.int 9)) aNil)))))
  (sSet 2 (m2 addAll (m2 addAll (m2 mulD (mVar 2) (m2 powI (mC (.int 10)) (mC (.int 20)))) (mCallD (n := 2) [] m_law_draw (aCons (mVar 0) (aCons (mC (.int 9)) aNil)))) (mC (.int 1))))) sNext)
theorem rawIf_ok {t b : Int} (h : PotOk s k) (ht : -12 ≤ t ∧ t ≤ 12) (hb : 1 ≤ b ∧ b ≤ 12) (x y : Option D) : ∃ (t' b' : Int) (s' : S), rawIf [some (.cell k), some (.int t), some (.int b), x, y] s = .ok (.nx [some (.cell k), some (.int t'), some (.int b'), x, y]) s' ∧
    -(12 * 10007 ^ 6) ≤ t' ∧ t' ≤ 12 * 10007 ^ 6 + 9 ∧ 1 ≤ b' ∧ b' ≤ 12 * 10 ^ 20 + 9 ∧ Nx s s' k := by
  obtain ⟨r, s1, e1, r0, r1, n1⟩ := draw_nx (n := 3) h (by decide)
  by_cases hr : r = 0
  · obtain ⟨u, s2, e2, u0, u1, n2⟩ := draw_nx (n := 9) n1.pot (by decide)
    obtain ⟨v, s3, e3, v0, v1, n3⟩ := draw_nx (n := 9) n2.pot (by decide)
    have m1 : ∀ s, mulD (.int t) (.int (10007 ^ 6)) s = .ok (.int (t * 10007 ^ 6)) s := fun s => mulc _ _ s (by omega) (by decide)
    have m2' : ∀ s, mulD (.int b) (.int (10 ^ 20)) s = .ok (.int (b * 10 ^ 20)) s := fun s => mulc _ _ s (by omega) (by decide)
    refine ⟨t * 10007 ^ 6 + u, b * 10 ^ 20 + v + 1, s3, ?_, by omega, by omega, by omega, by omega, (n1.trans n2).trans n3⟩
    simp only [rawIf, sIf, mB, m2, drawE (env := [some (.cell k), some (.int t), some (.int b), x, y]) (k := k) rfl, e1, Res.bind, mC, eq_int, hr, decide_true, if_true, sSeq, sSet, mVar, List.getElem?_cons_zero, List.getElem?_cons_succ, p6, m1, e2, add_int, List.set]
    simp only [drawE (env := [some (.cell k), some (.int (t * 10007 ^ 6 + u)), some (.int b), x, y]) (k := k) rfl, e3, Res.bind, p20, m2', add_int]
  · refine ⟨t, b, s1, ?_, by omega, by omega, by omega, by omega, n1⟩
    simp [rawIf, sIf, mB, m2, drawE (env := [some (.cell k), some (.int t), some (.int b), x, y]) (k := k) rfl, e1, mC, eq_int, hr, sNext]
theorem pickE {xs : List D} {mr : Pm.Env → S → Res (List D)} (h : env[0]? = some (some (.cell k))) (e : ∀ s, mr env s = .ok xs s) (hl : xs.length ≤ line) : mCallD (n := 2) [] m_law_pick (aCons (mVar 0) (aCons (mLst mr) aNil)) env s = m_law_pick [.cell k, .lst xs] s := by
  simp [mCallD, aCons, aNil, mVar, mLst, h, e, newL, hl]
theorem raw_ok (h : PotOk s k) : ∃ (t b : Int) (s' : S), m_law_raw [.cell k] s = .ok (dP (t, b)) s' ∧ b ≠ 0 ∧ t.natAbs < 2 ^ 130 ∧ b.natAbs < 2 ^ 130 ∧ Nx s s' k := by
  obtain ⟨r, s1, e1, r0, r1, n1⟩ := draw_nx (n := 25) h (by decide)
  obtain ⟨u, s2, e2, u0, u1, n2⟩ := draw_nx (n := 12) n1.pot (by decide)
  obtain ⟨t, b, s3, e3, t0, t1, b0, b1, n3⟩ := rawIf_ok (t := r - 12) (b := 1 + u) n2.pot (by omega) (by omega) none none
  obtain ⟨x, s4, e4, x0, n4⟩ := pick_nx (xs := [.int 1, .int 6, .int 35, .int (10 ^ 9)]) n3.pot (by decide) (by decide)
  obtain ⟨y, s5, e5, y0, n5⟩ := pick_nx (xs := [.int 1, .int (-1)]) n4.pot (by decide) (by decide)
  obtain ⟨c, rfl, c0, c1⟩ : ∃ c : Int, x = .int c ∧ 1 ≤ c ∧ c ≤ 10 ^ 9 := by
    simp only [List.mem_cons, List.not_mem_nil, or_false] at x0
    rcases x0 with rfl | rfl | rfl | rfl <;> exact ⟨_, rfl, by decide, by decide⟩
  have hy : y = .int 1 ∨ y = .int (-1) := by simpa using y0
  have tc : (t * c).natAbs < 2 ^ 129 := by
    rw [Int.natAbs_mul]
    exact Nat.lt_of_le_of_lt (Nat.mul_le_mul (show t.natAbs ≤ 12 * 10007 ^ 6 + 9 by omega) (show c.natAbs ≤ 10 ^ 9 by omega)) (by decide)
  have bc : (b * c).natAbs < 2 ^ 129 := by
    rw [Int.natAbs_mul]
    exact Nat.lt_of_le_of_lt (Nat.mul_le_mul (show b.natAbs ≤ 12 * 10 ^ 20 + 9 by omega) (show c.natAbs ≤ 10 ^ 9 by omega)) (by decide)
  have bn : b * c ≠ 0 := Int.mul_ne_zero (by omega) (by omega)
  have w1 : ∀ s, mulD (.int t) (.int c) s = .ok (.int (t * c)) s := fun s => mulc _ _ s (by omega) (by omega)
  have w2 : ∀ s, mulD (.int b) (.int c) s = .ok (.int (b * c)) s := fun s => mulc _ _ s (by omega) (by omega)
  have fin : ∀ z : Int, (z = 1 ∨ z = -1) → sRet (mTup (aCons (m2 mulD (m2 mulD (mVar 1) (mVar 3)) (mVar 4)) (aCons (m2 mulD (m2 mulD (mVar 2) (mVar 3)) (mVar 4)) aNil))) [some (.cell k), some (.int t), some (.int b), some (.int c), some (.int z)] s5 = .ok (.rt (dP (t * c * z, b * c * z))) s5 := by
    intro z hz
    have w3 : ∀ s, mulD (.int (t * c)) (.int z) s = .ok (.int (t * c * z)) s := fun s => mulc _ _ s (by omega) (by rcases hz with rfl | rfl <;> decide)
    have w4 : ∀ s, mulD (.int (b * c)) (.int z) s = .ok (.int (b * c * z)) s := fun s => mulc _ _ s (by omega) (by rcases hz with rfl | rfl <;> decide)
    simp [sRet, mTup, aCons, aNil, m2, mVar, w1, w2, w3, w4, newT, line]
  have all : ∀ z : Int, y = .int z → (z = 1 ∨ z = -1) → m_law_raw [.cell k] s = .ok (dP (t * c * z, b * c * z)) s5 := by
    intro z ey hz
    subst ey
    refine run1 ((seq_ok (e1 := [some (.cell k), some (.int (r - 12)), none, none, none]) (s1 := s1) ?_).trans ((seq_ok (e1 := [some (.cell k), some (.int (r - 12)), some (.int (1 + u)), none, none]) (s1 := s2) ?_).trans
      ((seq_ok (e1 := [some (.cell k), some (.int t), some (.int b), none, none]) (s1 := s3) e3).trans ((seq_ok (e1 := [some (.cell k), some (.int t), some (.int b), some (.int c), none]) (s1 := s4) ?_).trans
      ((seq_ok (e1 := [some (.cell k), some (.int t), some (.int b), some (.int c), some (.int z)]) (s1 := s5) ?_).trans (fin z hz))))))
    · simp only [sSet, m2, drawE (env := some (D.cell k) :: List.replicate (5 - 1) none) (k := k) rfl, List.cons_append, List.nil_append, e1, Res.bind, mC, sub_int]
      rfl
    · simp only [sSet, m2, mC, Res.bind, drawE (env := [some (D.cell k), some (.int (r - 12)), none, none, none]) (k := k) rfl, e2, add_int]
      rfl
    · simp only [sSet, pickE (env := [some (D.cell k), some (.int t), some (.int b), none, none]) (k := k) (xs := [.int 1, .int 6, .int 35, .int (10 ^ 9)]) (mr := aCons (mC (.int 1)) (aCons (mC (.int 6)) (aCons (mC (.int 35)) (aCons (m2 powI (mC (.int 10)) (mC (.int 9))) aNil)))) rfl (fun s => by rfl) (by decide), e4, Res.bind]
      rfl
    · simp only [sSet, pickE (env := [some (D.cell k), some (.int t), some (.int b), some (.int c), none]) (k := k) (xs := [.int 1, .int (-1)]) (mr := aCons (mC (.int 1)) (aCons (m1 negI (mC (.int 1))) aNil)) rfl (fun s => by rfl) (by decide), e5, Res.bind]
      rfl
  have nx := (((n1.trans n2).trans n3).trans n4).trans n5
  rcases hy with hy | hy
  · exact ⟨_, _, s5, all 1 hy (.inl rfl), by omega, by omega, by omega, nx⟩
  · exact ⟨_, _, s5, all (-1) hy (.inr rfl), by omega, by omega, by omega, nx⟩
end
end K11
set_option Elab.async false
set_option linter.all false
set_option maxRecDepth 100000
set_option exponentiation.threshold 5000
namespace K11
open Pm PySem
/-- in lowest terms -/
structure Low (p : Int × Int) : Prop where
  pos : 0 < p.2
  one : Nat.gcd p.1.natAbs p.2.natAbs = 1
theorem lo_eq (t b : Int) (hb : b ≠ 0) : ∃ t' b', t = sg t b * t' ∧ b = sg t b * b' ∧ lo t b = (t', b') ∧ Low (t', b') ∧ t'.natAbs ≤ t.natAbs ∧ b'.natAbs ≤ b.natAbs := by
  have hg0 : 0 < Nat.gcd t.natAbs b.natAbs := Nat.gcd_pos_of_pos_right _ (by omega)
  have gI : gcdI t b = ((Nat.gcd t.natAbs b.natAbs : Nat) : Int) := rfl
  have ab : (sg t b).natAbs = Nat.gcd t.natAbs b.natAbs := by
    unfold sg
    rw [gI]
    split <;> omega
  have d1 : sg t b ∣ t := by
    rw [← Int.natAbs_dvd_natAbs, ab]
    exact Nat.gcd_dvd_left _ _
  have d2 : sg t b ∣ b := by
    rw [← Int.natAbs_dvd_natAbs, ab]
    exact Nat.gcd_dvd_right _ _
  obtain ⟨t', ht⟩ := d1
  obtain ⟨b', hb'⟩ := d2
  have hs : sg t b ≠ 0 := by omega
  have nt : t.natAbs = Nat.gcd t.natAbs b.natAbs * t'.natAbs := by
    rw [← ab, ← Int.natAbs_mul, ← ht]
  have nb : b.natAbs = Nat.gcd t.natAbs b.natAbs * b'.natAbs := by
    rw [← ab, ← Int.natAbs_mul, ← hb']
  have e1 : lo t b = (t', b') := by
    unfold lo
    have f1 : t.fdiv (sg t b) = t' := by
      conv => lhs; arg 1; rw [ht]
      exact Int.mul_fdiv_cancel_left _ hs
    have f2 : b.fdiv (sg t b) = b' := by
      conv => lhs; arg 1; rw [hb']
      exact Int.mul_fdiv_cancel_left _ hs
    rw [f1, f2]
  refine ⟨t', b', ht, hb', e1, ⟨?_, ?_⟩, ?_, ?_⟩
  · show 0 < b'
    unfold sg at hb'
    by_cases hp : 0 < b
    · rw [if_pos hp, gI] at hb'
      have : 0 < ((Nat.gcd t.natAbs b.natAbs : Nat) : Int) * b' := by omega
      exact Int.pos_of_mul_pos_right this (by omega) |> fun h => h
    · rw [if_neg hp, gI] at hb'
      have h1 : 0 < ((Nat.gcd t.natAbs b.natAbs : Nat) : Int) * b' := by
        have : -((Nat.gcd t.natAbs b.natAbs : Nat) : Int) * b' = -(((Nat.gcd t.natAbs b.natAbs : Nat) : Int) * b') := Int.neg_mul _ _
        omega
      exact Int.pos_of_mul_pos_right h1 (by omega)
  · show Nat.gcd t'.natAbs b'.natAbs = 1
    have h : Nat.gcd t.natAbs b.natAbs * Nat.gcd t'.natAbs b'.natAbs = Nat.gcd t.natAbs b.natAbs * 1 := by
      rw [← Nat.gcd_mul_left, ← nt, ← nb, Nat.mul_one]
    exact Nat.eq_of_mul_eq_mul_left hg0 h
  · rw [nt]
    exact Nat.le_mul_of_pos_left _ hg0
  · rw [nb]
    exact Nat.le_mul_of_pos_left _ hg0
theorem lo_low {p : Int × Int} (h : Low p) : lo p.1 p.2 = p := by
  have gI : gcdI p.1 p.2 = 1 := by
    unfold gcdI
    rw [h.one]
    rfl
  unfold lo sg
  rw [if_pos h.pos, gI, Int.fdiv_one, Int.fdiv_one]
theorem Low.neg {p : Int × Int} (h : Low p) : Low (-p.1, p.2) := ⟨h.pos, by simpa using h.one⟩
end K11
set_option Elab.async false
set_option linter.all false
set_option maxRecDepth 100000
set_option exponentiation.threshold 5000
namespace K11
open Pm PySem
theorem txt_len {i : Int} (h : i.natAbs < 2 ^ 200) : (intTxt i).length ≤ 201 := by
  have e := int_text_length_le (k := 200) (by decide) (lg h (by decide))
  unfold intTxt
  rw [show ((toString i : String) : Str) = Str.ofString (toString i) from rfl, ofString_length]
  exact e
theorem lg200 {i : Int} (h : i.natAbs < 2 ^ 200) : i.natAbs.log2 < 1920 := Nat.lt_trans (lg h (by decide)) (by decide)
theorem emp (x : Str) : Str.empty ++ x = x := by
  obtain ⟨c⟩ := x
  exact congrArg Str.mk (Array.empty_append (xs := c))
section
variable {p : Int × Int} {s : S} {env : Pm.Env}
theorem strI_ok {i : Int} (h : i.natAbs < 2 ^ 200) : bStrI [.int i] s = .ok (.str (intTxt i)) s := by
  simp [bStrI, lg200 h]
theorem fmt_ok {m : Pm.Env → S → Res D} {i : Int} (e : m env s = .ok (.int i) s) (h : i.natAbs < 2 ^ 200) : mFmt m env s = .ok (.str (intTxt i)) s := by
  simp [mFmt, e, lg200 h]
def shown (p : Int × Int) : Str := if p.2 = 1 then intTxt p.1 else (intTxt p.1 ++ ("/" : Str)) ++ intTxt p.2
theorem app_len (a b : Str) : (a ++ b).length = a.length + b.length := by
  cases a; cases b
  show (_ ++ _ : Array Nat).size = _
  simp [Str.length]
theorem slash_len : ("/" : Str).length = 1 := by rfl
theorem shown_ok (h1 : p.1.natAbs < 2 ^ 200) (h2 : p.2.natAbs < 2 ^ 200) : m_law_shown [dP p] s = .ok (.str (shown p)) s := by
  have l1 := txt_len h1
  have l2 := txt_len h2
  refine run1 (ret_ok ?_)
  by_cases h : p.2 = 1
  · simp [mIf, mB, m2, mVar, mC, ix0, ix1, eq_int, h, mCall, aCons, aNil, strI_ok h1, shown]
  · have c1 : (intTxt p.1).length + 1 ≤ line := by unfold line; omega
    have c2 : (intTxt p.1 ++ ("/" : Str)).length + (intTxt p.2).length ≤ line := by rw [app_len, slash_len]; unfold line; omega
    have a1 : ∀ s, addAll (.str (intTxt p.1)) (.str "/") s = .ok (.str (intTxt p.1 ++ ("/" : Str))) s := fun s => by
      have z : addD (.str (intTxt p.1)) (.str "/") s = .stuck := by rfl
      simp [addAll, z, Res.or, addS, slash_len, c1]
    have a2 : ∀ s, addAll (.str (intTxt p.1 ++ ("/" : Str))) (.str (intTxt p.2)) s = .ok (.str ((intTxt p.1 ++ ("/" : Str)) ++ intTxt p.2)) s := fun s => by
      have z : addD (.str (intTxt p.1 ++ ("/" : Str))) (.str (intTxt p.2)) s = .stuck := by rfl
      simp [addAll, z, Res.or, addS, c2]
    simp [mIf, mB, m2, mVar, mC, ix0, ix1, eq_int, h, mCall, aCons, aNil, strI_ok h1, strI_ok h2, a1, a2, shown]
end
end K11
set_option Elab.async false
set_option linter.all false
set_option maxRecDepth 100000
set_option exponentiation.threshold 5000
namespace K11
open Pm PySem
section
variable {p : Int × Int} {s : S} {env : Pm.Env}
theorem fld0 (x : List (Option D)) : mFld 0 0 (mVar 0) (some (dN p) :: x) s = .ok (.int p.1) s := by rfl
theorem fld1 (x : List (Option D)) : mFld 0 1 (mVar 0) (some (dN p) :: x) s = .ok (.int p.2) s := by rfl
theorem j_cons {m : Pm.Env → S → Res D} {ms : List (Pm.Env → S → Res D)} {acc y : Str} (e : m env s = .ok (.str y) s) (h : (acc ++ y).length ≤ line) : jRun (m :: ms) acc env s = jRun ms (acc ++ y) env s := by
  simp [jRun, e, h]
theorem j_nil {acc : Str} : jRun [] acc env s = .ok acc s := by rfl
theorem seq_rt {a b : Pm.Env → S → Res Fl} {e : Pm.Env} {r : D} {s1 : S} (h : a e s = .ok (.rt r) s1) : sSeq a b e s = .ok (.rt r) s1 := by simp [sSeq, h]
theorem str_ok (h1 : p.1.natAbs < 2 ^ 200) (h2 : p.2.natAbs < 2 ^ 200) : m_c0_str_ [dN p] s = .ok (.str (shown p)) s := by
  have l1 := txt_len h1
  have l2 := txt_len h2
  by_cases h : p.2 = 1
  · have e : sIf (mB (m2 (eqP false) (mFld 0 1 (mVar 0)) (mC (.int 1)))) (sRet (mCall bStrI (aCons (mFld 0 0 (mVar 0)) aNil))) sNext [some (dN p)] s = .ok (.rt (.str (shown p))) s := by
      simp [sIf, mB, m2, mC, fld1, fld0, eq_int, h, sRet, mCall, aCons, aNil, strI_ok h1, shown]
    exact run1 (seq_rt e)
  · refine run1 ((seq_ok (e1 := [some (dN p)]) (s1 := s) ?_).trans (ret_ok ?_))
    · simp [sIf, mB, m2, mC, fld1, eq_int, h, sNext]
    · unfold mJoin
      rw [j_cons (fmt_ok (fld0 _) h1) (by rw [emp]; unfold line; omega), emp, j_cons (y := "/") (by rfl) (by rw [app_len, slash_len]; unfold line; omega), j_cons (fmt_ok (fld1 _) h2) (by rw [app_len, app_len, slash_len]; unfold line; omega), j_nil]
      simp [shown, h]
def shownR (p : Int × Int) : Str := ((((("Ratio(" : Str) ++ intTxt p.1) ++ (", " : Str)) ++ intTxt p.2) ++ (")" : Str))
theorem rl1 : ("Ratio(" : Str).length = 6 := by rfl
theorem rl2 : (", " : Str).length = 2 := by rfl
theorem rl3 : (")" : Str).length = 1 := by rfl
theorem repr_ok (h1 : p.1.natAbs < 2 ^ 200) (h2 : p.2.natAbs < 2 ^ 200) : m_c0_repr_ [dN p] s = .ok (.str (shownR p)) s := by
  have l1 := txt_len h1
  have l2 := txt_len h2
  refine run1 (ret_ok (e := [some (dN p)]) ?_)
  unfold mJoin
  rw [j_cons (y := "Ratio(") (by rfl) (by rw [emp, rl1]; unfold line; omega), emp, j_cons (fmt_ok (fld0 _) h1) (by rw [app_len, rl1]; unfold line; omega), j_cons (y := ", ") (by rfl) (by rw [app_len, app_len, rl1, rl2]; unfold line; omega),
    j_cons (fmt_ok (fld1 _) h2) (by rw [app_len, app_len, app_len, rl1, rl2]; unfold line; omega), j_cons (y := ")") (by rfl) (by rw [app_len, app_len, app_len, app_len, rl1, rl2, rl3]; unfold line; omega), j_nil]
  rfl
end
end K11
set_option Elab.async false
set_option linter.all false
set_option maxRecDepth 100000
set_option exponentiation.threshold 5000
namespace K11
open Pm PySem
section
variable {p q : Int × Int} {s : S} {i : Int}
theorem ne_pair : pNe (dP p) (dP q) s = .ok (.bl (!decide (p = q))) s := by
  have e : eqP true (dP p) (dP q) s = .ok (.bl (!(decide (p.1 = q.1) && (decide (p.2 = q.2) && true)))) s := by rfl
  unfold pNe
  rw [e]
  obtain ⟨a, b⟩ := p
  obtain ⟨c, d⟩ := q
  simp [Res.or]
theorem eq_pair : pEq (dP p) (dP q) s = .ok (.bl (decide (p = q))) s := by
  have e : eqP false (dP p) (dP q) s = .ok (.bl (decide (p.1 = q.1) && (decide (p.2 = q.2) && true))) s := by rfl
  unfold pEq
  rw [e]
  obtain ⟨a, b⟩ := p
  obtain ⟨c, d⟩ := q
  simp [Res.or]
theorem ne_str (x : Str) (h : PyData.strOk x = true) : pNe (.str x) (.str x) s = .ok (.bl false) s := by
  simp [pNe, eqP, toPy, SeqAt.shaped, PyData.canLay0, PyData.depth, PyData.eqv, Res.or, h]
theorem eq_i (j : Int) : pEq (.int i) (.int j) s = .ok (.bl (decide (i = j))) s := by rfl
theorem sub_i (j : Int) : pSub (.int i) (.int j) s = .ok (.int (i - j)) s := by rfl
theorem neg_i : pNeg (.int i) s = .ok (.int (-i)) s := by rfl
theorem neg_low (f : Fine s) (h : Low p) (h2 : Sm p.2) : m_c0_neg_ [dN p] s = .ok (dN (-p.1, p.2)) s := by
  have e := neg_ok (p := p) f (by have := h.pos; omega) h2
  rw [lo_low h.neg] at e
  exact e
theorem sign_ok : m_c0_sign [dN p] s = .ok (.int (if p.1 = 0 then 0 else if 0 < p.1 then 1 else -1)) s := by
  by_cases h : p.1 = 0
  · refine run1 (seq_rt ?_)
    simp [sIf, mB, m2, mC, fld0, eq_int, h, sRet]
  · refine run1 ((seq_ok (e1 := [some (dN p)]) (s1 := s) ?_).trans (ret_ok ?_))
    · simp [sIf, mB, m2, mC, fld0, eq_int, h, sNext]
    · by_cases h2 : 0 < p.1
      · simp [mIf, mB, m2, mC, fld0, gtI, intOp, h, h2]
      · simp [mIf, mB, m2, mC, fld0, gtI, intOp, h, h2, m1, negI]
theorem whole_ok : m_c0_is_whole [dN p] s = .ok (.bl (decide (p.2 = 1))) s := by
  refine run1 (ret_ok (e := [some (dN p)]) ?_)
  simp [m2, mC, fld1, eq_int]
theorem unsigned_ok (f : Fine s) (h : Low p) (h2 : Sm p.2) : m_c0_unsigned [dN p] s = .ok (dN (absI p.1, p.2)) s := by
  have hp := h.pos
  have e := make_ok (mr := aCons (mCall (bInt1 fun i => .int (absI i)) (aCons (mFld 0 0 (mVar 0)) aNil)) (aCons (mFld 0 1 (mVar 0)) aNil)) (env := [some (dN p)]) (s := s) (s1 := s) (absI p.1) p.2 (by simp [aCons, aNil, mCall, fld0, fld1, bInt1]) f (by omega) h2
  have l : Low (absI p.1, p.2) := ⟨hp, by rw [natAbs_eq]; simpa using h.one⟩
  rw [lo_low l] at e
  exact run1 (ret_ok (e := [some (dN p)]) e)
end
theorem ok_app {a b : Str} (ha : PyData.strOk a = true) (hb : PyData.strOk b = true) : PyData.strOk (a ++ b) = true := by
  obtain ⟨x⟩ := a
  obtain ⟨y⟩ := b
  have ha : x.all (· < 0x110000) = true := ha
  have hb : y.all (· < 0x110000) = true := hb
  show (x ++ y).all (· < 0x110000) = true
  rw [Array.all_append, ha, hb]
  rfl
end K11
set_option Elab.async false
set_option linter.all false
set_option maxRecDepth 100000
set_option maxHeartbeats 1000000
set_option exponentiation.threshold 5000
namespace K11
open Pm PySem
theorem ok_of (s : String) : PyData.strOk (Str.ofString s) = true := by
  rw [Str.ofString_eq_toList]
  unfold PyData.strOk
  rw [Array.all_eq_true]
  intro i hi
  simp only [List.getElem_toArray, List.getElem_map, decide_eq_true_eq]
  have h := (s.toList[i]'(by simpa using hi)).valid
  show (s.toList[i]'(by simpa using hi)).val.toNat < 1114112
  simp only [UInt32.isValidChar, Nat.isValidChar] at h
  omega
theorem ok_int (i : Int) : PyData.strOk (intTxt i) = true := ok_of (toString i)
theorem ok_shown (p : Int × Int) : PyData.strOk (shown p) = true := by
  unfold shown
  split
  · exact ok_int _
  · exact ok_app (ok_app (ok_int _) (by decide +kernel)) (ok_int _)
theorem ok_shownR (p : Int × Int) : PyData.strOk (shownR p) = true :=
  ok_app (ok_app (ok_app (ok_app (by decide +kernel) (ok_int _)) (by decide +kernel)) (ok_int _)) (by decide +kernel)
/-- small enough for texts -/
structure Sz (p : Int × Int) : Prop where
  a : p.1.natAbs < 2 ^ 200
  b : p.2.natAbs < 2 ^ 200
theorem Sz.lo {t b : Int} (hb : b ≠ 0) (h : Sz (t, b)) : Sz (lo t b) := by
  obtain ⟨t', b', _, _, e, _, h1, h2⟩ := lo_eq t b hb
  rw [e]
  exact ⟨Nat.lt_of_le_of_lt h1 h.a, Nat.lt_of_le_of_lt h2 h.b⟩
theorem low_lo {t b : Int} (hb : b ≠ 0) : Low (lo t b) := by
  obtain ⟨t', b', _, _, e, l, _⟩ := lo_eq t b hb
  rw [e]
  exact l
section
variable {p q : Int × Int} {s : S} {env : Pm.Env} {d e r : D} {m n : Pm.Env → S → Res D} {f : List D → S → Res D}
theorem call1 (h : m env s = .ok d s) : mCallD (n := 1) [] f (aCons m aNil) env s = f [d] s := by simp [mCallD, aCons, aNil, h]
theorem bcall1 (h : m env s = .ok d s) : mCall f (aCons m aNil) env s = f [d] s := by simp [mCall, aCons, aNil, h]
theorem pStr_n (z : Sz p) : pStr [dN p] s = .ok (.str (shown p)) s := by
  have e : bStrI [dN p] s = .stuck := by rfl
  simp [pStr, e, Res.or, bOwn1, str_ok z.a z.b]
theorem pStr_i {i : Int} (h : i.natAbs < 2 ^ 200) : pStr [.int i] s = .ok (.str (intTxt i)) s := by
  simp [pStr, strI_ok h, Res.or]
theorem pRepr_n (z : Sz p) : pRepr [dN p] s = .ok (.str (shownR p)) s := by
  simp [pRepr, isSeqD, Res.or, bOwn1, repr_ok z.a z.b]
theorem pAdd_s {a b : Str} (h : a.length + b.length ≤ line) : pAdd (.str a) (.str b) s = .ok (.str (a ++ b)) s := by
  have z : addD (.str a) (.str b) s = .stuck := by rfl
  simp [pAdd, addAll, z, Res.or, addS, h]
end
end K11
set_option Elab.async false
set_option linter.all false
set_option maxRecDepth 100000
set_option maxHeartbeats 2000000
set_option exponentiation.threshold 5000
namespace K11
open Pm PySem
section
variable {p r : Int × Int} {s : S} {x y : Option D}
theorem zSm {p : Int × Int} (z : Sz p) : Sm p.1 ∧ Sm p.2 := ⟨small_Sm z.a, small_Sm z.b⟩
theorem rsub0 (f : Fine s) (l : Low p) (z : Sz p) : pSub (.int 0) (dN p) s = .ok (dN (-p.1, p.2)) s := by
  have e : subI (.int 0) (dN p) s = .stuck := by rfl
  have h1 : m_c0_rsub_ [dN p, .int 0] s = .ok (dN (-p.1, p.2)) s := by
    have hn := neg_low f l (zSm z).2
    have ha := add_ok (p := (-p.1, p.2)) (pt_i 0) f (by have := (zSm z).1; unfold Sm at *; simpa using this) (zSm z).2 (small_Sm (by decide)) (small_Sm (by decide)) (by have := l.pos; simpa using (show p.2 ≠ 0 by omega)) (by simpa using (zSm z).2)
    have e3 : (lo (-p.1 * 1 + 0 * p.2) (p.2 * 1)) = (-p.1, p.2) := by
      rw [Int.mul_one, Int.zero_mul, Int.add_zero, Int.mul_one]
      exact lo_low l.neg
    rw [show lo ((-p.1, p.2).1 * ((0 : Int), (1 : Int)).2 + ((0 : Int), (1 : Int)).1 * (-p.1, p.2).2) ((-p.1, p.2).2 * ((0 : Int), (1 : Int)).2) = lo (-p.1 * 1 + 0 * p.2) (p.2 * 1) from rfl, e3] at ha
    refine run2 (ret_ok ?_)
    have hn' : (match dN p with
      | .ins k fs => if k = 0 then m_c0_neg_ [.ins k fs] s else .stuck
      | _ => Res.stuck) = .ok (dN (-p.1, p.2)) s := hn
    have hstk : addAll (dN (-p.1, p.2)) (.int 0) s = .stuck := by rfl
    simp [m2, m1, mVar, hn, opOwn, ha]
  simp [pSub, e, Res.or, opOwn, h1]
theorem pNeg_n (f : Fine s) (l : Low p) (z : Sz p) : pNeg (dN p) s = .ok (dN (-p.1, p.2)) s := by
  have e : negI (dN p) s = .stuck := by rfl
  simp [pNeg, e, Res.or, neg_low f l (zSm z).2]
def nxt (st : Pm.Env → S → Res Fl) (e : Pm.Env) (s : S) : Prop := st e s = .ok (.nx e) s
def E1 (d : D) (p : Int × Int) (y : Option D) : Pm.Env := [some d, some (dN p), some (dP p), y]
variable {d : D}
theorem if_no {t : Pm.Env → S → Res Bool} {a : Pm.Env → S → Res Fl} {e : Pm.Env} (h : t e s = .ok false s) : sIf t a sNext e s = .ok (.nx e) s := by simp [sIf, h, sNext]
theorem or_no {t u : Pm.Env → S → Res Bool} {e : Pm.Env} (h : t e s = .ok false s) (h2 : u e s = .ok false s) : mOrT t u e s = .ok false s := by simp [mOrT, h, h2]
theorem mB_of {m : Pm.Env → S → Res D} {e : Pm.Env} {b : Bool} (h : m e s = .ok (.bl b) s) : mB m e s = .ok b s := by simp [mB, h]
theorem m2_of {f : D → D → S → Res D} {m n : Pm.Env → S → Res D} {e : Pm.Env} {a b r : D} {s1 : S} (h1 : m e s = .ok a s) (h2 : n e s = .ok b s) (h3 : f a b s = .ok r s1) : m2 f m n e s = .ok r s1 := by simp [m2, h1, h2, h3]
theorem ac2 {m n : Pm.Env → S → Res D} {e : Pm.Env} {a b : D} (h : m e s = .ok a s) (h2 : n e s = .ok b s) : aCons m (aCons n aNil) e s = .ok [a, b] s := by simp [aCons, h, h2, aNil]
theorem one1 (z : Sz p) : sIf (mOrT (mB (m2 pNe (mCallD (n := 1) [] m_law_pair (aCons (mVar 1) aNil)) (mVar 2))) (mB (m2 pNe (mCall pStr (aCons (mVar 1) aNil)) (mCallD (n := 1) [] m_law_shown (aCons (mVar 2) aNil))))) (sRet (mC (.bl false))) sNext (E1 d p y) s = .ok (.nx (E1 d p y)) s := by
  refine if_no (or_no (mB_of (m2_of (a := dP p) (b := dP p) ?_ rfl ?_)) (mB_of (m2_of (a := .str (shown p)) (b := .str (shown p)) ?_ ?_ (ne_str _ (ok_shown p)))))
  · exact call1 (d := dN p) rfl
  · rw [ne_pair]; simp
  · rw [bcall1 (d := dN p) rfl]; exact pStr_n z
  · rw [call1 (d := dP p) rfl]; exact shown_ok z.a z.b
theorem ixv (i : Nat) (j : Int) {e : Pm.Env} {a : D} {x : D} (h : e[i]? = some (some a)) (h2 : ixD a (.int j) s = .ok x s) : m2 ixD (mVar i) (mC (.int j)) e s = .ok x s := m2_of (a := a) (b := .int j) (by simp [mVar, h]) rfl h2
theorem one2 (z : Sz p) : sIf (mB (m2 pNe (mCall pRepr (aCons (mVar 1) aNil)) (m2 pAdd (m2 pAdd (m2 pAdd (m2 pAdd (mC (.str "Ratio(")) (mCall pStr (aCons (m2 ixD (mVar 2) (mC (.int 0))) aNil))) (mC (.str ", "))) (mCall pStr (aCons (m2 ixD (mVar 2) (mC (.int 1))) aNil))) (mC (.str ")"))))) (sRet (mC (.bl false))) sNext (E1 d p y) s = .ok (.nx (E1 d p y)) s := by
  have l1 := txt_len z.a
  have l2 := txt_len z.b
  have c0 : mCall pStr (aCons (m2 ixD (mVar 2) (mC (.int 0))) aNil) (E1 d p y) s = .ok (.str (intTxt p.1)) s := by
    rw [bcall1 (ixv 2 0 (a := dP p) rfl ix0)]; exact pStr_i z.a
  have c1 : mCall pStr (aCons (m2 ixD (mVar 2) (mC (.int 1))) aNil) (E1 d p y) s = .ok (.str (intTxt p.2)) s := by
    rw [bcall1 (ixv 2 1 (a := dP p) rfl ix1)]; exact pStr_i z.b
  refine if_no (mB_of (m2_of (a := .str (shownR p)) (b := .str (shownR p)) ?_ ?_ (ne_str _ (ok_shownR p))))
  · rw [bcall1 (d := dN p) rfl]; exact pRepr_n z
  · refine m2_of (a := .str (((("Ratio(" : Str) ++ intTxt p.1) ++ (", " : Str)) ++ intTxt p.2)) (b := .str ")") (m2_of (a := .str ((("Ratio(" : Str) ++ intTxt p.1) ++ (", " : Str))) (b := .str (intTxt p.2)) (m2_of (a := .str (("Ratio(" : Str) ++ intTxt p.1)) (b := .str ", ") (m2_of (a := .str "Ratio(") (b := .str (intTxt p.1)) rfl c0 (pAdd_s ?_)) rfl (pAdd_s ?_)) c1 (pAdd_s ?_)) rfl (pAdd_s ?_)
    · rw [rl1]; unfold line; omega
    · rw [app_len, rl1, rl2]; unfold line; omega
    · rw [app_len, app_len, rl1, rl2]; unfold line; omega
    · rw [app_len, app_len, app_len, rl1, rl2, rl3]; unfold line; omega
def sgn (i : Int) : Int := if i = 0 then 0 else if 0 < i then 1 else -1
theorem sgn3 (i : Int) : sgn i = 0 ∨ sgn i = 1 ∨ sgn i = -1 := by
  unfold sgn
  split
  · exact .inl rfl
  · split
    · exact .inr (.inl rfl)
    · exact .inr (.inr rfl)
theorem one3 : sSet 3 (mIf (mB (m2 pEq (m2 ixD (mVar 2) (mC (.int 0))) (mC (.int 0)))) (mC (.int 0)) (mIf (mB (m2 gtI (m2 ixD (mVar 2) (mC (.int 0))) (mC (.int 0)))) (mC (.int 1)) (m1 pNeg (mC (.int 1))))) (E1 d p y) s = .ok (.nx (E1 d p (some (.int (sgn p.1))))) s := by
  have h0 : m2 ixD (mVar 2) (mC (.int 0)) (E1 d p y) s = .ok (.int p.1) s := ixv 2 0 (a := dP p) rfl ix0
  have t0 : mB (m2 pEq (m2 ixD (mVar 2) (mC (.int 0))) (mC (.int 0))) (E1 d p y) s = .ok (decide (p.1 = 0)) s := mB_of (m2_of h0 rfl (eq_i 0))
  have t1 : mB (m2 gtI (m2 ixD (mVar 2) (mC (.int 0))) (mC (.int 0))) (E1 d p y) s = .ok (decide (0 < p.1)) s := mB_of (m2_of h0 rfl rfl)
  have e : (mIf (mB (m2 pEq (m2 ixD (mVar 2) (mC (.int 0))) (mC (.int 0)))) (mC (.int 0)) (mIf (mB (m2 gtI (m2 ixD (mVar 2) (mC (.int 0))) (mC (.int 0)))) (mC (.int 1)) (m1 pNeg (mC (.int 1))))) (E1 d p y) s = .ok (.int (sgn p.1)) s := by
    by_cases c0 : p.1 = 0
    · simp [mIf, t0, c0, mC, sgn]
    · by_cases c1 : 0 < p.1
      · simp [mIf, t0, t1, c0, c1, mC, sgn]
      · simp [mIf, t0, t1, c0, c1, mC, sgn, m1, neg_i]
  rw [sSet, e]
  rfl
theorem repr2 (i : Int) (b : Bool) (h : i = 0 ∨ i = 1 ∨ i = -1) : ∃ x, (∀ s, pRepr [.lst [.int i, .bl b]] s = .ok (.str x) s) ∧ PyData.strOk x = true := by
  rcases h with rfl | rfl | rfl <;> cases b <;> exact ⟨_, fun s => by rfl, by decide +kernel⟩
theorem one4 : sIf (mB (m2 pNe (mCall pRepr (aCons (mLst (aCons (mProp 0 m_c0_sign (mVar 1)) (aCons (mProp 0 m_c0_is_whole (mVar 1)) aNil))) aNil)) (mCall pRepr (aCons (mLst (aCons (mVar 3) (aCons (m2 pEq (m2 ixD (mVar 2) (mC (.int 1))) (mC (.int 1))) aNil))) aNil)))) (sRet (mC (.bl false))) sNext (E1 d p (some (.int (sgn p.1)))) s = .ok (.nx (E1 d p (some (.int (sgn p.1))))) s := by
  obtain ⟨x, hx, ok⟩ := repr2 (sgn p.1) (decide (p.2 = 1)) (sgn3 p.1)
  have p1 : mProp 0 m_c0_sign (mVar 1) (E1 d p (some (.int (sgn p.1)))) s = .ok (.int (sgn p.1)) s := by
    have := sign_ok (p := p) (s := s)
    simp [mProp, mVar, E1, noexn, this, sgn]
  have p2 : mProp 0 m_c0_is_whole (mVar 1) (E1 d p (some (.int (sgn p.1)))) s = .ok (.bl (decide (p.2 = 1))) s := by
    have := whole_ok (p := p) (s := s)
    simp [mProp, mVar, E1, noexn, this]
  have i1 : m2 pEq (m2 ixD (mVar 2) (mC (.int 1))) (mC (.int 1)) (E1 d p (some (.int (sgn p.1)))) s = .ok (.bl (decide (p.2 = 1))) s := m2_of (ixv 2 1 (a := dP p) rfl ix1) rfl (eq_i 1)
  refine if_no (mB_of (m2_of (a := .str x) (b := .str x) ?_ ?_ (ne_str _ ok)))
  · rw [bcall1 (d := .lst [.int (sgn p.1), .bl (decide (p.2 = 1))]) (by simp [mLst, aCons, aNil, p1, p2, newL, line])]; exact hx s
  · rw [bcall1 (d := .lst [.int (sgn p.1), .bl (decide (p.2 = 1))]) (by rw [mLst, ac2 (a := .int (sgn p.1)) rfl i1]; rfl)]; exact hx s
theorem one5 (f : Fine s) (l : Low p) (z : Sz p) : sIf (mB (m2 pNe (mCallD (n := 1) [] m_law_pair (aCons (mMeth (n := 1) 0 [] m_c0_unsigned (mVar 1) aNil) aNil)) (mTup (aCons (mCall (bInt1 fun i => .int (absI i)) (aCons (m2 ixD (mVar 2) (mC (.int 0))) aNil)) (aCons (m2 ixD (mVar 2) (mC (.int 1))) aNil))))) (sRet (mC (.bl false))) sNext (E1 d p y) s = .ok (.nx (E1 d p y)) s := by
  have h0 : m2 ixD (mVar 2) (mC (.int 0)) (E1 d p y) s = .ok (.int p.1) s := ixv 2 0 (a := dP p) rfl ix0
  have h1 : m2 ixD (mVar 2) (mC (.int 1)) (E1 d p y) s = .ok (.int p.2) s := ixv 2 1 (a := dP p) rfl ix1
  refine if_no (mB_of (m2_of (a := dP (absI p.1, p.2)) (b := dP (absI p.1, p.2)) ?_ ?_ ?_))
  · refine call1 (d := dN (absI p.1, p.2)) ?_
    simp [mMeth, mVar, E1, aNil, unsigned_ok f l (zSm z).2]
  · simp [mTup, aCons, mCall, h0, h1, bInt1, aNil, newT, line]
  · rw [ne_pair]; simp
theorem one6 (f : Fine s) (l : Low p) (z : Sz p) : sIf (mOrT (mB (m2 pNe (mCallD (n := 1) [] m_law_pair (aCons (m2 pSub (mC (.int 0)) (mVar 1)) aNil)) (mTup (aCons (m2 pSub (mC (.int 0)) (m2 ixD (mVar 2) (mC (.int 0)))) (aCons (m2 ixD (mVar 2) (mC (.int 1))) aNil))))) (mB (m2 pNe (mCallD (n := 1) [] m_law_pair (aCons (m1 pNeg (mVar 1)) aNil)) (mTup (aCons (m2 pSub (mC (.int 0)) (m2 ixD (mVar 2) (mC (.int 0)))) (aCons (m2 ixD (mVar 2) (mC (.int 1))) aNil)))))) (sRet (mC (.bl false))) sNext (E1 d p y) s = .ok (.nx (E1 d p y)) s := by
  have h0 : m2 ixD (mVar 2) (mC (.int 0)) (E1 d p y) s = .ok (.int p.1) s := ixv 2 0 (a := dP p) rfl ix0
  have h1 : m2 ixD (mVar 2) (mC (.int 1)) (E1 d p y) s = .ok (.int p.2) s := ixv 2 1 (a := dP p) rfl ix1
  have hz : (0 : Int) - p.1 = -p.1 := by omega
  have t : mTup (aCons (m2 pSub (mC (.int 0)) (m2 ixD (mVar 2) (mC (.int 0)))) (aCons (m2 ixD (mVar 2) (mC (.int 1))) aNil)) (E1 d p y) s = .ok (dP (-p.1, p.2)) s := by
    have hs : m2 pSub (mC (.int 0)) (m2 ixD (mVar 2) (mC (.int 0))) (E1 d p y) s = .ok (.int (-p.1)) s := m2_of (a := .int 0) (b := .int p.1) rfl h0 (by rw [sub_i, hz])
    simp [mTup, aCons, hs, h1, aNil, newT, line]
  refine if_no (or_no (mB_of (m2_of (a := dP (-p.1, p.2)) (b := dP (-p.1, p.2)) ?_ t ?_)) (mB_of (m2_of (a := dP (-p.1, p.2)) (b := dP (-p.1, p.2)) ?_ t ?_)))
  · exact call1 (d := dN (-p.1, p.2)) (m2_of (a := .int 0) (b := dN p) rfl rfl (rsub0 f l z))
  · rw [ne_pair]; simp
  · exact call1 (d := dN (-p.1, p.2)) (by simp [m1, mVar, E1, pNeg_n f l z])
  · rw [ne_pair]; simp
theorem one7 : sIf (mB (m2 pNe (mLst (aCons (mCallD (n := 1) [] m_is_number (aCons (mVar 1) aNil)) (aCons (mCallD (n := 1) [] m_is_integer (aCons (mVar 1) aNil)) (aCons (mCallD (n := 1) [] m_is_count (aCons (mVar 1) aNil)) aNil)))) (mLst (aCons (mC (.bl true)) (aCons (mC (.bl false)) (aCons (mC (.bl false)) aNil)))))) (sRet (mC (.bl false))) sNext (E1 d p y) s = .ok (.nx (E1 d p y)) s := by
  rfl
theorem one8 (f : Fine s) {t b : Int} (hb : b ≠ 0) (z : Sz (t, b)) : sRet (m2 pEq (mCallD (n := 1) [] m_law_pair (aCons (mMake 0 2 3 [] m_c0_init_ (aCons (m2 ixD (mVar 0) (mC (.int 0))) (aCons (m2 ixD (mVar 0) (mC (.int 1))) aNil))) aNil)) (mVar 2)) (E1 (dP (t, b)) (lo t b) y) s = .ok (.rt (.bl true)) s := by
  have h0 : m2 ixD (mVar 0) (mC (.int 0)) (E1 (dP (t, b)) (lo t b) y) s = .ok (.int t) s := ixv 0 0 (a := dP (t, b)) rfl ix0
  have h1 : m2 ixD (mVar 0) (mC (.int 1)) (E1 (dP (t, b)) (lo t b) y) s = .ok (.int b) s := ixv 0 1 (a := dP (t, b)) rfl ix1
  refine ret_ok (m2_of (a := dP (lo t b)) (b := dP (lo t b)) (call1 (make_ok t b (by simp [aCons, h0, h1, aNil]) f hb (small_Sm z.b))) rfl ?_)
  rw [eq_pair]; simp
theorem one_right (f : Fine s) {t b : Int} (hb : b ≠ 0) (z : Sz (t, b)) : m_law_one_right [dP (t, b)] s = .ok (.bl true) s := by
  have l := low_lo (t := t) hb
  have zl := z.lo hb
  have h0 : ∀ e : Pm.Env, e[0]? = some (some (dP (t, b))) → m2 ixD (mVar 0) (mC (.int 0)) e s = .ok (.int t) s := fun e he => ixv 0 0 (a := dP (t, b)) he ix0
  have h1 : ∀ e : Pm.Env, e[0]? = some (some (dP (t, b))) → m2 ixD (mVar 0) (mC (.int 1)) e s = .ok (.int b) s := fun e he => ixv 0 1 (a := dP (t, b)) he ix1
  refine run1 ((seq_ok (e1 := E1 (dP (t, b)) (lo t b) none) (s1 := s) ?_).trans ((seq_ok (one1 zl)).trans ((seq_ok (one2 zl)).trans ((seq_ok one3).trans ((seq_ok one4).trans ((seq_ok (one5 f l zl)).trans ((seq_ok (one6 f l zl)).trans ((seq_ok one7).trans (one8 f hb z)))))))))
  have e0 := h0 [some (dP (t, b)), none, none, none] rfl
  have e1 := h1 [some (dP (t, b)), none, none, none] rfl
  have mk := make_ok (mr := aCons (m2 ixD (mVar 0) (mC (.int 0))) (aCons (m2 ixD (mVar 0) (mC (.int 1))) aNil)) (env := [some (dP (t, b)), none, none, none]) (s := s) (s1 := s) t b (by simp [aCons, e0, e1, aNil]) f hb (small_Sm z.b)
  have lw : mCallD (n := 2) [] m_law_low (aCons (m2 ixD (mVar 0) (mC (.int 0))) (aCons (m2 ixD (mVar 0) (mC (.int 1))) aNil)) [some (dP (t, b)), none, none, none] s = .ok (dP (lo t b)) s := call2_ok (by simp [aCons, e0, e1, aNil]) (low_ok t b s hb (small_Sm z.b))
  simp only [List.cons_append, List.nil_append, List.replicate] at *
  unfold sPar
  rw [ac2 mk lw]
  rfl
end
end K11
set_option Elab.async false
set_option linter.all false
set_option maxRecDepth 100000
set_option maxHeartbeats 2000000
set_option exponentiation.threshold 5000
namespace K11
open Pm PySem
/-! lists of pairs are the same -/
def pP (p : Int × Int) : PyData := .tuple [.int p.1, .int p.2]
theorem toPys_pairs : ∀ ps : List (Int × Int), toPys (ps.map dP) = some (ps.map pP)
  | [] => rfl
  | p :: ps => by
    have h1 : toPy (dP p) = some (pP p) := rfl
    simp only [List.map_cons, toPys, toPys_pairs ps, h1]
theorem pairs_lay : ∀ ps : List (Int × Int), PyData.canLayAll0 (ps.map pP) = true
  | [] => rfl
  | p :: ps => by
    have h1 : PyData.canLay0 (pP p) = true := rfl
    simp [PyData.canLayAll0, pairs_lay ps, h1]
theorem pairs_depth : ∀ ps : List (Int × Int), PyData.depthAll (ps.map pP) ≤ 1
  | [] => by simp [PyData.depthAll]
  | p :: ps => by
    have h1 : PyData.depth (pP p) = 1 := rfl
    have := pairs_depth ps
    simp only [List.map_cons, PyData.depthAll, h1]
    omega
theorem pairs_eqv : ∀ ps : List (Int × Int), PyData.eqvAll (ps.map pP) (ps.map pP) = true
  | [] => rfl
  | p :: ps => by
    have h1 : PyData.eqv (pP p) (pP p) = true := by simp [pP, PyData.eqv, PyData.eqvAll]
    simp [PyData.eqvAll, pairs_eqv ps, h1]
section
variable {p q : Int × Int} {s : S} {i n : Int} {env : Pm.Env} {d e r : D}
theorem ne_pairs (ps : List (Int × Int)) : pNe (.lst (ps.map dP)) (.lst (ps.map dP)) s = .ok (.bl false) s := by
  have h1 : toPy (.lst (ps.map dP)) = some (.list (ps.map pP)) := by simp only [toPy, toPys_pairs, Option.map_some]
  have h2 : SeqAt.shaped (.list (ps.map pP)) = true := by
    have := pairs_depth ps
    unfold SeqAt.shaped
    rw [Bool.and_eq_true]
    refine ⟨by simp only [PyData.canLay0]; exact pairs_lay ps, decide_eq_true ?_⟩
    simp only [PyData.depth]
    omega
  have h3 : PyData.eqv (.list (ps.map pP)) (.list (ps.map pP)) = true := by simp only [PyData.eqv]; exact pairs_eqv ps
  simp [pNe, eqP, h1, h2, h3, Res.or]
theorem ne_i (j : Int) : pNe (.int i) (.int j) s = .ok (.bl (!decide (i = j))) s := by rfl
/-! operators on Ratios -/
theorem nz {p : Int × Int} (l : Low p) : p.2 ≠ 0 := by have := l.pos; omega
theorem szmul {a b : Int} (ha : a.natAbs < 2 ^ 200) (hb : b.natAbs < 2 ^ 200) : Sm (a * b) := by
  unfold Sm
  rw [Int.natAbs_mul]
  have : a.natAbs * b.natAbs < 2 ^ 200 * 2 ^ 200 := Nat.mul_lt_mul'' ha hb
  have h2 : (2 : Nat) ^ 200 * 2 ^ 200 ≤ 2 ^ 4000 := by rw [← Nat.pow_add]; exact Nat.pow_le_pow_right (by decide) (by decide)
  omega
theorem pAdd_nn (f : Fine s) (lp : Low p) (lq : Low q) (zp : Sz p) (zq : Sz q) : pAdd (dN p) (dN q) s = .ok (dN (lo (p.1 * q.2 + q.1 * p.2) (p.2 * q.2))) s := by
  have e : addAll (dN p) (dN q) s = .stuck := by rfl
  simp [pAdd, e, Res.or, opOwn, add_ok (pt_n q) f (zSm zp).1 (zSm zp).2 (zSm zq).1 (zSm zq).2 (Int.mul_ne_zero (nz lp) (nz lq)) (szmul zp.b zq.b)]
theorem pSub_nn (f : Fine s) (lp : Low p) (lq : Low q) (zp : Sz p) (zq : Sz q) : pSub (dN p) (dN q) s = .ok (dN (lo (p.1 * q.2 - q.1 * p.2) (p.2 * q.2))) s := by
  have e : subI (dN p) (dN q) s = .stuck := by rfl
  simp [pSub, e, Res.or, opOwn, sub_ok (pt_n q) f (zSm zp).1 (zSm zp).2 (zSm zq).1 (zSm zq).2 (Int.mul_ne_zero (nz lp) (nz lq)) (szmul zp.b zq.b)]
theorem pMul_nn (f : Fine s) (lp : Low p) (lq : Low q) (zp : Sz p) (zq : Sz q) : pMul (dN p) (dN q) s = .ok (dN (lo (p.1 * q.1) (p.2 * q.2))) s := by
  have e : mulD (dN p) (dN q) s = .stuck := by rfl
  simp [pMul, e, Res.or, opOwn, mul_ok (pt_n q) f (zSm zp).1 (zSm zp).2 (zSm zq).1 (zSm zq).2 (Int.mul_ne_zero (nz lp) (nz lq)) (szmul zp.b zq.b)]
abbrev Nm (n : Int) : Prop := n.natAbs < 2 ^ 200
theorem one_Sm : Sm 1 := small_Sm (by decide)
theorem add_ni (f : Fine s) (lp : Low p) (zp : Sz p) (hn : Nm n) : m_c0_add_ [dN p, .int n] s = .ok (dN (lo (p.1 * 1 + n * p.2) (p.2 * 1))) s :=
  add_ok (pt_i n) f (zSm zp).1 (zSm zp).2 (small_Sm hn) one_Sm (by simpa using nz lp) (by simpa using (zSm zp).2)
theorem pAdd_ni (f : Fine s) (lp : Low p) (zp : Sz p) (hn : Nm n) : pAdd (dN p) (.int n) s = .ok (dN (lo (p.1 * 1 + n * p.2) (p.2 * 1))) s := by
  have e : addAll (dN p) (.int n) s = .stuck := by rfl
  simp only [pAdd, e, Res.or, opOwn, if_true, add_ni f lp zp hn]
theorem pAdd_in (f : Fine s) (lp : Low p) (zp : Sz p) (hn : Nm n) : pAdd (.int n) (dN p) s = .ok (dN (lo (p.1 * 1 + n * p.2) (p.2 * 1))) s := by
  have e : addAll (.int n) (dN p) s = .stuck := by rfl
  have h : m_c0_radd_ [dN p, .int n] s = .ok (dN (lo (p.1 * 1 + n * p.2) (p.2 * 1))) s := by
    refine run2 (ret_ok (m2_of (a := dN p) (b := .int n) rfl rfl ?_))
    simp only [opOwn, if_true, add_ni f lp zp hn]
  simp only [pAdd, e, Res.or, opOwn, if_true, h]
theorem mul_ni (f : Fine s) (lp : Low p) (zp : Sz p) (hn : Nm n) : m_c0_mul_ [dN p, .int n] s = .ok (dN (lo (p.1 * n) (p.2 * 1))) s :=
  mul_ok (pt_i n) f (zSm zp).1 (zSm zp).2 (small_Sm hn) one_Sm (by simpa using nz lp) (by simpa using (zSm zp).2)
theorem pMul_ni (f : Fine s) (lp : Low p) (zp : Sz p) (hn : Nm n) : pMul (dN p) (.int n) s = .ok (dN (lo (p.1 * n) (p.2 * 1))) s := by
  have e : mulD (dN p) (.int n) s = .stuck := by rfl
  simp only [pMul, e, Res.or, opOwn, if_true, mul_ni f lp zp hn]
theorem pMul_in (f : Fine s) (lp : Low p) (zp : Sz p) (hn : Nm n) : pMul (.int n) (dN p) s = .ok (dN (lo (p.1 * n) (p.2 * 1))) s := by
  have e : mulD (.int n) (dN p) s = .stuck := by rfl
  have h : m_c0_rmul_ [dN p, .int n] s = .ok (dN (lo (p.1 * n) (p.2 * 1))) s := by
    refine run2 (ret_ok (m2_of (a := dN p) (b := .int n) rfl rfl ?_))
    simp only [opOwn, if_true, mul_ni f lp zp hn]
  simp only [pMul, e, Res.or, opOwn, if_true, h]
theorem pSub_ni (f : Fine s) (lp : Low p) (zp : Sz p) (hn : Nm n) : pSub (dN p) (.int n) s = .ok (dN (lo (p.1 * 1 - n * p.2) (p.2 * 1))) s := by
  have e : subI (dN p) (.int n) s = .stuck := by rfl
  have h := sub_ok (p := p) (pt_i n) f (zSm zp).1 (zSm zp).2 (small_Sm hn) one_Sm (by simpa using nz lp) (by simpa using (zSm zp).2)
  simp only [pSub, e, Res.or, opOwn, if_true, h]
theorem pSub_in (f : Fine s) (lp : Low p) (zp : Sz p) (hn : Nm n) : pSub (.int n) (dN p) s = .ok (dN (lo (-p.1 * 1 + n * p.2) (p.2 * 1))) s := by
  have e : subI (.int n) (dN p) s = .stuck := by rfl
  have h : m_c0_rsub_ [dN p, .int n] s = .ok (dN (lo (-p.1 * 1 + n * p.2) (p.2 * 1))) s := by
    have hn1 := neg_low f lp (zSm zp).2
    have ha := add_ni (p := (-p.1, p.2)) f lp.neg ⟨by simpa using zp.a, zp.b⟩ hn
    refine run2 (ret_ok (m2_of (a := dN (-p.1, p.2)) (b := .int n) ?_ rfl ?_))
    · simp only [m1, mVar, List.cons_append, List.nil_append, List.getElem?_cons_zero, Res.bind_ok, if_true]
      exact hn1
    · simp only [opOwn, if_true]
      exact ha
  simp only [pSub, e, Res.or, opOwn, if_true, h]
theorem eq_nn : m_c0_eq_ [dN p, dN q] s = .ok (.bl (decide (p = q))) s := by
  obtain ⟨a, b⟩ := p
  obtain ⟨c, d⟩ := q
  refine run2 (ret_ok ?_)
  have h0 : (mCall (bIs 1) (aCons (mVar 1) (aCons (mC (.cls 0)) aNil))) ([some (dN (a, b)), some (dN (c, d))] ++ List.replicate (2 - 2) none) s = .ok (.bl true) s := by rfl
  have h1 : m2 (eqP false) (mFld 0 0 (mVar 0)) (mFld 0 0 (mVar 1)) ([some (dN (a, b)), some (dN (c, d))] ++ List.replicate (2 - 2) none) s = .ok (.bl (decide (a = c))) s := by rfl
  have h2 : m2 (eqP false) (mFld 0 1 (mVar 0)) (mFld 0 1 (mVar 1)) ([some (dN (a, b)), some (dN (c, d))] ++ List.replicate (2 - 2) none) s = .ok (.bl (decide (b = d))) s := by rfl
  rw [mAnd, h0, Res.bind_ok]
  dsimp only
  rw [mAnd, h1, Res.bind_ok]
  by_cases c1 : a = c
  · subst c1
    simp only [decide_true]
    rw [h2]
    by_cases c2 : b = d
    · subst c2; simp
    · have : ¬ ((a, b) = (a, d)) := fun z => c2 (by injection z)
      rw [decide_eq_false c2, decide_eq_false this]
  · have : ¬ ((a, b) = (c, d)) := fun z => c1 (by injection z)
    rw [decide_eq_false c1, decide_eq_false this]
theorem pEq_nn : pEq (dN p) (dN q) s = .ok (.bl (decide (p = q))) s := by
  have e : eqP false (dN p) (dN q) s = .stuck := by rfl
  simp [pEq, e, Res.or, eqOwn, eq_nn]
theorem pNe_nn : pNe (dN p) (dN q) s = .ok (.bl (!decide (p = q))) s := by
  have e : eqP true (dN p) (dN q) s = .stuck := by rfl
  simp only [pNe, e, Res.or, neOwn, and_self, if_true, eq_nn, Res.bind_ok]
theorem eq_ni : m_c0_eq_ [dN p, .int n] s = .ok (.bl false) s := by rfl
theorem pEq_ni : pEq (dN p) (.int n) s = .ok (.bl false) s := by
  have e : eqP false (dN p) (.int n) s = .stuck := by rfl
  simp only [pEq, e, Res.or, eqOwn, if_true, eq_ni]
theorem pEq_in : pEq (.int n) (dN p) s = .ok (.bl false) s := by
  have e : eqP false (.int n) (dN p) s = .stuck := by rfl
  simp only [pEq, e, Res.or, eqOwn, if_true, eq_ni]
theorem pMul_ii {a b : Int} (ha : a.natAbs < 2 ^ 200) (hb : b.natAbs < 2 ^ 200) : pMul (.int a) (.int b) s = .ok (.int (a * b)) s := by
  simp [pMul, mul_int a b s (small_Sm ha) (small_Sm hb), Res.or]
end
end K11
set_option Elab.async false
set_option linter.all false
set_option maxRecDepth 100000
set_option maxHeartbeats 2000000
set_option exponentiation.threshold 5000
namespace K11
open Pm PySem
theorem cutOk_app : ∀ (a b : List Cell), cutOk (a ++ b) = (cutOk a && cutOk b)
  | [], b => by simp [cutOk]
  | .lst ds :: cs, b => by simp [cutOk, cutOk_app cs b, Bool.and_assoc]
  | .ins c ds :: cs, b => by simp [cutOk, cutOk_app cs b, Bool.and_assoc]
  | .dead :: cs, b => by simp [cutOk, cutOk_app cs b]
theorem fine_app {a b : S} (h : Fine a) (h2 : cutOk b = true) : Fine (a ++ b) := by
  unfold Fine at *
  rw [cutOk_app, h, h2]
  rfl
theorem pure_ns : ∀ ps : List (Int × Int), pureL (ps.map dN) = true
  | [] => rfl
  | p :: ps => by simp [pureL, pureD, pure_ns ps]
theorem pure_ps : ∀ ps : List (Int × Int), pureL (ps.map dP) = true
  | [] => rfl
  | p :: ps => by simp [pureL, pureD, pure_ps ps]
section
variable {p q r1 r2 : Int × Int} {s : S} {n : Int} {t8 t9 t10 t11 : Option D}
theorem pairs_comp (e0 : Pm.Env) (he : e0.length = 2) : ∀ (ps : List (Int × Int)) (s : S), compL [1] (tName 1) mYes (mCallD (n := 1) [] m_law_pair (aCons (mVar 1) aNil)) (ps.map dN) e0 s = .ok (ps.map dP) s
  | [], s => rfl
  | p :: ps, s => by
    obtain ⟨a, b, rfl⟩ : ∃ a b, e0 = [a, b] := by
      match e0, he with
      | [a, b], _ => exact ⟨a, b, rfl⟩
    have ih := pairs_comp [a, b] rfl ps s
    have h1 : mCallD (n := 1) [] m_law_pair (aCons (mVar 1) aNil) [a, some (dN p)] s = .ok (dP p) s := call1 (d := dN p) rfl
    simp only [List.map_cons, compL, tName, wipeE, List.set, mYes, noexn, Res.bind_ok, if_true, h1, ih]
theorem pairs_ok (ps : List (Int × Int)) (h : ps.length ≤ line) : m_law_pairs [.lst (ps.map dN)] s = .ok (.lst (ps.map dP)) s := by
  refine run1 (ret_ok ?_)
  have t : mB (mCall (bIs 1) (aCons (mVar 0) (aCons (mC (.ty .list)) aNil))) ([some (.lst (ps.map dN))] ++ List.replicate (2 - 1) none) s = .ok true s := by rfl
  have c := pairs_comp ([some (.lst (ps.map dN))] ++ List.replicate (2 - 1) none) rfl ps s
  have i : iLst (mVar 0) ([some (.lst (ps.map dN))] ++ List.replicate (2 - 1) none) s = .ok (ps.map dN) s := by rfl
  rw [mIf, t, Res.bind_ok, if_pos rfl, mCompF, i, Res.bind_ok, if_pos (by simpa using h), c]
  rfl
def E2 (r1 r2 : Int × Int) (n : Int) (p q : Int × Int) (t8 t9 t10 t11 : Option D) : Pm.Env := [some (dP r1), some (dP r2), some (.int n), some (dN p), some (dN q), some (dP p), some (dP q), some (dP (n, 1)), t8, t9, t10, t11]
theorem acc {m : Pm.Env → S → Res D} {mr : Pm.Env → S → Res (List D)} {e : Pm.Env} {a : D} {l : List D} (h : m e s = .ok a s) (h2 : mr e s = .ok l s) : aCons m mr e s = .ok (a :: l) s := by simp [aCons, h, h2]
theorem acn {e : Pm.Env} : aNil e s = .ok [] s := rfl
theorem v2 (i j : Nat) {e : Pm.Env} {a b : D} (h : e[i]? = some (some a)) (h2 : e[j]? = some (some b)) : aCons (mVar i) (aCons (mVar j) aNil) e s = .ok [a, b] s := by simp [aCons, mVar, h, h2, aNil]
def T7 (p q : Int × Int) (n : Int) : List (Int × Int) := [lo (p.1 * q.2 + q.1 * p.2) (p.2 * q.2), lo (p.1 * q.2 - q.1 * p.2) (p.2 * q.2), lo (p.1 * q.1) (p.2 * q.2), lo (p.1 * 1 + n * p.2) (p.2 * 1), lo (p.1 * 1 + n * p.2) (p.2 * 1), lo (p.1 * n) (p.2 * 1), lo (p.1 * n) (p.2 * 1)]
def T2 (p : Int × Int) (n : Int) : List (Int × Int) := [lo (-p.1 * 1 + n * p.2) (p.2 * 1), lo (p.1 * 1 - n * p.2) (p.2 * 1)]
def D5 (p q : Int × Int) (n : Int) : List (Int × Int) := [lo (p.1 * q.2 + q.1 * p.2) (p.2 * q.2), lo (p.1 * q.2 - q.1 * p.2) (p.2 * q.2), lo (p.1 * q.1) (p.2 * q.2), lo (p.1 * 1 + n * p.2) (p.2 * 1), lo (p.1 * 1 + n * p.2) (p.2 * 1)]
def D4 (p : Int × Int) (n : Int) : List (Int × Int) := [lo (p.1 * n) (p.2 * 1), lo (p.1 * n) (p.2 * 1), lo (n * p.2 - p.1 * 1) (1 * p.2), lo (p.1 * 1 - n * p.2) (p.2 * 1)]
theorem same9 (p q : Int × Int) (n : Int) : T7 p q n ++ T2 p n = D5 p q n ++ D4 p n := by
  have e1 : -p.1 * 1 + n * p.2 = n * p.2 - p.1 * 1 := by rw [Int.mul_one, Int.mul_one]; omega
  have e2 : p.2 * 1 = 1 * p.2 := by omega
  unfold T7 T2 D5 D4
  rw [e1]
  simp only [List.cons_append, List.nil_append]
  rw [show lo (n * p.2 - p.1 * 1) (p.2 * 1) = lo (n * p.2 - p.1 * 1) (1 * p.2) by rw [e2]]
def st2 : Pm.Env → S → Res Fl := (sSet 8 (mCell (aCons (m2 pAdd (mVar 3) (mVar 4)) (aCons (m2 pSub (mVar 3) (mVar 4)) (aCons (m2 pMul (mVar 3) (mVar 4)) (aCons (m2 pAdd (mVar 3) (mVar 2)) (aCons (m2 pAdd (mVar 2) (mVar 3)) (aCons (m2 pMul (mVar 3) (mVar 2)) (aCons (m2 pMul (mVar 2) (mVar 3)) aNil)))))))))
theorem st2_ok (f : Fine s) (lp : Low p) (lq : Low q) (zp : Sz p) (zq : Sz q) (hn : Nm n) : st2 (E2 r1 r2 n p q none none none none) s = .ok (.nx (E2 r1 r2 n p q (some (.cell s.length)) none none none)) (s ++ [.lst ((T7 p q n).map dN)]) := by
  have h : (aCons (m2 pAdd (mVar 3) (mVar 4)) (aCons (m2 pSub (mVar 3) (mVar 4)) (aCons (m2 pMul (mVar 3) (mVar 4)) (aCons (m2 pAdd (mVar 3) (mVar 2)) (aCons (m2 pAdd (mVar 2) (mVar 3)) (aCons (m2 pMul (mVar 3) (mVar 2)) (aCons (m2 pMul (mVar 2) (mVar 3)) aNil))))))) (E2 r1 r2 n p q none none none none) s = .ok ((T7 p q n).map dN) s :=
    acc (m2_of (a := dN p) (b := dN q) rfl rfl (pAdd_nn f lp lq zp zq)) (acc (m2_of (a := dN p) (b := dN q) rfl rfl (pSub_nn f lp lq zp zq)) (acc (m2_of (a := dN p) (b := dN q) rfl rfl (pMul_nn f lp lq zp zq))
      (acc (m2_of (a := dN p) (b := .int n) rfl rfl (pAdd_ni f lp zp hn)) (acc (m2_of (a := .int n) (b := dN p) rfl rfl (pAdd_in f lp zp hn)) (acc (m2_of (a := dN p) (b := .int n) rfl rfl (pMul_ni f lp zp hn)) (acc (m2_of (a := .int n) (b := dN p) rfl rfl (pMul_in f lp zp hn)) acn))))))
  rw [st2, sSet, mCell, h]
  rfl
theorem get_last {c : Cell} : (s ++ [c])[s.length]? = some c := by simp
theorem set_last {c c' : Cell} : (s ++ [c]).set s.length c' = s ++ [c'] := by simp
def st3 : Pm.Env → S → Res Fl := (sFrz 8 (sExpr (mtCell extF (mVar 8) (aCons (mLst (aCons (m2 pSub (mVar 2) (mVar 3)) (aCons (m2 pSub (mVar 3) (mVar 2)) aNil))) aNil))))
/-- a cell is extended by a list, and stands still -/
theorem ext_frz (i : Nat) {mr : Pm.Env → S → Res (List D)} {e : Pm.Env} {xs ys : List D} (he : e[i]? = some (some (.cell s.length))) (hm : mr e (s ++ [.lst xs]) = .ok ys (s ++ [.lst xs])) (hl : ys.length ≤ 1000) (hl2 : xs.length ≤ 1000) :
    sFrz i (sExpr (mtCell extF (mVar i) (aCons (mLst mr) aNil))) e (s ++ [.lst xs]) = .ok (.nx (e.set i (some (.lst (xs ++ ys))))) (s ++ [.dead]) := by
  have h1 : ys.length ≤ line := by unfold line; omega
  have h2 : xs.length + ys.length ≤ line := by unfold line; omega
  have hv : mVar i e (s ++ [.lst xs]) = .ok (.cell s.length) (s ++ [.lst xs]) := by simp [mVar, he]
  have ha : aCons (mLst mr) aNil e (s ++ [.lst xs]) = .ok [.lst ys] (s ++ [.lst xs]) := by simp [aCons, mLst, hm, newL, h1, aNil]
  have ht : mtCell extF (mVar i) (aCons (mLst mr) aNil) e (s ++ [.lst xs]) = .ok .non (s ++ [.lst (xs ++ ys)]) := by
    rw [mtCell, hv, Res.bind_ok]
    dsimp only
    rw [get_last]
    dsimp only
    rw [ha, Res.bind_ok]
    rw [get_last]
    simp [extF, h2]
  rw [sFrz, sExpr, ht]
  simp only [Res.bind_ok, he]
  rw [get_last]
  dsimp only
  rw [set_last]
theorem st3_ok (f : Fine s) (lp : Low p) (zp : Sz p) (hn : Nm n) : st3 (E2 r1 r2 n p q (some (.cell s.length)) none none none) (s ++ [.lst ((T7 p q n).map dN)]) = .ok (.nx (E2 r1 r2 n p q (some (.lst ((T7 p q n ++ T2 p n).map dN))) none none none)) (s ++ [.dead]) := by
  have f2 : Fine (s ++ [.lst ((T7 p q n).map dN)]) := fine_app f (by simp [cutOk, pure_ns])
  have hm : (aCons (m2 pSub (mVar 2) (mVar 3)) (aCons (m2 pSub (mVar 3) (mVar 2)) aNil)) (E2 r1 r2 n p q (some (.cell s.length)) none none none) (s ++ [.lst ((T7 p q n).map dN)]) = .ok ((T2 p n).map dN) (s ++ [.lst ((T7 p q n).map dN)]) :=
    acc (m2_of (a := .int n) (b := dN p) rfl rfl (pSub_in f2 lp zp hn)) (acc (m2_of (a := dN p) (b := .int n) rfl rfl (pSub_ni f2 lp zp hn)) acn)
  have := ext_frz 8 (e := E2 r1 r2 n p q (some (.cell s.length)) none none none) rfl hm (by simp [T2]) (by simp [T7])
  rw [st3, this, List.map_append]
  rfl
def st4 : Pm.Env → S → Res Fl := (sSet 9 (mCell (aCons (mCallD (n := 2) [] m_law_sum (aCons (mVar 5) (aCons (mVar 6) aNil))) (aCons (mCallD (n := 2) [] m_law_less (aCons (mVar 5) (aCons (mVar 6) aNil))) (aCons (mCallD (n := 2) [] m_law_by (aCons (mVar 5) (aCons (mVar 6) aNil))) (aCons (mCallD (n := 2) [] m_law_sum (aCons (mVar 5) (aCons (mVar 7) aNil))) (aCons (mCallD (n := 2) [] m_law_sum (aCons (mVar 5) (aCons (mVar 7) aNil))) aNil)))))))
def st5 : Pm.Env → S → Res Fl := (sFrz 9 (sExpr (mtCell extF (mVar 9) (aCons (mLst (aCons (mCallD (n := 2) [] m_law_by (aCons (mVar 5) (aCons (mVar 7) aNil))) (aCons (mCallD (n := 2) [] m_law_by (aCons (mVar 5) (aCons (mVar 7) aNil))) (aCons (mCallD (n := 2) [] m_law_less (aCons (mVar 7) (aCons (mVar 5) aNil))) (aCons (mCallD (n := 2) [] m_law_less (aCons (mVar 5) (aCons (mVar 7) aNil))) aNil))))) aNil))))
theorem st4_ok (lp : Low p) (lq : Low q) (zp : Sz p) (zq : Sz q) (hn : Nm n) : st4 (E2 r1 r2 n p q t8 none none none) s = .ok (.nx (E2 r1 r2 n p q t8 (some (.cell s.length)) none none)) (s ++ [.lst ((D5 p q n).map dP)]) := by
  have o2 : Sm (1 : Int) := one_Sm
  have h : (aCons (mCallD (n := 2) [] m_law_sum (aCons (mVar 5) (aCons (mVar 6) aNil))) (aCons (mCallD (n := 2) [] m_law_less (aCons (mVar 5) (aCons (mVar 6) aNil))) (aCons (mCallD (n := 2) [] m_law_by (aCons (mVar 5) (aCons (mVar 6) aNil))) (aCons (mCallD (n := 2) [] m_law_sum (aCons (mVar 5) (aCons (mVar 7) aNil))) (aCons (mCallD (n := 2) [] m_law_sum (aCons (mVar 5) (aCons (mVar 7) aNil))) aNil))))) (E2 r1 r2 n p q t8 none none none) s = .ok ((D5 p q n).map dP) s :=
    acc (call2_ok (v2 5 6 rfl rfl) (lsum_ok (zSm zp).1 (zSm zp).2 (zSm zq).1 (zSm zq).2 (Int.mul_ne_zero (nz lp) (nz lq)) (szmul zp.b zq.b)))
      (acc (call2_ok (v2 5 6 rfl rfl) (lless_ok (zSm zp).1 (zSm zp).2 (zSm zq).1 (zSm zq).2 (Int.mul_ne_zero (nz lp) (nz lq)) (szmul zp.b zq.b)))
      (acc (call2_ok (v2 5 6 rfl rfl) (lby_ok (zSm zp).1 (zSm zp).2 (zSm zq).1 (zSm zq).2 (Int.mul_ne_zero (nz lp) (nz lq)) (szmul zp.b zq.b)))
      (acc (call2_ok (v2 5 7 rfl rfl) (lsum_ok (q := (n, 1)) (zSm zp).1 (zSm zp).2 (small_Sm hn) o2 (by simpa using nz lp) (by simpa using (zSm zp).2)))
      (acc (call2_ok (v2 5 7 rfl rfl) (lsum_ok (q := (n, 1)) (zSm zp).1 (zSm zp).2 (small_Sm hn) o2 (by simpa using nz lp) (by simpa using (zSm zp).2))) acn))))
  rw [st4, sSet, mCell, h]
  rfl
theorem st5_ok (lp : Low p) (zp : Sz p) (hn : Nm n) : st5 (E2 r1 r2 n p q t8 (some (.cell s.length)) none none) (s ++ [.lst ((D5 p q n).map dP)]) = .ok (.nx (E2 r1 r2 n p q t8 (some (.lst ((D5 p q n ++ D4 p n).map dP))) none none)) (s ++ [.dead]) := by
  have o2 : Sm (1 : Int) := one_Sm
  have hby : ∀ s : S, mCallD (n := 2) [] m_law_by (aCons (mVar 5) (aCons (mVar 7) aNil)) (E2 r1 r2 n p q t8 (some (.cell s.length)) none none) s = .ok (dP (lo (p.1 * n) (p.2 * 1))) s := fun s => call2_ok (v2 5 7 rfl rfl) (lby_ok (q := (n, 1)) (zSm zp).1 (zSm zp).2 (small_Sm hn) o2 (by simpa using nz lp) (by simpa using (zSm zp).2))
  have hm : ∀ s2 : S, (aCons (mCallD (n := 2) [] m_law_by (aCons (mVar 5) (aCons (mVar 7) aNil))) (aCons (mCallD (n := 2) [] m_law_by (aCons (mVar 5) (aCons (mVar 7) aNil))) (aCons (mCallD (n := 2) [] m_law_less (aCons (mVar 7) (aCons (mVar 5) aNil))) (aCons (mCallD (n := 2) [] m_law_less (aCons (mVar 5) (aCons (mVar 7) aNil))) aNil)))) (E2 r1 r2 n p q t8 (some (.cell s.length)) none none) s2 = .ok ((D4 p n).map dP) s2 := fun s2 =>
    acc (call2_ok (v2 5 7 rfl rfl) (lby_ok (q := (n, 1)) (zSm zp).1 (zSm zp).2 (small_Sm hn) o2 (by simpa using nz lp) (by simpa using (zSm zp).2)))
      (acc (call2_ok (v2 5 7 rfl rfl) (lby_ok (q := (n, 1)) (zSm zp).1 (zSm zp).2 (small_Sm hn) o2 (by simpa using nz lp) (by simpa using (zSm zp).2)))
      (acc (call2_ok (v2 7 5 rfl rfl) (lless_ok (p := (n, 1)) (q := p) (small_Sm hn) o2 (zSm zp).1 (zSm zp).2 (by simpa using nz lp) (by simpa using (zSm zp).2)))
      (acc (call2_ok (v2 5 7 rfl rfl) (lless_ok (q := (n, 1)) (zSm zp).1 (zSm zp).2 (small_Sm hn) o2 (by simpa using nz lp) (by simpa using (zSm zp).2))) acn)))
  have := ext_frz 9 (e := E2 r1 r2 n p q t8 (some (.cell s.length)) none none) (xs := (D5 p q n).map dP) rfl (hm _) (by simp [D4]) (by simp [D5])
  rw [st5, this, List.map_append]
  rfl
end
end K11
set_option Elab.async false
set_option linter.all false
set_option maxRecDepth 100000
set_option maxHeartbeats 2000000
set_option exponentiation.threshold 5000
namespace K11
open Pm PySem
section
variable {p q r1 r2 : Int × Int} {s : S} {n : Int} {t8 t9 t10 t11 : Option D} {e : Pm.Env} {d : D}
theorem ne5 (a b c x y : Bool) : pNe (.lst [.bl a, .bl b, .bl c, .bl x, .bl y]) (.lst [.bl a, .bl b, .bl c, .bl x, .bl y]) s = .ok (.bl false) s := by
  cases a <;> cases b <;> cases c <;> cases x <;> cases y <;> rfl
theorem eq4 (a b c x : Bool) : pEq (.lst [.bl a, .bl b, .bl c, .bl x]) (.lst [.bl a, .bl b, .bl c, .bl x]) s = .ok (.bl true) s := by
  cases a <;> cases b <;> cases c <;> cases x <;> rfl
theorem meth2 {f : List D → S → Res D} (i j : Nat) (hi : e[i]? = some (some (dN p))) (hj : e[j]? = some (some d)) : mMeth (n := 2) 0 [] f (mVar i) (aCons (mVar j) aNil) e s = f [dN p, d] s := by
  simp [mMeth, mVar, hi, hj, aCons, aNil]
theorem methk2 {f : List D → S → Res D} (i j : Nat) (hi : e[i]? = some (some (dN p))) (hj : e[j]? = some (some d)) : mMethK 0 2 f (mVar i) (aCons (mVar j) aNil) e s = f [dN p, d] s := by
  simp [mMethK, mVar, hi, hj, aCons, aNil]
theorem lst2 {m1 m2 : Pm.Env → S → Res D} {a b : D} (h1 : m1 e s = .ok a s) (h2 : m2 e s = .ok b s) : mLst (aCons m1 (aCons m2 aNil)) e s = .ok (.lst [a, b]) s := by
  rw [mLst, acc h1 (acc h2 acn)]; rfl
theorem and_no {t u : Pm.Env → S → Res Bool} {b : Bool} (h : t e s = .ok b s) (h2 : b = true → u e s = .ok false s) : mAndT t u e s = .ok false s := by
  cases b with
  | false => simp [mAndT, h]
  | true => simp [mAndT, h, h2 rfl]
abbrev E (p q r1 r2 : Int × Int) (n : Int) (t8 t9 t10 t11 : Option D) := E2 r1 r2 n p q t8 t9 t10 t11
theorem st6 (ps : List (Int × Int)) (h : ps.length ≤ 1000) : sIf (mB (m2 pNe (mCallD (n := 1) [] m_law_pairs (aCons (mVar 8) aNil)) (mVar 9))) (sRet (mC (.bl false))) sNext (E2 r1 r2 n p q (some (.lst (ps.map dN))) (some (.lst (ps.map dP))) t10 t11) s = .ok (.nx (E2 r1 r2 n p q (some (.lst (ps.map dN))) (some (.lst (ps.map dP))) t10 t11)) s := by
  refine if_no (mB_of (m2_of (a := .lst (ps.map dP)) (b := .lst (ps.map dP)) ?_ rfl (ne_pairs ps)))
  rw [call1 (d := .lst (ps.map dN)) rfl]
  exact pairs_ok ps (by unfold line; omega)
theorem st7 (f : Fine s) (lp : Low p) (lq : Low q) (zp : Sz p) (zq : Sz q) : sIf (mAndT (mB (m2 pNe (m2 ixD (mVar 6) (mC (.int 0))) (mC (.int 0)))) (mB (m2 pNe (mLst (aCons (mCallD (n := 1) [] m_law_pair (aCons (mMeth (n := 2) 0 [] m_c0_over (mVar 3) (aCons (mVar 4) aNil)) aNil)) (aCons (mCallD (n := 1) [] m_law_pair (aCons (mMethK 0 2 m_c0_over (mVar 3) (aCons (mVar 4) aNil)) aNil)) aNil))) (m2 pMul (mLst (aCons (mCallD (n := 2) [] m_law_over (aCons (mVar 5) (aCons (mVar 6) aNil))) aNil)) (mC (.int 2)))))) (sRet (mC (.bl false))) sNext (E2 r1 r2 n p q t8 t9 t10 t11) s = .ok (.nx (E2 r1 r2 n p q t8 t9 t10 t11)) s := by
  refine if_no (and_no (mB_of (m2_of (ixv 6 0 (a := dP q) rfl ix0) rfl (ne_i 0))) fun hq => mB_of ?_)
  have hq0 : q.1 ≠ 0 := by simpa using hq
  have ho := over_ok (p := p) (pt_n q) f (zSm zp).1 (zSm zp).2 (zSm zq).1 (zSm zq).2 hq0 (Int.mul_ne_zero (nz lp) hq0) (szmul zp.b zq.a)
  have hl := lover_ok (p := p) (q := q) (s := s) (zSm zp).1 (zSm zp).2 (zSm zq).1 (zSm zq).2 (Int.mul_ne_zero (nz lp) hq0) (szmul zp.b zq.a)
  refine m2_of (a := .lst ([lo (p.1 * q.2) (p.2 * q.1), lo (p.1 * q.2) (p.2 * q.1)].map dP)) (b := .lst ([lo (p.1 * q.2) (p.2 * q.1), lo (p.1 * q.2) (p.2 * q.1)].map dP)) ?_ ?_ (ne_pairs _)
  · refine lst2 (call1 (d := dN (lo (p.1 * q.2) (p.2 * q.1))) ?_) (call1 (d := dN (lo (p.1 * q.2) (p.2 * q.1))) ?_)
    · rw [meth2 3 4 (p := p) (d := dN q) rfl rfl]; exact ho
    · rw [methk2 3 4 (p := p) (d := dN q) rfl rfl]; exact ho
  · refine m2_of (a := .lst [dP (lo (p.1 * q.2) (p.2 * q.1))]) (b := .int 2) ?_ rfl (by rfl)
    rw [mLst, acc (call2_ok (v2 5 6 rfl rfl) hl) acn]
    rfl
theorem st8 (f : Fine s) (lp : Low p) (zp : Sz p) (hn : Nm n) : sIf (mAndT (mB (m2 pNe (mVar 2) (mC (.int 0)))) (mB (m2 pNe (mCallD (n := 1) [] m_law_pair (aCons (mMeth (n := 2) 0 [] m_c0_over (mVar 3) (aCons (mVar 2) aNil)) aNil)) (mCallD (n := 2) [] m_law_over (aCons (mVar 5) (aCons (mVar 7) aNil)))))) (sRet (mC (.bl false))) sNext (E2 r1 r2 n p q t8 t9 t10 t11) s = .ok (.nx (E2 r1 r2 n p q t8 t9 t10 t11)) s := by
  refine if_no (and_no (mB_of (m2_of (a := .int n) (b := .int 0) rfl rfl (ne_i 0))) fun hq => mB_of ?_)
  have hq0 : n ≠ 0 := by simpa using hq
  have o2 : Sm (1 : Int) := one_Sm
  have ho := over_ok (p := p) (pt_i n) f (zSm zp).1 (zSm zp).2 (small_Sm hn) o2 hq0 (Int.mul_ne_zero (nz lp) hq0) (szmul zp.b hn)
  have hl := lover_ok (p := p) (q := (n, 1)) (s := s) (zSm zp).1 (zSm zp).2 (small_Sm hn) o2 (Int.mul_ne_zero (nz lp) hq0) (szmul zp.b hn)
  refine m2_of (a := dP (lo (p.1 * 1) (p.2 * n))) (b := dP (lo (p.1 * 1) (p.2 * n))) (call1 (d := dN (lo (p.1 * 1) (p.2 * n))) ?_) (call2_ok (v2 5 7 rfl rfl) hl) ?_
  · rw [meth2 3 2 (p := p) (d := .int n) rfl rfl]; exact ho
  · rw [ne_pair]; simp
theorem pp (f : D → D → S → Res D) (i j k l : Nat) (u v : Int) {a b x y : D} {a1 b1 c1 d1 : Int} {g : Int → Int → D} (hi : e[i]? = some (some a)) (hj : e[j]? = some (some b)) (hk : e[k]? = some (some x)) (hl : e[l]? = some (some y))
    (h1 : ixD a (.int u) s = .ok (.int a1) s) (h2 : ixD b (.int v) s = .ok (.int b1) s) (h3 : ixD x (.int u) s = .ok (.int c1) s) (h4 : ixD y (.int v) s = .ok (.int d1) s)
    (z1 : a1.natAbs < 2 ^ 200) (z2 : b1.natAbs < 2 ^ 200) (z3 : c1.natAbs < 2 ^ 200) (z4 : d1.natAbs < 2 ^ 200) (hf : ∀ i j, f (.int i) (.int j) s = .ok (g i j) s) :
    m2 f (m2 pMul (m2 ixD (mVar i) (mC (.int u))) (m2 ixD (mVar j) (mC (.int v)))) (m2 pMul (m2 ixD (mVar k) (mC (.int u))) (m2 ixD (mVar l) (mC (.int v)))) e s = .ok (g (a1 * b1) (c1 * d1)) s :=
  m2_of (m2_of (ixv i u hi h1) (ixv j v hj h2) (pMul_ii z1 z2)) (m2_of (ixv k u hk h3) (ixv l v hl h4) (pMul_ii z3 z4)) (hf _ _)
theorem st9 (zp : Sz p) (zq : Sz q) : sSet 10 (m2 ltI (m2 pMul (m2 ixD (mVar 5) (mC (.int 0))) (m2 ixD (mVar 6) (mC (.int 1)))) (m2 pMul (m2 ixD (mVar 6) (mC (.int 0))) (m2 ixD (mVar 5) (mC (.int 1))))) (E2 r1 r2 n p q t8 t9 t10 t11) s = .ok (.nx (E2 r1 r2 n p q t8 t9 (some (.bl (decide (p.1 * q.2 < q.1 * p.2)))) t11)) s := by
  rw [sSet, pp ltI 5 6 6 5 0 1 (g := fun i j => .bl (decide (i < j))) (a := dP p) (b := dP q) (x := dP q) (y := dP p) rfl rfl rfl rfl ix0 ix1 ix0 ix1 zp.a zq.b zq.a zp.b fun _ _ => rfl]
  rfl
theorem st11 (zp : Sz p) (zq : Sz q) : sSet 11 (m2 gtI (m2 pMul (m2 ixD (mVar 5) (mC (.int 0))) (m2 ixD (mVar 6) (mC (.int 1)))) (m2 pMul (m2 ixD (mVar 6) (mC (.int 0))) (m2 ixD (mVar 5) (mC (.int 1))))) (E2 r1 r2 n p q t8 t9 t10 t11) s = .ok (.nx (E2 r1 r2 n p q t8 t9 t10 (some (.bl (decide (q.1 * p.2 < p.1 * q.2)))))) s := by
  rw [sSet, pp gtI 5 6 6 5 0 1 (g := fun i j => .bl (decide (j < i))) (a := dP p) (b := dP q) (x := dP q) (y := dP p) rfl rfl rfl rfl ix0 ix1 ix0 ix1 zp.a zq.b zq.a zp.b fun _ _ => rfl]
  rfl
def five (p q : Int × Int) : D := .lst [.bl (decide (p.1 * q.2 < q.1 * p.2)), .bl (decide (q.1 * p.2 < p.1 * q.2)), .bl (decide (p.1 * q.2 ≤ q.1 * p.2)), .bl (decide (p = q)), .bl (!decide (p = q))]
theorem st10 (zp : Sz p) (zq : Sz q) : sSet 8 (mLst (aCons (mMeth (n := 2) 0 [] m_c0_is_below (mVar 3) (aCons (mVar 4) aNil)) (aCons (mMeth (n := 2) 0 [] m_c0_is_below (mVar 4) (aCons (mVar 3) aNil)) (aCons (mMeth (n := 2) 0 [] m_c0_is_at_most (mVar 3) (aCons (mVar 4) aNil)) (aCons (m2 pEq (mVar 3) (mVar 4)) (aCons (m2 pNe (mVar 3) (mVar 4)) aNil)))))) (E2 r1 r2 n p q t8 t9 t10 t11) s = .ok (.nx (E2 r1 r2 n p q (some (five p q)) t9 t10 t11)) s := by
  have h1 := below_ok (p := p) (s := s) (pt_n q) (zSm zp).1 (zSm zp).2 (zSm zq).1 (zSm zq).2
  have h2 := below_ok (p := q) (s := s) (pt_n p) (zSm zq).1 (zSm zq).2 (zSm zp).1 (zSm zp).2
  have h3 := atmost_ok (p := p) (s := s) (pt_n q) (zSm zp).1 (zSm zp).2 (zSm zq).1 (zSm zq).2
  rw [sSet, mLst, acc (meth2 3 4 (p := p) (d := dN q) rfl rfl |>.trans h1) (acc (meth2 4 3 (p := q) (d := dN p) rfl rfl |>.trans h2) (acc (meth2 3 4 (p := p) (d := dN q) rfl rfl |>.trans h3) (acc (m2_of (a := dN p) (b := dN q) rfl rfl pEq_nn) (acc (m2_of (a := dN p) (b := dN q) rfl rfl pNe_nn) acn))))]
  rfl
theorem st12 : sIf (mB (m2 pNe (mVar 8) (mLst (aCons (mVar 10) (aCons (mVar 11) (aCons (mNot (mVar 11)) (aCons (m2 pEq (mVar 5) (mVar 6)) (aCons (m2 pNe (mVar 5) (mVar 6)) aNil)))))))) (sRet (mC (.bl false))) sNext
    (E2 r1 r2 n p q (some (five p q)) t9 (some (.bl (decide (p.1 * q.2 < q.1 * p.2)))) (some (.bl (decide (q.1 * p.2 < p.1 * q.2))))) s = .ok (.nx (E2 r1 r2 n p q (some (five p q)) t9 (some (.bl (decide (p.1 * q.2 < q.1 * p.2)))) (some (.bl (decide (q.1 * p.2 < p.1 * q.2)))))) s := by
  have hx : decide (p.1 * q.2 ≤ q.1 * p.2) = !decide (q.1 * p.2 < p.1 * q.2) := by
    by_cases h : q.1 * p.2 < p.1 * q.2
    · rw [decide_eq_true h, decide_eq_false (by omega)]; rfl
    · rw [decide_eq_false h, decide_eq_true (by omega)]; rfl
  refine if_no (mB_of (m2_of (a := five p q) (b := five p q) rfl ?_ (ne5 _ _ _ _ _)))
  have h5 : m2 pEq (mVar 5) (mVar 6) (E2 r1 r2 n p q (some (five p q)) t9 (some (.bl (decide (p.1 * q.2 < q.1 * p.2)))) (some (.bl (decide (q.1 * p.2 < p.1 * q.2))))) s = .ok (.bl (decide (p = q))) s := m2_of (a := dP p) (b := dP q) rfl rfl eq_pair
  have h6 : m2 pNe (mVar 5) (mVar 6) (E2 r1 r2 n p q (some (five p q)) t9 (some (.bl (decide (p.1 * q.2 < q.1 * p.2)))) (some (.bl (decide (q.1 * p.2 < p.1 * q.2))))) s = .ok (.bl (!decide (p = q))) s := m2_of (a := dP p) (b := dP q) rfl rfl ne_pair
  rw [mLst, acc (a := .bl (decide (p.1 * q.2 < q.1 * p.2))) rfl (acc (a := .bl (decide (q.1 * p.2 < p.1 * q.2))) rfl (acc (a := .bl (!decide (q.1 * p.2 < p.1 * q.2))) rfl (acc h5 (acc h6 acn)))), five, hx]
  rfl
def four (p : Int × Int) (n : Int) : D := .lst [.bl (decide (p.1 * 1 < n * p.2)), .bl (decide (p.1 * 1 ≤ n * p.2)), .bl false, .bl false]
theorem st13 (zp : Sz p) (hn : Nm n) : sSet 8 (mLst (aCons (mMeth (n := 2) 0 [] m_c0_is_below (mVar 3) (aCons (mVar 2) aNil)) (aCons (mMeth (n := 2) 0 [] m_c0_is_at_most (mVar 3) (aCons (mVar 2) aNil)) (aCons (m2 pEq (mVar 3) (mVar 2)) (aCons (m2 pEq (mVar 2) (mVar 3)) aNil))))) (E2 r1 r2 n p q t8 t9 t10 t11) s = .ok (.nx (E2 r1 r2 n p q (some (four p n)) t9 t10 t11)) s := by
  have o2 : Sm (1 : Int) := one_Sm
  have h1 := below_ok (p := p) (s := s) (pt_i n) (zSm zp).1 (zSm zp).2 (small_Sm hn) o2
  have h3 := atmost_ok (p := p) (s := s) (pt_i n) (zSm zp).1 (zSm zp).2 (small_Sm hn) o2
  rw [sSet, mLst, acc (meth2 3 2 (p := p) (d := .int n) rfl rfl |>.trans h1) (acc (meth2 3 2 (p := p) (d := .int n) rfl rfl |>.trans h3) (acc (m2_of (a := dN p) (b := .int n) rfl rfl pEq_ni) (acc (m2_of (a := .int n) (b := dN p) rfl rfl pEq_in) acn)))]
  rfl
theorem st14 (zp : Sz p) (hn : Nm n) : sRet (m2 pEq (mVar 8) (mLst (aCons (m2 ltI (m2 ixD (mVar 5) (mC (.int 0))) (m2 pMul (mVar 2) (m2 ixD (mVar 5) (mC (.int 1))))) (aCons (m2 leI (m2 ixD (mVar 5) (mC (.int 0))) (m2 pMul (mVar 2) (m2 ixD (mVar 5) (mC (.int 1))))) (aCons (mC (.bl false)) (aCons (mC (.bl false)) aNil)))))) (E2 r1 r2 n p q (some (four p n)) t9 t10 t11) s = .ok (.rt (.bl true)) s := by
  refine ret_ok (m2_of (a := four p n) (b := four p n) rfl ?_ (eq4 _ _ _ _))
  have hm : m2 pMul (mVar 2) (m2 ixD (mVar 5) (mC (.int 1))) (E2 r1 r2 n p q (some (four p n)) t9 t10 t11) s = .ok (.int (n * p.2)) s := m2_of (a := .int n) (b := .int p.2) rfl (ixv 5 1 (a := dP p) rfl ix1) (pMul_ii hn zp.b)
  have hi : m2 ixD (mVar 5) (mC (.int 0)) (E2 r1 r2 n p q (some (four p n)) t9 t10 t11) s = .ok (.int p.1) s := ixv 5 0 (a := dP p) rfl ix0
  rw [mLst, acc (m2_of hi hm (r := .bl (decide (p.1 < n * p.2))) rfl) (acc (m2_of hi hm (r := .bl (decide (p.1 ≤ n * p.2))) rfl) (acc (a := .bl false) rfl (acc (a := .bl false) rfl acn))), four, Int.mul_one]
  rfl
theorem two_right (f : Fine s) {t b u c : Int} (hb : b ≠ 0) (hc : c ≠ 0) (z : Sz (t, b)) (z2 : Sz (u, c)) (hn : Nm n) : m_law_two_right [dP (t, b), dP (u, c), .int n] s = .ok (.bl true) s := by
  have lp := low_lo (t := t) hb
  have lq := low_lo (t := u) hc
  have zp := z.lo hb
  have zq := z2.lo hc
  have f1 : Fine (s ++ [.dead]) := fine_app f rfl
  have f2 : Fine (s ++ [.dead] ++ [.dead]) := fine_app f1 rfl
  have i00 : ∀ x : List (Option D), m2 ixD (mVar 0) (mC (.int 0)) (some (dP (t, b)) :: x) s = .ok (.int t) s := fun x => ixv 0 0 (a := dP (t, b)) rfl ix0
  have i01 : ∀ x : List (Option D), m2 ixD (mVar 0) (mC (.int 1)) (some (dP (t, b)) :: x) s = .ok (.int b) s := fun x => ixv 0 1 (a := dP (t, b)) rfl ix1
  have i10 : ∀ (y : Option D) (x : List (Option D)), m2 ixD (mVar 1) (mC (.int 0)) (y :: some (dP (u, c)) :: x) s = .ok (.int u) s := fun y x => ixv 1 0 (a := dP (u, c)) rfl ix0
  have i11 : ∀ (y : Option D) (x : List (Option D)), m2 ixD (mVar 1) (mC (.int 1)) (y :: some (dP (u, c)) :: x) s = .ok (.int c) s := fun y x => ixv 1 1 (a := dP (u, c)) rfl ix1
  have run : b_law_two_right [some (dP (t, b)), some (dP (u, c)), some (.int n), none, none, none, none, none, none, none, none, none] s = .ok (.rt (.bl true)) (s ++ [.dead] ++ [.dead]) := by
    refine (seq_ok (e1 := [some (dP (t, b)), some (dP (u, c)), some (.int n), some (dN (lo t b)), some (dN (lo u c)), none, none, none, none, none, none, none]) (s1 := s) ?_).trans ((seq_ok (e1 := E2 (t, b) (u, c) n (lo t b) (lo u c) none none none none) (s1 := s) ?_).trans
      ((seq_ok (st2_ok f lp lq zp zq hn)).trans ((seq_ok (st3_ok f lp zp hn)).trans ((seq_ok (st4_ok lp lq zp zq hn)).trans ((seq_ok (st5_ok lp zp hn)).trans ?_)))))
    · rw [sPar, ac2 (make_ok t b (ac2 (i00 _) (i01 _)) f hb (small_Sm z.b)) (make_ok u c (ac2 (i10 _ _) (i11 _ _)) f hc (small_Sm z2.b))]
      rfl
    · rw [sPar3, acc (call2_ok (ac2 (i00 _) (i01 _)) (low_ok t b s hb (small_Sm z.b))) (acc (call2_ok (ac2 (i10 _ _) (i11 _ _)) (low_ok u c s hc (small_Sm z2.b))) (acc (a := dP (n, 1)) (by rfl) acn))]
      rfl
    · rw [← same9]
      exact (seq_ok (st6 (T7 (lo t b) (lo u c) n ++ T2 (lo t b) n) (by simp [T7, T2]))).trans ((seq_ok (st7 f2 lp lq zp zq)).trans ((seq_ok (st8 f2 lp zp hn)).trans ((seq_ok (st9 zp zq)).trans ((seq_ok (st10 zp zq)).trans ((seq_ok (st11 zp zq)).trans ((seq_ok st12).trans ((seq_ok (st13 zp hn)).trans (st14 zp hn))))))))
  have tk : (s ++ [Cell.dead] ++ [Cell.dead]).take s.length = s := by simp
  have hf : cutOk s = true := f
  rw [show m_law_two_right [dP (t, b), dP (u, c), .int n] s = cutRes s.length (runBody 3 12 b_law_two_right [dP (t, b), dP (u, c), .int n] s) from rfl, runBody]
  have hl : [dP (t, b), dP (u, c), D.int n].length = 3 := rfl
  rw [if_pos hl]
  have he : (List.map some [dP (t, b), dP (u, c), D.int n] ++ List.replicate (12 - 3) none) = [some (dP (t, b)), some (dP (u, c)), some (.int n), none, none, none, none, none, none, none, none, none] := rfl
  rw [he, run, Res.bind_ok, cutRes, Res.bind_ok, tk, hf]
  rfl
end
end K11
set_option Elab.async false
set_option linter.all false
set_option maxRecDepth 100000
set_option maxHeartbeats 2000000
set_option exponentiation.threshold 5000
namespace K11
open Pm PySem
/-! totals -/
/-- a sum's steps -/
def tot : Int × Int → List (Int × Int) → Int × Int
  | a, [] => a
  | a, q :: qs => tot (lo (a.1 * q.2 + q.1 * a.2) (a.2 * q.2)) qs
def Bd (k : Nat) (p : Int × Int) : Prop := p.1.natAbs < 2 ^ k ∧ p.2.natAbs < 2 ^ k
theorem bd_step {k : Nat} {a q : Int × Int} (la : 0 < a.2) (lq : 0 < q.2) (ha : Bd k a) (hq : Sz q) : Bd (k + 201) (lo (a.1 * q.2 + q.1 * a.2) (a.2 * q.2)) ∧ Low (lo (a.1 * q.2 + q.1 * a.2) (a.2 * q.2)) := by
  have hb : a.2 * q.2 ≠ 0 := Int.mul_ne_zero (by omega) (by omega)
  obtain ⟨t', b', _, _, e, l, h1, h2⟩ := lo_eq (a.1 * q.2 + q.1 * a.2) (a.2 * q.2) hb
  rw [e]
  refine ⟨⟨?_, ?_⟩, l⟩
  · have m1 : (a.1 * q.2).natAbs < 2 ^ k * 2 ^ 200 := by rw [Int.natAbs_mul]; exact Nat.mul_lt_mul'' ha.1 hq.b
    have m2 : (q.1 * a.2).natAbs < 2 ^ k * 2 ^ 200 := by rw [Int.natAbs_mul, Nat.mul_comm]; exact Nat.mul_lt_mul'' ha.2 hq.a
    have hs : (a.1 * q.2 + q.1 * a.2).natAbs ≤ (a.1 * q.2).natAbs + (q.1 * a.2).natAbs := Int.natAbs_add_le _ _
    have hp : 2 ^ (k + 201) = 2 ^ k * 2 ^ 200 * 2 := by rw [Nat.pow_add, show (201 : Nat) = 200 + 1 from rfl, Nat.pow_succ, Nat.mul_assoc]
    show t'.natAbs < _
    rw [hp]
    omega
  · have m1 : (a.2 * q.2).natAbs < 2 ^ k * 2 ^ 200 := by rw [Int.natAbs_mul]; exact Nat.mul_lt_mul'' ha.2 hq.b
    have hp : 2 ^ (k + 201) = 2 ^ k * 2 ^ 200 * 2 := by rw [Nat.pow_add, show (201 : Nat) = 200 + 1 from rfl, Nat.pow_succ, Nat.mul_assoc]
    show b'.natAbs < _
    rw [hp]
    omega
theorem bd_Sm {k : Nat} {p : Int × Int} (h : Bd k p) (hk : k ≤ 3000) : Sm p.1 ∧ Sm p.2 :=
  ⟨Nat.lt_of_lt_of_le h.1 (Nat.pow_le_pow_right (by decide) (by omega)), Nat.lt_of_lt_of_le h.2 (Nat.pow_le_pow_right (by decide) (by omega))⟩
theorem bd_mul {k : Nat} {a q : Int × Int} (ha : Bd k a) (hq : Sz q) (hk : k ≤ 3000) : Sm (a.2 * q.2) := by
  unfold Sm
  rw [Int.natAbs_mul]
  have h1 : a.2.natAbs * q.2.natAbs < 2 ^ k * 2 ^ 200 := Nat.mul_lt_mul'' ha.2 hq.b
  have h2 : (2 : Nat) ^ k * 2 ^ 200 ≤ 2 ^ 4000 := by rw [← Nat.pow_add]; exact Nat.pow_le_pow_right (by decide) (by omega)
  omega
/-- numbers as they are told -/
inductive NumD : D → Int × Int → Prop
  | n (q : Int × Int) : NumD (dN q) q
  | i (i : Int) : NumD (.int i) (i, 1)
inductive Nums : List D → List (Int × Int) → Prop
  | nil : Nums [] []
  | cons {d : D} {q : Int × Int} {ds : List D} {qs : List (Int × Int)} : NumD d q → Nums ds qs → Nums (d :: ds) (q :: qs)
theorem Nums.map : ∀ qs : List (Int × Int), Nums (qs.map dN) qs
  | [] => .nil
  | q :: qs => .cons (.n q) (Nums.map qs)
theorem Nums.app {a b : List D} {p q : List (Int × Int)} (h : Nums a p) (h2 : Nums b q) : Nums (a ++ b) (p ++ q) := by
  induction h with
  | nil => exact h2
  | cons h1 _ ih => exact .cons h1 ih
section
variable {s : S}
theorem pAdd_num {k : Nat} {d : D} {a q : Int × Int} (f : Fine s) (hd : NumD d q) (la : 0 < a.2) (lq : 0 < q.2) (ha : Bd k a) (hq : Sz q) (hk : k ≤ 3000) : pAdd (dN a) d s = .ok (dN (lo (a.1 * q.2 + q.1 * a.2) (a.2 * q.2))) s := by
  have hb : a.2 * q.2 ≠ 0 := Int.mul_ne_zero (by omega) (by omega)
  obtain ⟨s1, s2⟩ := bd_Sm ha hk
  cases hd with
  | n q =>
    have e : addAll (dN a) (dN q) s = .stuck := by rfl
    have h := add_ok (p := a) (pt_n q) f s1 s2 (zSm hq).1 (zSm hq).2 hb (bd_mul ha hq hk)
    simp only [pAdd, e, Res.or, opOwn, and_self, if_true, h]
  | i i =>
    have e : addAll (dN a) (.int i) s = .stuck := by rfl
    have h := add_ok (p := a) (pt_i i) f s1 s2 (zSm hq).1 (zSm hq).2 hb (bd_mul ha hq hk)
    simp only [pAdd, e, Res.or, opOwn, if_true, h]
theorem tot_loop (f : Fine s) (c n : Option D) : ∀ (ds : List D) (qs : List (Int × Int)) (k : Nat) (a : Int × Int) (x : Option D), Nums ds qs → (∀ q ∈ qs, 0 < q.2 ∧ Sz q) → 0 < a.2 → Bd k a → k + 201 * ds.length ≤ 3000 →
    ∃ x', forL (tName 3) (sSet 2 (m2 pAdd (mVar 2) (mVar 3))) ds [c, n, some (dN a), x] s = .ok (.nx [c, n, some (dN (tot a qs)), x']) s
  | [], [], k, a, x, _, _, _, _, _ => ⟨x, rfl⟩
  | d :: ds, qs, k, a, x, h, hq, la, ha, hk => by
    cases h with
    | @cons _ q _ qs h1 h2 =>
      simp only [List.length_cons] at hk
      obtain ⟨lq, zq⟩ := hq q (by simp)
      obtain ⟨b1, l1⟩ := bd_step la lq ha zq
      have e := pAdd_num f h1 la lq ha zq (by omega)
      obtain ⟨x', hx⟩ := tot_loop f c n ds qs (k + 201) (lo (a.1 * q.2 + q.1 * a.2) (a.2 * q.2)) (some d) h2 (fun r hr => hq r (by simp [hr])) l1.pos b1 (by omega)
      refine ⟨x', ?_⟩
      have st : sSet 2 (m2 pAdd (mVar 2) (mVar 3)) [c, n, some (dN a), some d] s = .ok (.nx [c, n, some (dN (lo (a.1 * q.2 + q.1 * a.2) (a.2 * q.2))), some d]) s := by
        rw [sSet, m2_of (a := dN a) (b := d) rfl rfl e]
        rfl
      simp only [forL, tName, List.set, st, Res.bind_ok]
      exact hx
theorem lo01 : lo 0 1 = (0, 1) := by decide
theorem total_ok (f : Fine s) {d : D} {ds : List D} {qs : List (Int × Int)} (hd : d = .lst ds ∨ d = .tup ds) (h : Nums ds qs) (hq : ∀ q ∈ qs, 0 < q.2 ∧ Sz q) (hl : ds.length ≤ 10) : m_c0_total [.cls 0, d] s = .ok (dN (tot (0, 1) qs)) s := by
  have mk : mMakeL 0 0 2 3 [.int 1] m_c0_init_ (aCons (mC (.int 0)) aNil) [some (.cls 0), some d, none, none] s = .ok (dN (0, 1)) s := by
    rw [← lo01]
    exact make1_ok (mr := aCons (mC (.int 0)) aNil) (env := [some (.cls 0), some d, none, none]) 0 rfl f
  obtain ⟨x', hx⟩ := tot_loop f (some (.cls 0)) (some d) ds qs 1 (0, 1) none h hq (by decide) ⟨by decide, by decide⟩ (by omega)
  have t : mNotT (mB (mCallD (n := 1) [] m_is_list (aCons (mVar 1) aNil))) [some (.cls 0), some d, none, none] s = .ok false s := by
    rcases hd with rfl | rfl <;> rfl
  have it : iLT (mVar 1) [some (.cls 0), some d, some (dN (0, 1)), none] s = .ok ds s := by
    rcases hd with rfl | rfl <;> rfl
  refine run2 ((seq_ok (e1 := [some (.cls 0), some d, none, none]) (s1 := s) ?_).trans ((seq_ok (e1 := [some (.cls 0), some d, some (dN (0, 1)), none]) (s1 := s) ?_).trans ((seq_ok (e1 := [some (.cls 0), some d, some (dN (tot (0, 1) qs)), x']) (s1 := s) ?_).trans (ret_ok rfl))))
  · show sIf _ _ _ [some (.cls 0), some d, none, none] s = _
    rw [sIf, t]; rfl
  · rw [sSet, mk]; rfl
  · rw [sFor, it, Res.bind_ok]; exact hx
theorem ltot_loop (c : Option D) : ∀ (qs : List (Int × Int)) (k : Nat) (a : Int × Int) (x : Option D), (∀ q ∈ qs, 0 < q.2 ∧ Sz q) → 0 < a.2 → Bd k a → k + 201 * qs.length ≤ 3000 →
    ∃ x', forL (tName 2) (sSet 1 (mCallD (n := 2) [] m_law_sum (aCons (mVar 1) (aCons (mVar 2) aNil)))) (qs.map dP) [c, some (dP a), x] s = .ok (.nx [c, some (dP (tot a qs)), x']) s
  | [], k, a, x, _, _, _, _ => ⟨x, rfl⟩
  | q :: qs, k, a, x, hq, la, ha, hk => by
    simp only [List.length_cons] at hk
    obtain ⟨lq, zq⟩ := hq q (by simp)
    obtain ⟨b1, l1⟩ := bd_step la lq ha zq
    obtain ⟨s1, s2⟩ := bd_Sm ha (by omega)
    have hb : a.2 * q.2 ≠ 0 := Int.mul_ne_zero (by omega) (by omega)
    obtain ⟨x', hx⟩ := ltot_loop c qs (k + 201) (lo (a.1 * q.2 + q.1 * a.2) (a.2 * q.2)) (some (dP q)) (fun r hr => hq r (by simp [hr])) l1.pos b1 (by omega)
    refine ⟨x', ?_⟩
    have st : sSet 1 (mCallD (n := 2) [] m_law_sum (aCons (mVar 1) (aCons (mVar 2) aNil))) [c, some (dP a), some (dP q)] s = .ok (.nx [c, some (dP (lo (a.1 * q.2 + q.1 * a.2) (a.2 * q.2))), some (dP q)]) s := by
      rw [sSet, call2_ok (v2 1 2 rfl rfl) (lsum_ok s1 s2 (zSm zq).1 (zSm zq).2 hb (bd_mul ha zq (by omega)))]
      rfl
    simp only [List.map_cons, forL, tName, List.set, st, Res.bind_ok]
    exact hx
theorem ltotal_ok {qs : List (Int × Int)} (hq : ∀ q ∈ qs, 0 < q.2 ∧ Sz q) (hl : qs.length ≤ 10) : m_law_total [.lst (qs.map dP)] s = .ok (dP (tot (0, 1) qs)) s := by
  obtain ⟨x', hx⟩ := ltot_loop (s := s) (some (.lst (qs.map dP))) qs 1 (0, 1) none hq (by decide) ⟨by decide, by decide⟩ (by omega)
  refine run1 ((seq_ok (e1 := [some (.lst (qs.map dP)), some (dP (0, 1)), none]) (s1 := s) (by rfl)).trans ((seq_ok (e1 := [some (.lst (qs.map dP)), some (dP (tot (0, 1) qs)), x']) (s1 := s) ?_).trans (ret_ok rfl)))
  rw [sFor, show iLst (mVar 0) [some (.lst (qs.map dP)), some (dP (0, 1)), none] s = .ok (qs.map dP) s from rfl, Res.bind_ok]
  exact hx
end
end K11
set_option Elab.async false
set_option linter.all false
set_option maxRecDepth 100000
set_option maxHeartbeats 2000000
set_option exponentiation.threshold 5000
namespace K11
open Pm PySem
theorem accS {m : Pm.Env → S → Res D} {mr : Pm.Env → S → Res (List D)} {e : Pm.Env} {a : D} {l : List D} {s s1 s2 : S} (h : m e s = .ok a s1) (h2 : mr e s1 = .ok l s2) : aCons m mr e s = .ok (a :: l) s2 := by simp [aCons, h, h2]
def Good (r : Int × Int) : Prop := r.2 ≠ 0 ∧ r.1.natAbs < 2 ^ 130 ∧ r.2.natAbs < 2 ^ 130
def Gd (r : Int × Int) : Prop := r.2 ≠ 0 ∧ Sz r
theorem Good.gd {r : Int × Int} (h : Good r) : Gd r := ⟨h.1, ⟨Nat.lt_trans h.2.1 (Nat.pow_lt_pow_right (by decide) (by decide)), Nat.lt_trans h.2.2 (Nat.pow_lt_pow_right (by decide) (by decide))⟩⟩
theorem raws_comp {env : Pm.Env} (he : env[0]? = some (some (.cell 0))) (hl : ∀ d : D, (((wipeE env [3]).set 3 (some d))[0]?) = some (some (.cell 0))) : ∀ (ds : List D) (s : S), PotOk s 0 →
    ∃ (rs : List (Int × Int)) (s' : S), compL [3] (tName 3) mYes (mCallD (n := 1) [] m_law_raw (aCons (mVar 0) aNil)) ds env s = .ok (rs.map dP) s' ∧ rs.length = ds.length ∧ (∀ r ∈ rs, Good r) ∧ Nx s s' 0
  | [], s, h => ⟨[], s, rfl, rfl, by simp, Nx.refl h⟩
  | d :: ds, s, h => by
    obtain ⟨t, b, s1, e1, hb, ht, hb2, n1⟩ := raw_ok h
    obtain ⟨rs, s2, e2, hr, hg, n2⟩ := raws_comp he hl ds s1 n1.pot
    refine ⟨(t, b) :: rs, s2, ?_, by simp [hr], ?_, n1.trans n2⟩
    · have hc : mCallD (n := 1) [] m_law_raw (aCons (mVar 0) aNil) ((wipeE env [3]).set 3 (some d)) s = .ok (dP (t, b)) s1 := by
        simp [mCallD, aCons, aNil, mVar, hl d, e1]
      simp only [compL, tName, mYes, noexn, Res.bind_ok, if_true, hc, e2, List.map_cons]
    · intro r hr'
      rcases List.mem_cons.mp hr' with rfl | hr'
      · exact ⟨hb, ht, hb2⟩
      · exact hg r hr'
abbrev pot (a b : Int) : Cell := .lst [.int a, .int b]
/-- a pot alone, a pot and what is dead -/
theorem nx1 {a b : Int} {s' : S} (n : Nx [pot a b] s' 0) : ∃ a' b', s' = [pot a' b'] := by
  obtain ⟨⟨c, rfl⟩, a', b', e, _⟩ := n
  simp at e
  exact ⟨a', b', by simp [e]⟩
theorem nx2 {a b : Int} {s' : S} (n : Nx [pot a b, .dead] s' 0) : ∃ a' b', s' = [pot a' b', .dead] := by
  obtain ⟨⟨c, rfl⟩, a', b', e, _⟩ := n
  simp at e
  exact ⟨a', b', by simp [e]⟩
def E3 (R : List (Int × Int)) (x2 x3 x4 x5 x6 x7 x8 x9 : Option D) : Pm.Env := [some (.cell 0), some (.lst (R.map dP)), x2, x3, x4, x5, x6, x7, x8, x9]
def rt0 : Pm.Env → S → Res Fl := (sSet 1 (mCompF finC [3] (iR1 (aCons (mC (.int 6)) aNil)) (tName 3) mYes (mCallD (n := 1) [] m_law_raw (aCons (mVar 0) aNil))))
def rt1 : Pm.Env → S → Res Fl := (sExpr (mtCell appF (mVar 1) (aCons (mTup (aCons (m2 pMul (m2 ixD (m2 ixD (mVar 1) (mC (.int 0))) (mC (.int 0))) (mC (.int 3))) (aCons (m2 pMul (m2 ixD (m2 ixD (mVar 1) (mC (.int 0))) (mC (.int 1))) (mC (.int 3))) aNil))) aNil)))
def rt2 : Pm.Env → S → Res Fl := (sFrz 1 (sExpr (mtCell appF (mVar 1) (aCons (mTup (aCons (mC (.int 0)) (aCons (m2 ixD (m2 ixD (mVar 1) (mC (.int 1))) (mC (.int 1))) aNil))) aNil))))
def E0 (d : Option D) : Pm.Env := [some (.cell 0), d, none, none, none, none, none, none, none, none]
theorem rt0_ok {a b : Int} (h : PotOk [pot a b] 0) : ∃ (r0 r1 r2 r3 r4 r5 : Int × Int) (a' b' : Int), rt0 (E0 none) [pot a b] = .ok (.nx (E0 (some (.cell 1)))) [pot a' b', .lst [dP r0, dP r1, dP r2, dP r3, dP r4, dP r5]] ∧ PotOk [pot a' b'] 0 ∧ Good r0 ∧ Good r1 ∧ Good r2 ∧ Good r3 ∧ Good r4 ∧ Good r5 := by
  obtain ⟨rs, s', e, hl, hg, n⟩ := raws_comp (env := E0 none) rfl (fun d => rfl) (rangeD 0 6) [pot a b] h
  obtain ⟨a', b', rfl⟩ := nx1 n
  have hl6 : rs.length = 6 := by simpa [rangeD] using hl
  match rs, hl6 with
  | [r0, r1, r2, r3, r4, r5], _ =>
    refine ⟨r0, r1, r2, r3, r4, r5, a', b', ?_, n.pot, hg _ (by simp), hg _ (by simp), hg _ (by simp), hg _ (by simp), hg _ (by simp), hg _ (by simp)⟩
    have hi : iR1 (aCons (mC (.int 6)) aNil) (E0 none) [pot a b] = .ok (rangeD 0 6) [pot a b] := by rfl
    have hline : (rangeD 0 6).length ≤ line := by decide
    rw [rt0, sSet, mCompF, hi, Res.bind_ok, if_pos hline, e]
    rfl
theorem rt1_ok {a b : Int} {r0 r1 r2 r3 r4 r5 : Int × Int} (g0 : Good r0) : rt1 (E0 (some (.cell 1))) [pot a b, .lst [dP r0, dP r1, dP r2, dP r3, dP r4, dP r5]] = .ok (.nx (E0 (some (.cell 1)))) [pot a b, .lst [dP r0, dP r1, dP r2, dP r3, dP r4, dP r5, dP (r0.1 * 3, r0.2 * 3)]] := by
  have z := g0.gd.2
  have h1 : m2 pMul (m2 ixD (m2 ixD (mVar 1) (mC (.int 0))) (mC (.int 0))) (mC (.int 3)) (E0 (some (.cell 1))) [pot a b, .lst [dP r0, dP r1, dP r2, dP r3, dP r4, dP r5]] = .ok (.int (r0.1 * 3)) [pot a b, .lst [dP r0, dP r1, dP r2, dP r3, dP r4, dP r5]] :=
    m2_of (m2_of (a := dP r0) (b := .int 0) (by rfl) rfl ix0) (b := .int 3) rfl (pMul_ii z.a (by decide))
  have h2 : m2 pMul (m2 ixD (m2 ixD (mVar 1) (mC (.int 0))) (mC (.int 1))) (mC (.int 3)) (E0 (some (.cell 1))) [pot a b, .lst [dP r0, dP r1, dP r2, dP r3, dP r4, dP r5]] = .ok (.int (r0.2 * 3)) [pot a b, .lst [dP r0, dP r1, dP r2, dP r3, dP r4, dP r5]] :=
    m2_of (m2_of (a := dP r0) (b := .int 1) (by rfl) rfl ix1) (b := .int 3) rfl (pMul_ii z.b (by decide))
  have ha : aCons (mTup (aCons (m2 pMul (m2 ixD (m2 ixD (mVar 1) (mC (.int 0))) (mC (.int 0))) (mC (.int 3))) (aCons (m2 pMul (m2 ixD (m2 ixD (mVar 1) (mC (.int 0))) (mC (.int 1))) (mC (.int 3))) aNil))) aNil (E0 (some (.cell 1))) [pot a b, .lst [dP r0, dP r1, dP r2, dP r3, dP r4, dP r5]] = .ok [dP (r0.1 * 3, r0.2 * 3)] [pot a b, .lst [dP r0, dP r1, dP r2, dP r3, dP r4, dP r5]] := by
    refine acc ?_ acn
    rw [mTup, acc h1 (acc h2 acn)]
    rfl
  rw [rt1, sExpr, mtCell, show mVar 1 (E0 (some (.cell 1))) [pot a b, .lst [dP r0, dP r1, dP r2, dP r3, dP r4, dP r5]] = .ok (.cell 1) [pot a b, .lst [dP r0, dP r1, dP r2, dP r3, dP r4, dP r5]] from rfl, Res.bind_ok]
  show ((aCons _ aNil (E0 (some (.cell 1))) [pot a b, .lst [dP r0, dP r1, dP r2, dP r3, dP r4, dP r5]]).bind _).bind _ = _
  rw [ha]
  rfl
theorem rt2_ok {a b : Int} {r0 r1 r2 r3 r4 r5 r6 : Int × Int} : rt2 (E0 (some (.cell 1))) [pot a b, .lst [dP r0, dP r1, dP r2, dP r3, dP r4, dP r5, dP r6]] = .ok (.nx (E0 (some (.lst ([r0, r1, r2, r3, r4, r5, r6, (0, r1.2)].map dP))))) [pot a b, .dead] := by
  rfl
def ones : Pm.Env → S → Res Fl := (sIf (mNotT (mB (mCallD (n := 1) [] m_law_one_right (aCons (mVar 2) aNil)))) (sRet (mC (.bl false))) sNext)
theorem ones_loop {R : List (Int × Int)} {s : S} (f : Fine s) : ∀ (l : List (Int × Int)) (x2 : Option D), (∀ r ∈ l, Gd r) → ∃ x2', forL (tName 2) ones (l.map dP) (E3 R x2 none none none none none none none) s = .ok (.nx (E3 R x2' none none none none none none none)) s
  | [], x2, _ => ⟨x2, rfl⟩
  | r :: l, x2, h => by
    obtain ⟨x2', e⟩ := ones_loop (R := R) f l (some (dP r)) fun q hq => h q (by simp [hq])
    obtain ⟨hb, hz⟩ := h r (by simp)
    refine ⟨x2', ?_⟩
    have o : mCallD (n := 1) [] m_law_one_right (aCons (mVar 2) aNil) (E3 R (some (dP r)) none none none none none none none) s = .ok (.bl true) s := (call1 (d := dP r) rfl).trans (one_right f hb hz)
    have st : ones (E3 R (some (dP r)) none none none none none none none) s = .ok (.nx (E3 R (some (dP r)) none none none none none none none)) s := by
      rw [ones, sIf, mNotT, mB_of o]
      rfl
    have hs : (E3 R x2 none none none none none none none).set 2 (some (dP r)) = E3 R (some (dP r)) none none none none none none none := rfl
    simp only [List.map_cons, forL, tName, hs, st, Res.bind_ok]
    exact e
def twos : Pm.Env → S → Res Fl := (sIf (mNotT (mB (mCallD (n := 3) [] m_law_two_right (aCons (mCallD (n := 2) [] m_law_pick (aCons (mVar 0) (aCons (mVar 1) aNil))) (aCons (mCallD (n := 2) [] m_law_pick (aCons (mVar 0) (aCons (mVar 1) aNil))) (aCons (m2 pSub (mCallD (n := 2) [] m_law_draw (aCons (mVar 0) (aCons (mC (.int 41)) aNil))) (mC (.int 20))) aNil)))))) (sRet (mC (.bl false))) sNext)
theorem twos_ok {R : List (Int × Int)} (hR : ∀ r ∈ R, Gd r) (h0 : 0 < R.length) (h1 : R.length < 1000) {a b : Int} (x2 x3 : Option D) (h : PotOk [pot a b, .dead] 0) : ∃ a' b', twos (E3 R x2 x3 none none none none none none) [pot a b, .dead] = .ok (.nx (E3 R x2 x3 none none none none none none)) [pot a' b', .dead] ∧ PotOk [pot a' b', .dead] 0 := by
  obtain ⟨x, s1, e1, m1, n1⟩ := pick_nx (xs := R.map dP) h (by simpa using h0) (by simpa using h1)
  obtain ⟨y, s2, e2, m2', n2⟩ := pick_nx (xs := R.map dP) n1.pot (by simpa using h0) (by simpa using h1)
  obtain ⟨k, s3, e3, k0, k1, n3⟩ := draw_nx (n := 41) n2.pot (by decide)
  obtain ⟨⟨t, b1⟩, hr, rfl⟩ := List.mem_map.mp m1
  obtain ⟨⟨u, c1⟩, hq, rfl⟩ := List.mem_map.mp m2'
  obtain ⟨a', b', rfl⟩ := nx2 ((n1.trans n2).trans n3)
  have f : Fine [pot a' b', .dead] := rfl
  refine ⟨a', b', ?_, n3.pot⟩
  have p1 : mCallD (n := 2) [] m_law_pick (aCons (mVar 0) (aCons (mVar 1) aNil)) (E3 R x2 x3 none none none none none none) [pot a b, .dead] = .ok (dP (t, b1)) s1 := by
    rw [show mCallD (n := 2) [] m_law_pick (aCons (mVar 0) (aCons (mVar 1) aNil)) (E3 R x2 x3 none none none none none none) [pot a b, .dead] = m_law_pick [.cell 0, .lst (R.map dP)] [pot a b, .dead] from rfl]
    exact e1
  have p2 : mCallD (n := 2) [] m_law_pick (aCons (mVar 0) (aCons (mVar 1) aNil)) (E3 R x2 x3 none none none none none none) s1 = .ok (dP (u, c1)) s2 := by
    rw [show mCallD (n := 2) [] m_law_pick (aCons (mVar 0) (aCons (mVar 1) aNil)) (E3 R x2 x3 none none none none none none) s1 = m_law_pick [.cell 0, .lst (R.map dP)] s1 from rfl]
    exact e2
  have p3 : m2 pSub (mCallD (n := 2) [] m_law_draw (aCons (mVar 0) (aCons (mC (.int 41)) aNil))) (mC (.int 20)) (E3 R x2 x3 none none none none none none) s2 = .ok (.int (k - 20)) [pot a' b', .dead] := by
    rw [m2, drawE (k := 0) rfl, e3, Res.bind_ok]
    rfl
  have hargs : (aCons (mCallD (n := 2) [] m_law_pick (aCons (mVar 0) (aCons (mVar 1) aNil))) (aCons (mCallD (n := 2) [] m_law_pick (aCons (mVar 0) (aCons (mVar 1) aNil))) (aCons (m2 pSub (mCallD (n := 2) [] m_law_draw (aCons (mVar 0) (aCons (mC (.int 41)) aNil))) (mC (.int 20))) aNil))) (E3 R x2 x3 none none none none none none) [pot a b, .dead] = .ok [dP (t, b1), dP (u, c1), .int (k - 20)] [pot a' b', .dead] := accS p1 (accS p2 (accS p3 rfl))
  have two := two_right (n := k - 20) f (hR _ hr).1 (hR _ hq).1 (hR _ hr).2 (hR _ hq).2 (show (k - 20).natAbs < 2 ^ 200 from Nat.lt_of_lt_of_le (show (k - 20).natAbs < 64 by omega) (by decide))
  have o : mCallD (n := 3) [] m_law_two_right (aCons (mCallD (n := 2) [] m_law_pick (aCons (mVar 0) (aCons (mVar 1) aNil))) (aCons (mCallD (n := 2) [] m_law_pick (aCons (mVar 0) (aCons (mVar 1) aNil))) (aCons (m2 pSub (mCallD (n := 2) [] m_law_draw (aCons (mVar 0) (aCons (mC (.int 41)) aNil))) (mC (.int 20))) aNil))) (E3 R x2 x3 none none none none none none) [pot a b, .dead] = .ok (.bl true) [pot a' b', .dead] := by
    rw [mCallD, hargs, Res.bind_ok]
    exact two
  rw [twos, sIf, mNotT, mB, o]
  rfl
theorem twos_loop {R : List (Int × Int)} (hR : ∀ r ∈ R, Gd r) (h0 : 0 < R.length) (h1 : R.length < 1000) (x2 : Option D) : ∀ (ds : List D) (x3 : Option D) (a b : Int), PotOk [pot a b, .dead] 0 →
    ∃ x3' a' b', forL (tName 3) twos ds (E3 R x2 x3 none none none none none none) [pot a b, .dead] = .ok (.nx (E3 R x2 x3' none none none none none none)) [pot a' b', .dead] ∧ PotOk [pot a' b', .dead] 0
  | [], x3, a, b, h => ⟨x3, a, b, rfl, h⟩
  | d :: ds, x3, a, b, h => by
    obtain ⟨a1, b1, e1, h2⟩ := twos_ok hR h0 h1 x2 (some d) h
    obtain ⟨x3', a', b', e, hp⟩ := twos_loop hR h0 h1 x2 ds (some d) a1 b1 h2
    refine ⟨x3', a', b', ?_, hp⟩
    have hs : (E3 R x2 x3 none none none none none none).set 3 (some d) = E3 R x2 (some d) none none none none none none := rfl
    simp only [forL, tName, hs, e1, Res.bind_ok]
    exact e
end K11
set_option Elab.async false
set_option linter.all false
set_option maxRecDepth 100000
set_option maxHeartbeats 2000000
set_option exponentiation.threshold 5000
namespace K11
open Pm PySem
def L (R : List (Int × Int)) : List (Int × Int) := R.map fun r => lo r.1 r.2
section
variable {R : List (Int × Int)} {s : S} {x2 x3 x4 x5 x6 x7 x8 x9 : Option D}
theorem lows_comp (e0 : Pm.Env) (h : ∀ d : D, ((wipeE e0 [2]).set 2 (some d))[2]? = some (some d)) : ∀ (R : List (Int × Int)), (∀ r ∈ R, Gd r) → compL [2] (tName 2) mYes (mCallD (n := 2) [] m_law_low (aCons (m2 ixD (mVar 2) (mC (.int 0))) (aCons (m2 ixD (mVar 2) (mC (.int 1))) aNil))) (R.map dP) e0 s = .ok ((L R).map dP) s
  | [], _ => rfl
  | r :: R, hR => by
    have ih := lows_comp e0 h R fun q hq => hR q (by simp [hq])
    obtain ⟨hb, hz⟩ := hR r (by simp)
    have c : mCallD (n := 2) [] m_law_low (aCons (m2 ixD (mVar 2) (mC (.int 0))) (aCons (m2 ixD (mVar 2) (mC (.int 1))) aNil)) ((wipeE e0 [2]).set 2 (some (dP r))) s = .ok (dP (lo r.1 r.2)) s :=
      call2_ok (ac2 (ixv 2 0 (a := dP r) (h _) ix0) (ixv 2 1 (a := dP r) (h _) ix1)) (low_ok r.1 r.2 s hb (small_Sm hz.b))
    simp only [List.map_cons, compL, tName, mYes, noexn, Res.bind_ok, if_true, c, ih, L]
theorem makes_comp (f : Fine s) (e0 : Pm.Env) (h : ∀ d : D, ((wipeE e0 [2]).set 2 (some d))[2]? = some (some d)) : ∀ (R : List (Int × Int)), (∀ r ∈ R, Gd r) → compL [2] (tName 2) mYes (mMake 0 2 3 [] m_c0_init_ (aCons (m2 ixD (mVar 2) (mC (.int 0))) (aCons (m2 ixD (mVar 2) (mC (.int 1))) aNil))) (R.map dP) e0 s = .ok ((L R).map dN) s
  | [], _ => rfl
  | r :: R, hR => by
    have ih := makes_comp f e0 h R fun q hq => hR q (by simp [hq])
    obtain ⟨hb, hz⟩ := hR r (by simp)
    have c : mMake 0 2 3 [] m_c0_init_ (aCons (m2 ixD (mVar 2) (mC (.int 0))) (aCons (m2 ixD (mVar 2) (mC (.int 1))) aNil)) ((wipeE e0 [2]).set 2 (some (dP r))) s = .ok (dN (lo r.1 r.2)) s :=
      make_ok r.1 r.2 (ac2 (ixv 2 0 (a := dP r) (h _) ix0) (ixv 2 1 (a := dP r) (h _) ix1)) f hb (small_Sm hz.b)
    simp only [List.map_cons, compL, tName, mYes, noexn, Res.bind_ok, if_true, c, ih, L]
theorem iter1 : iLst (mVar 1) (E3 R x2 x3 x4 x5 x6 x7 x8 x9) s = .ok (R.map dP) s := rfl
def rt5 : Pm.Env → S → Res Fl := (sSet 4 (mCompF finL [2] (iLst (mVar 1)) (tName 2) mYes (mCallD (n := 2) [] m_law_low (aCons (m2 ixD (mVar 2) (mC (.int 0))) (aCons (m2 ixD (mVar 2) (mC (.int 1))) aNil)))))
def rt6 : Pm.Env → S → Res Fl := (sSet 5 (m2 pAdd (mCompF finL [2] (iLst (mVar 1)) (tName 2) mYes (mMake 0 2 3 [] m_c0_init_ (aCons (m2 ixD (mVar 2) (mC (.int 0))) (aCons (m2 ixD (mVar 2) (mC (.int 1))) aNil)))) (mLst (aCons (mC (.int 7)) aNil))))
def rt7 : Pm.Env → S → Res Fl := (sSet 6 (mLst (aCons (mCm 0 2 m_c0_total (mC (.cls 0)) (aCons (mVar 5) aNil)) (aCons (mCm 0 2 m_c0_total (mC (.cls 0)) (aCons (mCall bTuple (aCons (mVar 5) aNil)) aNil)) (aCons (mCmK 0 2 m_c0_total (mC (.cls 0)) (aCons (mVar 5) aNil)) (aCons (mCm 0 2 m_c0_total (mC (.cls 0)) (aCons (mLst aNil) aNil)) aNil))))))
def rt8 : Pm.Env → S → Res Fl := (sIf (mB (m2 pNe (mCallD (n := 1) [] m_law_pairs (aCons (mVar 6) aNil)) (m2 pAdd (m2 pMul (mLst (aCons (mCallD (n := 1) [] m_law_total (aCons (m2 pAdd (mVar 4) (mLst (aCons (mTup (aCons (mC (.int 7)) (aCons (mC (.int 1)) aNil))) aNil))) aNil)) aNil)) (mC (.int 3))) (mLst (aCons (mTup (aCons (mC (.int 0)) (aCons (mC (.int 1)) aNil))) aNil))))) (sRet (mC (.bl false))) sNext)
def rt9 : Pm.Env → S → Res Fl := (sSeq (sSet 7 (mLst (aCons (mC (.int 0)) (aCons (mC (.int 1)) (aCons (m1 pNeg (mC (.int 1))) (aCons (mC (.int 5)) (aCons (mC (.bl true)) (aCons (mC (.bl false)) (aCons (mC .non) (aCons (mC (.str "1")) (aCons (mLst (aCons (mC (.int 1)) aNil)) (aCons (mTup (aCons (mC (.int 1)) (aCons (mC (.int 2)) aNil))) (aCons (m2 powI (mC (.int 10)) (mC (.int 5))) aNil)))))))))))))
  (sSeq (sSet 6 (mCompF finL [9] (iLst (mVar 7)) (tName 9) mYes (mLst (aCons (mCallD (n := 1) [] m_is_number (aCons (mVar 9) aNil)) (aCons (mCallD (n := 1) [] m_is_integer (aCons (mVar 9) aNil)) (aCons (mCallD (n := 1) [] m_is_count (aCons (mVar 9) aNil)) aNil))))))
  (sSeq (sSet 8 (mLst (aCons (mLst (aCons (mC (.bl true)) (aCons (mC (.bl true)) (aCons (mC (.bl true)) aNil)))) (aCons (mLst (aCons (mC (.bl true)) (aCons (mC (.bl true)) (aCons (mC (.bl true)) aNil)))) (aCons (mLst (aCons (mC (.bl true)) (aCons (mC (.bl true)) (aCons (mC (.bl false)) aNil)))) (aCons (mLst (aCons (mC (.bl true)) (aCons (mC (.bl true)) (aCons (mC (.bl true)) aNil)))) aNil))))))
  (sRet (m2 pEq (mVar 6) (m2 pAdd (m2 pAdd (mVar 8) (mCompF finL [3] (iR1 (aCons (mC (.int 6)) aNil)) (tName 3) mYes (m2 pMul (mLst (aCons (mC (.bl false)) aNil)) (mC (.int 3))))) (mLst (aCons (mLst (aCons (mC (.bl true)) (aCons (mC (.bl true)) (aCons (mC (.bl true)) aNil)))) aNil))))))))
theorem rt5_ok (hR : ∀ r ∈ R, Gd r) (hl : R.length ≤ 1000) : rt5 (E3 R x2 x3 none none none none none none) s = .ok (.nx (E3 R x2 x3 (some (.lst ((L R).map dP))) none none none none none)) s := by
  have c := lows_comp (s := s) (E3 R x2 x3 none none none none none none) (fun d => rfl) R hR
  have h : (R.map dP).length ≤ line := by unfold line; simp; omega
  rw [rt5, sSet, mCompF, iter1, Res.bind_ok, if_pos h, c]
  rfl
theorem rt6_ok (f : Fine s) (hR : ∀ r ∈ R, Gd r) (hl : R.length ≤ 1000) : rt6 (E3 R x2 x3 x4 none none none none none) s = .ok (.nx (E3 R x2 x3 x4 (some (.lst ((L R).map dN ++ [.int 7]))) none none none none)) s := by
  have c := makes_comp (s := s) f (E3 R x2 x3 x4 none none none none none) (fun d => rfl) R hR
  have h : (R.map dP).length ≤ line := by unfold line; simp; omega
  have hc : mCompF finL [2] (iLst (mVar 1)) (tName 2) mYes (mMake 0 2 3 [] m_c0_init_ (aCons (m2 ixD (mVar 2) (mC (.int 0))) (aCons (m2 ixD (mVar 2) (mC (.int 1))) aNil))) (E3 R x2 x3 x4 none none none none none) s = .ok (.lst ((L R).map dN)) s := by
    rw [mCompF, iter1, Res.bind_ok, if_pos h, c]
    rfl
  have h2 : ((L R).map dN ++ [D.int 7]).length ≤ line := by unfold line; simp [L]; omega
  have ha : pAdd (.lst ((L R).map dN)) (.lst [.int 7]) s = .ok (.lst ((L R).map dN ++ [.int 7])) s := by
    have hi : addI (.lst ((L R).map dN)) (.lst [.int 7]) s = .stuck := rfl
    simp only [pAdd, addAll, addD, hi, Res.or, catL, newL, if_pos h2]
  rw [rt6, sSet, m2_of hc (b := .lst [.int 7]) rfl ha]
  rfl
/-- what is summed -/
def Q8 (R : List (Int × Int)) : List (Int × Int) := L R ++ [(7, 1)]
theorem q8_ok (hR : ∀ r ∈ R, Gd r) : ∀ q ∈ Q8 R, 0 < q.2 ∧ Sz q := by
  intro q hq
  rcases List.mem_append.mp hq with hq | hq
  · obtain ⟨r, hr, rfl⟩ := List.mem_map.mp hq
    obtain ⟨hb, hz⟩ := hR r hr
    exact ⟨(low_lo hb).pos, hz.lo hb⟩
  · simp only [List.mem_singleton] at hq
    subst hq
    exact ⟨by decide, ⟨by decide, by decide⟩⟩
theorem q8_nums : Nums ((L R).map dN ++ [.int 7]) (Q8 R) := (Nums.map (L R)).app (.cons (.i 7) .nil)
theorem rt7_ok (f : Fine s) (hR : ∀ r ∈ R, Gd r) (hl : R.length ≤ 8) : rt7 (E3 R x2 x3 x4 (some (.lst ((L R).map dN ++ [.int 7]))) x6 none none none) s = .ok (.nx (E3 R x2 x3 x4 (some (.lst ((L R).map dN ++ [.int 7]))) (some (.lst ([tot (0, 1) (Q8 R), tot (0, 1) (Q8 R), tot (0, 1) (Q8 R), (0, 1)].map dN))) none none none)) s := by
  have hlen : ((L R).map dN ++ [D.int 7]).length ≤ 10 := by simp [L]; omega
  have hline : ((L R).map dN ++ [D.int 7]).length ≤ line := by unfold line; omega
  have T1 := total_ok f (d := .lst ((L R).map dN ++ [.int 7])) (.inl rfl) (q8_nums (R := R)) (q8_ok hR) hlen
  have T2 := total_ok f (d := .tup ((L R).map dN ++ [.int 7])) (.inr rfl) (q8_nums (R := R)) (q8_ok hR) hlen
  have T3 := total_ok f (d := .lst []) (.inl rfl) .nil (by simp) (by decide)
  have v5 : mVar 5 (E3 R x2 x3 x4 (some (.lst ((L R).map dN ++ [.int 7]))) x6 none none none) s = .ok (.lst ((L R).map dN ++ [.int 7])) s := rfl
  have tp : mCall bTuple (aCons (mVar 5) aNil) (E3 R x2 x3 x4 (some (.lst ((L R).map dN ++ [.int 7]))) x6 none none none) s = .ok (.tup ((L R).map dN ++ [.int 7])) s := by
    rw [bcall1 v5]
    simp only [bTuple, seqOf, isTupD, Bool.false_eq_true, if_false, newT, if_pos hline]
  have cm : ∀ (m : Pm.Env → S → Res D) (d : D) (e : Pm.Env), m e s = .ok d s → mCm 0 2 m_c0_total (mC (.cls 0)) (aCons m aNil) e s = m_c0_total [.cls 0, d] s := fun m d e h => by
    simp [mCm, mC, aCons, h, aNil]
  have cmk : ∀ (m : Pm.Env → S → Res D) (d : D) (e : Pm.Env), m e s = .ok d s → mCmK 0 2 m_c0_total (mC (.cls 0)) (aCons m aNil) e s = m_c0_total [.cls 0, d] s := fun m d e h => by
    simp [mCmK, mC, aCons, h, aNil]
  rw [rt7, sSet, mLst, acc ((cm _ _ _ v5).trans T1) (acc ((cm _ _ _ tp).trans T2) (acc ((cmk _ _ _ v5).trans T1) (acc ((cm (mLst aNil) (.lst []) _ rfl).trans T3) acn)))]
  rfl
theorem rt8_ok (hR : ∀ r ∈ R, Gd r) (hl : R.length ≤ 8) : rt8 (E3 R x2 x3 (some (.lst ((L R).map dP))) x5 (some (.lst ([tot (0, 1) (Q8 R), tot (0, 1) (Q8 R), tot (0, 1) (Q8 R), (0, 1)].map dN))) x7 x8 x9) s = .ok (.nx (E3 R x2 x3 (some (.lst ((L R).map dP))) x5 (some (.lst ([tot (0, 1) (Q8 R), tot (0, 1) (Q8 R), tot (0, 1) (Q8 R), (0, 1)].map dN))) x7 x8 x9)) s := by
  have hq : (Q8 R).length ≤ 10 := by simp [Q8, L]; omega
  have T := ltotal_ok (s := s) (q8_ok hR) hq
  have h2 : ((L R).map dP ++ [dP (7, 1)]).length ≤ line := by unfold line; simp [L]; omega
  have ha : pAdd (.lst ((L R).map dP)) (.lst [dP (7, 1)]) s = .ok (.lst ((Q8 R).map dP)) s := by
    have hi : addI (.lst ((L R).map dP)) (.lst [dP (7, 1)]) s = .stuck := rfl
    simp only [pAdd, addAll, addD, hi, Res.or, catL, newL, if_pos h2, Q8, List.map_append, List.map_cons, List.map_nil]
  have hs : m2 pAdd (mVar 4) (mLst (aCons (mTup (aCons (mC (.int 7)) (aCons (mC (.int 1)) aNil))) aNil)) (E3 R x2 x3 (some (.lst ((L R).map dP))) x5 (some (.lst ([tot (0, 1) (Q8 R), tot (0, 1) (Q8 R), tot (0, 1) (Q8 R), (0, 1)].map dN))) x7 x8 x9) s = .ok (.lst ((Q8 R).map dP)) s :=
    m2_of (a := .lst ((L R).map dP)) (b := .lst [dP (7, 1)]) rfl rfl ha
  refine if_no (mB_of (m2_of (a := .lst ([tot (0, 1) (Q8 R), tot (0, 1) (Q8 R), tot (0, 1) (Q8 R), (0, 1)].map dP)) (b := .lst ([tot (0, 1) (Q8 R), tot (0, 1) (Q8 R), tot (0, 1) (Q8 R), (0, 1)].map dP)) ?_ ?_ (ne_pairs _)))
  · exact (call1 (d := .lst ([tot (0, 1) (Q8 R), tot (0, 1) (Q8 R), tot (0, 1) (Q8 R), (0, 1)].map dN)) rfl).trans (pairs_ok _ (by unfold line; simp))
  · refine m2_of (a := .lst [dP (tot (0, 1) (Q8 R)), dP (tot (0, 1) (Q8 R)), dP (tot (0, 1) (Q8 R))]) (b := .lst [dP (0, 1)]) (m2_of (a := .lst [dP (tot (0, 1) (Q8 R))]) (b := .int 3) ?_ rfl (by rfl)) (by rfl) (by rfl)
    rw [mLst, acc ((call1 hs).trans T) acn]
    rfl
set_option maxHeartbeats 0 in
theorem rt9_ok : rt9 (E3 R x2 x3 x4 x5 x6 none none none) s = .ok (.rt (.bl true)) s := by kernel_rfl
end
theorem right_ok {a b : Int} (h : PotOk [pot a b] 0) : ∃ s, m_law_right [.cell 0] [pot a b] = .ok (.bl true) s := by
  obtain ⟨r0, r1, r2, r3, r4, r5, a1, b1, e0, p1, g0, g1, g2, g3, g4, g5⟩ := rt0_ok h
  have hR : ∀ r ∈ [r0, r1, r2, r3, r4, r5, (r0.1 * 3, r0.2 * 3), ((0 : Int), r1.2)], Gd r := by
    have g6 : Gd (r0.1 * 3, r0.2 * 3) := by
      obtain ⟨h1, h2, h3⟩ := g0
      have hp : (2 : Nat) ^ 130 * 3 ≤ 2 ^ 200 := by decide
      refine ⟨by show r0.2 * 3 ≠ 0; omega, ⟨?_, ?_⟩⟩
      · show (r0.1 * 3).natAbs < 2 ^ 200; omega
      · show (r0.2 * 3).natAbs < 2 ^ 200; omega
    have g7 : Gd ((0 : Int), r1.2) := ⟨g1.1, ⟨by show (0 : Int).natAbs < 2 ^ 200; decide, g1.gd.2.b⟩⟩
    intro r hr
    simp only [List.mem_cons, List.not_mem_nil, or_false] at hr
    rcases hr with rfl | rfl | rfl | rfl | rfl | rfl | rfl | rfl
    · exact g0.gd
    · exact g1.gd
    · exact g2.gd
    · exact g3.gd
    · exact g4.gd
    · exact g5.gd
    · exact g6
    · exact g7
  generalize hRR : [r0, r1, r2, r3, r4, r5, (r0.1 * 3, r0.2 * 3), ((0 : Int), r1.2)] = R at hR
  have hlen : R.length = 8 := by rw [← hRR]; rfl
  have p2 : PotOk [pot a1 b1, .dead] 0 := by
    obtain ⟨x, y, e, q⟩ := p1
    exact ⟨x, y, by simpa using e, q⟩
  obtain ⟨x2, e3⟩ := ones_loop (R := R) (s := [pot a1 b1, .dead]) rfl R none hR
  obtain ⟨x3, a2, b2, e4, p3⟩ := twos_loop hR (by omega) (by omega) x2 (rangeD 0 12) none a1 b1 p2
  have f : Fine [pot a2 b2, .dead] := rfl
  refine ⟨[pot a2 b2, .dead], run1 ((seq_ok e0).trans ((seq_ok (rt1_ok g0)).trans ((seq_ok (e1 := E3 R none none none none none none none none) (s1 := [pot a1 b1, .dead]) ?_).trans ((seq_ok (e1 := E3 R x2 none none none none none none none) (s1 := [pot a1 b1, .dead]) ?_).trans
    ((seq_ok (e1 := E3 R x2 x3 none none none none none none) (s1 := [pot a2 b2, .dead]) ?_).trans ((seq_ok (rt5_ok hR (by omega))).trans ((seq_ok (rt6_ok f hR (by omega))).trans ((seq_ok (rt7_ok f hR (by omega))).trans ((seq_ok (rt8_ok hR (by omega))).trans rt9_ok)))))))))⟩
  · have := rt2_ok (a := a1) (b := b1) (r0 := r0) (r1 := r1) (r2 := r2) (r3 := r3) (r4 := r4) (r5 := r5) (r6 := (r0.1 * 3, r0.2 * 3))
    rw [hRR] at this
    exact this
  · rw [sFor, iter1, Res.bind_ok]
    exact e3
  · rw [sFor, show iR1 (aCons (mC (.int 12)) aNil) (E3 R x2 none none none none none none none) [pot a1 b1, .dead] = .ok (rangeD 0 12) [pot a1 b1, .dead] from rfl, Res.bind_ok]
    exact e4
theorem answer (ns : List Int) (h : ns.length ≤ 63) : ∃ s, m_law [.ro (ns.map D.int)] [] = .ok (.bl true) s := by
  obtain ⟨c, e⟩ := law_pot_ok ns
  have hp : ∃ a b, potOf c = [pot a b] := ⟨_, _, rfl⟩
  have hq := pot_ok c
  obtain ⟨a, b, hab⟩ := hp
  rw [hab] at e hq
  obtain ⟨s, hs⟩ := right_ok hq
  refine ⟨s, run1 (ret_ok ?_)⟩
  have hi : mCallD (n := 2) [] m_law_pot (aCons (mVar 0) (aCons (mC (.int 0)) aNil)) ([some (.ro (ns.map D.int))] ++ List.replicate (1 - 1) none) [] = .ok (.cell 0) [pot a b] := by
    simp only [List.cons_append, List.nil_append]
    rw [mCallD, show aCons (mVar 0) (aCons (mC (.int 0)) aNil) (some (D.ro (ns.map D.int)) :: List.replicate (1 - 1) none) [] = .ok [.ro (ns.map D.int), .int 0] [] from rfl, Res.bind_ok]
    exact e
  rw [mCallD, accS hi rfl, Res.bind_ok]
  exact hs
end K11
namespace K11
open PySem PySem.Spec PyProof.Rows L2 Pm
abbrev R : PySem.W.OpenRow := PySem.W.OpenLaw.row PySem.Challenge.rw_fewcorners_k11_ratios_reckoned
abbrev hk : PySem.W.Hook := hookP 7 defs facts
def ob (s : PySem.W.SharedT) : AlP := obsP 7 defs facts (HandSHeadRun.getT s)
theorem ob_eq (s : PySem.W.SharedT) : ob s = hk.obs s.abs := obsP_eq (HandSHeadRun.getT_eq s)
def loose : List Str := ["__name__", "is_integer", "is_count", "is_list", "BodyError", "InvalidNumber", "DividedByZero", "Ratio", "is_number", "parts_of", "_law_pot", "_law_draw", "_law_pick", "_law_low", "_law_sum", "_law_by", "_law_less", "_law_over", "_law_total", "_law_pair", "_law_pairs", "_law_shown", "_law_raw", "_law_one_right", "_law_two_right", "_law_right"]
set_option maxHeartbeats 0 in
theorem run (w : World) : HandSHeadRun.RunEqI R (PySem.W.view R.prog [0, 30]) hk ob 6000 loose w := by
  unfold HandSHeadRun.RunEqI
  kernel_rfl
end K11
open PySem PySem.W PySem.Calls PyProof.Rows in
set_option maxRecDepth 100000 in
set_option maxHeartbeats 0 in
theorem PySem.Challenge.cw_fewcorners_k11_ratios_reckoned_holds : PySem.Challenge.rw_fewcorners_k11_ratios_reckoned.Holds := by
  w_on; o_law
  refine HandSHeadRun.head_imp (r := K11.R) (q := view K11.R.prog [0, 30]) (H := K11.hk) (ob := K11.ob) (M := 6000) (loose := K11.loose) (d := HandSHeadRun.topDef K11.R.prog 30) (kwd := []) K11.ob_eq K11.run
    (by kernel_rfl) (by kernel_rfl) (by kernel_rfl) (by rfl) (by first | assumption | decide +kernel) (by decide +kernel) ⟨rfl, rfl, rfl, rfl, rfl, by decide +kernel⟩ ?hw ?hc
  case hw => w_witness2
  case hc =>
    refine Pm.walkG (l := PySem.Challenge.rw_fewcorners_k11_ratios_reckoned) (n := 63) (k := 8) rfl (by decide) (by kernel_rfl) ⟨rfl, by decide, by decide⟩ ?F K11.answer
    intro w mg fa h Y G hmg
    obtain ⟨K, KX, c⟩ := Y
    obtain ⟨d, ea, T⟩ := K11.tx_of KX G c
    have e : fa = d.a_law := by
      have z := hmg.symm.trans (show mg _ = some (.ref d.a_law) from T.m_law)
      cases z
      rfl
    subst e
    exact ⟨K, K11.gg K d, KX, rfl, fun base => K11.ok_law T⟩
