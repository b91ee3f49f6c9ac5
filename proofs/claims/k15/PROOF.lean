import PyProof.Rows.All
import Wide.All
import OpenK.AllK
import Wide.FinOn
import PyProof.EqAt
import PyProof.EqKinds
import PyProof.TupleCall
import HandS.Base
import HandS.Call
import HandS.List
import HandS.Comp
import HandS.Exc
import HandS.Wide
import HandS.Gcd
import HandS.IsInst
import HandS.Property
import HandS.MakeKw
import HandS.ClsMeth
import HandS.WordsExc
import HandS.Ends
import HandS.Iter
import HandS.Zip
import KE.KOpsOwn
import HandS.SlotsOwn
import HandS.FStr
import HandS.RaiseMore
import KE.KCallOwn
import PyProof.Rows.ReprR
import PyProof.InstNe
import PyProof.FactsAll.enumerate_1
import PyProof.Rows.FactsN_isinstance
import PyProof.Rows.FactsN_divmod
import HandS.Style
import KE.KStateDown
import HandS.Head0
import HandS.Head1
import HandS.Head2
import HandS.Head3
import HandS.HeadEnd
import HandS.HeadHook1
import HandS.HeadHook2
import KE.KExcSuper
import KE.KExcInit
import HandS.ExcIs
import HandS.Flow
import HandS.Star
import HandS.SetFor
import HandS.Deep
import KE.DataMinMax
import KE.DataFind
import KE.KTupSum
import HandS.SortInts
import KE.SortData
import HandS.Conv
import KE.KMathGC
import PyProof.ReprDict
import HandS.SortRule
import PyProof.MaxThree
import KE.KDictZip
import HandS.SortKw
import HandS.SetKeys
import KE.DataMinKey
import KE.KEqNest
import KE.LtData
import HandS.OwnEq
import PySem.Challenge.RW_fewcorners_k15_any_values_as_points_and
set_option Elab.async false
set_option linter.all false
set_option maxRecDepth 100000
set_option maxHeartbeats 2000000
namespace Pm
open PySem PySem.Spec PyProof.Rows L2
inductive BT where
  | int | bool | str | list | tuple | dict
  deriving DecidableEq, Inhabited
def BT.name : BT → String
  | .int => "int" | .bool => "bool" | .str => "str" | .list => "list" | .tuple => "tuple" | .dict => "dict"
inductive D where
  | non | bl (b : Bool) | int (i : Int) | str (x : Str)
  | lst (xs : List D) | tup (xs : List D) | ro (xs : List D) | rot (xs : List D)
  | ins (c : Nat) (fs : List D)
  | cell (i : Nat)
  | cls (c : Nat) | ty (n : BT)
  | mty
  /-- a dict by ints, a dict by tuples of ints: they stand still -/
  | dki (ks : List Int) (vs : List D)
  | dkt (ks : List (List Int)) (vs : List D)
  /-- a written dict by ints that nobody changes -/
  | dct (ks : List Int) (vs : List D)
  deriving Inhabited
structure Nums where
  M : Int
  A : Int
  P1 : Int
  P2 : Int
  B : Int
  deriving Inhabited
def nxtG (N : Nums) (b : Int) : Int := (b * N.M + N.A).fmod N.P1
def drwG (N : Nums) (c n : Int) : Int := (((c * c).fmod N.P2).fdiv N.B).fmod n
def ansN (N : Nums) (a c m : Int) : Int := if 0 < a then a % m else drwG N (nxtG N c) m
def nexA (a m : Int) : Int := if 0 < a then a / m else a
def nexC (N : Nums) (a c : Int) : Int := if 0 < a then c else nxtG N c
def PotI (a c : Int) : Prop := 0 ≤ a ∧ 0 ≤ c ∧ c < 2 ^ 32
def Con (N : Nums) : List (Int × Int) → Int → Int → Prop
  | [], a, c => PotI a c
  | q :: ps, a, c => PotI a c ∧ (0 < q.1 ∧ q.1 < 1073741824) ∧ q.2 = ansN N a c q.1 ∧ Con N ps (nexA a q.1) (nexC N a c)
inductive Cell where
  | lst (xs : List D) | ins (c : Nat) (fs : List D) | dead
  /-- dicts that change: by ints, by tuples of ints -/
  | dK (ks : List Int) (vs : List D) | dT (ks : List (List Int)) (vs : List D)
  /-- a pot of draws, by what it will answer: the questions and the answers to come -/
  | orc (N : Nums) (ps : List (Int × Int))
  deriving Inhabited
abbrev S := List Cell
def kvI (ks : List Int) (xs : List V) : List (Key × V) := (ks.map Sum.inl).zip xs
def kvT (ks : List (List Int)) (xs : List V) : List (List Key × V) := (ks.map fun k => k.map Sum.inl).zip xs
structure G where
  K : PySem.W.Frag
  cls : Nat → Addr
  fn : Nat → List Str
mutual
def Rep (g : G) (ca : List Addr) (F : Hp) : D → V → Prop
  | .non, v => v = .non
  | .bl b, v => v = .bl b
  | .int i, v => v = .int i
  | .str x, v => v = .str x
  | .lst ds, v => ∃ a xs, v = .ref a ∧ F a = some (.lst xs) ∧ Reps g ca F ds xs
  | .ro ds, v => ∃ a xs, v = .ref a ∧ SqL g.K F a xs ∧ Reps g ca F ds xs
  | .tup ds, v => ∃ a xs, v = .ref a ∧ F a = some (.tup xs) ∧ Reps g ca F ds xs
  | .rot ds, v => ∃ a xs, v = .ref a ∧ SqT g.K F a xs ∧ Reps g ca F ds xs
  | .ins c ds, v => ∃ a dx xs, v = .ref a ∧ F a = some (.ins (g.cls c) dx ((g.fn c).zip xs)) ∧ ds.length = (g.fn c).length ∧ Reps g ca F ds xs
  | .cell i, v => ∃ a, v = .ref a ∧ ca[i]? = some a
  | .cls c, v => v = .ref (g.cls c)
  | .ty n, v => v = .ty n.name
  | .mty, v => ∃ a, v = .ref a ∧ F a = some (.dK [])
  | .dki ks ds, v => ∃ a o xs, v = .ref a ∧ F a = some (.frz o (.dK (kvI ks xs))) ∧ ks.length = ds.length ∧ Reps g ca F ds xs
  | .dkt ks ds, v => ∃ a o xs, v = .ref a ∧ F a = some (.frz o (.dT (kvT ks xs))) ∧ ks.length = ds.length ∧ Reps g ca F ds xs
  | .dct ks ds, v => ∃ a xs, v = .ref a ∧ F a = some (.dK (kvI ks xs)) ∧ ks.length = ds.length ∧ Reps g ca F ds xs
def Reps (g : G) (ca : List Addr) (F : Hp) : List D → List V → Prop
  | [], vs => vs = []
  | d :: ds, vs => ∃ v ws, vs = v :: ws ∧ Rep g ca F d v ∧ Reps g ca F ds ws
end
theorem prefix_get {α : Type} {l m : List α} {i : Nat} {x : α} (h : l <+: m) (e : l[i]? = some x) : m[i]? = some x := by
  obtain ⟨t, rfl⟩ := h
  have hl : i < l.length := (List.getElem?_eq_some_iff.mp e).1
  rw [List.getElem?_append_left hl]
  exact e
theorem same_l {K : PySem.W.Frag} {H H' : Hp} {a : Addr} {xs : List V} (e : ∀ b o, H b = some o → H' b = some o) (h : SqL K H a xs) : SqL K H' a xs := by
  rcases h with (h | ⟨o, h⟩) | h
  · exact .inl (.inl (e _ _ h))
  · exact .inl (.inr ⟨o, e _ _ h⟩)
  · exact .inr h
theorem same_t {K : PySem.W.Frag} {H H' : Hp} {a : Addr} {xs : List V} (e : ∀ b o, H b = some o → H' b = some o) (h : SqT K H a xs) : SqT K H' a xs := by
  rcases h with (h | ⟨o, h⟩) | h
  · exact .inl (.inl (e _ _ h))
  · exact .inl (.inr ⟨o, e _ _ h⟩)
  · exact .inr h
abbrev Sub (H H' : Hp) : Prop := ∀ b o, H b = some o → H' b = some o
theorem Sub.refl (H : Hp) : Sub H H := fun _ _ h => h
theorem Sub.trans {H H1 H2 : Hp} (a : Sub H H1) (b : Sub H1 H2) : Sub H H2 := fun c o h => b c o (a c o h)
theorem Sub.new {H : Hp} {p : Addr} {o : HO} (h : H p = none) : Sub H (upd H p o) := fun a u e => by
  rw [upd_ne (ne_of_none e h)]; exact e
theorem Sub.both {F H : Hp} {p : Addr} {o : HO} (s : Sub F H) : Sub (upd F p o) (upd H p o) := fun a u e => by
  by_cases h : a = p
  · subst h; rw [upd_same] at e ⊢; exact e
  · rw [upd_ne h] at e ⊢; exact s _ _ e
theorem Sub.put {F H : Hp} {p : Addr} {o : HO} (s : Sub F H) (hn : F p = none) : Sub F (upd H p o) := fun a u e => by
  rw [upd_ne (ne_of_none e hn)]; exact s _ _ e
theorem Sub.free {F H : Hp} {p : Addr} (s : Sub F H) (h : H p = none) : F p = none := by
  cases q : F p with
  | none => rfl
  | some o => rw [s _ _ q] at h; cases h
mutual
theorem Rep.mono {g : G} {ca ca' : List Addr} {F F' : Hp} (hc : ca <+: ca') (hF : Sub F F') : ∀ (d : D) (v : V), Rep g ca F d v → Rep g ca' F' d v
  | .non, v, h => by simpa [Rep] using h
  | .bl b, v, h => by simpa [Rep] using h
  | .int i, v, h => by simpa [Rep] using h
  | .str x, v, h => by simpa [Rep] using h
  | .lst ds, v, h => by
    simp only [Rep] at h ⊢
    obtain ⟨a, xs, e, q, r⟩ := h
    exact ⟨a, xs, e, hF _ _ q, Reps.mono hc hF ds xs r⟩
  | .ro ds, v, h => by
    simp only [Rep] at h ⊢
    obtain ⟨a, xs, e, q, r⟩ := h
    exact ⟨a, xs, e, same_l hF q, Reps.mono hc hF ds xs r⟩
  | .tup ds, v, h => by
    simp only [Rep] at h ⊢
    obtain ⟨a, xs, e, q, r⟩ := h
    exact ⟨a, xs, e, hF _ _ q, Reps.mono hc hF ds xs r⟩
  | .rot ds, v, h => by
    simp only [Rep] at h ⊢
    obtain ⟨a, xs, e, q, r⟩ := h
    exact ⟨a, xs, e, same_t hF q, Reps.mono hc hF ds xs r⟩
  | .ins c ds, v, h => by
    simp only [Rep] at h ⊢
    obtain ⟨a, dx, xs, e, q, l, r⟩ := h
    exact ⟨a, dx, xs, e, hF _ _ q, l, Reps.mono hc hF ds xs r⟩
  | .cell i, v, h => by
    simp only [Rep] at h ⊢
    obtain ⟨a, e, q⟩ := h
    exact ⟨a, e, prefix_get hc q⟩
  | .cls c, v, h => by simpa [Rep] using h
  | .ty c, v, h => by simpa [Rep] using h
  | .mty, v, h => by
    simp only [Rep] at h ⊢
    obtain ⟨a, e, q⟩ := h
    exact ⟨a, e, hF _ _ q⟩
  | .dki ks ds, v, h => by
    simp only [Rep] at h ⊢
    obtain ⟨a, o, xs, e, q, l, r⟩ := h
    exact ⟨a, o, xs, e, hF _ _ q, l, Reps.mono hc hF ds xs r⟩
  | .dkt ks ds, v, h => by
    simp only [Rep] at h ⊢
    obtain ⟨a, o, xs, e, q, l, r⟩ := h
    exact ⟨a, o, xs, e, hF _ _ q, l, Reps.mono hc hF ds xs r⟩
  | .dct ks ds, v, h => by
    simp only [Rep] at h ⊢
    obtain ⟨a, xs, e, q, l, r⟩ := h
    exact ⟨a, xs, e, hF _ _ q, l, Reps.mono hc hF ds xs r⟩
theorem Reps.mono {g : G} {ca ca' : List Addr} {F F' : Hp} (hc : ca <+: ca') (hF : Sub F F') : ∀ (ds : List D) (vs : List V), Reps g ca F ds vs → Reps g ca' F' ds vs
  | [], vs, h => by simpa [Reps] using h
  | d :: ds, vs, h => by
    simp only [Reps] at h ⊢
    obtain ⟨v, ws, e, r, rs⟩ := h
    exact ⟨v, ws, e, Rep.mono hc hF d v r, Reps.mono hc hF ds ws rs⟩
end
mutual
def pureD : D → Bool
  | .lst ds => pureL ds
  | .tup ds => pureL ds
  | .ro ds => pureL ds
  | .rot ds => pureL ds
  | .ins _ ds => pureL ds
  | .dki _ ds => pureL ds
  | .dkt _ ds => pureL ds
  | .dct _ ds => pureL ds
  | .cell _ => false
  | _ => true
def pureL : List D → Bool
  | [] => true
  | d :: ds => pureD d && pureL ds
end
mutual
theorem Rep.bare {g : G} {ca ca' : List Addr} {F : Hp} : ∀ (d : D) (v : V), pureD d = true → Rep g ca F d v → Rep g ca' F d v
  | .non, v, _, h => by simpa [Rep] using h
  | .bl b, v, _, h => by simpa [Rep] using h
  | .int i, v, _, h => by simpa [Rep] using h
  | .str x, v, _, h => by simpa [Rep] using h
  | .lst ds, v, p, h => by
    simp only [Rep] at h ⊢
    simp only [pureD] at p
    obtain ⟨a, xs, e, q, r⟩ := h
    exact ⟨a, xs, e, q, Reps.bare ds xs p r⟩
  | .tup ds, v, p, h => by
    simp only [Rep] at h ⊢
    simp only [pureD] at p
    obtain ⟨a, xs, e, q, r⟩ := h
    exact ⟨a, xs, e, q, Reps.bare ds xs p r⟩
  | .ro ds, v, p, h => by
    simp only [Rep] at h ⊢
    simp only [pureD] at p
    obtain ⟨a, xs, e, q, r⟩ := h
    exact ⟨a, xs, e, q, Reps.bare ds xs p r⟩
  | .rot ds, v, p, h => by
    simp only [Rep] at h ⊢
    simp only [pureD] at p
    obtain ⟨a, xs, e, q, r⟩ := h
    exact ⟨a, xs, e, q, Reps.bare ds xs p r⟩
  | .ins c ds, v, p, h => by
    simp only [Rep] at h ⊢
    simp only [pureD] at p
    obtain ⟨a, dx, xs, e, q, l, r⟩ := h
    exact ⟨a, dx, xs, e, q, l, Reps.bare ds xs p r⟩
  | .cell i, v, p, h => by simp [pureD] at p
  | .cls c, v, _, h => by simpa [Rep] using h
  | .ty c, v, _, h => by simpa [Rep] using h
  | .mty, v, _, h => by simpa [Rep] using h
  | .dki ks ds, v, p, h => by
    simp only [Rep] at h ⊢
    simp only [pureD] at p
    obtain ⟨a, o, xs, e, q, l, r⟩ := h
    exact ⟨a, o, xs, e, q, l, Reps.bare ds xs p r⟩
  | .dkt ks ds, v, p, h => by
    simp only [Rep] at h ⊢
    simp only [pureD] at p
    obtain ⟨a, o, xs, e, q, l, r⟩ := h
    exact ⟨a, o, xs, e, q, l, Reps.bare ds xs p r⟩
  | .dct ks ds, v, p, h => by
    simp only [Rep] at h ⊢
    simp only [pureD] at p
    obtain ⟨a, xs, e, q, l, r⟩ := h
    exact ⟨a, xs, e, q, l, Reps.bare ds xs p r⟩
theorem Reps.bare {g : G} {ca ca' : List Addr} {F : Hp} : ∀ (ds : List D) (vs : List V), pureL ds = true → Reps g ca F ds vs → Reps g ca' F ds vs
  | [], vs, _, h => by simpa [Reps] using h
  | d :: ds, vs, p, h => by
    simp only [Reps] at h ⊢
    simp only [pureL, Bool.and_eq_true] at p
    obtain ⟨v, ws, e, r, rs⟩ := h
    exact ⟨v, ws, e, Rep.bare d v p.1 r, Reps.bare ds ws p.2 rs⟩
end
mutual
def clD (k : Nat) : D → Bool
  | .lst ds => clL k ds
  | .tup ds => clL k ds
  | .ro ds => clL k ds
  | .rot ds => clL k ds
  | .ins _ ds => clL k ds
  | .dki _ ds => clL k ds
  | .dkt _ ds => clL k ds
  | .dct _ ds => clL k ds
  | .cell i => decide (i < k)
  | _ => true
def clL (k : Nat) : List D → Bool
  | [] => true
  | d :: ds => clD k d && clL k ds
end
mutual
theorem clD_pure {k : Nat} : ∀ d : D, pureD d = true → clD k d = true
  | .lst ds, h => by simp only [pureD, clD] at h ⊢; exact clL_pure ds h
  | .tup ds, h => by simp only [pureD, clD] at h ⊢; exact clL_pure ds h
  | .ro ds, h => by simp only [pureD, clD] at h ⊢; exact clL_pure ds h
  | .rot ds, h => by simp only [pureD, clD] at h ⊢; exact clL_pure ds h
  | .ins _ ds, h => by simp only [pureD, clD] at h ⊢; exact clL_pure ds h
  | .dki _ ds, h => by simp only [pureD, clD] at h ⊢; exact clL_pure ds h
  | .dkt _ ds, h => by simp only [pureD, clD] at h ⊢; exact clL_pure ds h
  | .dct _ ds, h => by simp only [pureD, clD] at h ⊢; exact clL_pure ds h
  | .cell _, h => by simp [pureD] at h
  | .non, _ => rfl
  | .bl _, _ => rfl
  | .int _, _ => rfl
  | .str _, _ => rfl
  | .cls _, _ => rfl
  | .ty _, _ => rfl
  | .mty, _ => rfl
theorem clL_pure {k : Nat} : ∀ ds : List D, pureL ds = true → clL k ds = true
  | [], _ => rfl
  | d :: ds, h => by
    simp only [pureL, clL, Bool.and_eq_true] at h ⊢
    exact ⟨clD_pure d h.1, clL_pure ds h.2⟩
end
mutual
theorem clD_mono {k m : Nat} (l : k ≤ m) : ∀ d : D, clD k d = true → clD m d = true
  | .lst ds, h => by simp only [clD] at h ⊢; exact clL_mono l ds h
  | .tup ds, h => by simp only [clD] at h ⊢; exact clL_mono l ds h
  | .ro ds, h => by simp only [clD] at h ⊢; exact clL_mono l ds h
  | .rot ds, h => by simp only [clD] at h ⊢; exact clL_mono l ds h
  | .ins _ ds, h => by simp only [clD] at h ⊢; exact clL_mono l ds h
  | .dki _ ds, h => by simp only [clD] at h ⊢; exact clL_mono l ds h
  | .dkt _ ds, h => by simp only [clD] at h ⊢; exact clL_mono l ds h
  | .dct _ ds, h => by simp only [clD] at h ⊢; exact clL_mono l ds h
  | .cell _, h => by simp only [clD, decide_eq_true_eq] at h ⊢; omega
  | .non, _ => rfl
  | .bl _, _ => rfl
  | .int _, _ => rfl
  | .str _, _ => rfl
  | .cls _, _ => rfl
  | .ty _, _ => rfl
  | .mty, _ => rfl
theorem clL_mono {k m : Nat} (l : k ≤ m) : ∀ ds : List D, clL k ds = true → clL m ds = true
  | [], _ => rfl
  | d :: ds, h => by
    simp only [clL, Bool.and_eq_true] at h ⊢
    exact ⟨clD_mono l d h.1, clL_mono l ds h.2⟩
end
mutual
theorem Rep.clo {g : G} {ca ca' : List Addr} {F : Hp} : ∀ (d : D) (v : V), clD ca.length d = true → Rep g (ca ++ ca') F d v → Rep g ca F d v
  | .non, v, _, h => by simpa [Rep] using h
  | .bl b, v, _, h => by simpa [Rep] using h
  | .int i, v, _, h => by simpa [Rep] using h
  | .str x, v, _, h => by simpa [Rep] using h
  | .lst ds, v, p, h => by
    simp only [Rep] at h ⊢
    simp only [clD] at p
    obtain ⟨a, xs, e, q, r⟩ := h
    exact ⟨a, xs, e, q, Reps.clo ds xs p r⟩
  | .tup ds, v, p, h => by
    simp only [Rep] at h ⊢
    simp only [clD] at p
    obtain ⟨a, xs, e, q, r⟩ := h
    exact ⟨a, xs, e, q, Reps.clo ds xs p r⟩
  | .ro ds, v, p, h => by
    simp only [Rep] at h ⊢
    simp only [clD] at p
    obtain ⟨a, xs, e, q, r⟩ := h
    exact ⟨a, xs, e, q, Reps.clo ds xs p r⟩
  | .rot ds, v, p, h => by
    simp only [Rep] at h ⊢
    simp only [clD] at p
    obtain ⟨a, xs, e, q, r⟩ := h
    exact ⟨a, xs, e, q, Reps.clo ds xs p r⟩
  | .ins c ds, v, p, h => by
    simp only [Rep] at h ⊢
    simp only [clD] at p
    obtain ⟨a, dx, xs, e, q, l, r⟩ := h
    exact ⟨a, dx, xs, e, q, l, Reps.clo ds xs p r⟩
  | .cell i, v, p, h => by
    simp only [Rep] at h ⊢
    simp only [clD, decide_eq_true_eq] at p
    obtain ⟨a, e, q⟩ := h
    exact ⟨a, e, by rwa [List.getElem?_append_left p] at q⟩
  | .cls c, v, _, h => by simpa [Rep] using h
  | .ty c, v, _, h => by simpa [Rep] using h
  | .mty, v, _, h => by simpa [Rep] using h
  | .dki ks ds, v, p, h => by
    simp only [Rep] at h ⊢
    simp only [clD] at p
    obtain ⟨a, o, xs, e, q, l, r⟩ := h
    exact ⟨a, o, xs, e, q, l, Reps.clo ds xs p r⟩
  | .dkt ks ds, v, p, h => by
    simp only [Rep] at h ⊢
    simp only [clD] at p
    obtain ⟨a, o, xs, e, q, l, r⟩ := h
    exact ⟨a, o, xs, e, q, l, Reps.clo ds xs p r⟩
  | .dct ks ds, v, p, h => by
    simp only [Rep] at h ⊢
    simp only [clD] at p
    obtain ⟨a, xs, e, q, l, r⟩ := h
    exact ⟨a, xs, e, q, l, Reps.clo ds xs p r⟩
theorem Reps.clo {g : G} {ca ca' : List Addr} {F : Hp} : ∀ (ds : List D) (vs : List V), clL ca.length ds = true → Reps g (ca ++ ca') F ds vs → Reps g ca F ds vs
  | [], vs, _, h => by simpa [Reps] using h
  | d :: ds, vs, p, h => by
    simp only [Reps] at h ⊢
    simp only [clL, Bool.and_eq_true] at p
    obtain ⟨v, ws, e, r, rs⟩ := h
    exact ⟨v, ws, e, Rep.clo d v p.1 r, Reps.clo ds ws p.2 rs⟩
end
theorem Reps.length {g : G} {ca : List Addr} {F : Hp} : ∀ {ds : List D} {vs : List V}, Reps g ca F ds vs → ds.length = vs.length
  | [], vs, h => by simp only [Reps] at h; subst h; rfl
  | d :: ds, vs, h => by
    simp only [Reps] at h
    obtain ⟨v, ws, e, r, rs⟩ := h
    subst e
    simp [Reps.length rs]
theorem Reps.get {g : G} {ca : List Addr} {F : Hp} : ∀ {ds : List D} {vs : List V} {i : Nat} {d : D}, Reps g ca F ds vs → ds[i]? = some d → ∃ v, vs[i]? = some v ∧ Rep g ca F d v
  | [], vs, i, d, h, e => by simp at e
  | d' :: ds, vs, i, d, h, e => by
    simp only [Reps] at h
    obtain ⟨v, ws, e', r, rs⟩ := h
    subst e'
    cases i with
    | zero => simp at e; subst e; exact ⟨v, by simp, r⟩
    | succ i => obtain ⟨u, hu, ru⟩ := Reps.get rs (by simpa using e); exact ⟨u, by simpa using hu, ru⟩
theorem Reps.get' {g : G} {ca : List Addr} {F : Hp} : ∀ {ds : List D} {vs : List V} {i : Nat} {v : V}, Reps g ca F ds vs → vs[i]? = some v → ∃ d, ds[i]? = some d ∧ Rep g ca F d v
  | [], vs, i, v, h, e => by simp only [Reps] at h; subst h; simp at e
  | d' :: ds, vs, i, v, h, e => by
    simp only [Reps] at h
    obtain ⟨v', ws, e', r, rs⟩ := h
    subst e'
    cases i with
    | zero => simp at e; subst e; exact ⟨d', by simp, r⟩
    | succ i => obtain ⟨u, hu, ru⟩ := Reps.get' rs (by simpa using e); exact ⟨u, by simpa using hu, ru⟩
theorem Reps.append {g : G} {ca : List Addr} {F : Hp} : ∀ {ds es : List D} {vs ws : List V}, Reps g ca F ds vs → Reps g ca F es ws → Reps g ca F (ds ++ es) (vs ++ ws)
  | [], es, vs, ws, h, h' => by simp only [Reps] at h; subst h; simpa using h'
  | d :: ds, es, vs, ws, h, h' => by
    simp only [Reps] at h
    obtain ⟨v, us, e, r, rs⟩ := h
    subst e
    simp only [List.cons_append, Reps]
    exact ⟨v, us ++ ws, rfl, r, Reps.append rs h'⟩
theorem Reps.one {g : G} {ca : List Addr} {F : Hp} {d : D} {v : V} (h : Rep g ca F d v) : Reps g ca F [d] [v] := by
  simp only [Reps]; exact ⟨v, [], rfl, h, rfl⟩
theorem Reps.nil {g : G} {ca : List Addr} {F : Hp} : Reps g ca F [] [] := by simp only [Reps]
theorem Reps.cons {g : G} {ca : List Addr} {F : Hp} {d : D} {v : V} {ds : List D} {vs : List V} (h : Rep g ca F d v) (r : Reps g ca F ds vs) : Reps g ca F (d :: ds) (v :: vs) := by
  simp only [Reps]; exact ⟨v, vs, rfl, h, r⟩
theorem Reps.take {g : G} {ca : List Addr} {F : Hp} : ∀ (n : Nat) {ds : List D} {vs : List V}, Reps g ca F ds vs → Reps g ca F (ds.take n) (vs.take n)
  | 0, _, _, _ => by simp only [List.take_zero]; exact .nil
  | n + 1, [], vs, h => by simp only [Reps] at h; subst h; simpa using Reps.nil
  | n + 1, d :: ds, vs, h => by
    simp only [Reps] at h
    obtain ⟨v, us, e, r, rs⟩ := h
    subst e
    simp only [List.take_succ_cons]
    exact .cons r (Reps.take n rs)
theorem Reps.drop {g : G} {ca : List Addr} {F : Hp} : ∀ (n : Nat) {ds : List D} {vs : List V}, Reps g ca F ds vs → Reps g ca F (ds.drop n) (vs.drop n)
  | 0, _, _, h => by simpa using h
  | n + 1, [], vs, h => by simp only [Reps] at h; subst h; simpa using Reps.nil
  | n + 1, d :: ds, vs, h => by
    simp only [Reps] at h
    obtain ⟨v, us, e, r, rs⟩ := h
    subst e
    simpa using Reps.drop n rs
theorem Reps.set {g : G} {ca : List Addr} {F : Hp} {d : D} {v : V} (h : Rep g ca F d v) : ∀ (i : Nat) {ds : List D} {vs : List V}, Reps g ca F ds vs → Reps g ca F (ds.set i d) (vs.set i v)
  | _, [], vs, r => by simp only [Reps] at r; subst r; simpa using Reps.nil
  | 0, d' :: ds, vs, r => by
    simp only [Reps] at r
    obtain ⟨v', us, e, _, rs⟩ := r
    subst e
    exact .cons h rs
  | i + 1, d' :: ds, vs, r => by
    simp only [Reps] at r
    obtain ⟨v', us, e, r', rs⟩ := r
    subst e
    exact .cons r' (Reps.set h i rs)
def CellOk (g : G) (ca : List Addr) (F H : Hp) (a : Addr) : Cell → Prop
  | .lst ds => ∃ xs, H a = some (.lst xs) ∧ Reps g ca F ds xs
  | .ins c ds => ∃ dx xs, H a = some (.ins (g.cls c) dx (((g.fn c).take ds.length).zip xs)) ∧ Reps g ca F ds xs
  | .dead => True
  | .dK ks ds => ∃ xs, H a = some (.dK (kvI ks xs)) ∧ ks.length = ds.length ∧ Reps g ca F ds xs
  | .dT ks ds => ∃ xs, H a = some (.dT (kvT ks xs)) ∧ ks.length = ds.length ∧ Reps g ca F ds xs
  | .orc N ps => ∃ x c : Int, H a = some (.lst [.int x, .int c]) ∧ Con N ps x c
def Live (s : S) (i : Nat) : Prop := ∃ c, s[i]? = some c ∧ c ≠ .dead
structure Sim (g : G) (ca : List Addr) (F P : Hp) (s : S) (H : Hp) : Prop where
  sub : Sub F H
  fr : Sub P H
  dis : ∀ (a : Addr) (o : HO), P a = some o → F a = none ∨ ∃ xs, F a = some (.tup xs)
  len : ca.length = s.length
  nd : ∀ (i j : Nat) (a : Addr), ca[i]? = some a → ca[j]? = some a → Live s i → Live s j → i = j
  out : ∀ (i : Nat) (a : Addr), ca[i]? = some a → Live s i → F a = none ∧ P a = none
  at_ : ∀ (i : Nat) (a : Addr) (c : Cell), ca[i]? = some a → s[i]? = some c → CellOk g ca F H a c
theorem CellOk.mono {g : G} {ca ca' : List Addr} {F F' H H' : Hp} {a : Addr} {c : Cell} (hc : ca <+: ca') (hF : Sub F F') (hH : H' a = H a) (h : CellOk g ca F H a c) : CellOk g ca' F' H' a c := by
  cases c with
  | lst ds => obtain ⟨xs, e, r⟩ := h; exact ⟨xs, hH.trans e, Reps.mono hc hF _ _ r⟩
  | ins c ds => obtain ⟨dx, xs, e, r⟩ := h; exact ⟨dx, xs, hH.trans e, Reps.mono hc hF _ _ r⟩
  | dead => trivial
  | dK ks ds => obtain ⟨xs, e, l, r⟩ := h; exact ⟨xs, hH.trans e, l, Reps.mono hc hF _ _ r⟩
  | dT ks ds => obtain ⟨xs, e, l, r⟩ := h; exact ⟨xs, hH.trans e, l, Reps.mono hc hF _ _ r⟩
  | orc N ps => obtain ⟨x, c, e, q⟩ := h; exact ⟨x, c, hH.trans e, q⟩
theorem CellOk.some {g : G} {ca : List Addr} {F H : Hp} {a : Addr} {c : Cell} (h : CellOk g ca F H a c) (hd : c ≠ .dead) : H a ≠ none := by
  cases c with
  | lst ds => obtain ⟨xs, e, r⟩ := h; rw [e]; simp
  | ins c ds => obtain ⟨dx, xs, e, r⟩ := h; rw [e]; simp
  | dead => exact absurd rfl hd
  | dK ks ds => obtain ⟨xs, e, l, r⟩ := h; rw [e]; simp
  | dT ks ds => obtain ⟨xs, e, l, r⟩ := h; rw [e]; simp
  | orc N ps => obtain ⟨x, c, e, q⟩ := h; rw [e]; simp
theorem Sim.apart {g : G} {ca : List Addr} {F P H : Hp} {s : S} {p : Addr} (m : Sim g ca F P s H) (hp : H p = none) {i : Nat} {a : Addr} (e : ca[i]? = some a) (l : Live s i) : a ≠ p := by
  obtain ⟨c, q, hd⟩ := l
  rintro rfl
  exact (m.at_ i a c e q).some hd hp
theorem Sim.disN {g : G} {ca : List Addr} {F P H : Hp} {s : S} {a : Addr} {o : HO} (m : Sim g ca F P s H) (e : P a = some o) (n : ∀ xs, o ≠ .tup xs) : F a = none := by
  rcases m.dis a o e with h | ⟨xs, h⟩
  · exact h
  · have h1 := m.sub _ _ h
    rw [m.fr _ _ e] at h1
    exact absurd (Option.some.inj h1) (n xs)
theorem cell_notup {g : G} {ca : List Addr} {F H : Hp} {a : Addr} {c : Cell} (h : CellOk g ca F H a c) (hd : c ≠ .dead) (xs : List V) : H a ≠ some (HO.tup xs) := by
  cases c with
  | lst ds => obtain ⟨ys, e, r⟩ := h; rw [e]; intro z; cases z
  | ins c ds => obtain ⟨dx, ys, e, r⟩ := h; rw [e]; intro z; cases z
  | dead => exact absurd rfl hd
  | dK ks ds => obtain ⟨ys, e, l, r⟩ := h; rw [e]; intro z; cases z
  | dT ks ds => obtain ⟨ys, e, l, r⟩ := h; rw [e]; intro z; cases z
  | orc N ps => obtain ⟨x, c, e, q⟩ := h; rw [e]; intro z; cases z
theorem Sim.seen {g : G} {ca : List Addr} {F P H : Hp} {s : S} {p : Addr} {xs : List V} (m : Sim g ca F P s H) (hp : H p = some (.tup xs)) : Sim g ca (upd F p (.tup xs)) P s H ∧ Sub F (upd F p (.tup xs)) := by
  have hs : Sub F (upd F p (.tup xs)) := fun a u e => by
    by_cases ha : a = p
    · subst ha
      rw [upd_same, ← hp, m.sub _ _ e]
    · rw [upd_ne ha]; exact e
  refine ⟨⟨fun a u e => ?_, m.fr, fun a u e => ?_, m.len, m.nd, fun i a e l => ?_, fun i a c e q => ?_⟩, hs⟩
  · by_cases ha : a = p
    · subst ha; rw [upd_same] at e; rw [hp]; exact e
    · rw [upd_ne ha] at e; exact m.sub _ _ e
  · by_cases ha : a = p
    · subst ha; exact .inr ⟨xs, upd_same⟩
    · rw [upd_ne ha]; exact m.dis a u e
  · have ha : a ≠ p := by
      rintro rfl
      obtain ⟨c, q, d⟩ := l
      exact cell_notup (m.at_ i a c e q) d xs hp
    rw [upd_ne ha]
    exact m.out i a e l
  · exact (m.at_ i a c e q).mono List.prefix_rfl hs rfl
theorem Sim.fresh {g : G} {ca : List Addr} {F P H : Hp} {s : S} {p : Addr} (o : HO) (m : Sim g ca F P s H) (hp : H p = none) : Sim g ca (upd F p o) P s (upd H p o) where
  sub := m.sub.both
  fr := m.fr.put (m.fr.free hp)
  dis := fun a u e => by
    have : a ≠ p := ne_of_none e (m.fr.free hp)
    rw [upd_ne this]; exact m.dis a u e
  len := m.len
  nd := m.nd
  out := fun i a e l => by rw [upd_ne (m.apart hp e l)]; exact m.out i a e l
  at_ := fun i a c e q => by
    by_cases hd : c = .dead
    · subst hd; trivial
    · exact (m.at_ i a c e q).mono List.prefix_rfl (Sub.new (m.sub.free hp)) (upd_ne (m.apart hp e ⟨c, q, hd⟩))
theorem Sim.cell {g : G} {ca : List Addr} {F P H : Hp} {s : S} {p : Addr} {xs : List V} {ds : List D} (m : Sim g ca F P s H) (hp : H p = none) (r : Reps g ca F ds xs) : Sim g (ca ++ [p]) F P (s ++ [.lst ds]) (upd H p (.lst xs)) where
  sub := m.sub.put (m.sub.free hp)
  fr := m.fr.put (m.fr.free hp)
  dis := m.dis
  len := by simp [m.len]
  nd := fun i j a e1 e2 l1 l2 => by
    have hl := m.len
    have dec : ∀ k, (ca ++ [p])[k]? = some a → Live (s ++ [.lst ds]) k → (k < ca.length ∧ ca[k]? = some a ∧ Live s k) ∨ (k = ca.length ∧ a = p) := fun k e l => by
      by_cases hk : k < ca.length
      · refine .inl ⟨hk, by rwa [List.getElem?_append_left hk] at e, ?_⟩
        obtain ⟨c, q, d⟩ := l
        exact ⟨c, by rwa [List.getElem?_append_left (by omega)] at q, d⟩
      · have hk2 : k < (ca ++ [p]).length := (List.getElem?_eq_some_iff.mp e).1
        have : k = ca.length := by simp at hk2; omega
        subst this
        simp at e
        exact .inr ⟨rfl, e.symm⟩
    rcases dec i e1 l1 with ⟨h1, q1, k1⟩ | ⟨h1, q1⟩ <;> rcases dec j e2 l2 with ⟨h2, q2, k2⟩ | ⟨h2, q2⟩
    · exact m.nd i j a q1 q2 k1 k2
    · exact absurd q2 (m.apart hp q1 k1)
    · exact absurd q1 (m.apart hp q2 k2)
    · omega
  out := fun i a e l => by
    by_cases hk : i < ca.length
    · obtain ⟨c, q, d⟩ := l
      rw [List.getElem?_append_left hk] at e
      exact m.out i a e ⟨c, by rwa [List.getElem?_append_left (by have := m.len; omega)] at q, d⟩
    · have hk2 : i < (ca ++ [p]).length := (List.getElem?_eq_some_iff.mp e).1
      have : i = ca.length := by simp at hk2; omega
      subst this
      simp at e
      subst e
      exact ⟨m.sub.free hp, m.fr.free hp⟩
  at_ := fun i a c e q => by
    have hl := m.len
    by_cases hk : i < ca.length
    · rw [List.getElem?_append_left hk] at e
      rw [List.getElem?_append_left (by omega)] at q
      by_cases hd : c = .dead
      · subst hd; trivial
      · exact (m.at_ i a c e q).mono (List.prefix_append _ _) (Sub.refl _) (upd_ne (m.apart hp e ⟨c, q, hd⟩))
    · have hk2 : i < (ca ++ [p]).length := (List.getElem?_eq_some_iff.mp e).1
      have : i = ca.length := by simp at hk2; omega
      subst this
      simp at e
      subst e
      rw [hl] at q
      simp at q
      subst q
      exact ⟨xs, upd_same, Reps.mono (List.prefix_append _ _) (Sub.refl _) _ _ r⟩
theorem Sim.store {g : G} {ca : List Addr} {F P H : Hp} {s : S} {p : Addr} {i : Nat} {c0 c : Cell} {o : HO} (m : Sim g ca F P s H) (hi : ca[i]? = some p) (h0 : s[i]? = some c0) (hd : c0 ≠ .dead)
    (hc : CellOk g ca F (upd H p o) p c) : Sim g ca F P (s.set i c) (upd H p o) where
  sub := m.sub.put (m.out i p hi ⟨c0, h0, hd⟩).1
  fr := m.fr.put (m.out i p hi ⟨c0, h0, hd⟩).2
  dis := m.dis
  len := by simp [m.len]
  nd := fun j k a e1 e2 l1 l2 => by
    have back : ∀ k, Live (s.set i c) k → Live s k := fun k ⟨c', q, d⟩ => by
      by_cases hk : i = k
      · subst hk; exact ⟨c0, h0, hd⟩
      · rw [List.getElem?_set_ne hk] at q; exact ⟨c', q, d⟩
    exact m.nd j k a e1 e2 (back j l1) (back k l2)
  out := fun j a e ⟨c', q, d⟩ => by
    by_cases hk : i = j
    · subst hk; exact m.out i a e ⟨c0, h0, hd⟩
    · rw [List.getElem?_set_ne hk] at q; exact m.out j a e ⟨c', q, d⟩
  at_ := fun j a c' e q => by
    by_cases hk : i = j
    · subst hk
      rw [hi] at e; cases e
      rw [List.getElem?_set_self (List.getElem?_eq_some_iff.mp h0).1] at q
      cases q
      exact hc
    · rw [List.getElem?_set_ne hk] at q
      by_cases hd' : c' = .dead
      · subst hd'; trivial
      · refine (m.at_ j a c' e q).mono List.prefix_rfl (Sub.refl _) (upd_ne ?_)
        rintro rfl
        exact hk (m.nd i j _ hi e ⟨c0, h0, hd⟩ ⟨c', q, hd'⟩)
theorem Sim.freeze {g : G} {ca : List Addr} {F P H : Hp} {s : S} {p : Addr} {i : Nat} {c0 : Cell} {o : HO} (m : Sim g ca F P s H) (hi : ca[i]? = some p) (h0 : s[i]? = some c0) (hd : c0 ≠ .dead) (ho : H p = some o) :
    Sim g ca (upd F p o) P (s.set i .dead) H ∧ F p = none := by
  obtain ⟨hp, hpP⟩ := m.out i p hi ⟨c0, h0, hd⟩
  refine ⟨⟨fun a u e => ?_, m.fr, fun a u e => ?_, by simp [m.len], fun j k a e1 e2 l1 l2 => ?_, fun j a e l => ?_, fun j a c e q => ?_⟩, hp⟩
  · by_cases ha : a = p
    · subst ha; rw [upd_same] at e; cases e; exact ho
    · rw [upd_ne ha] at e; exact m.sub _ _ e
  · have : a ≠ p := ne_of_none e hpP
    rw [upd_ne this]; exact m.dis a u e
  · have back : ∀ k, Live (s.set i .dead) k → Live s k := fun k ⟨c', q, d⟩ => by
      by_cases hk : i = k
      · subst hk; exact ⟨c0, h0, hd⟩
      · rw [List.getElem?_set_ne hk] at q; exact ⟨c', q, d⟩
    exact m.nd j k a e1 e2 (back j l1) (back k l2)
  · obtain ⟨c', q, d⟩ := l
    have hk : i ≠ j := by
      rintro rfl
      rw [List.getElem?_set_self (List.getElem?_eq_some_iff.mp h0).1] at q
      cases q; exact d rfl
    rw [List.getElem?_set_ne hk] at q
    have ha : a ≠ p := by
      rintro rfl
      exact hk (m.nd i j _ hi e ⟨c0, h0, hd⟩ ⟨c', q, d⟩)
    rw [upd_ne ha]
    exact m.out j a e ⟨c', q, d⟩
  · by_cases hd' : c = .dead
    · subst hd'; trivial
    · have hk : i ≠ j := by
        rintro rfl
        rw [List.getElem?_set_self (List.getElem?_eq_some_iff.mp h0).1] at q
        exact hd' (Option.some.inj q).symm
      rw [List.getElem?_set_ne hk] at q
      exact (m.at_ j a c e q).mono List.prefix_rfl (Sub.new hp) rfl
theorem Sim.cut {g : G} {ca ca' : List Addr} {F P H : Hp} {s : S} (m : Sim g (ca ++ ca') F P s H) (hp : ∀ c ∈ s.take ca.length, match c with | .lst ds => clL (s.take ca.length).length ds = true | .ins _ ds => clL (s.take ca.length).length ds = true | .dead => True | .dK _ ds => clL (s.take ca.length).length ds = true | .dT _ ds => clL (s.take ca.length).length ds = true | .orc _ _ => True) : Sim g ca F P (s.take ca.length) H := by
  have hl := m.len
  have lv : ∀ i, Live (s.take ca.length) i → Live s i ∧ i < ca.length := fun i ⟨c, q, d⟩ => by
    have hi : i < (s.take ca.length).length := (List.getElem?_eq_some_iff.mp q).1
    rw [List.length_take] at hi
    refine ⟨⟨c, ?_, d⟩, by omega⟩
    rwa [List.getElem?_take_of_lt (by omega)] at q
  have up : ∀ (i : Nat) a, ca[i]? = some a → (ca ++ ca')[i]? = some a := fun i a e => prefix_get (List.prefix_append _ _) e
  refine ⟨m.sub, m.fr, m.dis, by simp at hl; simp [List.length_take]; omega, fun i j a e1 e2 l1 l2 => m.nd i j a (up i a e1) (up j a e2) (lv i l1).1 (lv j l2).1, fun i a e l => m.out i a (up i a e) (lv i l).1, fun i a c e q => ?_⟩
  have hi : i < (s.take ca.length).length := (List.getElem?_eq_some_iff.mp q).1
  rw [List.length_take] at hi
  have hq : s[i]? = some c := by rwa [List.getElem?_take_of_lt (by omega)] at q
  have := hp c (List.mem_of_getElem? q)
  have tl : (s.take ca.length).length = ca.length := by rw [List.length_take]; simp at hl; omega
  rw [tl] at this
  have z := m.at_ i a c (up i a e) hq
  cases c with
  | lst ds => obtain ⟨xs, h1, h2⟩ := z; exact ⟨xs, h1, Reps.clo _ _ this h2⟩
  | ins c ds => obtain ⟨dx, xs, h1, h2⟩ := z; exact ⟨dx, xs, h1, Reps.clo _ _ this h2⟩
  | dead => trivial
  | dK ks ds => obtain ⟨xs, h1, l, h2⟩ := z; exact ⟨xs, h1, l, Reps.clo _ _ this h2⟩
  | dT ks ds => obtain ⟨xs, h1, l, h2⟩ := z; exact ⟨xs, h1, l, Reps.clo _ _ this h2⟩
  | orc N ps => exact z
theorem Sim.frame {g : G} {ca : List Addr} {F P P' H H' : Hp} {s : S} (m : Sim g ca F P s H) (fr : Sub P' H') (dis : ∀ a o, P' a = some o → F a = none ∨ ∃ xs, F a = some (.tup xs)) (cells : ∀ (i : Nat) (a : Addr), ca[i]? = some a → Live s i → P' a = none)
    (hH : ∀ a, P' a = none → P a = none → H' a = H a ∨ H a = none) (hF : ∀ a o, F a = some o → H' a = some o) : Sim g ca F P' s H' where
  sub := hF
  fr := fr
  dis := dis
  len := m.len
  nd := m.nd
  out := fun i a e l => ⟨(m.out i a e l).1, cells i a e l⟩
  at_ := fun i a c e q => by
    by_cases hd : c = .dead
    · subst hd; trivial
    · have l : Live s i := ⟨c, q, hd⟩
      refine (m.at_ i a c e q).mono List.prefix_rfl (Sub.refl _) ?_
      rcases hH a (cells i a e l) (m.out i a e l).2 with z | z
      · exact z
      · exact absurd z ((m.at_ i a c e q).some hd)
inductive Res (α : Type) where
  | stuck | ok (a : α) (s : S) | exn (c : Nat) (pl : List D) (s : S)
  deriving Inhabited
def Res.bind {α β : Type} (r : Res α) (f : α → S → Res β) : Res β :=
  match r with
  | .stuck => .stuck
  | .ok a s => f a s
  | .exn c pl s => .exn c pl s
@[simp] theorem Res.bind_ok {α β : Type} (a : α) (s : S) (f : α → S → Res β) : (Res.ok a s).bind f = f a s := rfl
@[simp] theorem Res.bind_stuck {α β : Type} (f : α → S → Res β) : (Res.stuck : Res α).bind f = .stuck := rfl
@[simp] theorem Res.bind_exn {α β : Type} (c : Nat) (pl : List D) (s : S) (f : α → S → Res β) : (Res.exn c pl s : Res α).bind f = .exn c pl s := rfl
def XOk (g : G) (ca : List Addr) (F H : Hp) (c : Nat) (pl : List D) (dO : Option Addr) : Prop :=
  (pl = [] ∧ dO = none) ∨ ∃ d vs, dO = some d ∧ F d = some (.xd ((g.fn c).zip vs)) ∧ pl.length = (g.fn c).length ∧ Reps g ca F pl vs
def Post {α : Type} (g : G) (ca : List Addr) (F P : Hp) (E : XK) (Q : α → S → List Addr → Hp → Hp → Prop) : Res α → Prop
  | .stuck => False
  | .ok a s => ∀ ca' F' H', ca <+: ca' → Sub F F' → Sim g ca' F' P s H' → Q a s ca' F' H'
  | .exn c pl s => ∀ ca' F' H' dO, ca <+: ca' → Sub F F' → Sim g ca' F' P s H' → XOk g ca' F' H' c pl dO → E (.ref (g.cls c)) dO H'
theorem Post.imp {α : Type} {g : G} {ca : List Addr} {F P : Hp} {E : XK} {Q Q' : α → S → List Addr → Hp → Hp → Prop} {r : Res α} (h : Post g ca F P E Q r)
    (i : ∀ a s ca' F' H', ca <+: ca' → Sub F F' → Sim g ca' F' P s H' → Q a s ca' F' H' → Q' a s ca' F' H') : Post g ca F P E Q' r := by
  cases r with
  | stuck => exact h
  | ok a s => exact fun ca' F' H' h1 h2 h3 => i _ _ _ _ _ h1 h2 h3 (h ca' F' H' h1 h2 h3)
  | exn c pl s => exact h
theorem Post.later {α : Type} {g : G} {ca ca1 : List Addr} {F F1 P : Hp} {E : XK} {Q : α → S → List Addr → Hp → Hp → Prop} {r : Res α} (h : Post g ca F P E Q r) (h1 : ca <+: ca1) (h2 : Sub F F1) : Post g ca1 F1 P E Q r := by
  cases r with
  | stuck => exact h
  | ok a s => exact fun ca' F' H' a1 a2 a3 => h ca' F' H' (h1.trans a1) (h2.trans a2) a3
  | exn c pl s => exact fun ca' F' H' dO a1 a2 a3 a4 => h ca' F' H' dO (h1.trans a1) (h2.trans a2) a3 a4
theorem Post.seq {α β : Type} {g : G} {ca : List Addr} {F P : Hp} {E : XK} {Q : β → S → List Addr → Hp → Hp → Prop} {r : Res α} {f : α → S → Res β} (h : Post g ca F P E Q (r.bind f)) :
    Post g ca F P E (fun a s ca1 F1 H1 => Post g ca1 F1 P E Q (f a s)) r := by
  cases r with
  | stuck => exact h
  | ok a s => exact fun ca' F' H' a1 a2 _ => Post.later h a1 a2
  | exn c pl s => exact h
theorem Post.seq0 {α β : Type} {g : G} {ca : List Addr} {F P : Hp} {E : XK} {Q : β → S → List Addr → Hp → Hp → Prop} {r : Res α} {f : α → S → Res β} (h : Post g ca F P E Q (r.bind f)) :
    Post g ca F P E (fun a s _ _ _ => Post g ca F P E Q (f a s)) r := by
  cases r with
  | stuck => exact h
  | ok a s => exact fun ca' F' H' a1 a2 _ => h
  | exn c pl s => exact h
theorem Post.now {α : Type} {g : G} {ca : List Addr} {F P H : Hp} {E : XK} {Q : α → S → List Addr → Hp → Hp → Prop} {a : α} {s : S} (h : Post g ca F P E Q (.ok a s)) (m : Sim g ca F P s H) : Q a s ca F H :=
  h ca F H List.prefix_rfl (Sub.refl F) m
abbrev Env := List (Option D)
def Slots (g : G) (ca : List Addr) (F : Hp) (env : Env) (σ : L2.St) : Prop := env.length = σ.length ∧ ∀ (i : Nat) d, env[i]? = some (some d) → ∃ v, σ[i]? = some (some v) ∧ Rep g ca F d v
theorem Slots.mono {g : G} {ca ca' : List Addr} {F F' : Hp} {env : Env} {σ : L2.St} (hc : ca <+: ca') (hF : Sub F F') (h : Slots g ca F env σ) : Slots g ca' F' env σ :=
  ⟨h.1, fun i d e => let ⟨v, e', r⟩ := h.2 i d e; ⟨v, e', Rep.mono hc hF _ _ r⟩⟩
theorem Slots.set {g : G} {ca : List Addr} {F : Hp} {env : Env} {σ : L2.St} {i : Nat} {d : D} {v : V} (h : Slots g ca F env σ) (r : Rep g ca F d v) : Slots g ca F (env.set i (some d)) (σ.set i (some v)) := by
  refine ⟨by simp [h.1], fun j d' e => ?_⟩
  by_cases hj : i = j
  · subst hj
    have hl : i < env.length := by have := (List.getElem?_eq_some_iff.mp e).1; simpa using this
    rw [List.getElem?_set_self hl] at e
    cases e
    exact ⟨v, by rw [List.getElem?_set_self (h.1 ▸ hl)], r⟩
  · rw [List.getElem?_set_ne hj] at e ⊢
    exact h.2 j d' e
def Ev (X : Cx) (g : G) (E : XK) (e : Expr) (m : Env → S → Res D) : Prop :=
  ∃ t : TE, PE X e t ∧ ∀ (env : Env) (s : S) (ca : List Addr) (F P H : Hp) (σ : L2.St) (Q : VK), Sim g ca F P s H → Slots g ca F env σ →
    Post g ca F P E (fun d _ ca' F' H' => ∀ v, Rep g ca' F' d v → Q v H') (m env s) → t σ H Q
def Et (X : Cx) (g : G) (E : XK) (e : Expr) (m : Env → S → Res Bool) : Prop :=
  ∃ t : TT, PT X e t ∧ ∀ (env : Env) (s : S) (ca : List Addr) (F P H : Hp) (σ : L2.St) (Q : Bool → Hp → Prop), Sim g ca F P s H → Slots g ca F env σ →
    Post g ca F P E (fun b _ _ _ H' => Q b H') (m env s) → t σ H Q
def Ea (X : Cx) (g : G) (E : XK) (es : List Expr) (m : Env → S → Res (List D)) : Prop :=
  ∃ t : TA, PA X es t ∧ ∀ (env : Env) (s : S) (ca : List Addr) (F P H : Hp) (σ : L2.St) (Q : List V → Hp → Prop), Sim g ca F P s H → Slots g ca F env σ →
    Post g ca F P E (fun ds _ ca' F' H' => ∀ vs, Reps g ca' F' ds vs → Q vs H') (m env s) → t σ H Q
inductive Fl where
  | nx (env : Env) | rt (d : D) | bk (env : Env) | ct (env : Env)
  deriving Inhabited
def FlOk (g : G) (ca : List Addr) (F H : Hp) (Dn : Ends) : Fl → Prop
  | .nx env => ∀ σ, Slots g ca F env σ → Dn.nx σ H
  | .rt d => ∀ v, Rep g ca F d v → Dn.rt v H
  | .bk env => ∀ σ, Slots g ca F env σ → Dn.bk σ H
  | .ct env => ∀ σ, Slots g ca F env σ → Dn.ct σ H
def Sv (X : Cx) (g : G) (E : XK) (st : Stmt) (m : Env → S → Res Fl) : Prop :=
  ∃ t : TS, PS X st t ∧ ∀ (env : Env) (s : S) (ca : List Addr) (F P H : Hp) (σ : L2.St) (Dn : Ends), Sim g ca F P s H → Slots g ca F env σ →
    Post g ca F P E (fun fl _ ca' F' H' => FlOk g ca' F' H' Dn fl) (m env s) → t Dn σ H
def Svs (X : Cx) (g : G) (E : XK) (sts : List Stmt) (m : Env → S → Res Fl) : Prop :=
  ∃ t : TS, PSs X sts t ∧ ∀ (env : Env) (s : S) (ca : List Addr) (F P H : Hp) (σ : L2.St) (Dn : Ends), Sim g ca F P s H → Slots g ca F env σ →
    Post g ca F P E (fun fl _ ca' F' H' => FlOk g ca' F' H' Dn fl) (m env s) → t Dn σ H
def spG (g : G) (n : Nat) (f : List D → S → Res D) : Sp := fun vs H Q E => ∃ ds ca F P s, vs.length = n ∧ Sim g ca F P s H ∧ Reps g ca F ds vs ∧
  Post g ca F P E (fun d _ ca' F' H' => ∀ v, Rep g ca' F' d v → Q v H') (f ds s)
end Pm
set_option Elab.async false
set_option linter.all false
set_option maxRecDepth 100000
set_option maxHeartbeats 2000000
namespace Pm
open PySem PySem.Spec PyProof.Rows L2
section
variable {X : Cx} {g : G} {E : XK}
def OpD (X : Cx) (g : G) (E : XK) (fv : Value → Value → Sem Value) (f : D → D → S → Res D) : Prop :=
  ∃ r : R2, OpR X fv r ∧ ∀ (x y : D) (s : S) (ca : List Addr) (F P H : Hp) (v u : V) (Q : VK), Sim g ca F P s H → Rep g ca F x v → Rep g ca F y u →
    Post g ca F P E (fun d _ ca' F' H' => ∀ w, Rep g ca' F' d w → Q w H') (f x y s) → r v u H Q
def IxD (X : Cx) (g : G) (E : XK) (f : D → D → S → Res D) : Prop :=
  ∃ r : R2, IxR X r ∧ ∀ (x y : D) (s : S) (ca : List Addr) (F P H : Hp) (v u : V) (Q : VK), Sim g ca F P s H → Rep g ca F x v → Rep g ca F y u →
    Post g ca F P E (fun d _ ca' F' H' => ∀ w, Rep g ca' F' d w → Q w H') (f x y s) → r v u H Q
def UnD (X : Cx) (g : G) (E : XK) (fv : Value → Sem Value) (f : D → S → Res D) : Prop :=
  ∃ r : V → Hp → VK → Prop, UnR X fv r ∧ ∀ (x : D) (s : S) (ca : List Addr) (F P H : Hp) (v : V) (Q : VK), Sim g ca F P s H → Rep g ca F x v →
    Post g ca F P E (fun d _ ca' F' H' => ∀ w, Rep g ca' F' d w → Q w H') (f x s) → r v H Q
def CallD (X : Cx) (g : G) (E : XK) (fv : Value) (f : List D → S → Res D) : Prop :=
  ∃ r : List V → Hp → VK → Prop, CallR X fv r ∧ ∀ (xs : List D) (s : S) (ca : List Addr) (F P H : Hp) (vs : List V) (Q : VK), Sim g ca F P s H → Reps g ca F xs vs →
    Post g ca F P E (fun d _ ca' F' H' => ∀ w, Rep g ca' F' d w → Q w H') (f xs s) → r vs H Q
def Res.or {α : Type} (a b : Res α) : Res α := match a with
  | .stuck => b
  | r => r
theorem Post.or {α : Type} {ca : List Addr} {F P : Hp} {Q : α → S → List Addr → Hp → Hp → Prop} {a b : Res α} (h : Post g ca F P E Q (a.or b)) : Post g ca F P E Q a ∨ Post g ca F P E Q b := by
  cases a with
  | stuck => exact .inr h
  | ok a s => exact .inl h
  | exn c pl s => exact .inl h
theorem OpD.or {fv : Value → Value → Sem Value} {f f' : D → D → S → Res D} (h : OpD X g E fv f) (h' : OpD X g E fv f') : OpD X g E fv (fun x y s => (f x y s).or (f' x y s)) := by
  obtain ⟨r, h1, h2⟩ := h
  obtain ⟨r', h1', h2'⟩ := h'
  exact ⟨_, OpR.or h1 h1', fun x y s ca F P H v u Q m rx ry p => p.or.imp (h2 x y s ca F P H v u Q m rx ry) (h2' x y s ca F P H v u Q m rx ry)⟩
theorem IxR.or {r r' : R2} (h : IxR X r) (h' : IxR X r') : IxR X (fun x y H Q => r x y H Q ∨ r' x y H Q) := fun a b pins s σ H x y v u Q I rx ry hq hs =>
  hq.elim (fun z => h a b pins s σ H x y v u Q I rx ry z hs) fun z => h' a b pins s σ H x y v u Q I rx ry z hs
theorem IxD.or {f f' : D → D → S → Res D} (h : IxD X g E f) (h' : IxD X g E f') : IxD X g E (fun x y s => (f x y s).or (f' x y s)) := by
  obtain ⟨r, h1, h2⟩ := h
  obtain ⟨r', h1', h2'⟩ := h'
  exact ⟨_, IxR.or h1 h1', fun x y s ca F P H v u Q m rx ry p => p.or.imp (h2 x y s ca F P H v u Q m rx ry) (h2' x y s ca F P H v u Q m rx ry)⟩
theorem UnD.or {fv : Value → Sem Value} {f f' : D → S → Res D} (h : UnD X g E fv f) (h' : UnD X g E fv f') : UnD X g E fv (fun x s => (f x s).or (f' x s)) := by
  obtain ⟨r, h1, h2⟩ := h
  obtain ⟨r', h1', h2'⟩ := h'
  refine ⟨fun x H Q => r x H Q ∨ r' x H Q, fun pins s σ H x v Q I rx hq => hq.elim (h1 pins s σ H x v Q I rx) (h1' pins s σ H x v Q I rx), fun x s ca F P H v Q m rx p => p.or.imp (h2 x s ca F P H v Q m rx) (h2' x s ca F P H v Q m rx)⟩
theorem CallD.or {fv : Value} {f f' : List D → S → Res D} (h : CallD X g E fv f) (h' : CallD X g E fv f') : CallD X g E fv (fun x s => (f x s).or (f' x s)) := by
  obtain ⟨r, h1, h2⟩ := h
  obtain ⟨r', h1', h2'⟩ := h'
  refine ⟨fun x H Q => r x H Q ∨ r' x H Q, fun pins s σ H xs us Q I rx hq => hq.elim (h1 pins s σ H xs us Q I rx) (h1' pins s σ H xs us Q I rx), fun x s ca F P H v Q m rx p => p.or.imp (h2 x s ca F P H v Q m rx) (h2' x s ca F P H v Q m rx)⟩
def mVar (i : Nat) : Env → S → Res D := fun env s => match env[i]? with
  | some (some d) => .ok d s
  | _ => .stuck
def mC (d : D) : Env → S → Res D := fun _ s => .ok d s
theorem ev_var (i : Nat) {x : Str} {pos : Pos} (hN : X.N[i]? = some x := by rfl) (hv : Vis X.env.scope x := by first | exact Or.inl rfl | exact Or.inr (Or.inl rfl) | exact Or.inr (Or.inr rfl)) (hd : (x == ("__debug__" : Str)) = false := by decide)
    (hcd : (x == ("__classdict__" : Str)) = false := by decide) : Ev X g E (.Name x pos) (mVar i) := by
  refine ⟨_, pe_var hN hv hd hcd, fun env s ca F P H σ Q m sl p => ?_⟩
  unfold mVar at p
  split at p
  · rename_i d e
    obtain ⟨v, e', r⟩ := sl.2 i d e
    exact ⟨v, e', p.now m v r⟩
  · exact p.elim
theorem ev_c {e : Expr} {d : D} {v : V} (h : PE X e (tC v)) (r : ∀ ca F, Rep g ca F d v) : Ev X g E e (mC d) :=
  ⟨_, h, fun env s ca F P H σ Q m sl p => p.now m v (r ca F)⟩
theorem ev_int {i j pos} : Ev X g E (.Constant (.int i) j pos) (mC (.int i)) := ev_c pe_int fun _ _ => rfl
theorem ev_bl {b j pos} : Ev X g E (.Constant (.bool b) j pos) (mC (.bl b)) := ev_c pe_bl fun _ _ => rfl
theorem ev_non {j pos} : Ev X g E (.Constant .none j pos) (mC .non) := ev_c pe_non fun _ _ => rfl
theorem ev_str {x j pos} : Ev X g E (.Constant (.str x) j pos) (mC (.str x)) := ev_c pe_str fun _ _ => rfl
variable {a b c e : Expr} {es rest : List Expr} {ma mb mc me : Env → S → Res D} {pos : Pos} {f : D → D → S → Res D}
def m2 (f : D → D → S → Res D) (ma mb : Env → S → Res D) : Env → S → Res D := fun env s => (ma env s).bind fun x s1 => (mb env s1).bind fun y s2 => f x y s2
def m1 (f : D → S → Res D) (ma : Env → S → Res D) : Env → S → Res D := fun env s => (ma env s).bind fun x s1 => f x s1
theorem two_run {ta tb : TE} {r : R2} (ha : ∀ (env : Env) (s : S) (ca : List Addr) (F P H : Hp) (σ : L2.St) (Q : VK), Sim g ca F P s H → Slots g ca F env σ →
      Post g ca F P E (fun d _ ca' F' H' => ∀ v, Rep g ca' F' d v → Q v H') (ma env s) → ta σ H Q)
    (hb : ∀ (env : Env) (s : S) (ca : List Addr) (F P H : Hp) (σ : L2.St) (Q : VK), Sim g ca F P s H → Slots g ca F env σ →
      Post g ca F P E (fun d _ ca' F' H' => ∀ v, Rep g ca' F' d v → Q v H') (mb env s) → tb σ H Q)
    (hr : ∀ (x y : D) (s : S) (ca : List Addr) (F P H : Hp) (v u : V) (Q : VK), Sim g ca F P s H → Rep g ca F x v → Rep g ca F y u → Post g ca F P E (fun d _ ca' F' H' => ∀ w, Rep g ca' F' d w → Q w H') (f x y s) → r v u H Q)
    {env : Env} {s : S} {ca : List Addr} {F P H : Hp} {σ : L2.St} {Q : VK} (m : Sim g ca F P s H) (sl : Slots g ca F env σ) (p : Post g ca F P E (fun d _ ca' F' H' => ∀ v, Rep g ca' F' d v → Q v H') (m2 f ma mb env s)) :
    tOp r ta tb σ H Q := by
  refine ha env s ca F P H σ _ m sl (Post.imp (Post.seq p) fun x s1 ca1 F1 H1 h1 h2 m1 q v rv => ?_)
  refine hb env s1 ca1 F1 P H1 σ _ m1 (sl.mono h1 h2) (Post.imp (Post.seq q) fun y s2 ca2 F2 H2 k1 k2 m2' q2 u ru => ?_)
  exact hr x y s2 ca2 F2 P H2 v u Q m2' (Rep.mono k1 k2 _ _ rv) ru q2
theorem ev_bin {op : Operator} (ho : OpD X g E (binaryOp op) f) (ha : Ev X g E a ma) (hb : Ev X g E b mb) : Ev X g E (.BinOp a op b pos) (m2 f ma mb) := by
  obtain ⟨r, h1, h2⟩ := ho
  obtain ⟨ta, pa, ha⟩ := ha
  obtain ⟨tb, pb, hb⟩ := hb
  exact ⟨_, pe_op h1 pa pb, fun env s ca F P H σ Q m sl p => two_run ha hb h2 m sl p⟩
theorem ev_cmp {op : CmpOp} (ho : OpD X g E (compareOp op) f) (ha : Ev X g E a ma) (hb : Ev X g E b mb) (hm : behindInMarks op b = false := by first | exact nomark _ | rfl) : Ev X g E (.Compare a [op] [b] pos) (m2 f ma mb) := by
  obtain ⟨r, h1, h2⟩ := ho
  obtain ⟨ta, pa, ha⟩ := ha
  obtain ⟨tb, pb, hb⟩ := hb
  exact ⟨_, pe_cmpR h1 pa pb hm, fun env s ca F P H σ Q m sl p => two_run ha hb h2 m sl p⟩
theorem ev_ix (ho : IxD X g E f) (ha : Ev X g E a ma) (hb : Ev X g E b mb) (hs : PlainIx b := by exact fun _ _ => rfl) : Ev X g E (.Subscript a b pos) (m2 f ma mb) := by
  obtain ⟨r, h1, h2⟩ := ho
  obtain ⟨ta, pa, ha⟩ := ha
  obtain ⟨tb, pb, hb⟩ := hb
  exact ⟨_, pe_ix h1 pa pb hs, fun env s ca F P H σ Q m sl p => two_run ha hb h2 m sl p⟩
theorem ev_un {op : UnaryOp} {f : D → S → Res D} (ho : UnD X g E (unaryOp op) f) (ha : Ev X g E a ma) : Ev X g E (.UnaryOp op a pos) (m1 f ma) := by
  obtain ⟨r, h1, h2⟩ := ho
  obtain ⟨ta, pa, ha⟩ := ha
  refine ⟨_, pe_un h1 pa, fun env s ca F P H σ Q m sl p => ?_⟩
  refine ha env s ca F P H σ _ m sl (Post.imp (Post.seq p) fun x s1 ca1 F1 H1 _ _ m1 q v rv => ?_)
  exact h2 x s1 ca1 F1 P H1 v Q m1 rv q
def mB (f : Env → S → Res D) : Env → S → Res Bool := fun env s => (f env s).bind fun x s1 => match x with
  | .bl b => .ok b s1
  | _ => .stuck
theorem et_cmp {op : CmpOp} (ho : OpD X g E (compareOp op) f) (ha : Ev X g E a ma) (hb : Ev X g E b mb) (hm : behindInMarks op b = false := by first | exact nomark _ | rfl) : Et X g E (.Compare a [op] [b] pos) (mB (m2 f ma mb)) := by
  obtain ⟨r, h1, h2⟩ := ho
  obtain ⟨ta, pa, ha⟩ := ha
  obtain ⟨tb, pb, hb⟩ := hb
  refine ⟨_, pt_cmpR h1 pa pb hm, fun env s ca F P H σ Q m sl p => ?_⟩
  refine two_run (Q := fun x H' => ∃ k, x = .bl k ∧ Q k H') ha hb h2 m sl (Post.imp (Post.seq p) fun x s1 ca1 F1 H1 _ _ m1 q v rv => ?_)
  cases x with
  | bl b => exact ⟨b, rv, q.now m1⟩
  | _ => exact q.elim
variable {ta tb tc : Env → S → Res Bool}
def mNotT (t : Env → S → Res Bool) : Env → S → Res Bool := fun env s => (t env s).bind fun b s1 => .ok (!b) s1
def mAndT (t u : Env → S → Res Bool) : Env → S → Res Bool := fun env s => (t env s).bind fun b s1 => if b = true then u env s1 else .ok false s1
def mOrT (t u : Env → S → Res Bool) : Env → S → Res Bool := fun env s => (t env s).bind fun b s1 => if b = true then .ok true s1 else u env s1
theorem et_not (h : Et X g E a ta) : Et X g E (.UnaryOp .Not a pos) (mNotT ta) := by
  obtain ⟨t, p, h⟩ := h
  refine ⟨_, pt_not p, fun env s ca F P H σ Q m sl q => ?_⟩
  exact h env s ca F P H σ _ m sl (Post.imp (Post.seq q) fun x s1 ca1 F1 H1 _ _ m1 q => q.now m1)
def Ew (X : Cx) (g : G) (E : XK) (e : Expr) (m : Env → S → Res Bool) : Prop :=
  ∃ t : TT, PW X e t ∧ ∀ (env : Env) (s : S) (ca : List Addr) (F P H : Hp) (σ : L2.St) (Q : Bool → Hp → Prop), Sim g ca F P s H → Slots g ca F env σ →
    Post g ca F P E (fun b _ _ _ H' => Q b H') (m env s) → t σ H Q
theorem Ew.et (h : Ew X g E e ta) : Et X g E e ta := let ⟨t, p, h⟩ := h; ⟨t, p.pt, h⟩
theorem ew_and1 (h : Et X g E a ta) : Ew X g E (.BoolOp .And [a] pos) ta := let ⟨t, p, h⟩ := h; ⟨t, pw_and1 p, h⟩
theorem ew_or1 (h : Et X g E a ta) : Ew X g E (.BoolOp .Or [a] pos) ta := let ⟨t, p, h⟩ := h; ⟨t, pw_or1 p, h⟩
theorem ew_and (ha : Et X g E a ta) (hb : Ew X g E (.BoolOp .And (b :: rest) pos) tb) : Ew X g E (.BoolOp .And (a :: b :: rest) pos) (mAndT ta tb) := by
  obtain ⟨t, p, h⟩ := ha
  obtain ⟨u, p', h'⟩ := hb
  refine ⟨_, pw_and p p', fun env s ca F P H σ Q m sl q => ?_⟩
  refine h env s ca F P H σ _ m sl (Post.imp (Post.seq q) fun x s1 ca1 F1 H1 k1 k2 m1 q => ?_)
  cases x with
  | true => exact h' env s1 ca1 F1 P H1 σ _ m1 (sl.mono k1 k2) q
  | false => exact q.now m1
theorem ew_or (ha : Et X g E a ta) (hb : Ew X g E (.BoolOp .Or (b :: rest) pos) tb) : Ew X g E (.BoolOp .Or (a :: b :: rest) pos) (mOrT ta tb) := by
  obtain ⟨t, p, h⟩ := ha
  obtain ⟨u, p', h'⟩ := hb
  refine ⟨_, pw_or p p', fun env s ca F P H σ Q m sl q => ?_⟩
  refine h env s ca F P H σ _ m sl (Post.imp (Post.seq q) fun x s1 ca1 F1 H1 k1 k2 m1 q => ?_)
  cases x with
  | true => exact q.now m1
  | false => exact h' env s1 ca1 F1 P H1 σ _ m1 (sl.mono k1 k2) q
def mAnd (ma mb : Env → S → Res D) : Env → S → Res D := fun env s => (ma env s).bind fun x s1 => match x with
  | .bl true => mb env s1
  | .bl false => .ok (.bl false) s1
  | _ => .stuck
def mOr (ma mb : Env → S → Res D) : Env → S → Res D := fun env s => (ma env s).bind fun x s1 => match x with
  | .bl true => .ok (.bl true) s1
  | .bl false => mb env s1
  | _ => .stuck
theorem ev_one {op} (h : Ev X g E a ma) : Ev X g E (.BoolOp op [a] pos) ma := let ⟨t, p, h⟩ := h; ⟨t, pe_one p, h⟩
theorem ev_and (ha : Ev X g E a ma) (hb : Ev X g E (.BoolOp .And (b :: rest) pos) mb) : Ev X g E (.BoolOp .And (a :: b :: rest) pos) (mAnd ma mb) := by
  obtain ⟨t, p, h⟩ := ha
  obtain ⟨u, p', h'⟩ := hb
  refine ⟨_, pe_and p p', fun env s ca F P H σ Q m sl q => ?_⟩
  refine h env s ca F P H σ _ m sl (Post.imp (Post.seq q) fun x s1 ca1 F1 H1 k1 k2 m1 q v rv => ?_)
  cases x with
  | bl k =>
    refine ⟨k, rv, ?_⟩
    cases k with
    | true => exact h' env s1 ca1 F1 P H1 σ _ m1 (sl.mono k1 k2) q
    | false => exact q.now m1 _ rfl
  | _ => exact q.elim
theorem ev_or (ha : Ev X g E a ma) (hb : Ev X g E (.BoolOp .Or (b :: rest) pos) mb) : Ev X g E (.BoolOp .Or (a :: b :: rest) pos) (mOr ma mb) := by
  obtain ⟨t, p, h⟩ := ha
  obtain ⟨u, p', h'⟩ := hb
  refine ⟨_, pe_or p p', fun env s ca F P H σ Q m sl q => ?_⟩
  refine h env s ca F P H σ _ m sl (Post.imp (Post.seq q) fun x s1 ca1 F1 H1 k1 k2 m1 q v rv => ?_)
  cases x with
  | bl k =>
    refine ⟨k, rv, ?_⟩
    cases k with
    | true => exact q.now m1 _ rfl
    | false => exact h' env s1 ca1 F1 P H1 σ _ m1 (sl.mono k1 k2) q
  | _ => exact q.elim
def mIf (t : Env → S → Res Bool) (ma mb : Env → S → Res D) : Env → S → Res D := fun env s => (t env s).bind fun b s1 => if b = true then ma env s1 else mb env s1
theorem ev_if (hc : Et X g E c tc) (ha : Ev X g E a ma) (hb : Ev X g E b mb) : Ev X g E (.IfExp c a b pos) (mIf tc ma mb) := by
  obtain ⟨t, p, h⟩ := hc
  obtain ⟨u, p', h'⟩ := ha
  obtain ⟨w, p'', h''⟩ := hb
  refine ⟨_, pe_ifExp p p' p'', fun env s ca F P H σ Q m sl q => ?_⟩
  refine h env s ca F P H σ _ m sl (Post.imp (Post.seq q) fun x s1 ca1 F1 H1 k1 k2 m1 q => ?_)
  cases x with
  | true => exact h' env s1 ca1 F1 P H1 σ _ m1 (sl.mono k1 k2) q
  | false => exact h'' env s1 ca1 F1 P H1 σ _ m1 (sl.mono k1 k2) q
def mChain (f f' : D → D → S → Res D) (ma mb mc : Env → S → Res D) : Env → S → Res D := fun env s => (ma env s).bind fun x s1 => (mb env s1).bind fun y s2 => (f x y s2).bind fun z s3 => match z with
  | .bl true => (mc env s3).bind fun w s4 => f' y w s4
  | .bl false => .ok (.bl false) s3
  | _ => .stuck
def aNil : Env → S → Res (List D) := fun _ s => .ok [] s
def aCons (me : Env → S → Res D) (mr : Env → S → Res (List D)) : Env → S → Res (List D) := fun env s => (me env s).bind fun x s1 => (mr env s1).bind fun xs s2 => .ok (x :: xs) s2
theorem ea_nil : Ea X g E [] aNil := ⟨_, pa_nil, fun env s ca F P H σ Q m sl q => q.now m [] .nil⟩
theorem ea_cons {mr : Env → S → Res (List D)} (ha : Ev X g E e me) (hr : Ea X g E es mr) (hs : starEach (e :: es) X.env = (false, eval e X.env) :: starEach es X.env := by rfl) : Ea X g E (e :: es) (aCons me mr) := by
  obtain ⟨t, p, h⟩ := ha
  obtain ⟨u, p', h'⟩ := hr
  refine ⟨_, pa_cons p p' hs, fun env s ca F P H σ Q m sl q => ?_⟩
  refine h env s ca F P H σ _ m sl (Post.imp (Post.seq q) fun x s1 ca1 F1 H1 k1 k2 m1 q v rv => ?_)
  refine h' env s1 ca1 F1 P H1 σ _ m1 (sl.mono k1 k2) (Post.imp (Post.seq q) fun xs s2 ca2 F2 H2 l1 l2 m2 q2 vs rvs => ?_)
  exact q2.now m2 _ (.cons (Rep.mono l1 l2 _ _ rv) rvs)
variable {mr : Env → S → Res (List D)}
def line : Nat := 16000000
theorem line_le {n : Nat} (h : n ≤ line) : n ≤ sizeLine := Nat.le_trans h (by rw [sizeLine_eq]; decide)
def newL (xs : List D) (s : S) : Res D := if xs.length ≤ line then .ok (.lst xs) s else .stuck
def newT (xs : List D) (s : S) : Res D := if xs.length ≤ line then .ok (.tup xs) s else .stuck
theorem newL_ok {xs : List D} {s : S} {ca : List Addr} {F P H : Hp} {vs : List V} {Q : VK} (m : Sim g ca F P s H) (r : Reps g ca F xs vs) (p : Post g ca F P E (fun d _ ca' F' H' => ∀ v, Rep g ca' F' d v → Q v H') (newL xs s)) :
    vs.length ≤ sizeLine ∧ ∀ q, H q = none → Q (.ref q) (upd H q (.lst vs)) := by
  unfold newL at p
  split at p
  · rename_i hl
    refine ⟨by rw [← r.length]; exact line_le hl, fun q hq => ?_⟩
    refine p ca _ _ List.prefix_rfl (Sub.new (m.sub.free hq)) (m.fresh _ hq) _ ?_
    simp only [Rep]
    exact ⟨q, vs, rfl, upd_same, Reps.mono List.prefix_rfl (Sub.new (m.sub.free hq)) _ _ r⟩
  · exact p.elim
theorem newT_ok {xs : List D} {s : S} {ca : List Addr} {F P H : Hp} {vs : List V} {Q : VK} (m : Sim g ca F P s H) (r : Reps g ca F xs vs) (p : Post g ca F P E (fun d _ ca' F' H' => ∀ v, Rep g ca' F' d v → Q v H') (newT xs s)) :
    vs.length ≤ sizeLine ∧ ∀ q, H q = none → Q (.ref q) (upd H q (.tup vs)) := by
  unfold newT at p
  split at p
  · rename_i hl
    refine ⟨by rw [← r.length]; exact line_le hl, fun q hq => ?_⟩
    refine p ca _ _ List.prefix_rfl (Sub.new (m.sub.free hq)) (m.fresh _ hq) _ ?_
    simp only [Rep]
    exact ⟨q, vs, rfl, upd_same, Reps.mono List.prefix_rfl (Sub.new (m.sub.free hq)) _ _ r⟩
  · exact p.elim
def mLst (mr : Env → S → Res (List D)) : Env → S → Res D := fun env s => (mr env s).bind newL
def mTup (mr : Env → S → Res (List D)) : Env → S → Res D := fun env s => (mr env s).bind newT
def mCell (mr : Env → S → Res (List D)) : Env → S → Res D := fun env s => (mr env s).bind fun xs s1 => if xs.length ≤ line then .ok (.cell s1.length) (s1 ++ [.lst xs]) else .stuck
theorem ev_lst (h : Ea X g E es mr) : Ev X g E (.List es pos) (mLst mr) := by
  obtain ⟨t, p, h⟩ := h
  refine ⟨_, pe_lst p, fun env s ca F P H σ Q m sl q => ?_⟩
  exact h env s ca F P H σ _ m sl (Post.imp (Post.seq q) fun xs s1 ca1 F1 H1 k1 k2 m1 q vs rv => newL_ok m1 rv q)
theorem ev_tup {x1} (h : Ea X g E es mr) : Ev X g E (.Tuple es x1 pos) (mTup mr) := by
  obtain ⟨t, p, h⟩ := h
  refine ⟨_, pe_tup p, fun env s ca F P H σ Q m sl q => ?_⟩
  exact h env s ca F P H σ _ m sl (Post.imp (Post.seq q) fun xs s1 ca1 F1 H1 k1 k2 m1 q vs rv => newT_ok m1 rv q)
theorem ev_cell (h : Ea X g E es mr) : Ev X g E (.List es pos) (mCell mr) := by
  obtain ⟨t, p, h⟩ := h
  refine ⟨_, pe_lst p, fun env s ca F P H σ Q m sl q => ?_⟩
  refine h env s ca F P H σ _ m sl (Post.imp (Post.seq q) fun xs s1 ca1 F1 H1 k1 k2 m1 q vs rv => ?_)
  split at q
  · rename_i hl
    refine ⟨by rw [← rv.length]; exact line_le hl, fun z hz => ?_⟩
    refine q _ F1 _ (List.prefix_append _ [z]) (Sub.refl _) (m1.cell hz rv) _ ?_
    simp only [Rep]
    exact ⟨z, rfl, by rw [← m1.len]; simp⟩
  · exact q.elim
def intOp (cond : Int → Int → Bool) (gi : Int → Int → D) : D → D → S → Res D := fun x y s => match x, y with
  | .int i, .int j => if cond i j = true then .ok (gi i j) s else .stuck
  | _, _ => .stuck
theorem opd_int {fv : Value → Value → Sem Value} {C : Int → Int → Prop} {gi : Int → Int → V} {gd : Int → Int → D} {cond : Int → Int → Bool} (h : OpR X fv (rI C gi)) (hc : ∀ i j, cond i j = true → C i j) (hg : ∀ ca F i j, Rep g ca F (gd i j) (gi i j)) : OpD X g E fv (intOp cond gd) := by
  refine ⟨_, h, fun x y s ca F P H v u Q m rx ry p => ?_⟩
  unfold intOp at p
  split at p
  · rename_i i j
    split at p
    · rename_i hij
      exact ⟨i, j, rx, ry, hc _ _ hij, p.now m _ (hg ..)⟩
    · exact p.elim
  · exact p.elim
theorem opd_int0 {fv : Value → Value → Sem Value} {gi : Int → Int → V} {gd : Int → Int → D} (h : OpR X fv (rI0 gi)) (hg : ∀ ca F i j, Rep g ca F (gd i j) (gi i j)) : OpD X g E fv (intOp (fun _ _ => true) gd) := by
  refine ⟨_, h, fun x y s ca F P H v u Q m rx ry p => ?_⟩
  unfold intOp at p
  split at p
  · rename_i i j
    exact ⟨i, j, rx, ry, (if_pos rfl ▸ p).now m _ (hg ..)⟩
  · exact p.elim
def cMul (i j : Int) : Bool := decide (i.natAbs.log2 + j.natAbs.log2 < 1000000)
def cDiv (_ j : Int) : Bool := decide (j ≠ 0 ∧ j.natAbs.log2 < 9000)
def cMod (_ j : Int) : Bool := decide (j ≠ 0)
def cPow (i j : Int) : Bool := decide (0 ≤ j ∧ j ≤ 1000000 ∧ i.natAbs < 2 ^ 64)
theorem op_fdivX : OpR X (binaryOp .FloorDiv) (rI (fun i j => j ≠ 0 ∧ Builtin.divisionGoesByPylong i j = false) fun i j => .int (i.fdiv j)) := opI fun _ _ _ _ _ _ _ hc q => floordiv_int hc.1 q (.inl hc.2)
def addI : D → D → S → Res D := intOp (fun _ _ => true) fun i j => .int (i + j)
def subI : D → D → S → Res D := intOp (fun _ _ => true) fun i j => .int (i - j)
def mulI : D → D → S → Res D := intOp cMul fun i j => .int (i * j)
def divI : D → D → S → Res D := intOp cDiv fun i j => .int (i.fdiv j)
def modI : D → D → S → Res D := intOp cMod fun i j => .int (i.fmod j)
def powI : D → D → S → Res D := intOp cPow fun i j => .int (i ^ j.toNat)
theorem od_add : OpD X g E (binaryOp .Add) addI := opd_int0 op_add fun _ _ _ _ => rfl
theorem od_sub : OpD X g E (binaryOp .Sub) subI := opd_int0 op_sub fun _ _ _ _ => rfl
theorem od_mul : OpD X g E (binaryOp .Mult) mulI := opd_int op_mulW (fun i j h => of_decide_eq_true (p := i.natAbs.log2 + j.natAbs.log2 < 1000000) h) fun _ _ _ _ => rfl
theorem od_div : OpD X g E (binaryOp .FloorDiv) divI := opd_int op_fdivX (fun i j h => by
  have := of_decide_eq_true h
  exact ⟨this.1, PyProof.noPylong_of_log2 this.2⟩) fun _ _ _ _ => rfl
theorem od_mod : OpD X g E (binaryOp .Mod) modI := opd_int op_modN (fun i j h => of_decide_eq_true h) fun _ _ _ _ => rfl
theorem od_pow : OpD X g E (binaryOp .Pow) powI := opd_int op_pow (fun i j h => of_decide_eq_true (p := 0 ≤ j ∧ j ≤ 1000000 ∧ i.natAbs < 2 ^ 64) h) fun _ _ _ _ => rfl
def ltI : D → D → S → Res D := intOp (fun _ _ => true) fun i j => .bl (decide (i < j))
def leI : D → D → S → Res D := intOp (fun _ _ => true) fun i j => .bl (decide (i ≤ j))
def gtI : D → D → S → Res D := intOp (fun _ _ => true) fun i j => .bl (decide (j < i))
def geI : D → D → S → Res D := intOp (fun _ _ => true) fun i j => .bl (decide (j ≤ i))
theorem od_lt : OpD X g E (compareOp .Lt) ltI := opd_int0 op_lt fun _ _ _ _ => rfl
theorem od_le : OpD X g E (compareOp .LtE) leI := opd_int0 op_le fun _ _ _ _ => rfl
theorem od_gt : OpD X g E (compareOp .Gt) gtI := opd_int0 op_gt fun _ _ _ _ => rfl
def negI : D → S → Res D := fun x s => match x with
  | .int i => .ok (.int (-i)) s
  | _ => .stuck
theorem ud_neg : UnD X g E (unaryOp .USub) negI := by
  refine ⟨_, un_neg, fun x s ca F P H v Q m rx p => ?_⟩
  unfold negI at p
  split at p
  · rename_i i
    exact ⟨i, rx, p.now m _ rfl⟩
  · exact p.elim
end
end Pm
set_option Elab.async false
set_option linter.all false
set_option maxRecDepth 100000
set_option maxHeartbeats 2000000
namespace Pm
open PySem PySem.Spec PyProof.Rows L2
section
variable {X : Cx} {g : G} {E : XK}
theorem rep_int {ca : List Addr} {F : Hp} {i : Int} : Rep g ca F (.int i) (.int i) := by simp only [Rep]
theorem rep_bl {ca : List Addr} {F : Hp} {i : Bool} : Rep g ca F (.bl i) (.bl i) := by simp only [Rep]
theorem atI_rep {ca : List Addr} {F : Hp} {ds : List D} {vs : List V} {i : Int} {d : D} (r : Reps g ca F ds vs) (h : atI ds i = some d) : ∃ v, atI vs i = some v ∧ Rep g ca F d v := by
  unfold atI at h ⊢
  rw [← r.length]
  cases q : ixN ds.length i with
  | none => rw [q] at h; cases h
  | some j =>
    rw [q] at h
    exact r.get h
def ixL : D → D → S → Res D := fun x y s => match x, y with
  | .lst ds, .int i => match atI ds i with
    | some d => .ok d s
    | none => .stuck
  | .ro ds, .int i => match atI ds i with
    | some d => .ok d s
    | none => .stuck
  | .cell k, .int i => match s[k]? with
    | some (.lst ds) => match atI ds i with
      | some d => .ok d s
      | none => .stuck
    | _ => .stuck
  | _, _ => .stuck
def ixT : D → D → S → Res D := fun x y s => match x, y with
  | .tup ds, .int i => match atI ds i with
    | some d => .ok d s
    | none => .stuck
  | .rot ds, .int i => match atI ds i with
    | some d => .ok d s
    | none => .stuck
  | _, _ => .stuck
theorem Sim.cellL {ca : List Addr} {F P H : Hp} {s : S} {k : Nat} {ds : List D} {a : Addr} (m : Sim g ca F P s H) (e : ca[k]? = some a) (q : s[k]? = some (.lst ds)) : ∃ xs, H a = some (.lst xs) ∧ Reps g ca F ds xs :=
  m.at_ k a _ e q
theorem ixd_list (hK : g.K = X.K) : IxD X g E ixL := by
  refine ⟨_, ix_list, fun x y s ca F P H v u Q m rx ry p => ?_⟩
  unfold ixL at p
  split at p
  · rename_i ds i
    split at p
    · rename_i d hd
      simp only [Rep] at rx ry
      obtain ⟨a, xs, rfl, hF, rs⟩ := rx
      obtain ⟨w, hw, rw'⟩ := atI_rep rs hd
      exact ⟨a, xs, i, w, rfl, ry, .of (m.sub _ _ hF), hw, p.now m _ rw'⟩
    · exact p.elim
  · rename_i ds i
    split at p
    · rename_i d hd
      simp only [Rep] at rx ry
      obtain ⟨a, xs, rfl, hF, rs⟩ := rx
      obtain ⟨w, hw, rw'⟩ := atI_rep rs hd
      exact ⟨a, xs, i, w, rfl, ry, hK ▸ same_l m.sub hF, hw, p.now m _ rw'⟩
    · exact p.elim
  · rename_i k i
    split at p
    · rename_i ds hk
      split at p
      · rename_i d hd
        simp only [Rep] at rx ry
        obtain ⟨a, rfl, ha⟩ := rx
        obtain ⟨xs, hH, rs⟩ := m.cellL ha hk
        obtain ⟨w, hw, rw'⟩ := atI_rep rs hd
        exact ⟨a, xs, i, w, rfl, ry, .of hH, hw, p.now m _ rw'⟩
      · exact p.elim
    · exact p.elim
  · exact p.elim
theorem ixd_tup (hK : g.K = X.K) : IxD X g E ixT := by
  refine ⟨_, ix_tup, fun x y s ca F P H v u Q m rx ry p => ?_⟩
  unfold ixT at p
  split at p
  · rename_i ds i
    split at p
    · rename_i d hd
      simp only [Rep] at rx ry
      obtain ⟨a, xs, rfl, hF, rs⟩ := rx
      obtain ⟨w, hw, rw'⟩ := atI_rep rs hd
      exact ⟨a, xs, i, w, rfl, ry, .of (m.sub _ _ hF), hw, p.now m _ rw'⟩
    · exact p.elim
  · rename_i ds i
    split at p
    · rename_i d hd
      simp only [Rep] at rx ry
      obtain ⟨a, xs, rfl, hF, rs⟩ := rx
      obtain ⟨w, hw, rw'⟩ := atI_rep rs hd
      exact ⟨a, xs, i, w, rfl, ry, hK ▸ same_t m.sub hF, hw, p.now m _ rw'⟩
    · exact p.elim
  · exact p.elim
def ixD : D → D → S → Res D := fun x y s => (ixL x y s).or (ixT x y s)
theorem ixd (hK : g.K = X.K) : IxD X g E ixD := (ixd_list hK).or (ixd_tup hK)
def catL : D → D → S → Res D := fun x y s => match x, y with
  | .lst a, .lst b => newL (a ++ b) s
  | _, _ => .stuck
theorem od_cat : OpD X g E (binaryOp .Add) catL := by
  refine ⟨_, op_cat, fun x y s ca F P H v u Q m rx ry p => ?_⟩
  unfold catL at p
  split at p
  · rename_i as bs
    simp only [Rep] at rx ry
    obtain ⟨a, xs, rfl, hF, rs⟩ := rx
    obtain ⟨b, ys, rfl, hF2, rs2⟩ := ry
    obtain ⟨h1, h2⟩ := newL_ok m (rs.append rs2) p
    exact ⟨a, b, xs, ys, rfl, rfl, m.sub _ _ hF, m.sub _ _ hF2, by simpa using h1, h2⟩
  · exact p.elim
def repD (n : Nat) (ds : List D) : List D := (List.replicate n ds).flatten
theorem reps_rep {ca : List Addr} {F : Hp} {ds : List D} {vs : List V} (r : Reps g ca F ds vs) : ∀ n, Reps g ca F (repD n ds) (List.replicate n vs).flatten
  | 0 => by simp only [repD, List.replicate_zero, List.flatten_nil]; exact .nil
  | n + 1 => by
    have := reps_rep r n
    simp only [repD, List.replicate_succ, List.flatten_cons] at this ⊢
    exact r.append this
def mulL : D → D → S → Res D := fun x y s => match x, y with
  | .lst a, .int k => if decide (-1000000 ≤ k ∧ k < 1000000 ∧ a.length * k.toNat ≤ line) = true then newL (repD k.toNat a) s else .stuck
  | _, _ => .stuck
theorem od_rep : OpD X g E (binaryOp .Mult) mulL := by
  refine ⟨_, op_rep, fun x y s ca F P H v u Q m rx ry p => ?_⟩
  unfold mulL at p
  split at p
  · rename_i as k
    split at p
    · rename_i hk
      have hk := of_decide_eq_true hk
      simp only [Rep] at rx ry
      obtain ⟨a, xs, rfl, hF, rs⟩ := rx
      obtain ⟨h1, h2⟩ := newL_ok m (reps_rep rs k.toNat) p
      refine ⟨a, k, xs, rfl, ry, m.sub _ _ hF, by omega, by omega, ?_, h2⟩
      rw [← rs.length]
      exact line_le hk.2.2
    · exact p.elim
  · exact p.elim
def addD : D → D → S → Res D := fun x y s => (addI x y s).or (catL x y s)
theorem od_addD : OpD X g E (binaryOp .Add) addD := od_add.or od_cat
def mulD : D → D → S → Res D := fun x y s => (mulI x y s).or (mulL x y s)
theorem od_mulD : OpD X g E (binaryOp .Mult) mulD := od_mul.or od_rep
mutual
def toPy : D → Option PyData
  | .non => some .none
  | .bl b => some (.bool b)
  | .int i => some (.int i)
  | .str x => some (.str x)
  | .lst ds => (toPys ds).map .list
  | .ro ds => (toPys ds).map .list
  | .tup ds => (toPys ds).map .tuple
  | .rot ds => (toPys ds).map .tuple
  | _ => none
def toPys : List D → Option (List PyData)
  | [] => some []
  | d :: ds => match toPy d, toPys ds with
    | some p, some ps => some (p :: ps)
    | _, _ => none
end
mutual
theorem dp_of {K : PySem.W.Frag} {ca : List Addr} {F H : Hp} (hK : g.K = K) (hs : Sub F H) : ∀ (d : D) (v : V) (p : PyData), toPy d = some p → Rep g ca F d v → Dp K H v p
  | .non, v, p, h, r => by
    simp only [toPy, Option.some.injEq] at h
    simp only [Rep] at r
    subst h; subst r; exact .non
  | .bl b, v, p, h, r => by
    simp only [toPy, Option.some.injEq] at h
    simp only [Rep] at r
    subst h; subst r; exact .bl b
  | .int i, v, p, h, r => by
    simp only [toPy, Option.some.injEq] at h
    simp only [Rep] at r
    subst h; subst r; exact .int i
  | .str x, v, p, h, r => by
    simp only [toPy, Option.some.injEq] at h
    simp only [Rep] at r
    subst h; subst r; exact .str x
  | .lst ds, v, p, h, r => by
    simp only [toPy, Option.map_eq_some_iff] at h
    obtain ⟨ps, h, rfl⟩ := h
    simp only [Rep] at r
    obtain ⟨a, xs, rfl, hF, rs⟩ := r
    exact .lst (.of (hs _ _ hF)) (dps_of hK hs ds xs ps h rs)
  | .ro ds, v, p, h, r => by
    simp only [toPy, Option.map_eq_some_iff] at h
    obtain ⟨ps, h, rfl⟩ := h
    simp only [Rep] at r
    obtain ⟨a, xs, rfl, hF, rs⟩ := r
    exact .lst (hK ▸ same_l hs hF) (dps_of hK hs ds xs ps h rs)
  | .tup ds, v, p, h, r => by
    simp only [toPy, Option.map_eq_some_iff] at h
    obtain ⟨ps, h, rfl⟩ := h
    simp only [Rep] at r
    obtain ⟨a, xs, rfl, hF, rs⟩ := r
    exact .tup (.of (hs _ _ hF)) (dps_of hK hs ds xs ps h rs)
  | .rot ds, v, p, h, r => by
    simp only [toPy, Option.map_eq_some_iff] at h
    obtain ⟨ps, h, rfl⟩ := h
    simp only [Rep] at r
    obtain ⟨a, xs, rfl, hF, rs⟩ := r
    exact .tup (hK ▸ same_t hs hF) (dps_of hK hs ds xs ps h rs)
  | .ins _ _, v, p, h, r => by simp [toPy] at h
  | .cell _, v, p, h, r => by simp [toPy] at h
  | .cls _, v, p, h, r => by simp [toPy] at h
  | .ty _, v, p, h, r => by simp [toPy] at h
  | .mty, v, p, h, r => by simp [toPy] at h
  | .dki _ _, v, p, h, r => by simp [toPy] at h
  | .dkt _ _, v, p, h, r => by simp [toPy] at h
  | .dct _ _, v, p, h, r => by simp [toPy] at h
theorem dps_of {K : PySem.W.Frag} {ca : List Addr} {F H : Hp} (hK : g.K = K) (hs : Sub F H) : ∀ (ds : List D) (vs : List V) (ps : List PyData), toPys ds = some ps → Reps g ca F ds vs → DpAll K H vs ps
  | [], vs, ps, h, r => by
    simp only [toPys, Option.some.injEq] at h
    simp only [Reps] at r
    subst h; subst r; exact .nil
  | d :: ds, vs, ps, h, r => by
    simp only [toPys] at h
    split at h
    · rename_i p ps' h1 h2
      cases h
      simp only [Reps] at r
      obtain ⟨v, ws, rfl, r1, r2⟩ := r
      exact .cons (dp_of hK hs d v p h1 r1) (dps_of hK hs ds ws ps' h2 r2)
    · cases h
end
def eqP (neg : Bool) : D → D → S → Res D := fun x y s => match toPy x, toPy y with
  | some a, some b => if (SeqAt.shaped a && SeqAt.shaped b) = true then .ok (.bl (if neg then !PyData.eqv a b else PyData.eqv a b)) s else .stuck
  | _, _ => .stuck
theorem od_eqP (hK : g.K = X.K) (hu : X.A.units + 64 < cLine) : OpD X g E (compareOp .Eq) (eqP false) := by
  refine ⟨_, op_eqD hu, fun x y s ca F P H v u Q m rx ry p => ?_⟩
  unfold eqP at p
  split at p
  · rename_i a b ha hb
    split at p
    · rename_i hc
      rw [Bool.and_eq_true] at hc
      exact ⟨a, b, dp_of hK m.sub _ _ _ ha rx, dp_of hK m.sub _ _ _ hb ry, hc.1, hc.2, p.now m _ rfl⟩
    · exact p.elim
  · exact p.elim
theorem od_neP (hK : g.K = X.K) (hu : X.A.units + 64 < cLine) : OpD X g E (compareOp .NotEq) (eqP true) := by
  refine ⟨_, op_neD hu, fun x y s ca F P H v u Q m rx ry p => ?_⟩
  unfold eqP at p
  split at p
  · rename_i a b ha hb
    split at p
    · rename_i hc
      rw [Bool.and_eq_true] at hc
      exact ⟨a, b, dp_of hK m.sub _ _ _ ha rx, dp_of hK m.sub _ _ _ hb ry, hc.1, hc.2, p.now m _ rfl⟩
    · exact p.elim
  · exact p.elim
def seqOf (s : S) : D → Option (List D)
  | .lst ds => some ds
  | .ro ds => some ds
  | .tup ds => some ds
  | .rot ds => some ds
  | .cell k => match s[k]? with
    | some (.lst ds) => some ds
    | _ => none
  | _ => none
def isTupD : D → Bool
  | .tup _ => true
  | .rot _ => true
  | _ => false
theorem seq_rep {ca : List Addr} {F P H : Hp} {s : S} {d : D} {ds : List D} {v : V} (m : Sim g ca F P s H) (h : seqOf s d = some ds) (r : Rep g ca F d v) :
    ∃ a xs, v = .ref a ∧ (if isTupD d = true then SqT g.K H a xs else SqL g.K H a xs) ∧ Reps g ca F ds xs := by
  unfold seqOf at h
  split at h
  · cases h
    simp only [Rep] at r
    obtain ⟨a, xs, e, hF, rs⟩ := r
    exact ⟨a, xs, e, .of (m.sub _ _ hF), rs⟩
  · cases h
    simp only [Rep] at r
    obtain ⟨a, xs, e, hF, rs⟩ := r
    exact ⟨a, xs, e, same_l m.sub hF, rs⟩
  · cases h
    simp only [Rep] at r
    obtain ⟨a, xs, e, hF, rs⟩ := r
    exact ⟨a, xs, e, .of (m.sub _ _ hF), rs⟩
  · cases h
    simp only [Rep] at r
    obtain ⟨a, xs, e, hF, rs⟩ := r
    exact ⟨a, xs, e, same_t m.sub hF, rs⟩
  · rename_i k
    split at h
    · rename_i ds' hk
      cases h
      simp only [Rep] at r
      obtain ⟨a, e, ha⟩ := r
      obtain ⟨xs, hH, rs⟩ := m.cellL ha hk
      exact ⟨a, xs, e, .of hH, rs⟩
    · cases h
  · cases h
theorem seq_rep' {K : PySem.W.Frag} {ca : List Addr} {F P H : Hp} {s : S} {d : D} {ds : List D} {v : V} (hK : g.K = K) (m : Sim g ca F P s H) (h : seqOf s d = some ds) (r : Rep g ca F d v) :
    ∃ a xs, v = .ref a ∧ (SqL K H a xs ∨ SqT K H a xs) ∧ Reps g ca F ds xs := by
  obtain ⟨a, xs, e, q, rs⟩ := seq_rep m h r
  refine ⟨a, xs, e, ?_, rs⟩
  rw [← hK]
  split at q
  · exact .inr q
  · exact .inl q
def bLen : List D → S → Res D := fun xs s => match xs with
  | [x] => match seqOf s x with
    | some ds => .ok (.int ds.length) s
    | none => .stuck
  | _ => .stuck
theorem reps1 {ca : List Addr} {F : Hp} {d : D} {vs : List V} (h : Reps g ca F [d] vs) : ∃ v, vs = [v] ∧ Rep g ca F d v := by
  simp only [Reps] at h
  obtain ⟨v, ws, rfl, r, rfl⟩ := h
  exact ⟨v, rfl, r⟩
theorem reps2 {ca : List Addr} {F : Hp} {d e : D} {vs : List V} (h : Reps g ca F [d, e] vs) : ∃ v u, vs = [v, u] ∧ Rep g ca F d v ∧ Rep g ca F e u := by
  simp only [Reps] at h
  obtain ⟨v, ws, rfl, r, u, ws', rfl, r', rfl⟩ := h
  exact ⟨v, u, rfl, r, r'⟩
theorem cd_len (hK : g.K = X.K) : CallD X g E (.builtin "len") bLen := by
  refine ⟨_, call_len_seq, fun xs s ca F P H vs Q m rs p => ?_⟩
  unfold bLen at p
  split at p
  · rename_i x
    split at p
    · rename_i ds hd
      obtain ⟨v, rfl, r⟩ := reps1 rs
      obtain ⟨a, ys, rfl, hq, rs'⟩ := seq_rep' hK m hd r
      exact ⟨a, ys, rfl, hq, p.now m _ (by simp only [Rep]; rw [rs'.length])⟩
    · exact p.elim
  · exact p.elim
def bList : List D → S → Res D := fun xs s => match xs with
  | [x] => match seqOf s x with
    | some ds => newL ds s
    | none => .stuck
  | _ => .stuck
theorem cd_list (hK : g.K = X.K) : CallD X g E (.type "list") bList := by
  refine ⟨_, call_list_of, fun xs s ca F P H vs Q m rs p => ?_⟩
  unfold bList at p
  split at p
  · rename_i x
    split at p
    · rename_i ds hd
      obtain ⟨v, rfl, r⟩ := reps1 rs
      obtain ⟨a, ys, rfl, hq, rs'⟩ := seq_rep' hK m hd r
      exact ⟨a, ys, rfl, hq, (newL_ok m rs' p).2⟩
    · exact p.elim
  · exact p.elim
def bTuple : List D → S → Res D := fun xs s => match xs with
  | [x] => match seqOf s x with
    | some ds => if isTupD x = true then .ok x s else newT ds s
    | none => .stuck
  | _ => .stuck
theorem cd_tuple (hK : g.K = X.K) : CallD X g E (.type "tuple") bTuple := by
  refine ⟨_, call_tuple_of, fun xs s ca F P H vs Q m rs p => ?_⟩
  unfold bTuple at p
  split at p
  · rename_i x
    split at p
    · rename_i ds hd
      obtain ⟨v, rfl, r⟩ := reps1 rs
      obtain ⟨a, ys, rfl, hq, rs'⟩ := seq_rep m hd r
      rw [hK] at hq
      split at p
      · rename_i ht
        rw [if_pos ht] at hq
        exact ⟨a, ys, rfl, .inr ⟨hq, p.now m _ r⟩⟩
      · rename_i ht
        rw [if_neg ht] at hq
        exact ⟨a, ys, rfl, .inl ⟨hq, (newT_ok m rs' p).2⟩⟩
    · exact p.elim
  · exact p.elim
def bInt1 (gi : Int → D) : List D → S → Res D := fun xs s => match xs with
  | [.int i] => .ok (gi i) s
  | _ => .stuck
def absI (i : Int) : Int := if i < 0 then -i else i
theorem cd_abs : CallD X g E (.builtin "abs") (bInt1 fun i => .int (absI i)) := by
  refine ⟨_, call_abs, fun xs s ca F P H vs Q m rs p => ?_⟩
  unfold bInt1 at p
  split at p
  · rename_i i
    obtain ⟨v, rfl, r⟩ := reps1 rs
    simp only [Rep] at r
    subst r
    exact ⟨i, rfl, p.now m _ rfl⟩
  · exact p.elim
theorem cd_int : CallD X g E (.type "int") (bInt1 fun i => .int i) := by
  refine ⟨_, call_int1, fun xs s ca F P H vs Q m rs p => ?_⟩
  unfold bInt1 at p
  split at p
  · rename_i i
    obtain ⟨v, rfl, r⟩ := reps1 rs
    simp only [Rep] at r
    subst r
    exact .inl ⟨i, rfl, p.now m _ rfl⟩
  · exact p.elim
def bInt2 (cond : Int → Int → Bool) (gi : Int → Int → D) : List D → S → Res D := fun xs s => match xs with
  | [.int i, .int j] => if cond i j = true then .ok (gi i j) s else .stuck
  | _ => .stuck
def maxI (i j : Int) : Int := if j > i then j else i
def minI (i j : Int) : Int := if j < i then j else i
theorem cd_max2 (hc : X.calm = true) : CallD X g E (.builtin "max") (bInt2 (fun _ _ => true) fun i j => .int (maxI i j)) := by
  refine ⟨_, call_max2 hc, fun xs s ca F P H vs Q m rs p => ?_⟩
  unfold bInt2 at p
  split at p
  · rename_i i j
    obtain ⟨v, u, rfl, r, r'⟩ := reps2 rs
    simp only [Rep] at r r'
    subst r; subst r'
    exact ⟨i, j, rfl, (if_pos rfl ▸ p).now m _ rfl⟩
  · exact p.elim
def gcdI (i j : Int) : Int := ((Nat.gcd i.natAbs j.natAbs : Nat) : Int)
theorem cd_gcd : CallD X g E (.builtin "math.gcd") (bInt2 (fun _ _ => true) fun i j => .int (gcdI i j)) := by
  refine ⟨_, cr_gcd, fun xs s ca F P H vs Q m rs p => ?_⟩
  unfold bInt2 at p
  split at p
  · rename_i i j
    obtain ⟨v, u, rfl, r, r'⟩ := reps2 rs
    simp only [Rep] at r r'
    subst r; subst r'
    exact ⟨i, j, rfl, (if_pos rfl ▸ p).now m _ rfl⟩
  · exact p.elim
def cDiv0 (_ j : Int) : Bool := decide (0 < j ∧ j < 1073741824)
def bDivmod : List D → S → Res D := fun xs s => match xs with
  | [.int i, .int j] => if cDiv0 i j = true then newT [.int (i / j), .int (i % j)] s else .stuck
  | _ => .stuck
theorem cd_divmod : CallD X g E (.builtin "divmod") bDivmod := by
  refine ⟨_, call_divmod, fun xs s ca F P H vs Q m rs p => ?_⟩
  unfold bDivmod at p
  split at p
  · rename_i i j
    split at p
    · rename_i hc
      obtain ⟨v, u, rfl, r, r'⟩ := reps2 rs
      simp only [Rep] at r r'
      subst r; subst r'
      exact ⟨i, j, rfl, of_decide_eq_true (p := 0 < j ∧ j < 1073741824) hc, (newT_ok m (.cons rep_int (.cons rep_int .nil)) p).2⟩
    · exact p.elim
  · exact p.elim
mutual
def boolsOf : List D → Option (List Bool)
  | [] => some []
  | .bl b :: ds => (boolsOf ds).map (b :: ·)
  | _ => none
end
theorem bools_rep {ca : List Addr} {F : Hp} : ∀ {ds : List D} {bs : List Bool} {vs : List V}, boolsOf ds = some bs → Reps g ca F ds vs → vs = bs.map V.bl
  | [], bs, vs, h, r => by simp only [boolsOf, Option.some.injEq] at h; subst h; simp only [Reps] at r; subst r; rfl
  | d :: ds, bs, vs, h, r => by
    unfold boolsOf at h
    split at h
    · rename_i heq; cases heq
    · rename_i b ds' heq
      cases heq
      rw [Option.map_eq_some_iff] at h
      obtain ⟨bs', h, rfl⟩ := h
      simp only [Reps] at r
      obtain ⟨v, ws, rfl, r1, r2⟩ := r
      simp only [Rep] at r1
      subst r1
      rw [bools_rep h r2]
      rfl
    · cases h
def bBools (f : List Bool → Bool) : List D → S → Res D := fun xs s => match xs with
  | [x] => if isTupD x = true then .stuck else match seqOf s x with
    | some ds => match boolsOf ds with
      | some bs => .ok (.bl (f bs)) s
      | none => .stuck
    | none => .stuck
  | _ => .stuck
theorem cd_all (hK : g.K = X.K) (hc : X.calm = true) : CallD X g E (.builtin "all") (bBools fun bs => bs.all id) := by
  refine ⟨_, cr_all hc, fun xs s ca F P H vs Q m rs p => ?_⟩
  unfold bBools at p
  split at p
  · rename_i x
    split at p
    · exact p.elim
    · rename_i ht
      split at p
      · rename_i ds hd
        split at p
        · rename_i bs hb
          obtain ⟨v, rfl, r⟩ := reps1 rs
          obtain ⟨a, ys, rfl, hq, rs'⟩ := seq_rep m hd r
          rw [if_neg ht, hK, bools_rep hb rs'] at hq
          exact ⟨a, bs, rfl, hq, p.now m _ rfl⟩
        · exact p.elim
      · exact p.elim
  · exact p.elim
variable {x : Str} {p pos : Pos} {e : Expr} {es : List Expr} {mr : Env → S → Res (List D)} {id T : String} {f : List D → S → Res D}
def mCall (f : List D → S → Res D) (mr : Env → S → Res (List D)) : Env → S → Res D := fun env s => (mr env s).bind f
theorem call_run {ta : TA} {r : List V → Hp → VK → Prop} (ha : ∀ (env : Env) (s : S) (ca : List Addr) (F P H : Hp) (σ : L2.St) (Q : List V → Hp → Prop), Sim g ca F P s H → Slots g ca F env σ →
      Post g ca F P E (fun ds _ ca' F' H' => ∀ vs, Reps g ca' F' ds vs → Q vs H') (mr env s) → ta σ H Q)
    (hr : ∀ (xs : List D) (s : S) (ca : List Addr) (F P H : Hp) (vs : List V) (Q : VK), Sim g ca F P s H → Reps g ca F xs vs → Post g ca F P E (fun d _ ca' F' H' => ∀ w, Rep g ca' F' d w → Q w H') (f xs s) → r vs H Q)
    {env : Env} {s : S} {ca : List Addr} {F P H : Hp} {σ : L2.St} {Q : VK} (m : Sim g ca F P s H) (sl : Slots g ca F env σ) (q : Post g ca F P E (fun d _ ca' F' H' => ∀ v, Rep g ca' F' d v → Q v H') (mCall f mr env s)) :
    tCB r ta σ H Q := ha env s ca F P H σ _ m sl (Post.imp (Post.seq q) fun ds s1 ca1 F1 H1 k1 k2 m1 q1 vs rs => hr ds s1 ca1 F1 P H1 vs Q m1 rs q1)
theorem ev_callB (hc : CallD X g E (.builtin id) f) (hg : Gl X x) (hm : X.mg x = none) (hv : bootBuiltins x = some (.builtin id)) (ha : Ea X g E (e :: es) mr) (hn : x ≠ "__name__" := by decide) (hdb : (x == ("__debug__" : Str)) = false := by decide)
    (he : starEach (e :: es) X.env = (false, eval e X.env) :: starEach es X.env := by rfl) (hpl : (backTo pos (starEach es X.env)).any (·.1) = false := by rfl) : Ev X g E (.Call (.Name x p) (e :: es) [] pos) (mCall f mr) := by
  obtain ⟨r, h1, h2⟩ := hc
  obtain ⟨ta, pa, ha⟩ := ha
  exact ⟨_, pe_callB h1 hg hm hv pa hn hdb he hpl, fun env s ca F P H σ Q m sl q => call_run ha h2 m sl q⟩
theorem ev_callF (hc : CallD X g E (.builtin id) f) (hg : Gl X x) (hm : X.mg x = some (.builtin id)) (ha : Ea X g E (e :: es) mr) (hdb : (x == ("__debug__" : Str)) = false := by decide)
    (he : starEach (e :: es) X.env = (false, eval e X.env) :: starEach es X.env := by rfl) (hpl : (backTo pos (starEach es X.env)).any (·.1) = false := by rfl) : Ev X g E (.Call (.Name x p) (e :: es) [] pos) (mCall f mr) := by
  obtain ⟨r, h1, h2⟩ := hc
  obtain ⟨ta, pa, ha⟩ := ha
  exact ⟨_, pe_callBfun h1 hg hm pa hdb he hpl, fun env s ca F P H σ Q m sl q => call_run ha h2 m sl q⟩
theorem ev_callTy (hc : CallD X g E (.type T) f) (hg : Gl X x) (hm : X.mg x = none) (hv : bootBuiltins x = some (.type T)) (ha : Ea X g E (e :: es) mr) (hn : x ≠ "__name__" := by decide) (hdb : (x == ("__debug__" : Str)) = false := by decide)
    (he : starEach (e :: es) X.env = (false, eval e X.env) :: starEach es X.env := by rfl) (hpl : (backTo pos (starEach es X.env)).any (·.1) = false := by rfl) : Ev X g E (.Call (.Name x p) (e :: es) [] pos) (mCall f mr) := by
  obtain ⟨r, h1, h2⟩ := hc
  obtain ⟨ta, pa, ha⟩ := ha
  exact ⟨_, pe_callTy h1 hg hm hv pa hn hdb he hpl, fun env s ca F P H σ Q m sl q => call_run ha h2 m sl q⟩
end
end Pm
set_option Elab.async false
set_option linter.all false
set_option maxRecDepth 100000
set_option maxHeartbeats 2000000
namespace Pm
open PySem PySem.Spec PyProof.Rows L2
inductive TN where
  | non | bl | int | str | lst | tup | dct | ins (c : Nat)
  deriving DecidableEq
def TN.b : TN → Option String
  | .non => some "NoneType" | .bl => some "bool" | .int => some "int" | .str => some "str" | .lst => some "list" | .tup => some "tuple" | .dct => some "dict" | .ins _ => none
def tyn (s : S) : D → Option TN
  | .non => some .non
  | .bl _ => some .bl
  | .int _ => some .int
  | .str _ => some .str
  | .lst _ => some .lst
  | .ro _ => some .lst
  | .tup _ => some .tup
  | .mty => some .dct
  | .dct _ _ => some .dct
  | .ins c _ => some (.ins c)
  | .cell k => match s[k]? with
    | some (.lst _) => some .lst
    | _ => none
  | _ => none
def TN.is : TN → BT → Bool
  | .bl, .bool => true | .bl, .int => true | .int, .int => true | .str, .str => true | .lst, .list => true | .tup, .tuple => true | .dct, .dict => true
  | _, _ => false
structure IsF (K : PySem.W.Frag) (C : Addr) : Prop where
  cl : Cls K C
  ha : PySem.W.findIn K (.ref C) "__class__" = some (some (.builtin "object.__class__"))
  hn : PySem.W.specialIn K (.builtin "object.__class__") "__get__" = some (some (.builtin "getset_descriptor.__get__"))
  htk : PySem.W.takesIn K (.builtin "object.__class__") = some true
  hm : PySem.W.mroIn K C (.type "object") = some true
structure ClsF (K : PySem.W.Frag) (g : G) (n : Nat) : Prop where
  f : ∀ c, c < n → IsF K (g.cls c)
  b1 : ∀ c (t : BT), c < n → PySem.W.kitOne K (.ref (g.cls c)) (.type t.name) = some false
  b2 : ∀ c (t : TN) x, c < n → t.b = some x → PySem.W.kitOne K (.type x) (.ref (g.cls c)) = some false
  b3 : ∀ c d, c < n → d < n → PySem.W.kitOne K (.ref (g.cls c)) (.ref (g.cls d)) = some (c == d)
theorem kit_bt {K : PySem.W.Frag} : ∀ (t : TN) (x : String) (b : BT), t.b = some x → PySem.W.kitOne K (.type x) (.type b.name) = some (t.is b) := by
  intro t x b h
  cases t <;> cases h <;> cases b <;> exact kit_ty (by decide +kernel)
section
variable {X : Cx} {g : G} {E : XK}
def isOne (n : Nat) (t : TN) : D → Option Bool
  | .ty b => some (t.is b)
  | .cls c => if c < n then (match t with
    | .ins d => if d < n then some (d == c) else none
    | _ => some false) else none
  | _ => none
def isAny (n : Nat) (t : TN) : List D → Option Bool
  | [] => some false
  | d :: ds => match isOne n t d with
    | some true => some true
    | some false => isAny n t ds
    | none => none
def TN.v (g : G) : TN → Value
  | .ins c => .ref (g.cls c)
  | t => .type (t.b.getD "")
def clsV (g : G) : D → Option Value
  | .ty b => some (.type b.name)
  | .cls c => some (.ref (g.cls c))
  | _ => none
def TN.ok (n : Nat) : TN → Bool
  | .ins c => decide (c < n)
  | _ => true
theorem isOne_kit {n : Nat} (cf : ClsF X.K g n) {t : TN} (ht : t.ok n = true) {d : D} {b : Bool} (h : isOne n t d = some b) : ∃ u, clsV g d = some u ∧ PySem.W.kitOne X.K (t.v g) u = some b := by
  unfold isOne at h
  split at h
  · rename_i bt
    cases h
    refine ⟨_, rfl, ?_⟩
    cases t with
    | ins c => exact cf.b1 c bt (of_decide_eq_true ht)
    | non => exact kit_bt .non _ bt rfl
    | bl => exact kit_bt .bl _ bt rfl
    | int => exact kit_bt .int _ bt rfl
    | str => exact kit_bt .str _ bt rfl
    | lst => exact kit_bt .lst _ bt rfl
    | tup => exact kit_bt .tup _ bt rfl
    | dct => exact kit_bt .dct _ bt rfl
  · rename_i c
    split at h
    · rename_i hc
      refine ⟨_, rfl, ?_⟩
      cases t with
      | ins d =>
        have hd : d < n := of_decide_eq_true ht
        simp only [hd, if_true, Option.some.injEq] at h
        subst h
        exact cf.b3 d c hd hc
      | non => cases h; exact cf.b2 c .non _ hc rfl
      | bl => cases h; exact cf.b2 c .bl _ hc rfl
      | int => cases h; exact cf.b2 c .int _ hc rfl
      | str => cases h; exact cf.b2 c .str _ hc rfl
      | lst => cases h; exact cf.b2 c .lst _ hc rfl
      | tup => cases h; exact cf.b2 c .tup _ hc rfl
      | dct => cases h; exact cf.b2 c .dct _ hc rfl
    · cases h
  · cases h
theorem cls_rep {ca : List Addr} {F : Hp} {d : D} {u : Value} {v : V} (h : clsV g d = some u) (r : Rep g ca F d v) : ClsV v u := by
  unfold clsV at h
  split at h
  · cases h; simp only [Rep] at r; subst r; exact .ty _
  · cases h; simp only [Rep] at r; subst r; exact .own _
  · cases h
theorem tyx_of {n : Nat} (hK : g.K = X.K) (cf : ClsF X.K g n) {ca : List Addr} {F P H : Hp} {s : S} {d : D} {t : TN} {v : V} (m : Sim g ca F P s H) (h : tyn s d = some t) (ht : t.ok n = true) (r : Rep g ca F d v) : TyX X.K H v (t.v g) := by
  unfold tyn at h
  split at h
  · cases h; simp only [Rep] at r; subst r; exact .base .non
  · cases h; simp only [Rep] at r; subst r; exact .base (.bl _)
  · cases h; simp only [Rep] at r; subst r; exact .base (.int _)
  · cases h; simp only [Rep] at r; subst r; exact .base (.str _)
  · cases h; simp only [Rep] at r; obtain ⟨a, xs, rfl, hF, rs⟩ := r; exact .base (.lst (m.sub _ _ hF))
  · cases h
    simp only [Rep] at r
    obtain ⟨a, xs, rfl, hF, rs⟩ := r
    rcases hF with (z | ⟨o, z⟩) | ⟨o, its, k, z, c, _⟩
    · exact .base (.lst (m.sub _ _ z))
    · exact .base (.frz (m.sub _ _ z))
    · exact .kList (hK ▸ z) c
  · cases h; simp only [Rep] at r; obtain ⟨a, xs, rfl, hF, rs⟩ := r; exact .base (.tup (m.sub _ _ hF))
  · cases h; simp only [Rep] at r; obtain ⟨a, rfl, hF⟩ := r; exact .base (.dK (m.sub _ _ hF))
  · cases h; simp only [Rep] at r; obtain ⟨a, xs, rfl, hF, _, _⟩ := r; exact .base (.dK (m.sub _ _ hF))
  · rename_i c fs
    cases h
    simp only [Rep] at r
    obtain ⟨a, dx, xs, rfl, hF, _⟩ := r
    have := cf.f c (of_decide_eq_true ht)
    exact .base (.ins (m.sub _ _ hF) this.cl this.ha this.hn this.htk this.hm)
  · rename_i k
    split at h
    · rename_i ds hk
      cases h
      simp only [Rep] at r
      obtain ⟨a, rfl, ha⟩ := r
      obtain ⟨xs, hH, rs⟩ := m.cellL ha hk
      exact .base (.lst hH)
    · cases h
  · cases h
def bIsi (n : Nat) : List D → S → Res D := fun xs s => match xs with
  | [x, .tup cs] => match tyn s x with
    | some t => if t.ok n = true then (match isAny n t cs with
      | some b => .ok (.bl b) s
      | none => .stuck) else .stuck
    | none => .stuck
  | [x, c] => match tyn s x with
    | some t => if t.ok n = true then (match isOne n t c with
      | some b => .ok (.bl b) s
      | none => .stuck) else .stuck
    | none => .stuck
  | _ => .stuck
theorem isAny_kit {n : Nat} (cf : ClsF X.K g n) {t : TN} (ht : t.ok n = true) {ca : List Addr} {F : Hp} : ∀ {ds : List D} {b : Bool} {vs : List V}, isAny n t ds = some b → Reps g ca F ds vs →
    (∀ d ∈ ds, (clsV g d).isSome = true) → ∃ us, Paired ClsV vs us ∧ PySem.W.kitAny X.K (t.v g) us = some b
  | [], b, vs, h, r, _ => by
    simp only [isAny, Option.some.injEq] at h
    subst h
    simp only [Reps] at r
    subst r
    exact ⟨[], .nil, rfl⟩
  | d :: ds, b, vs, h, r, hc => by
    simp only [Reps] at r
    obtain ⟨v, ws, rfl, r1, r2⟩ := r
    have rest : ∃ us, Paired ClsV ws us := by
      clear h
      have hc' : ∀ d ∈ ds, (clsV g d).isSome = true := fun e he => hc e (List.mem_cons_of_mem _ he)
      clear hc r1
      induction ds generalizing ws with
      | nil => simp only [Reps] at r2; subst r2; exact ⟨[], .nil⟩
      | cons e es ih =>
        simp only [Reps] at r2
        obtain ⟨v', ws', rfl, q1, q2⟩ := r2
        obtain ⟨us, hu⟩ := ih ws' q2 fun e he => hc' e (List.mem_cons_of_mem _ he)
        obtain ⟨u, hu'⟩ := Option.isSome_iff_exists.mp (hc' e (List.mem_cons_self ..))
        exact ⟨u :: us, .cons (cls_rep hu' q1) hu⟩
    unfold isAny at h
    split at h
    · rename_i h1
      cases h
      obtain ⟨u, hu, hk⟩ := isOne_kit cf ht h1
      obtain ⟨us, hus⟩ := rest
      exact ⟨u :: us, .cons (cls_rep hu r1) hus, by simp only [PySem.W.kitAny, hk]⟩
    · rename_i h1
      obtain ⟨u, hu, hk⟩ := isOne_kit cf ht h1
      obtain ⟨us, hus, hk2⟩ := isAny_kit cf ht h r2 fun e he => hc e (List.mem_cons_of_mem _ he)
      exact ⟨u :: us, .cons (cls_rep hu r1) hus, by simp only [PySem.W.kitAny, hk, hk2]⟩
    · cases h
def clsAll : List D → Bool
  | [] => true
  | .ty _ :: ds => clsAll ds
  | .cls _ :: ds => clsAll ds
  | _ => false
theorem clsAll_some : ∀ {ds : List D}, clsAll ds = true → ∀ d ∈ ds, (clsV g d).isSome = true
  | [], _, d, h => by cases h
  | e :: es, h, d, hd => by
    unfold clsAll at h
    split at h
    · rename_i heq; cases heq
    · rename_i t ds heq
      cases heq
      rcases List.mem_cons.mp hd with rfl | hd
      · rfl
      · exact clsAll_some h d hd
    · rename_i t ds heq
      cases heq
      rcases List.mem_cons.mp hd with rfl | hd
      · rfl
      · exact clsAll_some h d hd
    · cases h
def bIsi' (n : Nat) : List D → S → Res D := fun xs s => match xs with
  | [x, .tup cs] => if clsAll cs = true then bIsi n [x, .tup cs] s else .stuck
  | [x, .ty t] => bIsi n [x, .ty t] s
  | [x, .cls c] => bIsi n [x, .cls c] s
  | _ => .stuck
theorem cd_isi1 {n : Nat} (hK : g.K = X.K) (cf : ClsF X.K g n) : CallD X g E (.builtin "isinstance") (fun xs s => match xs with
    | [_, .ty _] => bIsi' n xs s
    | [_, .cls _] => bIsi' n xs s
    | _ => .stuck) := by
  refine ⟨_, call_isi, fun xs s ca F P H vs Q m rs p => ?_⟩
  have one : ∀ x c, (match tyn s x with
    | some t => if t.ok n = true then (match isOne n t c with
      | some b => Res.ok (.bl b) s
      | none => .stuck) else .stuck
    | none => .stuck) = bIsi' n xs s → xs = [x, c] → rIsi X.K vs H Q := fun x c hb hx => by
    subst hx
    obtain ⟨v, u, rfl, r1, r2⟩ := reps2 rs
    have p : Post g ca F P E (fun d _ ca' F' H' => ∀ w, Rep g ca' F' d w → Q w H') (match tyn s x with
      | some t => if t.ok n = true then (match isOne n t c with
        | some b => Res.ok (.bl b) s
        | none => .stuck) else .stuck
      | none => .stuck) := by
      rw [hb]
      dsimp only at p
      split at p
      · exact p
      · exact p
      · exact p.elim
    split at p
    · rename_i t ht
      split at p
      · rename_i hok
        split at p
        · rename_i b hb2
          obtain ⟨w, hw, hk⟩ := isOne_kit cf hok hb2
          exact ⟨v, u, t.v g, w, b, rfl, cls_rep hw r2, tyx_of hK cf m ht hok r1, hk, p.now m _ rep_bl⟩
        · exact p.elim
      · exact p.elim
    · exact p.elim
  dsimp only at p
  split at p
  · rename_i x t
    exact one x (.ty t) rfl rfl
  · rename_i x c
    exact one x (.cls c) rfl rfl
  · exact p.elim
theorem cd_isiT {n : Nat} (hK : g.K = X.K) (cf : ClsF X.K g n) : CallD X g E (.builtin "isinstance") (fun xs s => match xs with
    | [_, .tup _] => bIsi' n xs s
    | _ => .stuck) := by
  refine ⟨_, call_isiT, fun xs s ca F P H vs Q m rs p => ?_⟩
  dsimp only at p
  split at p
  · rename_i x cs
    unfold bIsi' at p
    simp only at p
    split at p
    · rename_i hc
      unfold bIsi at p
      simp only at p
      obtain ⟨v, u, rfl, r1, r2⟩ := reps2 rs
      simp only [Rep] at r2
      obtain ⟨a, ws, rfl, hF, rs2⟩ := r2
      split at p
      · rename_i t ht
        split at p
        · rename_i hok
          split at p
          · rename_i b hb
            obtain ⟨us, hp, hk⟩ := isAny_kit cf hok hb rs2 (clsAll_some hc)
            exact ⟨v, a, ws, t.v g, us, b, rfl, m.sub _ _ hF, hp, tyx_of hK cf m ht hok r1, hk, p.now m _ rep_bl⟩
          · exact p.elim
        · exact p.elim
      · exact p.elim
    · exact p.elim
  · exact p.elim
def bIs (n : Nat) : List D → S → Res D := fun xs s => ((match xs with
    | [_, .ty _] => bIsi' n xs s
    | [_, .cls _] => bIsi' n xs s
    | _ => .stuck : Res D)).or (match xs with
    | [_, .tup _] => bIsi' n xs s
    | _ => .stuck)
theorem cd_isinstance {n : Nat} (hK : g.K = X.K) (cf : ClsF X.K g n) : CallD X g E (.builtin "isinstance") (bIs n) := (cd_isi1 hK cf).or (cd_isiT hK cf)
theorem ev_bty (t : BT) {x : Str} {pos : Pos} (hg : Gl X x) (hm : X.mg x = none) (hv : bootBuiltins x = some (.type t.name)) (hn : x ≠ "__name__" := by decide) (hd : (x == ("__debug__" : Str)) = false := by decide) : Ev X g E (.Name x pos) (mC (.ty t)) :=
  ev_c (pe_bltn (v := .ty t.name) hg hm hv rfl hn hd) fun _ _ => by simp only [Rep]
theorem ev_cls (c : Nat) {x : Str} {pos : Pos} (hg : Gl X x) (hm : X.mg x = some (.ref (g.cls c))) (hd : (x == ("__debug__" : Str)) = false := by decide) : Ev X g E (.Name x pos) (mC (.cls c)) :=
  ev_c (pe_glob (v := .ref (g.cls c)) hg hm rfl hd) fun _ _ => by simp only [Rep]
theorem zip_lookup : ∀ {ns : List Str} {vs : List V} {i : Nat} {f : Str} {v : V}, ns.Nodup → ns[i]? = some f → vs[i]? = some v → (ns.zip vs).lookup f = some v
  | [], _, _, _, _, _, h, _ => by simp at h
  | _ :: _, [], _, _, _, _, _, h => by simp at h
  | n :: ns, w :: vs, 0, f, v, _, h1, h2 => by
    simp at h1 h2
    subst h1; subst h2
    simp [List.lookup_cons]
  | n :: ns, w :: vs, i + 1, f, v, nd, h1, h2 => by
    have hne : n ≠ f := by
      rintro rfl
      exact (List.nodup_cons.mp nd).1 (List.mem_of_getElem? (i := i) (by simpa using h1))
    simp only [List.zip_cons_cons, List.lookup_cons]
    rw [show (f == n) = false by simpa using fun e => hne e.symm]
    exact zip_lookup (List.nodup_cons.mp nd).2 (by simpa using h1) (by simpa using h2)
variable {e o : Expr} {me mo : Env → S → Res D} {pos apos : Pos} {f : Str}
def mFld (c i : Nat) (me : Env → S → Res D) : Env → S → Res D := fun env s => (me env s).bind fun x s1 => match x with
  | .ins k fs => if k = c then (match fs[i]? with
    | some d => .ok d s1
    | none => .stuck) else .stuck
  | _ => .stuck
theorem ev_fld {c i : Nat} (he : Ev X g E e me) (cl : Cls X.K (g.cls c)) (na : NoAttr X.K (g.cls c) f) (hf : (g.fn c)[i]? = some f) (hnd : (g.fn c).Nodup) (hb : attributeBase e f X.env (eval e X.env) = eval e X.env := by rfl) : Ev X g E (.Attribute e f pos) (mFld c i me) := by
  obtain ⟨t, p, h⟩ := he
  refine ⟨_, pe_fld p hb, fun env s ca F P H σ Q m sl q => ?_⟩
  refine h env s ca F P H σ _ m sl (Post.imp (Post.seq q) fun x s1 ca1 F1 H1 k1 k2 m1 q1 v rv => ?_)
  cases x with
  | ins k fs =>
    simp only at q1
    split at q1
    · rename_i hk
      subst hk
      split at q1
      · rename_i d hd
        simp only [Rep] at rv
        obtain ⟨a, dx, xs, rfl, hF, hl, rs⟩ := rv
        obtain ⟨w, hw, rw'⟩ := rs.get hd
        exact ⟨a, _, dx, _, w, rfl, m1.sub _ _ hF, cl, na, zip_lookup hnd hf hw, q1.now m1 _ rw'⟩
      · exact q1.elim
    · exact q1.elim
  | _ => exact q1.elim
theorem post_noexn {α : Type} {ca : List Addr} {F P : Hp} {E' : XK} {Q : α → S → List Addr → Hp → Hp → Prop} {r : Res α} (h : Post g ca F P E Q (match r with
    | .exn _ _ _ => Res.stuck
    | z => z)) : Post g ca F P E' Q r := by
  cases r with
  | stuck => exact h
  | ok a s => exact h
  | exn c pl s => exact h.elim
def noexn {α : Type} (r : Res α) : Res α := match r with
  | .exn _ _ _ => .stuck
  | z => z
variable {x m : Str} {p : Pos} {es : List Expr} {mr : Env → S → Res (List D)} {CX : CXT} {k : Nat} {fa C : Addr} {fd : FuncData} {ps : List Str} {ff : List D → S → Res D} {n : Nat} {dvs : List V} {dds : List D} {ds : List Value}
def mCallD (dds : List D) (ff : List D → S → Res D) (mr : Env → S → Res (List D)) : Env → S → Res D := fun env s => (mr env s).bind fun xs s1 => if xs.length + dds.length = n then ff (xs ++ dds) s1 else .stuck
theorem spG_of {ca : List Addr} {F P H : Hp} {s : S} {xs : List D} {vs : List V} {Q : VK} (m : Sim g ca F P s H) (r : Reps g ca F xs vs) (hl : xs.length = n) (q : Post g ca F P E (fun d _ ca' F' H' => ∀ v, Rep g ca' F' d v → Q v H') (ff xs s)) : spG g n ff vs H Q E :=
  ⟨xs, ca, F, P, s, by rw [← r.length]; exact hl, m, r, q⟩
theorem ev_call (Fk : FnOk X.prog X.w X.K X.mg X.base CX k fa fd ps (spG g n ff)) (hr : Room k X.A) (hg : Gl X x) (hm : X.mg x = some (.ref fa)) (hk : PySem.W.keepIn X.K (.ref fa) = true) (hb : Binds X.K fd ps ds) (hd : Vals dvs ds) (hdd : ∀ ca F, Reps g ca F dds dvs) (hx : Passes CX X E)
    (ha : Ea X g E (e :: es) mr) (hdb : (x == ("__debug__" : Str)) = false := by decide) (he : starEach (e :: es) X.env = (false, eval e X.env) :: starEach es X.env := by rfl) (hpl : (backTo pos (starEach es X.env)).any (·.1) = false := by rfl) :
    Ev X g E (.Call (.Name x p) (e :: es) [] pos) (mCallD (n := n) dds ff mr) := by
  obtain ⟨t, pa, ha⟩ := ha
  refine ⟨_, pe_call Fk hr hg hm hk hb hd hx pa hdb he hpl, fun env s ca F P H σ Q m sl q => ?_⟩
  refine ha env s ca F P H σ _ m sl (Post.imp (Post.seq q) fun xs s1 ca1 F1 H1 k1 k2 m1 q vs rs => ?_)
  split at q
  · rename_i hl
    exact spG_of m1 (rs.append (hdd _ _)) (by simpa using hl) q
  · exact q.elim
def mProp (c : Nat) (ff : List D → S → Res D) (mo : Env → S → Res D) : Env → S → Res D := fun env s => (mo env s).bind fun x s1 => match x with
  | .ins k fs => if k = c then noexn (ff [.ins k fs] s1) else .stuck
  | _ => .stuck
theorem ev_prop {c : Nat} {pp : Addr} {E' : XK} (he : Ev X g E o mo) (cl : Cls X.K (g.cls c)) (hp : PropOf X.K (g.cls c) f pp fa) (Fk : FnOk X.prog X.w X.K X.mg X.base CX k fa fd ps (spG g 1 ff)) (hr : Room (k + 1) X.A) (hb : Binds X.K fd ps []) (hx : Passes CX X.nox E')
    (hab : attributeBase o f X.env (eval o X.env) = eval o X.env := by rfl) : Ev X g E (.Attribute o f pos) (mProp c ff mo) := by
  obtain ⟨t, po, ho⟩ := he
  refine ⟨_, pe_prop (dvs := []) po cl hp Fk hr hb .nil hx hab, fun env s ca F P H σ Q m' sl q => ?_⟩
  refine ho env s ca F P H σ _ m' sl (Post.imp (Post.seq q) fun z s1 ca1 F1 H1 k1 k2 m1 q1 v rv => ?_)
  cases z with
  | ins kk fs =>
    simp only at q1
    split at q1
    · rename_i hk
      subst hk
      have rv' := rv
      simp only [Rep] at rv
      obtain ⟨a, dx, xs, rfl, hF, hl, rs⟩ := rv
      exact ⟨a, dx, _, rfl, m1.sub _ _ hF, spG_of m1 (.cons rv' .nil) rfl (post_noexn q1)⟩
    · exact q1.elim
  | _ => exact q1.elim
end
end Pm
set_option Elab.async false
set_option linter.all false
set_option maxRecDepth 100000
set_option maxHeartbeats 2000000
namespace Pm
open PySem PySem.Spec PyProof.Rows L2
section
variable {X : Cx} {g : G} {E : XK}
def cutPure : List Cell → Bool
  | [] => true
  | .lst ds :: cs => pureL ds && cutPure cs
  | .ins _ ds :: cs => pureL ds && cutPure cs
  | .dead :: cs => cutPure cs
  | .dK _ ds :: cs => pureL ds && cutPure cs
  | .dT _ ds :: cs => pureL ds && cutPure cs
  | .orc _ _ :: cs => cutPure cs
def cloS (k : Nat) : List Cell → Bool
  | [] => true
  | .lst ds :: cs => clL k ds && cloS k cs
  | .ins _ ds :: cs => clL k ds && cloS k cs
  | .dead :: cs => cloS k cs
  | .dK _ ds :: cs => clL k ds && cloS k cs
  | .dT _ ds :: cs => clL k ds && cloS k cs
  | .orc _ _ :: cs => cloS k cs
def cutOk (s : List Cell) : Bool := cloS s.length s
theorem clo_pure {k : Nat} : ∀ {s : List Cell}, cutPure s = true → cloS k s = true
  | [], _ => rfl
  | x :: s, h => by
    cases x <;> simp only [cutPure, cloS, Bool.and_eq_true] at h ⊢ <;> first
      | exact ⟨clL_pure _ h.1, clo_pure h.2⟩
      | exact clo_pure h
theorem cut_pure {s : List Cell} (h : cutPure s = true) : cutOk s = true := clo_pure h
theorem clo_mono {k m : Nat} (l : k ≤ m) : ∀ {s : List Cell}, cloS k s = true → cloS m s = true
  | [], _ => rfl
  | x :: s, h => by
    cases x <;> simp only [cloS, Bool.and_eq_true] at h ⊢ <;> first
      | exact ⟨clL_mono l _ h.1, clo_mono l h.2⟩
      | exact clo_mono l h
theorem clo_app {k : Nat} : ∀ {s t : List Cell}, cloS k s = true → cloS k t = true → cloS k (s ++ t) = true
  | [], t, _, h => h
  | x :: s, t, h, h2 => by
    cases x <;> simp only [cloS, List.cons_append, Bool.and_eq_true] at h ⊢ <;> first
      | exact ⟨h.1, clo_app h.2 h2⟩
      | exact clo_app h h2
theorem clo_set {k : Nat} {x : Cell} (hx : cloS k [x] = true) : ∀ {s : List Cell} (i : Nat), cloS k s = true → cloS k (s.set i x) = true
  | [], _, h => h
  | y :: s, 0, h => by cases x <;> cases y <;> simp_all [cloS]
  | y :: s, i + 1, h => by
    have := clo_set hx (s := s) i
    cases y <;> simp_all [cloS]
theorem cut_cat {s t : List Cell} (h : cutOk s = true) (k : cutOk t = true) : cutOk (s ++ t) = true := by
  unfold cutOk at *
  rw [List.length_append]
  exact clo_app (clo_mono (by omega) h) (clo_mono (by omega) k)
theorem cut_app {x : Cell} (hx : cutOk [x] = true) {s : List Cell} (h : cutOk s = true) : cutOk (s ++ [x]) = true := cut_cat h hx
theorem cut_set {x : Cell} (hx : cutOk [x] = true) {s : List Cell} (i : Nat) (h : cutOk s = true) : cutOk (s.set i x) = true := by
  cases s with
  | nil => exact h
  | cons y s =>
    unfold cutOk at *
    rw [List.length_set]
    exact clo_set (clo_mono (by simp) hx) i h
theorem clo_mem {k : Nat} : ∀ {l : List Cell}, cloS k l = true → ∀ c ∈ l, match c with | .lst ds => clL k ds = true | .ins _ ds => clL k ds = true | .dead => True | .dK _ ds => clL k ds = true | .dT _ ds => clL k ds = true | .orc _ _ => True
  | [], _, c, h => by cases h
  | x :: xs, h, c, hc => by
    rcases List.mem_cons.mp hc with rfl | hc
    · cases c with
      | lst ds => simp only [cloS, Bool.and_eq_true] at h; exact h.1
      | ins k ds => simp only [cloS, Bool.and_eq_true] at h; exact h.1
      | dead => trivial
      | dK ks ds => simp only [cloS, Bool.and_eq_true] at h; exact h.1
      | dT ks ds => simp only [cloS, Bool.and_eq_true] at h; exact h.1
      | orc _ _ => trivial
    · refine clo_mem ?_ c hc
      cases x with
      | lst ds => simp only [cloS, Bool.and_eq_true] at h; exact h.2
      | ins k ds => simp only [cloS, Bool.and_eq_true] at h; exact h.2
      | dead => simpa only [cloS] using h
      | dK ks ds => simp only [cloS, Bool.and_eq_true] at h; exact h.2
      | dT ks ds => simp only [cloS, Bool.and_eq_true] at h; exact h.2
      | orc _ _ => simpa only [cloS] using h
theorem cutOk_mem {l : List Cell} (h : cutOk l = true) : ∀ c ∈ l, match c with | .lst ds => clL l.length ds = true | .ins _ ds => clL l.length ds = true | .dead => True | .dK _ ds => clL l.length ds = true | .dT _ ds => clL l.length ds = true | .orc _ _ => True := clo_mem h
theorem Sim.other {ca : List Addr} {F P H : Hp} {s : S} {p : Addr} {o : HO} (m : Sim g ca F P s H) (hp : H p = none) : Sim g ca F P s (upd H p o) where
  sub := m.sub.put (m.sub.free hp)
  fr := m.fr.put (m.fr.free hp)
  dis := m.dis
  len := m.len
  nd := m.nd
  out := m.out
  at_ := fun i a c e q => by
    by_cases hd : c = .dead
    · subst hd; trivial
    · exact (m.at_ i a c e q).mono List.prefix_rfl (Sub.refl _) (upd_ne (m.apart hp e ⟨c, q, hd⟩))
theorem Sim.cellC {ca : List Addr} {F P H : Hp} {s : S} {p : Addr} {c0 : Cell} {o : HO} (m : Sim g ca F P s H) (hp : H p = none) (hc : CellOk g (ca ++ [p]) F (upd H p o) p c0) : Sim g (ca ++ [p]) F P (s ++ [c0]) (upd H p o) where
  sub := m.sub.put (m.sub.free hp)
  fr := m.fr.put (m.fr.free hp)
  dis := m.dis
  len := by simp [m.len]
  nd := fun i j a e1 e2 l1 l2 => by
    have hl := m.len
    have dec : ∀ k, (ca ++ [p])[k]? = some a → Live (s ++ [c0]) k → (k < ca.length ∧ ca[k]? = some a ∧ Live s k) ∨ (k = ca.length ∧ a = p) := fun k e l => by
      by_cases hk : k < ca.length
      · refine .inl ⟨hk, by rwa [List.getElem?_append_left hk] at e, ?_⟩
        obtain ⟨c, q, d⟩ := l
        exact ⟨c, by rwa [List.getElem?_append_left (by omega)] at q, d⟩
      · have hk2 : k < (ca ++ [p]).length := (List.getElem?_eq_some_iff.mp e).1
        have : k = ca.length := by simp at hk2; omega
        subst this
        simp at e
        exact .inr ⟨rfl, e.symm⟩
    rcases dec i e1 l1 with ⟨h1, q1, k1⟩ | ⟨h1, q1⟩ <;> rcases dec j e2 l2 with ⟨h2, q2, k2⟩ | ⟨h2, q2⟩
    · exact m.nd i j a q1 q2 k1 k2
    · exact absurd q2 (m.apart hp q1 k1)
    · exact absurd q1 (m.apart hp q2 k2)
    · omega
  out := fun i a e l => by
    by_cases hk : i < ca.length
    · obtain ⟨c, q, d⟩ := l
      rw [List.getElem?_append_left hk] at e
      exact m.out i a e ⟨c, by rwa [List.getElem?_append_left (by have := m.len; omega)] at q, d⟩
    · have hk2 : i < (ca ++ [p]).length := (List.getElem?_eq_some_iff.mp e).1
      have : i = ca.length := by simp at hk2; omega
      subst this
      simp at e
      subst e
      exact ⟨m.sub.free hp, m.fr.free hp⟩
  at_ := fun i a c e q => by
    have hl := m.len
    by_cases hk : i < ca.length
    · rw [List.getElem?_append_left hk] at e
      rw [List.getElem?_append_left (by omega)] at q
      by_cases hd : c = .dead
      · subst hd; trivial
      · exact (m.at_ i a c e q).mono (List.prefix_append _ _) (Sub.refl _) (upd_ne (m.apart hp e ⟨c, q, hd⟩))
    · have hk2 : i < (ca ++ [p]).length := (List.getElem?_eq_some_iff.mp e).1
      have : i = ca.length := by simp at hk2; omega
      subst this
      simp at e
      subst e
      rw [hl] at q
      simp at q
      subst q
      exact hc
def made (c nf k : Nat) (r : Res D) : Res D := r.bind fun d s2 => match d with
  | .non => (match s2[k]? with
    | some (.ins c' fs) => if (decide (c' = c ∧ fs.length = nf) && pureL fs && cutOk (s2.take k)) = true then .ok (.ins c fs) (s2.take k) else .stuck
    | _ => .stuck)
  | _ => .stuck
def mMake (c nf n : Nat) (dds : List D) (fi : List D → S → Res D) (mr : Env → S → Res (List D)) : Env → S → Res D := fun env s => (mr env s).bind fun xs s1 =>
  if xs.length + dds.length + 1 = n then made c nf s1.length (fi (.cell s1.length :: (xs ++ dds)) (s1 ++ [.ins c []])) else .stuck
theorem made_ok {c nf n : Nat} {fi : List D → S → Res D} {ca : List Addr} {F P H : Hp} {s : S} {xs : List D} {vs : List V} {Q : VK} {x dx : Addr} (hnf : nf = (g.fn c).length) (m : Sim g ca F P s H) (rs : Reps g ca F xs vs) (hl : xs.length + 1 = n)
    (hx : H x = none) (hdx : H dx = none) (hne : dx ≠ x) (q : Post g ca F P E (fun d _ ca' F' H' => ∀ v, Rep g ca' F' d v → Q v H') (made c nf s.length (fi (.cell s.length :: xs) (s ++ [.ins c []])))) :
    spG g n fi (.ref x :: vs) (upd (upd H dx (.own x)) x (.ins (g.cls c) dx [])) (fun v H2 => v = .non ∧ Q (.ref x) H2) E := by
  have m0 : Sim g ca F P s (upd H dx (.own x)) := m.other hdx
  have hx0 : (upd H dx (.own x)) x = none := by rw [upd_ne hne.symm]; exact hx
  have m1 : Sim g (ca ++ [x]) F P (s ++ [.ins c []]) (upd (upd H dx (.own x)) x (.ins (g.cls c) dx [])) := m0.cellC hx0 ⟨dx, [], by simp [upd_same], .nil⟩
  refine ⟨.cell s.length :: xs, ca ++ [x], F, P, s ++ [.ins c []], by simp [← rs.length, ← hl], m1, .cons ?_ (Reps.mono (List.prefix_append _ _) (Sub.refl _) _ _ rs), ?_⟩
  · simp only [Rep]
    exact ⟨x, rfl, by rw [← m.len]; simp⟩
  · refine Post.imp (Post.later (Post.seq0 q) (List.prefix_append _ _) (Sub.refl _)) fun d s2 ca2 F2 H2 k1 k2 m2 q2 v rv => ?_
    have hq : (ca ++ [x])[s.length]? = some x := by rw [← m.len]; simp
    have hc2 := prefix_get k1 hq
    cases d with
    | non =>
      dsimp only at q2
      split at q2
      · rename_i c' fs hs2
        split at q2
        · rename_i hcond
          simp only [Bool.and_eq_true, decide_eq_true_eq] at hcond
          obtain ⟨⟨⟨hc', hlen⟩, hp⟩, hcut⟩ := hcond
          subst hc'
          obtain ⟨dx2, ws, hH, hr⟩ := m2.at_ _ _ _ hc2 hs2
          rw [hlen, hnf, List.take_length] at hH
          obtain ⟨m3, hFx⟩ := m2.freeze hc2 hs2 (by intro z; cases z) hH
          have hpre : ca <+: ca2 := (List.prefix_append ca [x]).trans k1
          obtain ⟨t, rfl⟩ := hpre
          have htk : (s2.set s.length Cell.dead).take ca.length = s2.take s.length := by
            rw [m.len, List.take_set_of_le (Nat.le_refl _)]
          have m4 := m3.cut (by rw [htk]; exact cutOk_mem hcut)
          rw [htk] at m4
          refine ⟨rv, q2 ca _ H2 List.prefix_rfl (k2.trans (Sub.new hFx)) m4 _ ?_⟩
          simp only [Rep]
          exact ⟨x, dx2, ws, rfl, upd_same, by rw [hlen, hnf], Reps.bare _ _ hp (Reps.mono List.prefix_rfl (Sub.new hFx) _ _ hr)⟩
        · exact q2.elim
      · exact q2.elim
    | _ => exact q2.elim
variable {e o a b : Expr} {es : List Expr} {me mo ma mb : Env → S → Res D} {mr : Env → S → Res (List D)} {pos apos p : Pos} {x m : Str} {CX : CXT} {k : Nat} {fa C : Addr} {fd : FuncData} {ps : List Str} {ff fi : List D → S → Res D} {n nf c : Nat} {dvs : List V} {dds : List D} {ds : List Value}
theorem ev_make (M : Mk X.K (g.cls c) fa) (Fk : FnOk X.prog X.w X.K X.mg X.base CX k fa fd ps (spG g n fi)) (hnf : nf = (g.fn c).length) (hr : Room (k + 1) X.A) (hg : Gl X x) (hm : X.mg x = some (.ref (g.cls c))) (hb : Binds X.K fd ps ds) (hd : Vals dvs ds) (hdd : ∀ ca F, Reps g ca F dds dvs) (hx : Passes CX X E)
    (ha : Ea X g E (e :: es) mr) (hdb : (x == ("__debug__" : Str)) = false := by decide) (he : starEach (e :: es) X.env = (false, eval e X.env) :: starEach es X.env := by rfl) (hpl : (backTo pos (starEach es X.env)).any (·.1) = false := by rfl) :
    Ev X g E (.Call (.Name x p) (e :: es) [] pos) (mMake c nf n dds fi mr) := by
  obtain ⟨t, pa, ha⟩ := ha
  refine ⟨_, pe_make M Fk hr hg hm hb hd hx pa hdb he hpl, fun env s ca F P H σ Q m sl q => ?_⟩
  refine ha env s ca F P H σ _ m sl (Post.imp (Post.seq q) fun xs s1 ca1 F1 H1 k1 k2 m1 q1 vs rs => ?_)
  split at q1
  · rename_i hl
    intro x dx hx hdx hne
    exact made_ok hnf m1 (rs.append (hdd _ _)) (by simpa using hl) hx hdx hne q1
  · exact q1.elim
def sNext : Env → S → Res Fl := fun env s => .ok (.nx env) s
def sSeq (a b : Env → S → Res Fl) : Env → S → Res Fl := fun env s => (a env s).bind fun fl s1 => match fl with
  | .nx e => b e s1
  | fl => .ok fl s1
variable {st : Stmt} {rest : List Stmt} {ms mt : Env → S → Res Fl}
theorem svs_nil : Svs X g E [] sNext := ⟨_, pss_nil, fun env s ca F P H σ Dn m sl q => q.now m σ sl⟩
theorem svs_cons (h1 : Sv X g E st ms) (h2 : Svs X g E rest mt) : Svs X g E (st :: rest) (sSeq ms mt) := by
  obtain ⟨t, p1, h1⟩ := h1
  obtain ⟨u, p2, h2⟩ := h2
  refine ⟨_, pss_cons p1 p2, fun env s ca F P H σ Dn m sl q => ?_⟩
  refine h1 env s ca F P H σ _ m sl (Post.imp (Post.seq q) fun fl s1 ca1 F1 H1 k1 k2 m1 q1 => ?_)
  cases fl with
  | nx e => exact fun σ' sl' => h2 e s1 ca1 F1 P H1 σ' Dn m1 sl' q1
  | rt d => exact q1.now m1
  | bk e => exact q1.now m1
  | ct e => exact q1.now m1
theorem svs_one (h1 : Sv X g E st ms) : Svs X g E [st] ms := let ⟨t, p1, h1⟩ := h1; ⟨t, pss_one p1, h1⟩
def sStuck : Env → S → Res Fl := fun _ _ => .stuck
theorem sv_never : Sv X g E st sStuck := ⟨_, ps_never, fun env s ca F P H σ Dn m sl q => q.elim⟩
def sExpr (me : Env → S → Res D) : Env → S → Res Fl := fun env s => (me env s).bind fun _ s1 => .ok (.nx env) s1
theorem sv_expr (he : Ev X g E e me) (hs : swapsWith e none pos.line X.env = pure false := by rfl) : Sv X g E (.Expr e pos) (sExpr me) := by
  obtain ⟨t, p1, h1⟩ := he
  refine ⟨_, ps_expr p1 hs, fun env s ca F P H σ Dn m sl q => ?_⟩
  exact h1 env s ca F P H σ _ m sl (Post.imp (Post.seq q) fun d s1 ca1 F1 H1 k1 k2 m1 q1 v rv => q1.now m1 σ (sl.mono k1 k2))
def sRet (me : Env → S → Res D) : Env → S → Res Fl := fun env s => (me env s).bind fun d s1 => .ok (.rt d) s1
theorem sv_ret (he : Ev X g E e me) : Sv X g E (.Return (some e) pos) (sRet me) := by
  obtain ⟨t, p1, h1⟩ := he
  refine ⟨_, ps_ret p1, fun env s ca F P H σ Dn m sl q => ?_⟩
  exact h1 env s ca F P H σ _ m sl (Post.imp (Post.seq q) fun d s1 ca1 F1 H1 k1 k2 m1 q1 v rv => q1.now m1 v rv)
def sIf (t : Env → S → Res Bool) (a b : Env → S → Res Fl) : Env → S → Res Fl := fun env s => (t env s).bind fun c s1 => if c = true then a env s1 else b env s1
variable {sa sb : List Stmt} {tc : Env → S → Res Bool}
theorem sv_if (hc : Et X g E e tc) (ha : Svs X g E sa ms) (hb : Svs X g E sb mt) : Sv X g E (.If e sa sb pos) (sIf tc ms mt) := by
  obtain ⟨t, p, h⟩ := hc
  obtain ⟨u, p1, h1⟩ := ha
  obtain ⟨w, p2, h2⟩ := hb
  refine ⟨_, ps_if p p1 p2, fun env s ca F P H σ Dn m sl q => ?_⟩
  refine h env s ca F P H σ _ m sl (Post.imp (Post.seq q) fun c s1 ca1 F1 H1 k1 k2 m1 q1 => ?_)
  cases c with
  | true => exact h1 env s1 ca1 F1 P H1 σ Dn m1 (sl.mono k1 k2) q1
  | false => exact h2 env s1 ca1 F1 P H1 σ Dn m1 (sl.mono k1 k2) q1
def WipeEq (w : List Nat) (σ σ' : L2.St) : Prop := ∀ vs, (∀ i ∈ w, i ∈ vs) → wipe σ' vs = wipe σ vs
def Tn (X : Cx) (g : G) (tg : Expr) (w : List Nat) (m : D → Env → Option Env) : Prop :=
  ∃ t : TG, PG X tg t ∧ ∀ (d : D) (env env' : Env) (ca : List Addr) (F P H : Hp) (s : S) (σ : L2.St) (v : V) (Q : L2.St → Hp → Prop), Sim g ca F P s H → Slots g ca F env σ → Rep g ca F d v → m d env = some env' →
    (∀ σ', Slots g ca F env' σ' → WipeEq w σ σ' → Q σ' H) → t v σ H Q
def Tns (X : Cx) (g : G) (tgs : List Expr) (w : List Nat) (m : List D → Env → Option Env) : Prop :=
  ∃ t : TGs, PGs X tgs t ∧ ∀ (ds : List D) (env env' : Env) (ca : List Addr) (F P H : Hp) (s : S) (σ : L2.St) (vs : List V) (Q : L2.St → Hp → Prop), Sim g ca F P s H → Slots g ca F env σ → Reps g ca F ds vs → m ds env = some env' →
    (∀ σ', Slots g ca F env' σ' → WipeEq w σ σ' → Q σ' H) → t vs σ H Q
theorem wipe_get {σ : L2.St} {j : Nat} : ∀ {vs : List Nat}, (wipe σ vs)[j]? = if j ∈ vs then (if j < σ.length then some none else none) else σ[j]?
  | [] => by simp [wipe]
  | v :: vs => by
    unfold wipe
    by_cases h : v = j
    · subst h
      by_cases hl : v < σ.length
      · rw [List.getElem?_set_self (by rw [wipe_length]; exact hl)]
        simp [hl]
      · rw [List.getElem?_eq_none (by rw [List.length_set, wipe_length]; omega)]
        simp [hl]
    · rw [List.getElem?_set_ne h, wipe_get]
      have : (j ∈ v :: vs) = (j ∈ vs) := by simp [Ne.symm h]
      simp only [this]
theorem wipeEq_set {σ : L2.St} {i : Nat} {v : Option V} : WipeEq [i] σ (σ.set i v) := fun vs h => by
  refine List.ext_getElem? fun j => ?_
  rw [wipe_get, wipe_get, List.length_set]
  by_cases hj : j ∈ vs
  · simp [hj]
  · have : i ≠ j := fun e => hj (e ▸ h i (by simp))
    simp [hj, List.getElem?_set_ne this]
theorem WipeEq.trans {w1 w2 : List Nat} {σ σ1 σ2 : L2.St} (a : WipeEq w1 σ σ1) (b : WipeEq w2 σ1 σ2) : WipeEq (w1 ++ w2) σ σ2 := fun vs h =>
  (b vs fun i hi => h i (by simp [hi])).trans (a vs fun i hi => h i (by simp [hi]))
def tName (i : Nat) : D → Env → Option Env := fun d env => some (env.set i (some d))
theorem tn_name (i : Nat) {x : Str} (hN : X.N.Nodup) (hi : X.N[i]? = some x) (hx : Loc X.env.scope x) (hf : X.fn x = true ∨ X.env.scope.names.lookup x = some .local := by first | exact .inl rfl | exact .inr rfl | assumption) : Tn X g (.Name x pos) [i] (tName i) :=
  ⟨_, pg_name hN hi hx hf, fun d env env' ca F P H s σ v Q m sl r h q => by
    cases h
    exact q _ (sl.set r) wipeEq_set⟩
variable {tg : Expr} {tgs : List Expr} {w w' : List Nat} {mg : D → Env → Option Env} {mgs : List D → Env → Option Env}
def tNil : List D → Env → Option Env := fun ds env => match ds with
  | [] => some env
  | _ => none
def tCons (m : D → Env → Option Env) (ms : List D → Env → Option Env) : List D → Env → Option Env := fun ds env => match ds with
  | d :: ds => (m d env).bind (ms ds)
  | [] => none
theorem tns_nil : Tns X g [] [] tNil := ⟨_, pgs_nil, fun ds env env' ca F P H s σ vs Q m sl r h q => by
  unfold tNil at h
  split at h
  · cases h
    simp only [Reps] at r
    exact ⟨r, q σ sl fun _ _ => rfl⟩
  · cases h⟩
theorem tns_cons (h1 : Tn X g tg w mg) (h2 : Tns X g tgs w' mgs) (hs : (assignEach (tg :: tgs) X.env).map (·.2) = assign tg X.env :: (assignEach tgs X.env).map (·.2) := by rfl) : Tns X g (tg :: tgs) (w ++ w') (tCons mg mgs) := by
  obtain ⟨t, p1, h1⟩ := h1
  obtain ⟨u, p2, h2⟩ := h2
  refine ⟨_, pgs_cons p1 p2 hs, fun ds env env' ca F P H s σ vs Q m sl r h q => ?_⟩
  unfold tCons at h
  split at h
  · rename_i d ds
    rw [Option.bind_eq_some_iff] at h
    obtain ⟨env1, e1, e2⟩ := h
    simp only [Reps] at r
    obtain ⟨v, ws, rfl, r1, r2⟩ := r
    refine ⟨v, ws, rfl, ?_⟩
    refine h1 d env env1 ca F P H s σ v _ m sl r1 e1 fun σ1 sl1 w1 => ?_
    exact h2 ds env1 env' ca F P H s σ1 ws _ m sl1 r2 e2 fun σ2 sl2 w2 => q σ2 sl2 (w1.trans w2)
  · cases h
def Ta (X : Cx) (g : G) (E : XK) (tg : Expr) (m : D → Env → S → Res Env) : Prop :=
  ∃ t : TG, PG X tg t ∧ ∀ (d : D) (env : Env) (ca : List Addr) (F P H : Hp) (s : S) (σ : L2.St) (v : V) (Q : L2.St → Hp → Prop), Sim g ca F P s H → Slots g ca F env σ → Rep g ca F d v →
    Post g ca F P E (fun env' _ ca' F' H' => ∀ σ', Slots g ca' F' env' σ' → Q σ' H') (m d env s) → t v σ H Q
def Tas (X : Cx) (g : G) (E : XK) (tgs : List Expr) (m : List D → Env → S → Res Env) : Prop :=
  ∃ t : TGs, PGs X tgs t ∧ ∀ (ds : List D) (env : Env) (ca : List Addr) (F P H : Hp) (s : S) (σ : L2.St) (vs : List V) (Q : L2.St → Hp → Prop), Sim g ca F P s H → Slots g ca F env σ → Reps g ca F ds vs →
    Post g ca F P E (fun env' _ ca' F' H' => ∀ σ', Slots g ca' F' env' σ' → Q σ' H') (m ds env s) → t vs σ H Q
def aN (m : D → Env → Option Env) : D → Env → S → Res Env := fun d env s => match m d env with
  | some e => .ok e s
  | none => .stuck
theorem ta_n (h : Tn X g tg w mg) : Ta X g E tg (aN mg) := by
  obtain ⟨t, p, h⟩ := h
  refine ⟨t, p, fun d env ca F P H s σ v Q m sl r q => ?_⟩
  unfold aN at q
  split at q
  · rename_i e he
    exact h d env e ca F P H s σ v Q m sl r he fun σ' sl' _ => q.now m σ' sl'
  · exact q.elim
variable {mta : D → Env → S → Res Env} {mtas : List D → Env → S → Res Env}
def taNil : List D → Env → S → Res Env := fun ds env s => match ds with
  | [] => .ok env s
  | _ => .stuck
def taCons (m : D → Env → S → Res Env) (ms : List D → Env → S → Res Env) : List D → Env → S → Res Env := fun ds env s => match ds with
  | d :: ds => (m d env s).bind fun e s1 => ms ds e s1
  | [] => .stuck
theorem tas_nil : Tas X g E [] taNil := ⟨_, pgs_nil, fun ds env ca F P H s σ vs Q m sl r q => by
  unfold taNil at q
  split at q
  · simp only [Reps] at r
    exact ⟨r, q.now m σ sl⟩
  · exact q.elim⟩
theorem tas_cons (h1 : Ta X g E tg mta) (h2 : Tas X g E tgs mtas) (hs : (assignEach (tg :: tgs) X.env).map (·.2) = assign tg X.env :: (assignEach tgs X.env).map (·.2) := by rfl) : Tas X g E (tg :: tgs) (taCons mta mtas) := by
  obtain ⟨t, p1, h1⟩ := h1
  obtain ⟨u, p2, h2⟩ := h2
  refine ⟨_, pgs_cons p1 p2 hs, fun ds env ca F P H s σ vs Q m sl r q => ?_⟩
  unfold taCons at q
  split at q
  · rename_i d ds
    simp only [Reps] at r
    obtain ⟨v, ws, rfl, r1, r2⟩ := r
    refine ⟨v, ws, rfl, ?_⟩
    refine h1 d env ca F P H s σ v _ m sl r1 (Post.imp (Post.seq q) fun e s1 ca1 F1 H1 k1 k2 m1 q1 σ1 sl1 => ?_)
    exact h2 ds e ca1 F1 P H1 s1 σ1 ws _ m1 sl1 (Reps.mono k1 k2 _ _ r2) q1
  · exact q.elim
def taTup (n : Nat) (ms : List D → Env → S → Res Env) : D → Env → S → Res Env := fun d env s => match d with
  | .tup ds => if ds.length = n then ms ds env s else .stuck
  | .rot ds => if ds.length = n then ms ds env s else .stuck
  | _ => .stuck
theorem ta_tup {kk : Nat} (hK : g.K = X.K) (hc : X.calm = true) (h : Tas X g E tgs mtas) (hn : (assignEach tgs X.env).length = n := by rfl) (hst : (assignEach tgs X.env).findIdx? (·.1) = none := by rfl) : Ta X g E (.Tuple tgs kk pos) (taTup n mtas) := by
  obtain ⟨t, p, h⟩ := h
  refine ⟨_, pg_tup hc p hn hst, fun d env ca F P H s σ v Q m sl r q => ?_⟩
  unfold taTup at q
  split at q
  · split at q
    · rename_i ds hl
      simp only [Rep] at r
      obtain ⟨a, xs, rfl, hF, rs⟩ := r
      exact ⟨a, xs, rfl, .of (m.sub _ _ hF), by rw [← rs.length]; exact hl, h ds env ca F P H s σ xs Q m sl rs q⟩
    · exact q.elim
  · split at q
    · rename_i ds hl
      simp only [Rep] at r
      obtain ⟨a, xs, rfl, hF, rs⟩ := r
      exact ⟨a, xs, rfl, hK ▸ same_t m.sub hF, by rw [← rs.length]; exact hl, h ds env ca F P H s σ xs Q m sl rs q⟩
    · exact q.elim
  · exact q.elim
def taSub (mo mi : Env → S → Res D) : D → Env → S → Res Env := fun d env s => (mo env s).bind fun o s1 => (mi env s1).bind fun i s2 => match o, i with
  | .cell k, .int j => match s2[k]? with
    | some (.lst ds) => match ixN ds.length j with
      | some z => .ok env (s2.set k (.lst (ds.set z d)))
      | none => .stuck
    | _ => .stuck
  | _, _ => .stuck
theorem ta_sub (ho : Ev X g E o mo) (hi : Ev X g E e me)
    (ha : ∀ v, assign (.Subscript o e pos) X.env v = (do
      let ov ← holding [v] (eval o X.env)
      let iv ← holding [v, ov] (eval e X.env)
      standAt pos
      holding [v, ov, iv] (setItem ov iv v)
      release [v, ov, iv] []) := by intro _; rfl) : Ta X g E (.Subscript o e pos) (taSub mo me) := by
  obtain ⟨t, p, h⟩ := ho
  obtain ⟨u, p', h'⟩ := hi
  refine ⟨_, pg_sub p p' set_list ha, fun d env ca F P H s σ v Q m sl r q => ?_⟩
  refine h env s ca F P H σ _ m sl (Post.imp (Post.seq q) fun od s1 ca1 F1 H1 k1 k2 m1 q1 ov rov => ?_)
  refine h' env s1 ca1 F1 P H1 σ _ m1 (sl.mono k1 k2) (Post.imp (Post.seq q1) fun jd s2 ca2 F2 H2 l1 l2 m2 q2 jv rjv => ?_)
  have rov := Rep.mono l1 l2 _ _ rov
  cases od with
  | cell kk =>
    cases jd with
    | int j =>
      dsimp only at q2
      split at q2
      · rename_i ds hk
        split at q2
        · rename_i z hz
          simp only [Rep] at rov rjv
          obtain ⟨a, rfl, ha⟩ := rov
          obtain ⟨xs, hH, rs⟩ := m2.cellL ha hk
          refine ⟨a, xs, j, z, rfl, rjv, hH, by rw [← rs.length]; exact hz, ?_⟩
          have rd := Rep.mono (k1.trans l1) (k2.trans l2) _ _ r
          exact q2 ca2 F2 _ List.prefix_rfl (Sub.refl _) (m2.store ha hk (by intro z; cases z) ⟨_, upd_same, Reps.set rd z rs⟩) σ ((sl.mono k1 k2).mono l1 l2)
        · exact q2.elim
      · exact q2.elim
    | _ => exact q2.elim
  | _ => exact q2.elim
def sAsg (me : Env → S → Res D) (mt : D → Env → S → Res Env) : Env → S → Res Fl := fun env s => (me env s).bind fun d s1 => (mt d env s1).bind fun e s2 => .ok (.nx e) s2
theorem sv_asg (he : Ev X g E e me) (ht : Ta X g E tg mta) (hs : swapsWithSole [tg] e pos.line X.env = pure false := by rfl) (hw : swappedStores [tg] e X.env = pure none := by rfl) (h1 : (assignEach [tg] X.env).map (·.2) = [assign tg X.env] := by rfl) : Sv X g E (.Assign [tg] e pos) (sAsg me mta) := by
  obtain ⟨t, p, h⟩ := he
  obtain ⟨u, p', h'⟩ := ht
  refine ⟨_, ps_asg p p' hs hw h1, fun env s ca F P H σ Dn m sl q => ?_⟩
  refine h env s ca F P H σ _ m sl (Post.imp (Post.seq q) fun d s1 ca1 F1 H1 k1 k2 m1 q1 v rv => ?_)
  exact h' d env ca1 F1 P H1 s1 σ v _ m1 (sl.mono k1 k2) rv (Post.imp (Post.seq q1) fun e s2 ca2 F2 H2 l1 l2 m2 q2 σ' sl' => q2.now m2 σ' sl')
def sSet (i : Nat) (me : Env → S → Res D) : Env → S → Res Fl := fun env s => (me env s).bind fun d s1 => .ok (.nx (env.set i (some d))) s1
theorem sv_set (i : Nat) {x : Str} {pos' : Pos} (hN : X.N.Nodup) (hi : X.N[i]? = some x) (hx : Loc X.env.scope x) (he : Ev X g E e me) (hs : swapsWith e (some (.Name x pos')) pos.line X.env = pure false := by rfl) (hf : X.fn x = true ∨ X.env.scope.names.lookup x = some .local := by first | exact .inl rfl | exact .inr rfl | assumption) :
    Sv X g E (.Assign [.Name x pos'] e pos) (sSet i me) := by
  obtain ⟨t, p, h⟩ := he
  refine ⟨_, ps_set hN hi hx p hs hf, fun env s ca F P H σ Dn m sl q => ?_⟩
  exact h env s ca F P H σ _ m sl (Post.imp (Post.seq q) fun d s1 ca1 F1 H1 k1 k2 m1 q1 v rv => q1.now m1 _ ((sl.mono k1 k2).set rv))
def sPar (i j : Nat) (mr : Env → S → Res (List D)) : Env → S → Res Fl := fun env s => (mr env s).bind fun ds s1 => match ds with
  | [x, y] => .ok (.nx ((env.set i (some x)).set j (some y))) s1
  | _ => .stuck
theorem sv_par (i j : Nat) {x y : Str} {px py pt : Pos} {kt k2 pt2} (hc : X.calm = true) (hN : X.N.Nodup) (hi : X.N[i]? = some x) (hj : X.N[j]? = some y) (hij : i ≠ j)
    (hx : X.env.scope.names.lookup x = some .local) (hy : X.env.scope.names.lookup y = some .local) (ha : Ea X g E [a, b] mr)
    (hw : swappedStores [.Tuple [.Name x px, .Name y py] kt pt] (.Tuple [a, b] k2 pt2) X.env = pure (some [x, y]))
    (hs : swapsWithSole [.Tuple [.Name x px, .Name y py] kt pt] (.Tuple [a, b] k2 pt2) pos.line X.env = pure false := by rfl) :
    Sv X g E (.Assign [.Tuple [.Name x px, .Name y py] kt pt] (.Tuple [a, b] k2 pt2) pos) (sPar i j mr) := by
  obtain ⟨t, p, h⟩ := ha
  refine ⟨_, ps_par hc hN hi hj hij hx hy p hw hs, fun env s ca F P H σ Dn m sl q => ?_⟩
  refine h env s ca F P H σ _ m sl (Post.imp (Post.seq q) fun ds s1 ca1 F1 H1 k1 k2 m1 q1 vs rs => ?_)
  split at q1
  · obtain ⟨v, u, rfl, r1, r2⟩ := reps2 rs
    exact ⟨v, u, rfl, q1.now m1 _ (((sl.mono k1 k2).set r1).set r2)⟩
  · exact q1.elim
def sFld (c i : Nat) (mo mv : Env → S → Res D) : Env → S → Res Fl := fun env s => (mv env s).bind fun y s1 => (mo env s1).bind fun x s2 => match x with
  | .cell k => match s2[k]? with
    | some (.ins c' fs) => if c' = c ∧ fs.length = i then .ok (.nx env) (s2.set k (.ins c (fs ++ [y]))) else .stuck
    | _ => .stuck
  | _ => .stuck
theorem putF_zip : ∀ {ns : List Str} {vs : List V} {f : Str} {y : V}, (ns ++ [f]).Nodup → ns.length = vs.length → putF f y (ns.zip vs) = (ns ++ [f]).zip (vs ++ [y])
  | [], [], f, y, _, _ => rfl
  | [], _ :: _, _, _, _, h => by simp at h
  | _ :: _, [], _, _, _, h => by simp at h
  | n :: ns, v :: vs, f, y, nd, h => by
    have hne : ¬ n = f := by
      rintro rfl
      exact (List.nodup_cons.mp nd).1 (by simp)
    show (if n = f then (n, y) :: ns.zip vs else (n, v) :: putF f y (ns.zip vs)) = _
    rw [if_neg hne, putF_zip (List.nodup_cons.mp nd).2 (by simpa using h)]
    rfl
theorem sv_fld {c i : Nat} {f : Str} {pos' : Pos} (ho : Ev X g E o mo) (hv : Ev X g E e me) (cl : Cls X.K (g.cls c)) (na : NoAttr X.K (g.cls c) f) (hf : (g.fn c)[i]? = some f) (hnd : (g.fn c).Nodup) (hlen : (g.fn c).length < 1000) (hs : swapsWith e (some (.Attribute o f pos')) pos.line X.env = pure false := by rfl) :
    Sv X g E (.Assign [.Attribute o f pos'] e pos) (sFld c i mo me) := by
  obtain ⟨t, p, h⟩ := ho
  obtain ⟨u, p', h'⟩ := hv
  refine ⟨_, ps_fld p p' hs, fun env s ca F P H σ Dn m sl q => ?_⟩
  refine h' env s ca F P H σ _ m sl (Post.imp (Post.seq q) fun yd s1 ca1 F1 H1 k1 k2 m1 q1 yv ry => ?_)
  refine h env s1 ca1 F1 P H1 σ _ m1 (sl.mono k1 k2) (Post.imp (Post.seq q1) fun xd s2 ca2 F2 H2 l1 l2 m2 q2 xv rx => ?_)
  split at q2
  · rename_i kk
    split at q2
    · rename_i c' fs hk
      split at q2
      · rename_i hc
        obtain ⟨rfl, hl⟩ := hc
        simp only [Rep] at rx
        obtain ⟨a, rfl, ha⟩ := rx
        obtain ⟨dx, xs, hH, rs⟩ := m2.at_ _ _ _ ha hk
        have hil : i < (g.fn c').length := (List.getElem?_eq_some_iff.mp hf).1
        have htk : (g.fn c').take (i + 1) = (g.fn c').take i ++ [f] := by
          rw [List.take_add_one, hf]; rfl
        have hlx : ((g.fn c').take i).length = xs.length := by rw [← rs.length, hl, List.length_take]; omega
        refine ⟨a, _, dx, _, rfl, hH, cl, na, ?_, ?_⟩
        · rw [List.length_zip, hl, hlx]; have := rs.length; omega
        · refine q2 ca2 F2 _ List.prefix_rfl (Sub.refl _) (m2.store ha hk (by intro z; cases z) ⟨dx, xs ++ [yv], ?_, rs.append (.one (Rep.mono l1 l2 _ _ ry))⟩) σ ((sl.mono k1 k2).mono l1 l2)
          rw [upd_same, hl, putF_zip (by rw [← htk]; exact hnd.sublist (List.take_sublist _ _)) hlx]
          simp [hl, htk]
      · exact q2.elim
    · exact q2.elim
  · exact q2.elim
def whileL (t : Env → S → Res Bool) (b : Env → S → Res Fl) : Nat → Env → S → Res Fl
  | 0, _, _ => .stuck
  | n + 1, env, s => (t env s).bind fun c s1 => if c = true then (b env s1).bind (fun fl s2 => match fl with
      | .nx e => whileL t b n e s2
      | .ct e => whileL t b n e s2
      | .bk e => .ok (.nx e) s2
      | .rt d => .ok (.rt d) s2) else .ok (.nx env) s1
theorem sv_while (n : Nat) (hp : PassesOwn (model X.prog X.w) X.A X.env X.xe) (hc : Et X g E e tc) (hb : Svs X g E sa ms) : Sv X g E (.While e sa [] pos) (whileL tc ms n) := by
  obtain ⟨t, p, h⟩ := hc
  obtain ⟨u, p1, h1⟩ := hb
  refine ⟨_, ps_while hp p p1, fun env s ca F P H σ Dn m sl q => ?_⟩
  refine ⟨fun k σ H => ∃ env s ca F, Sim g ca F P s H ∧ Slots g ca F env σ ∧ Post g ca F P E (fun fl _ ca' F' H' => FlOk g ca' F' H' Dn fl) (whileL tc ms k env s), ⟨n, env, s, ca, F, m, sl, q⟩, ?_⟩
  rintro k σ H ⟨env, s, ca, F, m, sl, q⟩
  cases k with
  | zero => exact q.elim
  | succ k =>
    refine h env s ca F P H σ _ m sl (Post.imp (Post.seq q) fun c s1 ca1 F1 H1 k1 k2 m1 q1 => ?_)
    cases c with
    | false => exact q1.now m1 σ (sl.mono k1 k2)
    | true =>
      refine ⟨fun σ' H' => ∃ env s ca F, Sim g ca F P s H' ∧ Slots g ca F env σ' ∧ Post g ca F P E (fun fl _ ca' F' H' => FlOk g ca' F' H' Dn fl) (whileL tc ms k env s), fun σ' H' w => ⟨k, Nat.lt_succ_self k, w⟩, ?_⟩
      refine h1 env s1 ca1 F1 P H1 σ _ m1 (sl.mono k1 k2) (Post.imp (Post.seq q1) fun fl s2 ca2 F2 H2 l1 l2 m2 q2 => ?_)
      cases fl with
      | nx e => exact fun σ' sl' => ⟨e, s2, ca2, F2, m2, sl', q2⟩
      | ct e => exact fun σ' sl' => ⟨e, s2, ca2, F2, m2, sl', q2⟩
      | bk e => exact q2.now m2
      | rt d => exact q2.now m2
def Walks (g : G) (ca : List Addr) (F : Hp) (J : It) (ds : List D) : Prop :=
  ∀ (i : Nat) (ca' : List Addr) (F' P H' : Hp) (s : S), ca <+: ca' → Sub F F' → Sim g ca' F' P s H' →
    (∀ d, ds[i]? = some d → J.go i H' ∧ ∀ x H'', J.yld i H' x H'' → ∃ F'', Sub F' F'' ∧ Sim g ca' F'' P s H'' ∧ Rep g ca' F'' d x) ∧ (ds.length ≤ i → J.stop i H')
def Iv (X : Cx) (g : G) (E : XK) (tg iter : Expr) (m : Env → S → Res (List D)) : Prop :=
  ∃ wi : TI, PI X tg iter wi ∧ ∀ (env : Env) (s : S) (ca : List Addr) (F P H : Hp) (σ : L2.St) (R : It → Hp → Prop), Sim g ca F P s H → Slots g ca F env σ →
    Post g ca F P E (fun ds _ ca' F' H' => ∀ J, Walks g ca' F' J ds → R J H') (m env s) → wi σ H R
theorem walks_l {ca : List Addr} {F : Hp} {a : Addr} {xs : List V} {ds : List D} {K : PySem.W.Frag} (hK : g.K = K) (h : SqL g.K F a xs) (rs : Reps g ca F ds xs) : Walks g ca F (Itl K a) ds := fun i ca' F' P H' s hc hF m => by
  have hs : SqL K H' a xs := hK ▸ same_l (hF.trans m.sub) h
  refine ⟨fun d hd => ?_, fun hl => ⟨xs, hs, by rw [← rs.length]; exact hl⟩⟩
  obtain ⟨v, hv, rv⟩ := rs.get hd
  refine ⟨⟨xs, v, hs, hv⟩, fun x H'' hy => ?_⟩
  obtain ⟨rfl, hy⟩ := hy
  have : xs[i]? = some x := hy xs hs
  rw [hv] at this; cases this
  exact ⟨F', Sub.refl _, m, Rep.mono hc hF _ _ rv⟩
theorem walks_t {ca : List Addr} {F : Hp} {a : Addr} {xs : List V} {ds : List D} {K : PySem.W.Frag} (hK : g.K = K) (h : SqT g.K F a xs) (rs : Reps g ca F ds xs) : Walks g ca F (Itt K a) ds := fun i ca' F' P H' s hc hF m => by
  have hs : SqT K H' a xs := hK ▸ same_t (hF.trans m.sub) h
  refine ⟨fun d hd => ?_, fun hl => ⟨xs, hs, by rw [← rs.length]; exact hl⟩⟩
  obtain ⟨v, hv, rv⟩ := rs.get hd
  refine ⟨⟨xs, v, hs, hv⟩, fun x H'' hy => ?_⟩
  obtain ⟨rfl, hy⟩ := hy
  have : xs[i]? = some x := hy xs hs
  rw [hv] at this; cases this
  exact ⟨F', Sub.refl _, m, Rep.mono hc hF _ _ rv⟩
def iSeq : D → S → Res (List D) := fun d s1 => match d with
  | .lst ds => .ok ds s1
  | .ro ds => .ok ds s1
  | _ => .stuck
def iLst (me : Env → S → Res D) : Env → S → Res (List D) := fun env s => (me env s).bind iSeq
theorem iv_l (hK : g.K = X.K) (h : Ev X g E e me) : Iv X g E tg e (iLst me) := by
  obtain ⟨t, p, h⟩ := h
  refine ⟨_, pi_list p, fun env s ca F P H σ R m sl q => ?_⟩
  refine h env s ca F P H σ _ m sl (Post.imp (Post.seq q) fun d s1 ca1 F1 H1 k1 k2 m1 q1 v rv => ?_)
  unfold iSeq at q1
  split at q1
  · simp only [Rep] at rv
    obtain ⟨a, xs, rfl, hF, rs⟩ := rv
    exact ⟨a, rfl, ⟨xs, .of (m1.sub _ _ hF)⟩, q1.now m1 _ (walks_l hK (.of hF) rs)⟩
  · simp only [Rep] at rv
    obtain ⟨a, xs, rfl, hF, rs⟩ := rv
    exact ⟨a, rfl, ⟨xs, hK ▸ same_l m1.sub hF⟩, q1.now m1 _ (walks_l hK hF rs)⟩
  · exact q1.elim
def iTupS : D → S → Res (List D) := fun d s1 => match d with
  | .tup ds => .ok ds s1
  | .rot ds => .ok ds s1
  | _ => .stuck
def iT (me : Env → S → Res D) : Env → S → Res (List D) := fun env s => (me env s).bind iTupS
theorem iv_t (hK : g.K = X.K) (h : Ev X g E e me) : Iv X g E tg e (iT me) := by
  obtain ⟨t, p, h⟩ := h
  refine ⟨_, pi_tup p, fun env s ca F P H σ R m sl q => ?_⟩
  refine h env s ca F P H σ _ m sl (Post.imp (Post.seq q) fun d s1 ca1 F1 H1 k1 k2 m1 q1 v rv => ?_)
  unfold iTupS at q1
  split at q1
  · simp only [Rep] at rv
    obtain ⟨a, xs, rfl, hF, rs⟩ := rv
    exact ⟨a, rfl, ⟨xs, .of (m1.sub _ _ hF)⟩, q1.now m1 _ (walks_t hK (.of hF) rs)⟩
  · simp only [Rep] at rv
    obtain ⟨a, xs, rfl, hF, rs⟩ := rv
    exact ⟨a, rfl, ⟨xs, hK ▸ same_t m1.sub hF⟩, q1.now m1 _ (walks_t hK hF rs)⟩
  · exact q1.elim
def rangeD (lo : Int) (n : Nat) : List D := (List.range n).map fun i => D.int (lo + (i : Nat))
theorem walks_r {ca : List Addr} {F : Hp} {lo : Int} {n : Nat} : Walks g ca F (Itr lo n) (rangeD lo n) := fun i ca' F' P H' s hc hF m => by
  refine ⟨fun d hd => ?_, fun hl => (show n ≤ i by simpa [rangeD] using hl)⟩
  have hi : i < n := by
    have := (List.getElem?_eq_some_iff.mp hd).1
    simpa [rangeD] using this
  refine ⟨hi, fun x H'' hy => ?_⟩
  obtain ⟨rfl, rfl⟩ := hy
  refine ⟨F', Sub.refl _, m, ?_⟩
  have : d = .int (lo + i) := by
    unfold rangeD at hd
    rw [List.getElem?_map, List.getElem?_range hi] at hd
    exact (Option.some.inj hd).symm
  subst this
  exact rep_int
def rLim : Int := 1000000
def iR1 (mr : Env → S → Res (List D)) : Env → S → Res (List D) := fun env s => (mr env s).bind fun ds s1 => match ds with
  | [.int j] => if decide (-rLim ≤ j ∧ j ≤ rLim) = true then .ok (rangeD 0 j.toNat) s1 else .stuck
  | _ => .stuck
def iR2 (mr : Env → S → Res (List D)) : Env → S → Res (List D) := fun env s => (mr env s).bind fun ds s1 => match ds with
  | [.int i, .int j] => if decide (-rLim ≤ i ∧ i ≤ rLim ∧ -rLim ≤ j ∧ j ≤ rLim) = true then .ok (rangeD i (j - i).toNat) s1 else .stuck
  | _ => .stuck
theorem iv_r1 {p : Pos} (hg : Gl X "range") (hm : X.mg "range" = none) (ha : Ea X g E [a] mr) (hs : starEach [a] X.env = [(false, eval a X.env)] := by rfl) : Iv X g E tg (.Call (.Name "range" p) [a] [] pos) (iR1 mr) := by
  obtain ⟨t, pa, ha⟩ := ha
  refine ⟨_, pi_range1 hg hm pa hs, fun env s ca F P H σ R m sl q => ?_⟩
  refine ha env s ca F P H σ _ m sl (Post.imp (Post.seq q) fun ds s1 ca1 F1 H1 k1 k2 m1 q1 vs rs => ?_)
  split at q1
  · split at q1
    · rename_i j hj
      have hj := of_decide_eq_true hj
      unfold rLim at hj
      obtain ⟨v, rfl, r⟩ := reps1 rs
      simp only [Rep] at r
      subst r
      exact ⟨j, rfl, by omega, by omega, q1.now m1 _ walks_r⟩
    · exact q1.elim
  · exact q1.elim
def forL (mt : D → Env → Option Env) (b : Env → S → Res Fl) : List D → Env → S → Res Fl
  | [], env, s => .ok (.nx env) s
  | d :: ds, env, s => match mt d env with
    | none => .stuck
    | some e1 => (b e1 s).bind fun fl s1 => match fl with
      | .nx e => forL mt b ds e s1
      | .ct e => forL mt b ds e s1
      | .bk e => .ok (.nx e) s1
      | .rt d => .ok (.rt d) s1
def sFor (mi : Env → S → Res (List D)) (mt : D → Env → Option Env) (b : Env → S → Res Fl) : Env → S → Res Fl := fun env s => (mi env s).bind fun ds s1 => forL mt b ds env s1
variable {mi : Env → S → Res (List D)}
theorem sv_for (hp : PassesOwn (model X.prog X.w) X.A X.env X.xe) (hc : X.calm = true) (hi : Iv X g E tg e mi) (hg : Tn X g tg w mg) (hb : Svs X g E sa ms) (hs : ∀ x, foldedSetIterable e X.env x = pure x := by intro _; rfl) : Sv X g E (.For tg e sa [] pos) (sFor mi mg ms) := by
  obtain ⟨wi, p, hi⟩ := hi
  obtain ⟨tt, p1, hg⟩ := hg
  obtain ⟨tb, p2, hb⟩ := hb
  refine ⟨_, ps_for hp hc p p1 p2 hs, fun env s ca F P H σ Dn m sl q => ?_⟩
  refine hi env s ca F P H σ _ m sl (Post.imp (Post.seq q) fun ds s1 ca1 F1 H1 k1 k2 m1 q1 J hw => ?_)
  refine ⟨fun i k σ H => k = ds.length - i ∧ i ≤ ds.length ∧ ∃ env s ca F, ca1 <+: ca ∧ Sub F1 F ∧ Sim g ca F P s H ∧ Slots g ca F env σ ∧ Post g ca F P E (fun fl _ ca' F' H' => FlOk g ca' F' H' Dn fl) (forL mg ms (ds.drop i) env s),
    ⟨_, rfl, Nat.zero_le _, env, s1, ca1, F1, List.prefix_rfl, Sub.refl _, m1, sl.mono k1 k2, by simpa using q1⟩, ?_⟩
  rintro i k σ H ⟨rfl, hle, env, s, ca, F, hc1, hF1, m, sl, q⟩
  obtain ⟨w1, w2⟩ := hw i ca F P H s hc1 hF1 m
  by_cases hlt : i < ds.length
  · obtain ⟨hgo, hy⟩ := w1 ds[i] (by simp [hlt])
    refine .inr ⟨hgo, fun σ' H' => ∃ env s ca F, ca1 <+: ca ∧ Sub F1 F ∧ Sim g ca F P s H' ∧ Slots g ca F env σ' ∧ Post g ca F P E (fun fl _ ca' F' H' => FlOk g ca' F' H' Dn fl) (forL mg ms (ds.drop (i + 1)) env s),
      fun σ' H' hN => ⟨ds.length - (i + 1), by omega, rfl, hlt, hN⟩, fun x H' hyl => ?_⟩
    obtain ⟨F', hF', m', rx⟩ := hy x H' hyl
    rw [List.drop_eq_getElem_cons hlt] at q
    simp only [forL] at q
    split at q
    · exact q.elim
    · rename_i e1 he1
      refine hg ds[i] env e1 ca F' P H' s σ x _ m' (sl.mono List.prefix_rfl hF') rx he1 fun σ2 sl2 _ => ?_
      refine hb e1 s ca F' P H' σ2 _ m' sl2 (Post.imp (Post.seq (Post.later q List.prefix_rfl hF')) fun fl s3 ca3 F3 H3 l1 l2 m3 q3 => ?_)
      have z1 := hc1.trans l1
      have z2 := hF1.trans (hF'.trans l2)
      cases fl with
      | nx e => exact fun σ3 sl3 => ⟨e, s3, ca3, F3, z1, z2, m3, sl3, q3⟩
      | ct e => exact fun σ3 sl3 => ⟨e, s3, ca3, F3, z1, z2, m3, sl3, q3⟩
      | bk e => exact q3.now m3
      | rt d => exact q3.now m3
  · have he : i = ds.length := by omega
    subst he
    rw [List.drop_length] at q
    exact .inl ⟨w2 (Nat.le_refl _), q.now m σ sl⟩
end
end Pm
set_option Elab.async false
set_option linter.all false
set_option maxRecDepth 100000
set_option maxHeartbeats 2000000
namespace Pm
open PySem PySem.Spec PyProof.Rows L2
def tM (g : G) (E : XK) (m : Env → S → Res D) : TE := fun σ H Q => ∃ env s ca F P, Sim g ca F P s H ∧ Slots g ca F env σ ∧ Post g ca F P E (fun d _ ca' F' H' => ∀ v, Rep g ca' F' d v → Q v H') (m env s)
def tMT (g : G) (E : XK) (m : Env → S → Res Bool) : TT := fun σ H Q => ∃ env s ca F P, Sim g ca F P s H ∧ Slots g ca F env σ ∧ Post g ca F P E (fun b _ _ _ H' => Q b H') (m env s)
def tMG (g : G) (w : List Nat) (m : D → Env → Option Env) : TG := fun v σ H Q => ∃ d env env' ca F P s, Sim g ca F P s H ∧ Slots g ca F env σ ∧ Rep g ca F d v ∧ m d env = some env' ∧ ∀ σ', Slots g ca F env' σ' → WipeEq w σ σ' → Q σ' H
theorem Ev.pe {X : Cx} {g : G} {E : XK} {e : Expr} {m : Env → S → Res D} (h : Ev X g E e m) : PE X e (tM g E m) := by
  obtain ⟨t, p, h⟩ := h
  exact ⟨fun pins s σ H Q I ⟨env, z, ca, F, P, q1, q2, q3⟩ => p.run pins s σ H Q I (h env z ca F P H σ Q q1 q2 q3)⟩
theorem Et.pt {X : Cx} {g : G} {E : XK} {e : Expr} {m : Env → S → Res Bool} (h : Et X g E e m) : PT X e (tMT g E m) := by
  obtain ⟨t, p, h⟩ := h
  exact ⟨fun pins s σ H Q I ⟨env, z, ca, F, P, q1, q2, q3⟩ => p.run pins s σ H Q I (h env z ca F P H σ Q q1 q2 q3)⟩
theorem Tn.pg {X : Cx} {g : G} {tg : Expr} {w : List Nat} {m : D → Env → Option Env} (h : Tn X g tg w m) : PG X tg (tMG g w m) := by
  obtain ⟨t, p, h⟩ := h
  exact ⟨fun pins s σ H v u Q I r ⟨d, env, env', ca, F, P, z, q1, q2, q3, q4, q5⟩ => p.run pins s σ H v u Q I r (h d env env' ca F P H z σ v Q q1 q2 q3 q4 q5)⟩
def Ets (X : Cx) (g : G) (E : XK) (ifs : List Expr) (m : Env → S → Res Bool) : Prop := PTs X ifs (tMT g E m)
def mYes : Env → S → Res Bool := fun _ s => .ok true s
theorem ets_nil {X : Cx} {g : G} {E : XK} : Ets X g E [] mYes := ⟨fun pins s σ H Q I ⟨env, z, ca, F, P, q1, q2, q3⟩ => pts_nil.run pins s σ H Q I (q3.now q1)⟩
def wipeE (env : Env) : List Nat → Env
  | [] => env
  | v :: vs => (wipeE env vs).set v none
theorem slots_wipe {g : G} {ca : List Addr} {F : Hp} {env : Env} {σ : L2.St} (h : Slots g ca F env σ) : ∀ vs, Slots g ca F (wipeE env vs) (wipe σ vs)
  | [] => h
  | v :: vs => by
    have ih := slots_wipe h vs
    unfold wipeE wipe
    refine ⟨by simp [ih.1], fun i d e => ?_⟩
    by_cases hv : v = i
    · subst hv
      by_cases hl : v < (wipeE env vs).length
      · rw [List.getElem?_set_self hl] at e; cases e
      · rw [List.getElem?_eq_none (by simpa using hl)] at e; cases e
    · rw [List.getElem?_set_ne hv] at e ⊢
      exact ih.2 i d e
def compL (own : List Nat) (mt : D → Env → Option Env) (tt : Env → S → Res Bool) (me : Env → S → Res D) : List D → Env → S → Res (List D)
  | [], _, s => .ok [] s
  | d :: ds, env, s => match mt d (wipeE env own) with
    | none => .stuck
    | some e1 => (noexn (tt e1 s)).bind fun b s1 => if b = true then (noexn (me e1 s1)).bind (fun y s2 => (compL own mt tt me ds env s2).bind fun ys s3 => .ok (y :: ys) s3) else compL own mt tt me ds env s1
def mCompF (fin : List D → S → Res D) (own : List Nat) (mi : Env → S → Res (List D)) (mt : D → Env → Option Env) (tt : Env → S → Res Bool) (me : Env → S → Res D) : Env → S → Res D := fun env s =>
  (mi env s).bind fun ds s1 => if ds.length ≤ line then (compL own mt tt me ds env s1).bind fin else .stuck
def finL : List D → S → Res D := fun ys s => .ok (.lst ys) s
def finC : List D → S → Res D := fun ys s => .ok (.cell s.length) (s ++ [.lst ys])
section
variable {g : G} {ca : List Addr} {F P H : Hp} {s : S}
theorem Sim.frame0 {Dl : Addr} (m : Sim g ca F P s H) (hD : H Dl = none) : Sim g ca F (upd P Dl (.lst [])) s (upd H Dl (.lst [])) :=
  m.frame m.fr.both (fun a o e => by
      by_cases ha : a = Dl
      · subst ha; exact .inl (m.sub.free hD)
      · rw [upd_ne ha] at e; exact m.dis a o e)
    (fun i a e l => by rw [upd_ne (m.apart hD e l)]; exact (m.out i a e l).2)
    (fun a h1 h2 => by
      by_cases ha : a = Dl
      · subst ha; exact .inr hD
      · exact .inl (upd_ne ha))
    (fun a o e => by rw [upd_ne (ne_of_none (m.sub _ _ e) hD)]; exact m.sub _ _ e)
theorem Sim.frame1 {Dl : Addr} {acc : List V} {o : HO} (hP : P Dl = none) (m : Sim g ca F (upd P Dl (.lst acc)) s H) : H Dl = some (.lst acc) ∧ Sim g ca F (upd P Dl o) s (upd H Dl o) := by
  have hF : F Dl = none := m.disN upd_same (fun _ z => by cases z)
  have hPH : Sub P H := fun a u e => m.fr a u (by rw [upd_ne (ne_of_none e hP)]; exact e)
  refine ⟨m.fr _ _ upd_same, m.frame hPH.both (fun a u e => ?_) (fun i a e l => ?_) (fun a h1 h2 => ?_) (fun a u e => ?_)⟩
  · by_cases ha : a = Dl
    · subst ha; exact .inl hF
    · rw [upd_ne ha] at e; exact m.dis a u (by rw [upd_ne ha]; exact e)
  · have h := (m.out i a e l).2
    by_cases ha : a = Dl
    · subst ha; rw [upd_same] at h; cases h
    · rw [upd_ne ha] at h ⊢; exact h
  · by_cases ha : a = Dl
    · subst ha; rw [upd_same] at h1; cases h1
    · exact .inl (upd_ne ha)
  · rw [upd_ne (ne_of_none e hF)]; exact m.sub _ _ e
theorem Sim.unframe {Dl : Addr} {acc : List V} (hP : P Dl = none) (m : Sim g ca F (upd P Dl (.lst acc)) s H) : Sim g ca (upd F Dl (.lst acc)) P s H ∧ F Dl = none := by
  have hF : F Dl = none := m.disN upd_same (fun _ z => by cases z)
  have hH := m.fr _ _ (upd_same (H := P) (a := Dl) (o := .lst acc))
  refine ⟨⟨fun a u e => ?_, fun a u e => m.fr a u (by rw [upd_ne (ne_of_none e hP)]; exact e), fun a u e => ?_, m.len, m.nd, fun i a e l => ?_, fun i a c e q => ?_⟩, hF⟩
  · by_cases ha : a = Dl
    · subst ha; rw [upd_same] at e; cases e; exact hH
    · rw [upd_ne ha] at e; exact m.sub _ _ e
  · have ha : a ≠ Dl := ne_of_none e hP
    rw [upd_ne ha]; exact m.dis a u (by rw [upd_ne ha]; exact e)
  · have h := m.out i a e l
    have ha : a ≠ Dl := by
      rintro rfl
      rw [upd_same] at h; cases h.2
    rw [upd_ne ha] at h ⊢; exact h
  · exact (m.at_ i a c e q).mono List.prefix_rfl (Sub.new hF) rfl
theorem Post.seqX {α β : Type} {E E' : XK} {P' : Hp} {Q : β → S → List Addr → Hp → Hp → Prop} {r : Res α} {f : α → S → Res β} (h : Post g ca F P E Q ((noexn r).bind f)) :
    Post g ca F P' E' (fun a s ca1 F1 H1 => Post g ca1 F1 P E Q (f a s)) r := by
  cases r with
  | stuck => exact h
  | ok a s => exact fun ca' F' H' a1 a2 _ => Post.later h a1 a2
  | exn c pl s => exact h.elim
end
section
variable {X : Cx} {g : G} {E : XK} {elt tg iter : Expr} {ifs : List Expr} {scope : Scope} {own : List (Str × Nat)} {pos : Pos} {mi : Env → S → Res (List D)} {mt : D → Env → Option Env} {tt : Env → S → Res Bool} {me : Env → S → Res D} {w : List Nat}
theorem Sim.uncell {g : G} {ca : List Addr} {F P H : Hp} {s : S} {Dl : Addr} {acc : List V} {accD : List D} (hP : P Dl = none) (m : Sim g ca F (upd P Dl (.lst acc)) s H) (r : Reps g ca F accD acc) : Sim g (ca ++ [Dl]) F P (s ++ [.lst accD]) H := by
  have hF : F Dl = none := m.disN upd_same (fun _ z => by cases z)
  have hH := m.fr _ _ (upd_same (H := P) (a := Dl) (o := .lst acc))
  have hl := m.len
  have dec : ∀ (k : Nat) (a : Addr), (ca ++ [Dl])[k]? = some a → Live (s ++ [.lst accD]) k → (k < ca.length ∧ ca[k]? = some a ∧ Live s k ∧ a ≠ Dl) ∨ (k = ca.length ∧ a = Dl) := fun k a e l => by
    by_cases hk : k < ca.length
    · obtain ⟨c, q, d⟩ := l
      rw [List.getElem?_append_left hk] at e
      have lv : Live s k := ⟨c, by rwa [List.getElem?_append_left (by omega)] at q, d⟩
      refine .inl ⟨hk, e, lv, ?_⟩
      rintro rfl
      have := (m.out k _ e lv).2
      rw [upd_same] at this; cases this
    · have hk2 : k < (ca ++ [Dl]).length := (List.getElem?_eq_some_iff.mp e).1
      have : k = ca.length := by simp at hk2; omega
      subst this
      simp at e
      exact .inr ⟨rfl, e.symm⟩
  refine ⟨m.sub, fun a u e => m.fr a u (by rw [upd_ne (ne_of_none e hP)]; exact e), fun a u e => m.dis a u (by rw [upd_ne (ne_of_none e hP)]; exact e), by simp [hl], fun i j a e1 e2 l1 l2 => ?_, fun i a e l => ?_, fun i a c e q => ?_⟩
  · rcases dec i a e1 l1 with ⟨h1, q1, k1, n1⟩ | ⟨h1, q1⟩ <;> rcases dec j a e2 l2 with ⟨h2, q2, k2, n2⟩ | ⟨h2, q2⟩
    · exact m.nd i j a q1 q2 k1 k2
    · exact absurd q2 n1
    · exact absurd q1 n2
    · omega
  · rcases dec i a e l with ⟨h1, q1, k1, n1⟩ | ⟨h1, q1⟩
    · have h := m.out i a q1 k1
      rw [upd_ne n1] at h
      exact h
    · subst q1
      exact ⟨hF, hP⟩
  · by_cases hd : c = .dead
    · subst hd; trivial
    · rcases dec i a e ⟨c, q, hd⟩ with ⟨h1, q1, k1, n1⟩ | ⟨h1, q1⟩
      · rw [List.getElem?_append_left (by omega)] at q
        exact (m.at_ i a c q1 q).mono (List.prefix_append _ _) (Sub.refl _) rfl
      · subst q1
        subst h1
        rw [hl] at q
        simp at q
        subst q
        exact ⟨acc, hH, Reps.mono (List.prefix_append _ _) (Sub.refl _) _ _ r⟩
def FinOk (g : G) (fin : List D → S → Res D) : Prop := ∀ (E : XK) (ca : List Addr) (F P H : Hp) (s : S) (Dl : Addr) (acc : List V) (accD : List D) (Q : VK), P Dl = none → Sim g ca F (upd P Dl (.lst acc)) s H → Reps g ca F accD acc →
  Post g ca F P E (fun d _ ca' F' H' => ∀ v, Rep g ca' F' d v → Q v H') (fin accD s) → Q (.ref Dl) H
theorem fin_l {g : G} : FinOk g finL := fun E ca F P H s Dl acc accD Q hP m ra q => by
  obtain ⟨m6, hF⟩ := m.unframe hP
  refine q ca _ H List.prefix_rfl (Sub.new hF) m6 _ ?_
  simp only [Rep]
  exact ⟨Dl, acc, rfl, upd_same, Reps.mono List.prefix_rfl (Sub.new hF) _ _ ra⟩
theorem fin_c {g : G} : FinOk g finC := fun E ca F P H s Dl acc accD Q hP m ra q => by
  refine q _ F H (List.prefix_append _ [Dl]) (Sub.refl _) (m.uncell hP ra) _ ?_
  simp only [Rep]
  exact ⟨Dl, rfl, by rw [← m.len]; simp⟩
theorem comp_run {fin : List D → S → Res D} (hfin : FinOk g fin) {wi : TI} (hi : ∀ (env : Env) (s : S) (ca : List Addr) (F P H : Hp) (σ : L2.St) (R : It → Hp → Prop), Sim g ca F P s H → Slots g ca F env σ →
      Post g ca F P E (fun ds _ ca' F' H' => ∀ J, Walks g ca' F' J ds → R J H') (mi env s) → wi σ H R) {vs : List Nat} (hw : ∀ i ∈ w, i ∈ vs)
    {env : Env} {s : S} {ca : List Addr} {F P H : Hp} {σ : L2.St} {Q : VK} (m : Sim g ca F P s H) (sl : Slots g ca F env σ) (q : Post g ca F P E (fun d _ ca' F' H' => ∀ v, Rep g ca' F' d v → Q v H') (mCompF fin vs mi mt tt me env s)) :
    tLc wi (tMG g w mt) (tMT g E0 tt) (tM g E0 me) vs σ H Q := by
  refine hi env s ca F P H σ _ m sl (Post.imp (Post.seq q) fun ds s1 ca1 F1 H1 k1 k2 m1 q1 J hwk => ?_)
  split at q1
  · rename_i hlen
    intro Dl hD
    have hP : P Dl = none := m1.fr.free hD
    refine ⟨fun i k H => k = ds.length - i ∧ i ≤ ds.length ∧ ∃ s ca F acc accD, ca1 <+: ca ∧ Sub F1 F ∧ Sim g ca F (upd P Dl (.lst acc)) s H ∧ Reps g ca F accD acc ∧ accD.length ≤ i ∧
        Post g ca F P E (fun d _ ca' F' H' => ∀ v, Rep g ca' F' d v → Q v H') ((compL vs mt tt me (ds.drop i) env s).bind fun ys s2 => fin (accD ++ ys) s2),
      ⟨_, rfl, Nat.zero_le _, s1, ca1, F1, [], [], List.prefix_rfl, Sub.refl _, m1.frame0 hD, .nil, Nat.le_refl _, by simpa using q1⟩, ?_⟩
    rintro i k H ⟨rfl, hle, s, ca, F, acc, accD, hc1, hF1, m, ra, hal, q⟩
    obtain ⟨w1, w2⟩ := hwk i ca F _ H s hc1 hF1 m
    by_cases hlt : i < ds.length
    · obtain ⟨hgo, hy⟩ := w1 ds[i] (by simp [hlt])
      refine .inr ⟨hgo, fun H' => ∃ s ca F acc accD, ca1 <+: ca ∧ Sub F1 F ∧ Sim g ca F (upd P Dl (.lst acc)) s H' ∧ Reps g ca F accD acc ∧ accD.length ≤ i + 1 ∧
          Post g ca F P E (fun d _ ca' F' H' => ∀ v, Rep g ca' F' d v → Q v H') ((compL vs mt tt me (ds.drop (i + 1)) env s).bind fun ys s2 => fin (accD ++ ys) s2),
        fun H' hN => ⟨ds.length - (i + 1), by omega, rfl, hlt, hN⟩, fun x H' hyl => ?_⟩
      obtain ⟨F', hF', m', rx⟩ := hy x H' hyl
      rw [List.drop_eq_getElem_cons hlt] at q
      simp only [compL] at q
      have slw : Slots g ca F' (wipeE env vs) (wipe σ vs) := slots_wipe ((sl.mono (k1.trans hc1) (k2.trans (hF1.trans hF')))) vs
      split at q
      · exact q.elim
      · rename_i e1 he1
        refine ⟨ds[i], wipeE env vs, e1, ca, F', _, s, m', slw, rx, he1, fun σ2 sl2 hweq => ⟨?_, ?_⟩⟩
        · have := hweq vs hw
          rw [this]
          exact List.ext_getElem? fun j => by rw [wipe_get, wipe_get, wipe_length]; by_cases hj : j ∈ vs <;> simp [hj, wipe_get]
        · refine ⟨e1, s, ca, F', _, m', sl2, ?_⟩
          have q := Post.later q (List.prefix_rfl) hF'
          have assoc : ∀ {α β γ : Type} (r : Res α) (f : α → S → Res β) (h : β → S → Res γ), (r.bind f).bind h = r.bind fun a s => (f a s).bind h := fun r f h => by cases r <;> rfl
          rw [assoc] at q
          refine Post.imp (Post.seqX q) fun b s3 ca3 F3 H3 l1 l2 m3 q3 => ?_
          cases b with
          | false =>
            have z1 := hc1.trans l1
            have z2 := hF1.trans (hF'.trans l2)
            exact ⟨s3, ca3, F3, acc, accD, z1, z2, m3, Reps.mono l1 (hF'.trans l2) _ _ ra, by omega, q3⟩
          | true =>
            refine ⟨e1, s3, ca3, F3, _, m3, sl2.mono l1 l2, ?_⟩
            simp only [if_true] at q3
            rw [assoc] at q3
            refine Post.imp (Post.seqX q3) fun y s4 ca4 F4 H4 n1 n2 m4 q4 v rv => ?_
            obtain ⟨hH, m5⟩ := m4.frame1 (o := .lst (acc ++ [v])) hP
            have ra' := Reps.mono (l1.trans n1) (hF'.trans (l2.trans n2)) _ _ ra
            refine ⟨acc, hH, ?_, s4, ca4, F4, acc ++ [v], accD ++ [y], hc1.trans (l1.trans n1), hF1.trans (hF'.trans (l2.trans n2)), m5, ra'.append (.one rv), by simp; omega, ?_⟩
            · rw [← ra.length]
              exact Nat.lt_of_le_of_lt hal (Nat.lt_of_lt_of_le hlt (line_le hlen))
            · rw [assoc] at q4
              simpa [List.append_assoc] using q4
    · have he : i = ds.length := by omega
      subst he
      rw [List.drop_length] at q
      simp only [compL, Res.bind_ok, List.append_nil] at q
      exact .inl ⟨w2 (Nat.le_refl _), hfin E ca F P H s Dl acc accD Q hP m ra q⟩
  · exact q1.elim
theorem ev_lcF {fin : List D → S → Res D} (hfin : FinOk g fin) (hc : X.calm = true) (hN : X.N.Nodup) (hi : Iv X g E tg iter mi) (ok : BlkOk X.N X.env.scope scope own) (hw : ∀ i ∈ w, i ∈ own.map (·.2))
    (hg : ∀ (s : Shared) (H : Hp) (C : Addr) (cl : List (Str × Addr)) (fp : List Addr), Tn (X.blk s H scope (compEnvC scope cl C X.env) fp) g tg w mt)
    (ht : ∀ (s : Shared) (H : Hp) (C : Addr) (cl : List (Str × Addr)) (fp : List Addr), Ets (X.blk s H scope (compEnvC scope cl C X.env) fp) g E0 ifs tt)
    (he : ∀ (s : Shared) (H : Hp) (C : Addr) (cl : List (Str × Addr)) (fp : List Addr), Ev (X.blk s H scope (compEnvC scope cl C X.env) fp) g E0 elt me) (hs : ∀ x, foldedSetIterable iter X.env x = pure x := by intro _; rfl) :
    Ev X g E (.ListComp elt [⟨tg, iter, ifs, 0⟩] scope pos) (mCompF fin (own.map (·.2)) mi mt tt me) := by
  obtain ⟨wi, p, hi⟩ := hi
  exact ⟨_, pe_lc hc hN p ok (fun s H C cl fp => (hg s H C cl fp).pg) (fun s H C cl fp => ht s H C cl fp) (fun s H C cl fp => (he s H C cl fp).pe) hs, fun env s ca F P H σ Q m sl q => comp_run hfin hi hw m sl q⟩
theorem sv_setLcF {fin : List D → S → Res D} (hfin : FinOk g fin) (i : Nat) {y : Str} {py spos : Pos} (hc : X.calm = true) (hN : X.N.Nodup) (hy : X.N[i]? = some y) (hyl : X.env.scope.names.lookup y = some .local)
    (hsw : swapsWith (.ListComp elt [⟨tg, iter, ifs, 0⟩] scope pos) (some (.Name y py)) spos.line X.env = pure true) (hi : Iv X g E tg iter mi) (ok : BlkOk X.N X.env.scope scope own) (hw : ∀ i ∈ w, i ∈ own.map (·.2))
    (hg : ∀ (s : Shared) (H : Hp) (C : Addr) (cl : List (Str × Addr)) (fp : List Addr), Tn (X.blk s H scope (compEnvC scope cl C X.env) fp) g tg w mt)
    (ht : ∀ (s : Shared) (H : Hp) (C : Addr) (cl : List (Str × Addr)) (fp : List Addr), Ets (X.blk s H scope (compEnvC scope cl C X.env) fp) g E0 ifs tt)
    (he : ∀ (s : Shared) (H : Hp) (C : Addr) (cl : List (Str × Addr)) (fp : List Addr), Ev (X.blk s H scope (compEnvC scope cl C X.env) fp) g E0 elt me) (hs : ∀ x, foldedSetIterable iter X.env x = pure x := by intro _; rfl) :
    Sv X g E (.Assign [.Name y py] (.ListComp elt [⟨tg, iter, ifs, 0⟩] scope pos) spos) (sSet i (mCompF fin (own.map (·.2)) mi mt tt me)) := by
  obtain ⟨wi, p, hi⟩ := hi
  refine ⟨_, ps_setLc hc hN hy hyl hsw p ok (fun s H C cl fp => (hg s H C cl fp).pg) (fun s H C cl fp => ht s H C cl fp) (fun s H C cl fp => (he s H C cl fp).pe) hs, fun env s ca F P H σ Dn m sl q => ?_⟩
  exact comp_run hfin hi hw m sl (Post.imp (Post.seq q) fun d s1 ca1 F1 H1 k1 k2 m1 q1 v rv => q1.now m1 _ ((sl.mono k1 k2).set rv))
end
def runBody (n N : Nat) (body : Env → S → Res Fl) : List D → S → Res D := fun ds s => if ds.length = n then (body (ds.map some ++ List.replicate (N - n) none) s).bind (fun fl s1 => match fl with
  | .nx _ => .ok .non s1
  | .rt d => .ok d s1
  | _ => .stuck) else .stuck
theorem slots_start {g : G} {ca : List Addr} {F : Hp} {N : List Str} {ds : List D} {vs : List V} (r : Reps g ca F ds vs) : Slots g ca F (ds.map some ++ List.replicate (N.length - ds.length) none) (L2.start N vs) := by
  unfold L2.start
  refine ⟨by simp [r.length], fun i d e => ?_⟩
  by_cases hi : i < ds.length
  · rw [List.getElem?_append_left (by simpa using hi), List.getElem?_map] at e
    rw [List.getElem?_append_left (by simpa [← r.length] using hi), List.getElem?_map]
    cases hd : ds[i]? with
    | none => rw [hd] at e; cases e
    | some d' =>
      rw [hd] at e
      cases e
      obtain ⟨v, hv, rv⟩ := r.get hd
      exact ⟨v, by rw [hv]; rfl, rv⟩
  · rw [List.getElem?_append_right (by simpa using hi), List.getElem?_replicate] at e
    split at e <;> cases e
section
variable {Pr : Program} {w : World} {K : PySem.W.Frag} {mg : Str → Option Value} {base : Heap} {g : G}
theorem body_run {X : Cx} {sts : List Stmt} {body : Env → S → Res Fl} {N : List Str} {n : Nat} {E : XK} (hb : Svs X g E sts body) {vs : List V} {H : Hp} {Q : VK} (h : spG g n (runBody n N.length body) vs H Q E) :
    ∃ t, PSs X sts t ∧ t { nx := fun _ H' => Q .non H', rt := Q } (L2.start N vs) H := by
  obtain ⟨ds, ca, F, P, s, hl, m, rs, q⟩ := h
  obtain ⟨t, p, hb⟩ := hb
  refine ⟨t, p, ?_⟩
  unfold runBody at q
  split at q
  · rename_i hn
    subst hn
    refine hb _ s ca F P H _ _ m (slots_start rs) (Post.imp (Post.seq q) fun fl s1 ca1 F1 H1 k1 k2 m1 q1 => ?_)
    cases fl with
    | nx e => exact fun σ sl => q1.now m1 .non (by simp only [Rep])
    | rt d => exact fun v rv => q1.now m1 v rv
    | bk e => exact q1.elim
    | ct e => exact q1.elim
  · exact q.elim
theorem fn_def {x qual : Str} {st : Stmt} {f : Addr} {fd : FuncData} {N ps : List Str} {k n : Nat} {body : Env → S → Res Fl} (F : Fun K x qual st f fd) (Sc : FnScope N ps (defScope st)) (hn : n = ps.length)
    (hb : ∀ (cdv : Value) (A : Around) (outer : List PySem.Env) (s : Shared) (H : Hp) (E : XK), Room k (A.deeper (envOfC qual (defScope st) s.heap.objs.size f cdv)) →
      Svs (cxOf (L2.CX Pr w) Pr w K mg base N qual (defScope st) f cdv A outer s H E) g E (defBody st) body) : FnOk Pr w K mg base (L2.CX Pr w) (k + 1) f fd ps (spG g n (runBody n N.length body)) :=
  F.okX Sc (fun vs H Q E ⟨ds, ca, F, P, s, hl, _⟩ => by rw [hl, hn]) fun cdv A outer s H vs Q E hr h => body_run (hb cdv A outer s H E hr) h
theorem fn_defD {x qual : Str} {params : Arguments} {sts : List Stmt} {scope : Scope} {dvs : List V} {kws : List (Str × V)} {f : Addr} {fd : FuncData} {N ps : List Str} {k n : Nat} {body : Env → S → Res Fl} (F : FunD K x qual params sts scope dvs kws f fd) (Sc : FnScope N ps scope) (hn : n = ps.length)
    (hb : ∀ (cdv : Value) (A : Around) (outer : List PySem.Env) (s : Shared) (H : Hp) (E : XK), Room k (A.deeper (envOfC qual scope s.heap.objs.size f cdv)) →
      Svs (cxOf (L2.CX Pr w) Pr w K mg base N qual scope f cdv A outer s H E) g E sts body) : FnOk Pr w K mg base (L2.CX Pr w) (k + 1) f fd ps (spG g n (runBody n N.length body)) :=
  F.ok Sc (fun vs H Q E ⟨ds, ca, F, P, s, hl, _⟩ => by rw [hl, hn]) fun cdv A outer s H vs Q E hr h => body_run (hb cdv A outer s H E hr) h
theorem passB {N : List Str} {qual : Str} {scope : Scope} {f : Addr} {cdv : Value} {A : Around} {outer : List PySem.Env} {s : Shared} {H : Hp} {E : XK} : Passes (L2.CX Pr w) (cxOf (L2.CX Pr w) Pr w K mg base N qual scope f cdv A outer s H E) E :=
  passes_call (takes_of rfl rfl rfl rfl) fun _ _ _ _ h => h
end
end Pm
set_option Elab.async false
set_option linter.all false
set_option maxRecDepth 100000
set_option maxHeartbeats 2000000
namespace Pm
open PySem PySem.Spec PyProof.Rows L2
abbrev iObj (C dx : Addr) : Obj := { cls := .ref C, dict := some dx, data := .plain }
def Declines (id : String) (C : Addr) : Prop := ∀ (a : Int) (t : Tok) (x dx : Addr) (M : Program) (w : World) (A : Around) (Q : Value → Shared → Prop) (E : Value → Shared → Prop) (s : Shared),
  s.heap.get? x = some (iObj C dx) → Q .notImplemented s → wpAny (model M w) A (call (.builtin id) [.int a t, .ref x]) Q E s
section
variable {C : Addr}
theorem dec_add : Declines "int.__add__" C := fun a t x dx M w A Q E s hx q => by
  have h : Meets (Builtin.«int.__add__» ⟨[.int a t, .ref x], []⟩) (fun _ R s => s.heap.get? x = some (iObj C dx) ∧ R (.ok (.ret .notImplemented)) s) :=
    .of_wp fun prog w A R s h => by obtain ⟨hp, g, d, tk, os⟩ := s; obtain ⟨hl, h⟩ := h; wp_walk using wpAny_loadPart' hl; exact ⟨_, rfl, h⟩
  exact call_meets F.slot_int_add (typeIs_int s a t) F.entry_int_add (F.args_int_add_2 _ _) h ⟨hx, q⟩
theorem dec_sub : Declines "int.__sub__" C := fun a t x dx M w A Q E s hx q => by
  have h : Meets (Builtin.«int.__sub__» ⟨[.int a t, .ref x], []⟩) (fun _ R s => s.heap.get? x = some (iObj C dx) ∧ R (.ok (.ret .notImplemented)) s) :=
    .of_wp fun prog w A R s h => by obtain ⟨hp, g, d, tk, os⟩ := s; obtain ⟨hl, h⟩ := h; wp_walk using wpAny_loadPart' hl; exact ⟨_, rfl, h⟩
  exact call_meets F.slot_int_sub (typeIs_int s a t) F.entry_int_sub (F.args_int_sub_2 _ _) h ⟨hx, q⟩
theorem dec_mul : Declines "int.__mul__" C := fun a t x dx M w A Q E s hx q => by
  have h : Meets (Builtin.«int.__mul__» ⟨[.int a t, .ref x], []⟩) (fun _ R s => s.heap.get? x = some (iObj C dx) ∧ R (.ok (.ret .notImplemented)) s) :=
    .of_wp fun prog w A R s h => by obtain ⟨hp, g, d, tk, os⟩ := s; obtain ⟨hl, h⟩ := h; wp_walk using wpAny_loadPart' hl; exact ⟨_, rfl, h⟩
  exact call_meets F.slot_int_mul (typeIs_int s a t) F.entry_int_mul (F.args_int_mul_2 _ _) h ⟨hx, q⟩
theorem dec_eq : Declines "int.__eq__" C := fun a t x dx M w A Q E s hx q => by
  have h : Meets (Builtin.«int.__eq__» ⟨[.int a t, .ref x], []⟩) (fun _ R s => s.heap.get? x = some (iObj C dx) ∧ R (.ok (.ret .notImplemented)) s) :=
    .of_wp fun prog w A R s h => by obtain ⟨hp, g, d, tk, os⟩ := s; obtain ⟨hl, h⟩ := h; wp_walk using wpAny_loadPart' hl; exact ⟨_, rfl, h⟩
  exact call_meets F.slot_int_eq (typeIs_int s a t) F.entry_int_eq (F.args_int_eq_2 _ _) h ⟨hx, q⟩
end
structure OpF (K : PySem.W.Frag) (C : Addr) (op : Operator) (f r : Addr) (id : String) : Prop where
  hc : PySem.W.selfFirst K C = true
  hs : PySem.W.findIn K (.ref C) (PySem.dunder op.info.2) = some (some (.ref f))
  hf : PySem.W.isFn K (.ref f) = true
  hr : PySem.W.findIn K (.ref C) (dunderR op.info.2) = some (some (.ref r))
  hrf : PySem.W.isFn K (.ref r) = true
  h1 : ∃ fo, PySem.W.findIn K (.type "int") (PySem.dunder op.info.2) = some fo
  h2 : ∃ ro, PySem.W.findIn K (.type "int") (dunderR op.info.2) = some ro
  s1 : PySem.W.subIn K (.type "int") (.ref C) = some false
  s2 : PySem.W.subIn K (.ref C) (.type "int") = some false
  sl : Slot "int" (PySem.dunder op.info.2) id
  fi : fillsNumberSlot (.type "int") op.info.2 = pure true
  de : Declines id C
section
open PySem.W
variable {prog : Program} {w : World} {A : Around} {E : Value → Shared → Prop} {s : Shared} {K : Frag} {x C L f r dx : Addr} {h₀ : Heap} {m : Str → Option Value} {ox : Obj} {od : Option Obj} {id : String}
theorem refl_own {op : Operator} {i : Int} {t : Tok} {Q : Value → Shared → Prop} (F : Fr h₀ L s.heap m) (X₀ : K.In h₀) (I : InstAt s.heap x ox C od) (hx : s.heap.get? x = some (iObj C dx)) (o : OpF K C op f r id)
    (h : wpAny (model prog w) A (call (.ref r) [.ref x, .int i t]) (PySem.W.CmpBack Q) E s) : wpAny (model prog w) A (binaryOp op (.int i t) (.ref x)) Q E s := by
  have X := X₀.keeps F.keep
  obtain ⟨cd, rest, hcd, hm⟩ := ksp_first o.hc
  obtain ⟨hc, hs, hf, hr, hrf, _, _, s1, s2, sl, fi, de⟩ := o
  rcases hi : op.info with ⟨sym, nm'⟩
  rw [hi] at hs hr sl fi
  dsimp only at hs hr sl fi
  have one := ksp_try X I hr hrf h
  have L1 : Looks (model prog w) s.heap (typeOf (.ref x)) (.ref C) := I.type
  have L3 : Looks (model prog w) s.heap (fillsNumberSlot (.ref C) nm') true := fills_K X hcd hm hs
  have L5 : Looks (model prog w) s.heap (isSubtype (.ref C) (.type "int")) false := looks_subIn X s2
  have hne : (Value.type "int" == Value.ref C) = false := Bool.eq_false_iff.mpr fun q => by cases beq_iff_eq.mp q
  simp only [binaryOp, hi]
  refine wpAny_holding (wpAny_bind ?_)
  unfold binaryOp1
  refine wpAny_bind (wpAny_typeOf (typeIs_int s i t) (wpAny_bind (L1.here (wpAny_bind (wpAny_of_eq fi ?_)))))
  simp only [hne, Bool.false_eq_true, if_false]
  refine wpAny_bind (L3.here ?_)
  simp only [Bool.and_self, if_true]
  refine wpAny_bind (L5.here ?_)
  have hpy : numberSlotInPython (.type "int") nm' = pure false := rfl
  simp only [Bool.false_eq_true, if_false, pure_bind, Bool.not_false, Bool.and_self, if_true, hpy]
  refine wpAny_bind (m := tryMethod (.int i t) _ _) ?_
  unfold tryMethod
  refine wpAny_bind (wpAny_callSpecial?_slot (typeIs_int s i t) sl (de i t x dx prog w A _ E s hx ?_))
  refine wpAny_pure ?_
  refine wpAny_bind (m := tryMethod (.ref x) _ _) (wpAny_mono one (fun v s' hv => ?_) fun _ _ e => e)
  obtain ⟨v, rfl, hq⟩ := hv
  exact wpAny_bind (wpAny_rule (wpAny_pure (wpAny_pure hq)))
theorem ifb_int {i : Int} {t : Tok} {x : Addr} {M : Model} {name : Str} {id : String} {Q : Option Value → Shared → Prop} (sl : Slot "int" name id) (h : wpAny M A (call (.builtin id) [.int i t, .ref x]) (fun v => Q (some v)) E s) :
    wpAny M A (callSpecialIfBound? (.int i t) name [.ref x]) Q E s := by
  simp only [callSpecialIfBound?, bindSpecialIfBound?]
  refine wpAny_holding (wpAny_bind (wpAny_bind (wpAny_specialOf (typeIs_int s i t) sl.lookup ?_)))
  refine wpAny_bind (wpAny_askSetting (wpAny_ite ?_))
  have fin : wpAny M A (call (.builtin id) ([.int i t] ++ [.ref x]) >>= fun v => pure (some v)) Q E s := wpAny_bind (wpAny_mono h (fun v s' h' => wpAny_pure h') fun _ _ h' => h')
  split
  · exact wpAny_bind (wpAny_of_eq (sl.bind _) (wpAny_pure (by exact fin)))
  · exact wpAny_tryCatch (wpAny_bind (wpAny_of_eq (sl.bind _) (wpAny_pure (by exact fin))))
theorem eq_refl_own {i : Int} {t : Tok} {Q : Value → Shared → Prop} (hu : A.units < cLine) (F : Fr h₀ L s.heap m) (X₀ : K.In h₀) (I : InstAt s.heap x ox C od) (hx : s.heap.get? x = some (iObj C dx)) (s2 : subIn K (.ref C) (.type "int") = some false)
    (hs : findIn K (.ref C) "__eq__" = some (some (.ref f))) (hf : isFn K (.ref f) = true) (h : wpAny (model prog w) A (call (.ref f) [.ref x, .int i t]) (PySem.W.CmpBack Q) E s) : wpAny (model prog w) A (compareOp .Eq (.int i t) (.ref x)) Q E s := by
  have X := X₀.keeps F.keep
  refine cmp_ofEq ?_
  have one : wpAny (model prog w) A (tryCompare (.ref x) "__eq__" (.int i t)) (fun r s' => ∃ v, r = some v ∧ Q v s') E s := by
    unfold tryCompare
    refine wpAny_bind (ifBound_K X I hs hf (wpAny_mono h (fun v s' hv => ?_) fun _ _ e => e))
    cases v <;> first | exact hv.elim | exact wpAny_pure ⟨_, rfl, hv⟩
  have none_ : wpAny (model prog w) A (tryCompare (.int i t) "__eq__" (.ref x)) (fun r s' => r = none ∧ s' = s) E s := by
    unfold tryCompare
    refine wpAny_bind (ifb_int PySem.F.slot_int_eq (dec_eq i t x dx prog w A _ E s hx ?_))
    exact wpAny_pure ⟨rfl, rfl⟩
  unfold richCompare
  refine wpAny_holding (wpAny_bind (wpAny_cRoomFor hu ?_))
  show wpAny _ _ (typeOf (.int i t) >>= _) _ _ _
  refine wpAny_bind (wpAny_typeOf (typeIs_int s i t) (wpAny_bind (I.type.here ?_)))
  have hne : (Value.type "int" != Value.ref C) = true := by simp
  simp only [hne, if_true]
  refine wpAny_bind ((looks_subIn X s2).here ?_)
  simp only [Bool.false_eq_true, if_false]
  refine wpAny_bind (wpAny_mono none_ (fun r s' hr => ?_) fun _ _ e => e)
  obtain ⟨rfl, rfl⟩ := hr
  simp only [Bool.not_false, if_true]
  refine wpAny_bind (wpAny_mono one (fun r s' z => ?_) fun _ _ e => e)
  obtain ⟨v, rfl, hq⟩ := z
  exact wpAny_pure hq
end
section
variable {X : Cx} {g : G} {E : XK} {CX : CXT} {c k kr : Nat} {f r : Addr} {fd fdr : FuncData} {ps psr : List Str} {ff fr : List D → S → Res D} {op : Operator} {id : String}
theorem back_of {pins : List (Addr × Obj)} {σ : L2.St} {Q : VK} {u : Value} {s' : Shared} (h : EP X pins σ Q u s') : PySem.W.CmpBack (EP X pins σ Q) u s' := by
  cases u with
  | notImplemented =>
    obtain ⟨v, H', I, rv, q⟩ := h
    cases v <;> first | (cases rv; done) | (obtain ⟨t, rv⟩ := rv; cases rv)
  | _ => exact h
def opOwn (c : Nat) (ff fr : List D → S → Res D) : D → D → S → Res D := fun x y s => match x, y with
  | .ins k fs, .ins k' fs' => if k = c ∧ k' = c then ff [.ins k fs, .ins k' fs'] s else .stuck
  | .ins k fs, .int i => if k = c then ff [.ins k fs, .int i] s else .stuck
  | .int i, .ins k fs => if k = c then fr [.ins k fs, .int i] s else .stuck
  | _, _ => .stuck
def rOwn (g : G) (E : XK) (c : Nat) (ff fr : List D → S → Res D) : R2 := fun v u H Q =>
  (∃ a dx fs, v = .ref a ∧ H a = some (.ins (g.cls c) dx fs) ∧ ((∃ b dy gs, u = .ref b ∧ H b = some (.ins (g.cls c) dy gs)) ∨ ∃ i, u = .int i) ∧ spG g 2 ff [v, u] H Q E) ∨
  (∃ i a dx fs, v = .int i ∧ u = .ref a ∧ H a = some (.ins (g.cls c) dx fs) ∧ spG g 2 fr [u, v] H Q E)
theorem ins_at {pins : List (Addr × Obj)} {σ : L2.St} {H : Hp} {s : Shared} {a C dx : Addr} {fs : List (Str × V)} (I : Inv X pins σ H s) (ea : H a = some (.ins C dx fs)) : ∃ od, PySem.W.InstAt s.heap a (PySem.W.instObj C dx) C (some od) ∧ s.heap.get? a = some (iObj C dx) := by
  obtain ⟨mA, O, _⟩ := ins_get I.hok ea
  obtain ⟨od, J, _⟩ := O.look
  obtain ⟨_, _, _, e, _⟩ := (show ObjOk X.prog X.w H s.heap a (.ins C dx fs) from I.hok a _ ea)
  exact ⟨od, J, e⟩
theorem own_run (Fk : FnOk X.prog X.w X.K X.mg X.base CX k f fd ps (spG g 2 ff)) (hr : Room k X.A) (hb : Binds X.K fd ps []) (hx : Passes CX X E) {pins : List (Addr × Obj)} {σ : L2.St} {H : Hp} {s : Shared} {Q : VK} {x y : V} {v u : Value}
    (I : Inv X pins σ H s) (rx : RelV x v) (ry : RelV y u) (h : spG g 2 ff [x, y] H Q E) : wpAny (model X.prog X.w) X.A (call (.ref f) [v, u]) (PySem.W.CmpBack (EP X pins σ Q)) X.xe s :=
  wpAny_mono (run_fn (us := [v, u]) (vs := [x, y]) (dvs := []) (ds := []) Fk hr hb .nil hx I (.cons rx (.cons ry .nil)) (by simpa using h)) (fun u s' q => back_of q) fun _ _ z => z
theorem opr_own (o : OpF X.K (g.cls c) op f r id) (Fk : FnOk X.prog X.w X.K X.mg X.base CX k f fd ps (spG g 2 ff)) (Fr' : FnOk X.prog X.w X.K X.mg X.base CX kr r fdr psr (spG g 2 fr)) (hr : Room k X.A) (hrr : Room kr X.A) (hb : Binds X.K fd ps []) (hbr : Binds X.K fdr psr []) (hx : Passes CX X E) :
    OpR X (binaryOp op) (rOwn g E c ff fr) := by
  intro pins s σ H x y v u Q I rx ry h
  obtain ⟨m, hF⟩ := I.fr
  rcases h with ⟨a, dx, fs, rfl, ea, h1, h2⟩ | ⟨i, a, dx, fs, rfl, rfl, ea, h2⟩
  · cases (show v = Value.ref a from rx)
    obtain ⟨od, J, e⟩ := ins_at I ea
    rcases h1 with ⟨b, dy, gs, rfl, eb⟩ | ⟨i, rfl⟩
    · cases (show u = Value.ref b from ry)
      obtain ⟨od', J', e'⟩ := ins_at I eb
      exact PySem.W.binop_K hF I.ok.mod.kin J J'.type o.hc o.hs o.hf (own_run (x := V.ref a) (y := V.ref b) Fk hr hb hx I rfl rfl h2)
    · obtain ⟨t, rfl⟩ := (show ∃ t, u = Value.int i t from ry)
      obtain ⟨fo, h1⟩ := o.h1
      obtain ⟨ro, h3⟩ := o.h2
      exact PySem.W.ksp_binT (T := "int") hF I.ok.mod.kin J rfl o.hc o.hs o.hf o.hr (.inr ⟨_, rfl⟩) h1 h3 o.s1 (own_run (x := V.ref a) (y := V.int i) Fk hr hb hx I rfl (show L2.RelV (V.int i) (Value.int i t) from ⟨t, rfl⟩) h2)
  · obtain ⟨t, rfl⟩ := (show ∃ t, v = Value.int i t from rx)
    cases (show u = Value.ref a from ry)
    obtain ⟨od, J, e⟩ := ins_at I ea
    exact refl_own hF I.ok.mod.kin J e o (own_run (x := V.ref a) (y := V.int i) Fr' hrr hbr hx I rfl (show L2.RelV (V.int i) (Value.int i t) from ⟨t, rfl⟩) h2)
theorem sp2 {ca : List Addr} {F P H : Hp} {s : S} {x y : D} {v u : V} {Q : VK} (m : Sim g ca F P s H) (rx : Rep g ca F x v) (ry : Rep g ca F y u) (q : Post g ca F P E (fun d _ ca' F' H' => ∀ v, Rep g ca' F' d v → Q v H') (ff [x, y] s)) : spG g 2 ff [v, u] H Q E :=
  spG_of m (.cons rx (.cons ry .nil)) rfl q
theorem od_own (o : OpF X.K (g.cls c) op f r id) (Fk : FnOk X.prog X.w X.K X.mg X.base CX k f fd ps (spG g 2 ff)) (Fr' : FnOk X.prog X.w X.K X.mg X.base CX kr r fdr psr (spG g 2 fr)) (hr : Room k X.A) (hrr : Room kr X.A) (hb : Binds X.K fd ps []) (hbr : Binds X.K fdr psr []) (hx : Passes CX X E) :
    OpD X g E (binaryOp op) (opOwn c ff fr) := by
  refine ⟨_, opr_own o Fk Fr' hr hrr hb hbr hx, fun x y s ca F P H v u Q m rx ry p => ?_⟩
  unfold opOwn at p
  split at p
  · split at p
    · rename_i hk
      obtain ⟨rfl, hk2⟩ := hk
      subst hk2
      have rx' := rx
      have ry' := ry
      simp only [Rep] at rx ry
      obtain ⟨a, dx, xs, rfl, hF, _⟩ := rx
      obtain ⟨b, dy, ys, rfl, hF2, _⟩ := ry
      exact .inl ⟨a, dx, _, rfl, m.sub _ _ hF, .inl ⟨b, dy, _, rfl, m.sub _ _ hF2⟩, sp2 m rx' ry' p⟩
    · exact p.elim
  · rename_i kk fs i
    split at p
    · rename_i hk
      subst hk
      have rx' := rx
      simp only [Rep] at rx
      obtain ⟨a, dx, xs, rfl, hF, _⟩ := rx
      have hu : u = .int i := by simpa only [Rep] using ry
      exact .inl ⟨a, dx, _, rfl, m.sub _ _ hF, .inr ⟨_, hu⟩, sp2 m rx' ry p⟩
    · exact p.elim
  · rename_i i kk fs
    split at p
    · rename_i hk
      subst hk
      have ry' := ry
      simp only [Rep] at ry
      obtain ⟨a, dx, xs, rfl, hF, _⟩ := ry
      have hv : v = .int i := by simpa only [Rep] using rx
      exact .inr ⟨_, a, dx, _, hv, rfl, m.sub _ _ hF, sp2 m ry' rx p⟩
    · exact p.elim
  · exact p.elim
theorem ud_own {ffn : List D → S → Res D} {fn : Addr} (hs : PySem.W.findIn X.K (.ref (g.cls c)) "__neg__" = some (some (.ref fn))) (hf : PySem.W.isFn X.K (.ref fn) = true) (Fk : FnOk X.prog X.w X.K X.mg X.base CX k fn fd ps (spG g 1 ffn)) (hr : Room k X.A) (hb : Binds X.K fd ps []) (hx : Passes CX X E) :
    UnD X g E (unaryOp .USub) (fun x s => match x with
      | .ins k fs => if k = c then ffn [.ins k fs] s else .stuck
      | _ => .stuck) := by
  refine ⟨fun v H Q => ∃ a dx fs, v = .ref a ∧ H a = some (.ins (g.cls c) dx fs) ∧ spG g 1 ffn [v] H Q E, fun pins s σ H x v Q I rx h => ?_, fun x s ca F P H v Q m rx p => ?_⟩
  · obtain ⟨a, dx, fs, rfl, ea, h2⟩ := h
    obtain ⟨m, hF⟩ := I.fr
    cases (show v = Value.ref a from rx)
    obtain ⟨od, J, e⟩ := ins_at I ea
    exact PySem.W.ksp_neg hF I.ok.mod.kin J hs hf (run_fn (us := [.ref a]) (vs := [.ref a]) (dvs := []) (ds := []) Fk hr hb .nil hx I (.cons rfl .nil) (by simpa using h2))
  · dsimp only at p
    split at p
    · split at p
      · rename_i hk
        subst hk
        have rx' := rx
        simp only [Rep] at rx
        obtain ⟨a, dx, xs, rfl, hF, _⟩ := rx
        exact ⟨a, dx, _, rfl, m.sub _ _ hF, spG_of m (.cons rx' .nil) rfl p⟩
      · exact p.elim
    · exact p.elim
structure EqF (K : PySem.W.Frag) (C : Addr) (f : Addr) : Prop where
  hs : PySem.W.findIn K (.ref C) "__eq__" = some (some (.ref f))
  hf : PySem.W.isFn K (.ref f) = true
  s1 : PySem.W.subIn K (.type "int") (.ref C) = some false
  s2 : PySem.W.subIn K (.ref C) (.type "int") = some false
def eqOwn (c : Nat) (ff : List D → S → Res D) : D → D → S → Res D := fun x y s => match x, y with
  | .ins k fs, .ins k' fs' => if k = c ∧ k' = c then ff [.ins k fs, .ins k' fs'] s else .stuck
  | .ins k fs, .int i => if k = c then ff [.ins k fs, .int i] s else .stuck
  | .int i, .ins k fs => if k = c then ff [.ins k fs, .int i] s else .stuck
  | _, _ => .stuck
theorem opr_eq (o : EqF X.K (g.cls c) f) (Fk : FnOk X.prog X.w X.K X.mg X.base CX k f fd ps (spG g 2 ff)) (hr : Room k X.A) (hb : Binds X.K fd ps []) (hx : Passes CX X E) : OpR X (compareOp .Eq) (rOwn g E c ff ff) := by
  intro pins s σ H x y v u Q I rx ry h
  obtain ⟨m, hF⟩ := I.fr
  rcases h with ⟨a, dx, fs, rfl, ea, h1, h2⟩ | ⟨i, a, dx, fs, rfl, rfl, ea, h2⟩
  · cases (show v = Value.ref a from rx)
    obtain ⟨od, J, e⟩ := ins_at I ea
    rcases h1 with ⟨b, dy, gs, rfl, eb⟩ | ⟨i, rfl⟩
    · cases (show u = Value.ref b from ry)
      obtain ⟨od', J', e'⟩ := ins_at I eb
      exact PySem.W.cmp_ofEq (PySem.W.cmp_K (op := .Eq) (tb := .ref (g.cls c)) hr.units0 hF I.ok.mod.kin J J'.type (by simp [PySem.W.notFirst]) o.hs o.hf (own_run (x := V.ref a) (y := V.ref b) Fk hr hb hx I rfl rfl h2))
    · obtain ⟨t, rfl⟩ := (show ∃ t, u = Value.int i t from ry)
      exact PySem.W.cmp_ofEq (PySem.W.cmp_K (op := .Eq) (tb := .type "int") hr.units0 hF I.ok.mod.kin J (PySem.W.Looks.of_pure rfl) (by simp [PySem.W.notFirst, o.s1]) o.hs o.hf (own_run (x := V.ref a) (y := V.int i) Fk hr hb hx I rfl (show L2.RelV (V.int i) (Value.int i t) from ⟨t, rfl⟩) h2))
  · obtain ⟨t, rfl⟩ := (show ∃ t, v = Value.int i t from rx)
    cases (show u = Value.ref a from ry)
    obtain ⟨od, J, e⟩ := ins_at I ea
    exact eq_refl_own hr.units0 hF I.ok.mod.kin J e o.s2 o.hs o.hf (own_run (x := V.ref a) (y := V.int i) Fk hr hb hx I rfl (show L2.RelV (V.int i) (Value.int i t) from ⟨t, rfl⟩) h2)
theorem od_eqOwn (o : EqF X.K (g.cls c) f) (Fk : FnOk X.prog X.w X.K X.mg X.base CX k f fd ps (spG g 2 ff)) (hr : Room k X.A) (hb : Binds X.K fd ps []) (hx : Passes CX X E) : OpD X g E (compareOp .Eq) (eqOwn c ff) := by
  refine ⟨_, opr_eq o Fk hr hb hx, fun x y s ca F P H v u Q m rx ry p => ?_⟩
  unfold eqOwn at p
  split at p
  · split at p
    · rename_i hk
      obtain ⟨rfl, hk2⟩ := hk
      subst hk2
      have rx' := rx
      have ry' := ry
      simp only [Rep] at rx ry
      obtain ⟨a, dx, xs, rfl, hF, _⟩ := rx
      obtain ⟨b, dy, ys, rfl, hF2, _⟩ := ry
      exact .inl ⟨a, dx, _, rfl, m.sub _ _ hF, .inl ⟨b, dy, _, rfl, m.sub _ _ hF2⟩, sp2 m rx' ry' p⟩
    · exact p.elim
  · rename_i kk fs i
    split at p
    · rename_i hk
      subst hk
      have rx' := rx
      simp only [Rep] at rx
      obtain ⟨a, dx, xs, rfl, hF, _⟩ := rx
      have hu : u = .int i := by simpa only [Rep] using ry
      exact .inl ⟨a, dx, _, rfl, m.sub _ _ hF, .inr ⟨_, hu⟩, sp2 m rx' ry p⟩
    · exact p.elim
  · rename_i i kk fs
    split at p
    · rename_i hk
      subst hk
      have ry' := ry
      simp only [Rep] at ry
      obtain ⟨a, dx, xs, rfl, hF, _⟩ := ry
      have hv : v = .int i := by simpa only [Rep] using rx
      exact .inr ⟨_, a, dx, _, hv, rfl, m.sub _ _ hF, sp2 m ry' rx p⟩
    · exact p.elim
  · exact p.elim
end
end Pm
set_option Elab.async false
set_option linter.all false
set_option maxRecDepth 100000
set_option maxHeartbeats 2000000
namespace Pm
open PySem PySem.Spec PyProof.Rows L2
section
variable {X : Cx} {g : G} {E : XK} {CX : CXT} {c k n nf : Nat} {f C : Addr} {fd : FuncData} {ps ks : List Str} {ff fi : List D → S → Res D} {x m nm : Str} {p pos apos kpos : Pos} {e o : Expr} {es : List Expr} {kws : List Keyword} {me mo : Env → S → Res D} {mr mk : Env → S → Res (List D)}
def Ek (X : Cx) (g : G) (E : XK) (kws : List Keyword) (m : Env → S → Res (List D)) : Prop :=
  ∃ t : TA, PK X kws t ∧ ∀ (env : Env) (s : S) (ca : List Addr) (F P H : Hp) (σ : L2.St) (Q : List V → Hp → Prop), Sim g ca F P s H → Slots g ca F env σ →
    Post g ca F P E (fun ds _ ca' F' H' => ∀ vs, Reps g ca' F' ds vs → Q vs H') (m env s) → t σ H Q
theorem ek_nil : Ek X g E [] aNil := ⟨_, pk_nil, fun env s ca F P H σ Q m sl q => q.now m [] .nil⟩
theorem ek_cons {on : Option Str} (ha : Ev X g E e me) (hr : Ek X g E kws mr) : Ek X g E (⟨on, e, kpos⟩ :: kws) (aCons me mr) := by
  obtain ⟨t, p, h⟩ := ha
  obtain ⟨u, p', h'⟩ := hr
  refine ⟨_, pk_cons p p', fun env s ca F P H σ Q m sl q => ?_⟩
  refine h env s ca F P H σ _ m sl (Post.imp (Post.seq q) fun x s1 ca1 F1 H1 k1 k2 m1 q v rv => ?_)
  refine h' env s1 ca1 F1 P H1 σ _ m1 (sl.mono k1 k2) (Post.imp (Post.seq q) fun xs s2 ca2 F2 H2 l1 l2 m2 q2 vs rvs => ?_)
  exact q2.now m2 _ (.cons (Rep.mono l1 l2 _ _ rv) rvs)
def KB (K : PySem.W.Frag) (fd : FuncData) (ps : List Str) (n : Nat) (ks : List Str) : Prop :=
  ∀ (s : Shared) (us ws : List Value), K.In s.heap → us.length = n → ws.length = ks.length → BindsTo s fd ⟨us, ks.zip ws⟩ (ps.zip (us ++ ws))
theorem run_kw {pins : List (Addr × Obj)} {σ : L2.St} {H : Hp} {s : Shared} {Q : VK} {us ws : List Value} {vs zs : List V} {sp : Sp} (F : FnOk X.prog X.w X.K X.mg X.base CX k f fd ps sp) (hr : Room k X.A) (hb : KB X.K fd ps us.length ks) (hx : Passes CX X E)
    (I : Inv X pins σ H s) (r : Vals vs us) (rz : Vals zs ws) (hl : ws.length = ks.length) (h : sp (vs ++ zs) H Q E) : wpAny (model X.prog X.w) X.A (call (.ref f) us (ks.zip ws)) (EP X pins σ Q) X.xe s := by
  refine wpAny_call (codeAny_mono (F.run X.A X.stack s H ⟨us, ks.zip ws⟩ (us ++ ws) (vs ++ zs) Q E hr I.env0 (hb s us ws I.kIn rfl hl) (r.append rz) h) fun r s' hq => ?_)
  cases r with
  | error e => exact hx pins σ H s e s' I hq
  | ok fl =>
    cases fl with
    | ret u => exact I.after hq
    | next => exact False.elim hq
    | brk => exact False.elim hq
    | cont => exact False.elim hq
def mKw (n j : Nat) (ff : List D → S → Res D) (mr mk : Env → S → Res (List D)) : Env → S → Res D := fun env s => (mr env s).bind fun xs s1 => (mk env s1).bind fun ys s2 => if xs.length = n ∧ ys.length = j then ff (xs ++ ys) s2 else .stuck
theorem ev_kw0 (Fk : FnOk X.prog X.w X.K X.mg X.base CX k f fd ps (spG g n ff)) (hr : Room k X.A) (hg : Gl X x) (hm : X.mg x = some (.ref f)) (hk : PySem.W.keepIn X.K (.ref f) = true) (hb : KB X.K fd ps 0 ks) (hn : n = ks.length) (hx : Passes CX X E) (hkw : Ek X g E kws mk)
    (hall : (backToKw pos (keywordEach kws X.env)).all (·.1.isSome) = true := by rfl) (hks : (backToKw pos (keywordEach kws X.env)).filterMap (·.1) = ks := by rfl)
    (hdb : (x == ("__debug__" : Str)) = false := by decide) (hpl : ((backTo pos (starEach [] X.env)).any (·.1) || (backToKw pos (keywordEach kws X.env)).any (·.1.isNone)) = false := by rfl) :
    Ev X g E (.Call (.Name x p) [] kws pos) (mKw 0 n ff aNil mk) := by
  obtain ⟨t, pk, hkw⟩ := hkw
  refine ⟨fun σ H Q => t σ H fun zs H2 => zs.length = ks.length ∧ spG g n ff zs H2 Q E, ⟨fun pins s σ H Q I h => ?_⟩, fun env s ca F P H σ Q m sl q => ?_⟩
  · refine wpAny_Call_Name_kw (ld_glob I hg hm ?_ hdb)
    refine PySem.W.callWith_KW0 (h₀ := X.base) I.ok.mod.kin hk hall (thn (pk.run pos pins s σ H _ I h) fun ws s2 ⟨zs, H2, I2, rz, hl, q2⟩ => ⟨I2.kIn, ?_⟩) hpl
    rw [hks]
    exact run_kw (us := []) (vs := []) Fk hr hb hx I2 .nil rz (by rw [← rz.length]; exact hl) q2
  · simp only [mKw, aNil, Res.bind_ok] at q
    refine hkw env s ca F P H σ _ m sl (Post.imp (Post.seq q) fun ys s1 ca1 F1 H1 k1 k2 m1 q1 vs rs => ?_)
    split at q1
    · rename_i hl
      exact ⟨by rw [← rs.length, ← hn]; exact hl.2, spG_of m1 rs hl.2 (by simpa using q1)⟩
    · exact q1.elim
def mMakeL (i c nf n : Nat) (dds : List D) (fi : List D → S → Res D) (mr : Env → S → Res (List D)) : Env → S → Res D := fun env s => match env[i]? with
  | some (some (.cls k)) => if k = c then mMake c nf n dds fi mr env s else .stuck
  | _ => .stuck
def mCm (c n : Nat) (ff : List D → S → Res D) (mo : Env → S → Res D) (mr : Env → S → Res (List D)) : Env → S → Res D := fun env s => (mo env s).bind fun x s1 => match x with
  | .cls k => if k = c then (mr env s1).bind (fun xs s2 => if xs.length + 1 = n then ff (.cls k :: xs) s2 else .stuck) else .stuck
  | _ => .stuck
def intTxt (i : Int) : Str := toString i
def bStrI : List D → S → Res D := fun xs s => match xs with
  | [.int i] => if decide (i.natAbs.log2 < 1920) = true then .ok (.str (intTxt i)) s else .stuck
  | _ => .stuck
def mFmt (me : Env → S → Res D) : Env → S → Res D := fun env s => (me env s).bind fun d s1 => match d with
  | .int i => if decide (i.natAbs.log2 < 1920) = true then .ok (.str (intTxt i)) s1 else .stuck
  | .str y => if y.length ≤ line then .ok (.str y) s1 else .stuck
  | _ => .stuck
theorem ev_fmt (h : Ev X g E e me) : Ev X g E (.FormattedValue e (-1) none pos) (mFmt me) := by
  obtain ⟨t, p, h⟩ := h
  refine ⟨_, pe_fmt p, fun env s ca F P H σ Q m sl q => ?_⟩
  refine h env s ca F P H σ _ m sl (Post.imp (Post.seq q) fun d s1 ca1 F1 H1 k1 k2 m1 q1 v rv => ?_)
  split at q1
  · split at q1
    · rename_i i hi
      simp only [Rep] at rv
      exact .inr ⟨i, rv, of_decide_eq_true hi, q1.now m1 _ (by simp only [Rep]; rfl)⟩
    · exact q1.elim
  · split at q1
    · rename_i y hy
      simp only [Rep] at rv
      exact .inl ⟨y, rv, line_le hy, q1.now m1 _ (by simp only [Rep])⟩
    · exact q1.elim
  · exact q1.elim
inductive Ej (X : Cx) (g : G) (E : XK) : List Expr → List (Env → S → Res D) → Prop where
  | nil : Ej X g E [] []
  | cons {e : Expr} {m : Env → S → Res D} {es : List Expr} {ms : List (Env → S → Res D)} (h : Ev X g E e m) (r : Ej X g E es ms) : Ej X g E (e :: es) (m :: ms)
def jRun : List (Env → S → Res D) → Str → Env → S → Res Str
  | [], acc, _, s => .ok acc s
  | m :: ms, acc, env, s => (m env s).bind fun d s1 => match d with
    | .str y => if (acc ++ y).length ≤ line then jRun ms (acc ++ y) env s1 else .stuck
    | _ => .stuck
def mJoin (ms : List (Env → S → Res D)) : Env → S → Res D := fun env s => (jRun ms Str.empty env s).bind fun x s1 => .ok (.str x) s1
theorem ej_run {es : List Expr} {ms : List (Env → S → Res D)} (h : Ej X g E es ms) : ∃ ts, PJ X es ts ∧ ∀ (env : Env) (s : S) (ca : List Addr) (F P H : Hp) (σ : L2.St) (acc : Str) (Q : Str → Hp → Prop), Sim g ca F P s H → Slots g ca F env σ →
    Post g ca F P E (fun x _ _ _ H' => Q x H') (jRun ms acc env s) → tJs ts acc σ H Q := by
  induction h with
  | nil => exact ⟨[], .nil, fun env s ca F P H σ acc Q m sl q => q.now m⟩
  | @cons e me es ms h r ih =>
    obtain ⟨ts, pj, ih⟩ := ih
    obtain ⟨t, p, h⟩ := h
    refine ⟨t :: ts, .cons p pj, fun env s ca F P H σ acc Q m sl q => ?_⟩
    refine h env s ca F P H σ _ m sl (Post.imp (Post.seq q) fun d s1 ca1 F1 H1 k1 k2 m1 q1 v rv => ?_)
    split at q1
    · split at q1
      · rename_i y hy
        simp only [Rep] at rv
        exact ⟨y, rv, line_le hy, ih env s1 ca1 F1 P H1 σ _ Q m1 (sl.mono k1 k2) q1⟩
      · exact q1.elim
    · exact q1.elim
theorem ev_join {v1 v2 : Expr} {rest : List Expr} {ms : List (Env → S → Res D)} (h : Ej X g E (v1 :: v2 :: rest) ms) : Ev X g E (.JoinedStr (v1 :: v2 :: rest) pos) (mJoin ms) := by
  obtain ⟨ts, pj, h⟩ := ej_run h
  refine ⟨_, pe_joined pj, fun env s ca F P H σ Q m sl q => ?_⟩
  exact h env s ca F P H σ _ _ m sl (Post.imp (Post.seq q) fun x s1 ca1 F1 H1 k1 k2 m1 q1 => q1.now m1 _ (by simp only [Rep]))
def addS : D → D → S → Res D := fun x y s => match x, y with
  | .str a, .str b => if a.length + b.length ≤ line then .ok (.str (a ++ b)) s else .stuck
  | _, _ => .stuck
theorem od_addS : OpD X g E (binaryOp .Add) addS := by
  refine ⟨_, op_add_str, fun x y s ca F P H v u Q m rx ry q => ?_⟩
  unfold addS at q
  split at q
  · split at q
    · rename_i a b hl
      simp only [Rep] at rx ry
      exact ⟨a, b, rx, ry, line_le hl, q.now m _ (by simp only [Rep])⟩
    · exact q.elim
  · exact q.elim
def mtCell (f : List D → List D → Option (List D)) (mo : Env → S → Res D) (mr : Env → S → Res (List D)) : Env → S → Res D := fun env s => (mo env s).bind fun x s1 => match x with
  | .cell k => (match s1[k]? with
    | some (.lst _) => (mr env s1).bind (fun ys s2 => match s2[k]? with
      | some (.lst ds) => match f ds ys with
        | some es => .ok .non (s2.set k (.lst es))
        | none => .stuck
      | _ => .stuck)
    | _ => .stuck)
  | _ => .stuck
def appF : List D → List D → Option (List D) := fun ds ys => match ys with
  | [y] => if ds.length < line then some (ds ++ [y]) else none
  | _ => none
def extF : List D → List D → Option (List D) := fun ds ys => match ys with
  | [.lst es] => if ds.length + es.length ≤ line then some (ds ++ es) else none
  | _ => none
theorem line_lt {n : Nat} (h : n < line) : n < sizeLine := Nat.lt_of_lt_of_le h (by rw [sizeLine_eq]; decide)
theorem cell_meth {T id : String} {name : Str} {r : V → List V → Hp → VK → Prop} {fl : List D → List D → Option (List D)} {K : PySem.W.Frag}
    (hr : ∀ (ds ys es : List D) (ca : List Addr) (F P H : Hp) (s : S) (a : Addr) (xs vs : List V) (Q : VK), fl ds ys = some es → Sim g ca F P s H → H a = some (.lst xs) → Reps g ca F ds xs → Reps g ca F ys vs →
      (∀ zs, Reps g ca F es zs → Q .non (upd H a (.lst zs))) → r (.ref a) vs H Q)
    {to : TE} {t : TA} (h : ∀ (env : Env) (s : S) (ca : List Addr) (F P H : Hp) (σ : L2.St) (Q : VK), Sim g ca F P s H → Slots g ca F env σ → Post g ca F P E (fun d _ ca' F' H' => ∀ v, Rep g ca' F' d v → Q v H') (mo env s) → to σ H Q)
    (ha : ∀ (env : Env) (s : S) (ca : List Addr) (F P H : Hp) (σ : L2.St) (Q : List V → Hp → Prop), Sim g ca F P s H → Slots g ca F env σ → Post g ca F P E (fun ds _ ca' F' H' => ∀ vs, Reps g ca' F' ds vs → Q vs H') (mr env s) → t σ H Q)
    {env : Env} {s : S} {ca : List Addr} {F P H : Hp} {σ : L2.St} {Q : VK} (m : Sim g ca F P s H) (sl : Slots g ca F env σ) (q : Post g ca F P E (fun d _ ca' F' H' => ∀ v, Rep g ca' F' d v → Q v H') (mtCell fl mo mr env s)) : tBM K "list" r to t σ H Q := by
  refine h env s ca F P H σ _ m sl (Post.imp (Post.seq q) fun x s1 ca1 F1 H1 k1 k2 m1 q1 v rv => ?_)
  cases x with
  | cell kk =>
    simp only [Rep] at rv
    obtain ⟨a, rfl, ha1⟩ := rv
    dsimp only at q1
    split at q1
    · rename_i ds0 hk0
      obtain ⟨xs0, hH0, _⟩ := m1.cellL ha1 hk0
      refine ⟨.inl ⟨rfl, xs0, SqL.of hH0⟩, ha env s1 ca1 F1 P H1 σ _ m1 (sl.mono k1 k2) (Post.imp (Post.seq q1) fun ys s2 ca2 F2 H2 l1 l2 m2 q2 vs rs2 => ?_)⟩
      have ha2 := prefix_get l1 ha1
      split at q2
      · rename_i ds hk
        split at q2
        · rename_i es' he
          obtain ⟨xs, hH, rs⟩ := m2.cellL ha2 hk
          refine hr ds ys es' ca2 F2 P H2 s2 a xs vs Q he m2 hH rs rs2 fun zs hz => ?_
          exact q2 ca2 F2 _ List.prefix_rfl (Sub.refl _) (m2.store ha2 hk (by intro z; cases z) ⟨_, upd_same, hz⟩) _ (by simp only [Rep])
        · exact q2.elim
      · exact q2.elim
    · exact q1.elim
  | _ => exact q1.elim
theorem ev_append (ho : Ev X g E o mo) (ha : Ea X g E (e :: es) mr) (hbase : attributeBase o "append" X.env (eval o X.env) = eval o X.env := by rfl)
    (hfew : ((backTo pos (starEach (e :: es) X.env)).all (fun x => !x.1) && (backToKw pos (keywordEach [] X.env)).all (fun x => x.1.isSome)
      && decide ((e :: es).length + ([] : List Keyword).length + (if ([] : List Keyword).isEmpty then 0 else 1) < 30)) = true := by rfl)
    (hline : (apos.endLine == pos.line) = true := by rfl) (hs : starEach (e :: es) X.env = (false, eval e X.env) :: starEach es X.env := by rfl) (hplain : (backTo pos (starEach es X.env)).any (·.1) = false := by rfl) :
    Ev X g E (.Call (.Attribute o "append" apos) (e :: es) [] pos) (mtCell appF mo mr) := by
  obtain ⟨t, p, h⟩ := ho
  obtain ⟨u, pa, ha⟩ := ha
  refine ⟨_, pe_bm PySem.F.plainAttrs_list PySem.F.slot_list_append PySem.F.type_list_append mt_append p pa hbase hfew hline hs hplain, fun env s ca F P H σ Q m sl q => cell_meth (T := "list") (id := "") (name := "") (fun ds ys es ca F P H s a xs vs Q he m hH rs rv k => ?_) h ha m sl q⟩
  unfold appF at he
  split at he
  · split at he
    · rename_i y hlt
      cases he
      obtain ⟨w, rfl, rw'⟩ := reps1 rv
      exact ⟨a, xs, w, rfl, rfl, hH, by rw [← rs.length]; exact line_lt hlt, k _ (rs.append (.one rw'))⟩
    · cases he
  · cases he
theorem ev_extend (ho : Ev X g E o mo) (ha : Ea X g E (e :: es) mr) (hbase : attributeBase o "extend" X.env (eval o X.env) = eval o X.env := by rfl)
    (hfew : ((backTo pos (starEach (e :: es) X.env)).all (fun x => !x.1) && (backToKw pos (keywordEach [] X.env)).all (fun x => x.1.isSome)
      && decide ((e :: es).length + ([] : List Keyword).length + (if ([] : List Keyword).isEmpty then 0 else 1) < 30)) = true := by rfl)
    (hline : (apos.endLine == pos.line) = true := by rfl) (hs : starEach (e :: es) X.env = (false, eval e X.env) :: starEach es X.env := by rfl) (hplain : (backTo pos (starEach es X.env)).any (·.1) = false := by rfl) :
    Ev X g E (.Call (.Attribute o "extend" apos) (e :: es) [] pos) (mtCell extF mo mr) := by
  obtain ⟨t, p, h⟩ := ho
  obtain ⟨u, pa, ha⟩ := ha
  refine ⟨_, pe_bm PySem.F.plainAttrs_list PySem.F.slot_list_extend PySem.F.type_list_extend mt_extend p pa hbase hfew hline hs hplain, fun env s ca F P H σ Q m sl q => cell_meth (T := "list") (id := "") (name := "") (fun ds ys es ca F P H s a xs vs Q he m hH rs rv k => ?_) h ha m sl q⟩
  unfold extF at he
  split at he
  · split at he
    · rename_i zs hlt
      cases he
      obtain ⟨w, rfl, rw'⟩ := reps1 rv
      simp only [Rep] at rw'
      obtain ⟨b, ws, rfl, hF, rs2⟩ := rw'
      exact ⟨a, b, xs, ws, rfl, rfl, hH, m.sub _ _ hF, by rw [← rs.length, ← rs2.length]; exact line_le hlt, k _ (rs.append rs2)⟩
    · cases he
  · cases he
def sFrz (i : Nat) (ms : Env → S → Res Fl) : Env → S → Res Fl := fun env s => (ms env s).bind fun fl s1 => match fl with
  | .nx e => (match e[i]? with
    | some (some (.cell k)) => (match s1[k]? with
      | some (.lst ds) => .ok (.nx (e.set i (some (.lst ds)))) (s1.set k .dead)
      | _ => .stuck)
    | _ => .stuck)
  | _ => .stuck
theorem sv_frz (i : Nat) {st : Stmt} {ms : Env → S → Res Fl} (h : Sv X g E st ms) : Sv X g E st (sFrz i ms) := by
  obtain ⟨t, p, h⟩ := h
  refine ⟨t, p, fun env s ca F P H σ Dn m sl q => ?_⟩
  refine h env s ca F P H σ Dn m sl (Post.imp (Post.seq q) fun fl s1 ca1 F1 H1 k1 k2 m1 q1 => ?_)
  cases fl with
  | nx e =>
    dsimp only at q1
    split at q1
    · rename_i kk hi
      split at q1
      · rename_i ds hk
        intro σ' sl'
        obtain ⟨v, hv, rv⟩ := sl'.2 i _ hi
        simp only [Rep] at rv
        obtain ⟨a, rfl, ha⟩ := rv
        obtain ⟨xs, hH, rs⟩ := m1.cellL ha hk
        obtain ⟨m2, hF⟩ := m1.freeze ha hk (by intro z; cases z) hH
        have sl2 := sl'.mono (List.prefix_rfl) (Sub.new (o := .lst xs) hF)
        refine q1 ca1 _ H1 List.prefix_rfl (Sub.new hF) m2 σ' ⟨by simpa using sl2.1, fun j d e => ?_⟩
        by_cases hj : i = j
        · subst hj
          have hl : i < _ := (List.getElem?_eq_some_iff.mp hi).1
          rw [List.getElem?_set_self hl] at e
          cases e
          refine ⟨_, hv, ?_⟩
          simp only [Rep]
          exact ⟨a, xs, rfl, upd_same, Reps.mono List.prefix_rfl (Sub.new hF) _ _ rs⟩
        · rw [List.getElem?_set_ne hj] at e
          exact sl2.2 j d e
      · exact q1.elim
    · exact q1.elim
  | rt d => exact q1.elim
  | bk e => exact q1.elim
  | ct e => exact q1.elim
end
def cutRes (k : Nat) (r : Res D) : Res D := r.bind fun d s1 => if (pureD d && cutOk (s1.take k)) = true then .ok d (s1.take k) else .stuck
theorem spG_cut {g : G} {n : Nat} {f : List D → S → Res D} {vs : List V} {H : Hp} {Q : VK} {E : XK} (h : spG g n (fun ds s => cutRes s.length (f ds s)) vs H Q E) : spG g n f vs H Q E := by
  obtain ⟨ds, ca, F, P, s, hl, m, rs, q⟩ := h
  refine ⟨ds, ca, F, P, s, hl, m, rs, Post.imp (Post.seq0 q) fun d s1 ca1 F1 H1 k1 k2 m1 q1 v rv => ?_⟩
  split at q1
  · rename_i hc
    simp only [Bool.and_eq_true] at hc
    obtain ⟨t, rfl⟩ := k1
    have hlen := m.len
    have m2 := m1.cut (by rw [hlen]; exact cutOk_mem hc.2)
    rw [hlen] at m2
    exact q1 ca F1 H1 List.prefix_rfl k2 m2 v (Rep.bare _ _ hc.1 rv)
  · exact q1.elim
theorem FnCut {Pr : Program} {w : World} {K : PySem.W.Frag} {mg : Str → Option Value} {base : Heap} {CX : CXT} {k : Nat} {fa : Addr} {fd : FuncData} {ps : List Str} {g : G} {n : Nat} {f : List D → S → Res D}
    (F : FnOk Pr w K mg base CX k fa fd ps (spG g n f)) : FnOk Pr w K mg base CX k fa fd ps (spG g n fun ds s => cutRes s.length (f ds s)) := F.imp fun _ _ _ _ h => spG_cut h
end Pm
set_option Elab.async false
set_option linter.all false
set_option maxRecDepth 100000
set_option maxHeartbeats 2000000
namespace Pm
open PySem PySem.Spec PyProof.Rows L2
def FnG (Pr : Program) (w : World) (K : PySem.W.Frag) (mg : Str → Option Value) (base : Heap) (k : Nat) (fa : Addr) (sp : Sp) : Prop :=
  ∀ (A : Around) (outer : List PySem.Env) (s : Shared) (H : Hp) (us : List Value) (vs : List V) (Q : VK) (E : XK), Room k A → A.guards = some [] → Env0 Pr w K mg base A outer s H → Vals vs us → sp vs H Q E →
    codeAny (model Pr w) A (.call (.ref fa) ⟨us, []⟩) (CR (L2.CX Pr w) outer Pr w H s Q E) s
theorem FnG.mono {Pr : Program} {w : World} {K : PySem.W.Frag} {mg : Str → Option Value} {base : Heap} {j k : Nat} {fa : Addr} {sp : Sp} (F : FnG Pr w K mg base j fa sp) (h : j ≤ k) : FnG Pr w K mg base k fa sp :=
  fun A outer s H us vs Q E hr => F A outer s H us vs Q E (hr.mono h)
theorem end_of {Pr : Program} {w : World} {K : PySem.W.Frag} {mg : Str → Option Value} {base : Heap} {N : List Str} {qual : Str} {scope : Scope} {fa : Addr} {cdv : Value} {A : Around} {outer : List PySem.Env} {s : Shared} {H : Hp} {E : XK} {Q : VK} {fl : Flow} {s' : Shared}
    (hs : SP (cxOf (L2.CX Pr w) Pr w K mg base N qual scope fa cdv A outer s H E) [] { nx := fun _ H' => Q .non H', rt := Q } fl s') :
    match fl with
    | .ret u => CE outer Pr w H s Q u s'
    | .next => CE outer Pr w H s Q .none s'
    | _ => False := by
  cases fl with
  | ret u => obtain ⟨v, _, H', J, rv, q⟩ := hs; exact ⟨v, H', J.os, J.bare, J.base, J.hok, rv, q⟩
  | next => obtain ⟨_, H', J, q⟩ := hs; exact ⟨.non, H', J.os, J.bare, J.base, J.hok, rfl, q⟩
  | brk => obtain ⟨_, _, _, q⟩ := hs; exact q
  | cont => obtain ⟨_, _, _, q⟩ := hs; exact q
theorem fnG_def {Pr : Program} {w : World} {K : PySem.W.Frag} {mg : Str → Option Value} {base : Heap} {g : G} {x qual : Str} {st : Stmt} {fa : Addr} {fd : FuncData} {N ps : List Str} {k n : Nat} {body : Env → S → Res Fl}
    (F : Fun K x qual st fa fd) (Sc : FnScope N ps (defScope st)) (hb : Binds K fd ps []) (hn : n = ps.length)
    (body_ok : ∀ (cdv : Value) (A : Around) (outer : List PySem.Env) (s : Shared) (H : Hp) (E : XK), Room k (A.deeper (envOfC qual (defScope st) s.heap.objs.size fa cdv)) → A.guards = some [] →
      Svs (cxOf (L2.CX Pr w) Pr w K mg base N qual (defScope st) fa cdv A outer s H E) g E (defBody st) body) : FnG Pr w K mg base (k + 1) fa (spG g n (runBody n N.length body)) := by
  intro A outer s H us vs Q E hr hgd e0 rv hsp
  obtain ⟨oc, od, kV, doc, pm, an, cdv, ct, osl, rfl, lk, hcd⟩ := F.ex
  have hvl : vs.length = ps.length := by obtain ⟨_, _, _, _, _, h, _⟩ := hsp; exact h.trans hn
  have hin : K.In s.heap := e0.mod.kin.keeps fun _ _ z => (e0.bs _ _ z).1
  have bound := hb s us hin (by rw [List.append_nil, ← rv.length]; exact hvl)
  rw [List.append_nil] at bound
  refine codeAny_call_function hr.depth (hin fa _ lk) rfl Sc.co Sc.gen rfl (PySem.W.codeRec_of hin hcd) (bound _ _ _ _ (wpAny_newFunctionEnv_cells Sc.kind (fun y hy => ?_) fun env he s1 inb => ?_))
  · have hm := (List.of_mem_zip (a := y.1) (b := y.2) hy).1
    exact (Sc.par y.1 hm).imp id fun c => ⟨c, PySem.W.cellsFrom_some _ _ _ (.inl c)⟩
  · subst he
    obtain ⟨t, pst, ht⟩ := body_run (body_ok cdv A outer s H E (hr.deeper _) hgd) hsp
    have I := inv_start (CX := L2.CX Pr w) (E := E) Sc hr.hd e0 hvl rv inb
    have nolim : s.heap.NoLimit := e0.mod.nolimit.keeps fun _ _ z => (e0.bs _ _ z).1
    refine ⟨nolim.keeps inb.toInCall.keep, codeAny_func (wpAny_mono (pst.run [] s1 _ H _ I ht) (fun fl s' hs => ?_) fun _ _ z => z)⟩
    have := end_of hs
    cases fl with
    | ret u => exact this
    | next => exact this
    | brk => exact this.elim
    | cont => exact this.elim
section
variable {X : Cx} {g : G} {E : XK} {c k n : Nat} {fa : Addr} {ff : List D → S → Res D} {x : Str} {p pos : Pos} {e : Expr} {es : List Expr} {mr : Env → S → Res (List D)}
theorem ev_callG (Fk : FnG X.prog X.w X.K X.mg X.base k fa (spG g n ff)) (hr : Room k X.A) (hgd : X.A.guards = some []) (hg : Gl X x) (hm : X.mg x = some (.ref fa)) (hk : PySem.W.keepIn X.K (.ref fa) = true) (hx : Passes (L2.CX X.prog X.w) X E)
    (ha : Ea X g E (e :: es) mr) (hdb : (x == ("__debug__" : Str)) = false := by decide) (he : starEach (e :: es) X.env = (false, eval e X.env) :: starEach es X.env := by rfl) (hpl : (backTo pos (starEach es X.env)).any (·.1) = false := by rfl) :
    Ev X g E (.Call (.Name x p) (e :: es) [] pos) (mCallD (n := n) [] ff mr) := by
  obtain ⟨t, pa, ha⟩ := ha
  refine ⟨fun σ H Q => t σ H fun vs H1 => spG g n ff vs H1 Q E, ⟨fun pins s σ H Q I h => ?_⟩, fun env s ca F P H σ Q m sl q => ?_⟩
  · refine wpAny_Call_Name_kw (ld_glob I hg hm ?_ hdb)
    refine PySem.W.callWith_K (h₀ := X.base) I.ok.mod.kin hk (thn (pa.run pos pins s σ H _ I h) fun us s1 ⟨vs, H1, I1, r, q⟩ => ⟨I1.kIn, ?_⟩) he hpl
    refine wpAny_call (codeAny_mono (Fk X.A X.stack s1 H1 us vs Q E hr hgd I1.env0 r q) fun r s' hq => ?_)
    cases r with
    | error er => exact hx pins σ H1 s1 er s' I1 hq
    | ok fl =>
      cases fl with
      | ret u => exact I1.after hq
      | next => exact False.elim hq
      | brk => exact False.elim hq
      | cont => exact False.elim hq
  · refine ha env s ca F P H σ _ m sl (Post.imp (Post.seq q) fun xs s1 ca1 F1 H1 k1 k2 m1 q1 vs rs => ?_)
    split at q1
    · rename_i hl
      exact spG_of m1 rs (by simpa using hl) (by simpa using q1)
    · exact q1.elim
def bRepr : List D → S → Res D := fun xs s => match xs with
  | [x] => match toPy x with
    | some d => if (SeqAt.shaped d && d.showable && decide (d.shown.length ≤ line)) = true then .ok (.str d.shown) s else .stuck
    | none => .stuck
  | _ => .stuck
def isSeqD : D → Bool
  | .lst _ => true
  | .ro _ => true
  | .tup _ => true
  | .rot _ => true
  | _ => false
theorem toPy_ref {ca : List Addr} {F : Hp} {d : D} {v : V} (h : isSeqD d = true) (r : Rep g ca F d v) : ∃ a, v = .ref a := by
  cases d <;> first | (cases h; done) | (simp only [Rep] at r; obtain ⟨a, _, e, _⟩ := r; exact ⟨a, e⟩)
theorem cd_reprD (hK : g.K = X.K) (hgd : X.A.guards = some []) (hu : X.A.units + 66 < cLine) : CallD X g E (.builtin "repr") (fun xs s => match xs with
    | [x] => if isSeqD x = true then bRepr [x] s else .stuck
    | _ => .stuck) := by
  refine ⟨fun vs H Q => ∃ a d, vs = [.ref a] ∧ Dp X.K H (.ref a) d ∧ SeqAt.shaped d = true ∧ d.showable = true ∧ d.shown.length ≤ sizeLine ∧ Q (.str d.shown) H, fun pins s σ H vs us Q I r h => ?_, fun xs s ca F P H vs Q m rs q => ?_⟩
  · obtain ⟨a, d, rfl, hd, hsh, hsw, hl, q⟩ := h
    obtain ⟨u, rfl, ru⟩ := vals1 r
    cases (show u = Value.ref a from ru)
    obtain ⟨as, hr⟩ := Dp.reads I d _ _ hd rfl
    have hdep := SeqAt.depth_of_shaped hsh
    refine repr_of_reads' hr hsw (PyData.noDict_hsm (PyData.hasDict_of_canLay _ (SeqAt.canLay_of_shaped hsh))) hgd (by omega) (fun _ _ z => z) (fun h' u tk hk => ⟨.str d.shown, H, I.kept hk, ⟨_, rfl⟩, q⟩) hl
  · dsimp only at q
    split at q
    · split at q
      · rename_i x hsq
        unfold bRepr at q
        dsimp only at q
        split at q
        · rename_i d hd
          split at q
          · rename_i hc
            simp only [Bool.and_eq_true, decide_eq_true_eq] at hc
            obtain ⟨v, rfl, r⟩ := reps1 rs
            have hp := dp_of hK m.sub _ _ _ hd r
            obtain ⟨a, rfl⟩ := toPy_ref hsq r
            exact ⟨a, d, rfl, hp, hc.1.1, hc.1.2, line_le hc.2, q.now m _ (by simp only [Rep])⟩
          · exact q.elim
        · exact q.elim
      · exact q.elim
    · exact q.elim
structure NeF (K : PySem.W.Frag) (C : Addr) (f : Addr) : Prop where
  hs : PySem.W.findIn K (.ref C) "__eq__" = some (some (.ref f))
  hf : PySem.W.isFn K (.ref f) = true
  hn : PySem.W.findIn K (.ref C) "__ne__" = some (some (.builtin "object.__ne__"))
  mr : PySem.W.mroIn K C (.type "object") = some true
section
open PySem.W PySem.Builtin
variable {prog : Program} {w : World} {A : Around} {E : Value → Shared → Prop} {s : Shared} {K : Frag} {x y C L f : Addr} {h₀ : Heap} {m : Str → Option Value} {ox oy : Obj} {od od' : Option Obj}
theorem ne_own {Q : Value → Shared → Prop} (hu : A.units + 1 < cLine) (X : K.In s.heap) (I : InstAt s.heap x ox C od) (J : InstAt s.heap y oy C od') (o : NeF K C f)
    (h : wpAny (model prog w) A.in1 (call (.ref f) [.ref x, .ref y]) (fun v s' => ∃ b, v = .bool b ∧ Q (.bool (!b)) s') E s) : wpAny (model prog w) A (compareOp .NotEq (.ref x) (.ref y)) Q E s := by
  have inner : wpAny (model prog w) A (call (.builtin "object.__ne__") [.ref x, .ref y]) (fun v s' => ∃ b, v = .bool b ∧ Q (.bool b) s') E s := by
    refine wpAny_call (codeAny_call_builtin PySem.F.slot_enumerate_ne.plain PySem.F.cmpEntry_ne (check_slot (i := "object.__ne__") (owner := "object") (n := "__ne__") PySem.F.cmpKind_ne PySem.F.cmpSplit_ne (I.type.andThen (looks_mroIn X o.mr)) (PySem.F.cmpArgs_ne _ _) ?_))
    unfold Builtin.«object.__ne__»
    refine wpAny_bind (m := slotArgs "__ne__" 1 _) (wpAny_pure ?_)
    refine wpAny_bind (m := cRoomFor _ _) (wpAny_cRoomFor hu ?_)
    refine wpAny_bind (m := callSpecialIfBound? (.ref x) (Str.ofString "__eq__") [.ref y]) (ifBound_K X I o.hs o.hf (wpAny_mono h (fun r s' hq => ?_) fun _ _ y => y))
    obtain ⟨b, rfl, hq⟩ := hq
    refine wpAny_bind (m := truthy (.bool _)) (wpAny_truthy_bool ?_)
    exact wpAny_pure ⟨_, rfl, hq⟩
  have one : wpAny (model prog w) A (tryCompare (.ref x) "__ne__" (.ref y)) (fun r s' => ∃ v, r = some v ∧ Q v s') E s := by
    unfold tryCompare
    refine wpAny_bind (m := callSpecialIfBound? (.ref x) _ [.ref y]) ?_
    simp only [callSpecialIfBound?, bindSpecialIfBound?]
    refine wpAny_holding (wpAny_bind (wpAny_bind (wpAny_bind (I.type.here ((looks_findIn X o.hn).here ?_)))))
    have hb : bindSpecial (.builtin "object.__ne__") (.ref x) = pure (.builtin "object.__ne__", [.ref x]) := PySem.F.slot_enumerate_ne.bind _
    refine wpAny_bind (wpAny_askSetting (wpAny_ite ?_))
    have fin : wpAny (model prog w) A (call (.builtin "object.__ne__") ([.ref x] ++ [.ref y]) >>= fun v => pure (some v)) (fun r s' => ∃ b, r = some (.bool b) ∧ Q (.bool b) s') E s := wpAny_bind (wpAny_mono inner (fun v s' h' => by obtain ⟨b, rfl, hq⟩ := h'; exact wpAny_pure ⟨b, rfl, hq⟩) fun _ _ h' => h')
    have done : ∀ {r : Option Value} {s' : Shared}, (∃ b, r = some (.bool b) ∧ Q (.bool b) s') → wpAny (model prog w) A (match r with | some .notImplemented => pure none | none => pure none | some v => pure (some v)) (fun r s' => ∃ v, r = some v ∧ Q v s') E s' := fun h' => by
      obtain ⟨b, rfl, hq⟩ := h'
      exact wpAny_pure ⟨_, rfl, hq⟩
    split
    · exact wpAny_bind (wpAny_of_eq hb (wpAny_pure (wpAny_mono fin (fun r s' h' => by obtain ⟨b, rfl, hq⟩ := h'; exact wpAny_pure ⟨_, rfl, hq⟩) fun _ _ z => z)))
    · exact wpAny_tryCatch (wpAny_bind (wpAny_of_eq hb (wpAny_pure (wpAny_mono fin (fun r s' h' => by obtain ⟨b, rfl, hq⟩ := h'; exact wpAny_pure ⟨_, rfl, hq⟩) fun _ _ z => z))))
  refine cmp_ofNotEq ?_
  unfold richCompare
  simp only [oneThing_ref]
  refine wpAny_holding (wpAny_bind (wpAny_cRoomFor (Nat.lt_of_succ_lt hu) ?_))
  refine wpAny_bind (I.type.here (wpAny_bind (J.type.here ?_)))
  rw [show (Value.ref C != Value.ref C) = false from by simp]
  simp only [Bool.false_eq_true, if_false]
  refine wpAny_bind (wpAny_pure ?_)
  simp only [Bool.false_eq_true, if_false]
  refine wpAny_bind (wpAny_mono one (fun r s' z => ?_) fun _ _ e => e)
  obtain ⟨v, rfl, hq⟩ := z
  exact wpAny_pure hq
end
section
variable {X : Cx} {g : G} {E : XK} {CX : CXT} {c k : Nat} {f : Addr} {fd : FuncData} {ps : List Str} {ff : List D → S → Res D}
def neOwn (c : Nat) (ff : List D → S → Res D) : D → D → S → Res D := fun x y s => match x, y with
  | .ins k fs, .ins k' fs' => if k = c ∧ k' = c then (ff [.ins k fs, .ins k' fs'] s).bind (fun d s1 => match d with
    | .bl b => .ok (.bl (!b)) s1
    | _ => .stuck) else .stuck
  | _, _ => .stuck
theorem od_neOwn (o : NeF X.K (g.cls c) f) (Fk : FnOk X.prog X.w X.K X.mg X.base CX k f fd ps (spG g 2 ff)) (hr : Room (k + 1) X.A) (hb : Binds X.K fd ps []) (hx : Passes CX X E) : OpD X g E (compareOp .NotEq) (neOwn c ff) := by
  refine ⟨fun v u H Q => ∃ a b dx dy fs gs, v = .ref a ∧ u = .ref b ∧ H a = some (.ins (g.cls c) dx fs) ∧ H b = some (.ins (g.cls c) dy gs) ∧ spG g 2 ff [v, u] H (fun z H' => ∃ b, z = .bl b ∧ Q (.bl (!b)) H') E, fun pins s σ H x y v u Q I rx ry h => ?_, fun x y s ca F P H v u Q m rx ry q => ?_⟩
  · obtain ⟨a, b, dx, dy, fs, gs, rfl, rfl, ea, eb, h⟩ := h
    cases (show v = Value.ref a from rx)
    cases (show u = Value.ref b from ry)
    obtain ⟨od, J, e⟩ := ins_at I ea
    obtain ⟨od', J', e'⟩ := ins_at I eb
    have hr1 : Room k X.A.in1 := Room.in1 hr
    refine ne_own (by have := hr.units; omega) I.kIn J J' o (wpAny_mono (wpAny_call (SlX.run_at (us := [.ref a, .ref b]) (ws := [.ref a, .ref b]) (Fk.raw hb .nil) hr1 I.env0.in1 hx I (.cons rfl (.cons rfl .nil)) (by rw [List.append_nil]; exact h))) (fun u s' q => ?_) fun _ _ z => z)
    obtain ⟨v, H', I', rv, b', rfl, q⟩ := q
    cases (show u = Value.bool b' from rv)
    exact ⟨b', rfl, .bl (!b'), H', I', rfl, q⟩
  · unfold neOwn at q
    split at q
    · split at q
      · rename_i hk
        obtain ⟨rfl, hk2⟩ := hk
        subst hk2
        have rx' := rx
        have ry' := ry
        simp only [Rep] at rx ry
        obtain ⟨a, dx, xs, rfl, hF, _⟩ := rx
        obtain ⟨b, dy, ys, rfl, hF2, _⟩ := ry
        refine ⟨a, b, dx, dy, _, _, rfl, rfl, m.sub _ _ hF, m.sub _ _ hF2, sp2 m rx' ry' (Post.imp (Post.seq q) fun d s1 ca1 F1 H1 k1 k2 m1 q1 v rv => ?_)⟩
        cases d with
        | bl b =>
          simp only [Rep] at rv
          exact ⟨b, rv, q1.now m1 _ rep_bl⟩
        | _ => exact q1.elim
      · exact q.elim
    · exact q.elim
end
end
end Pm
set_option Elab.async false
set_option linter.all false
set_option maxRecDepth 100000
set_option maxHeartbeats 2000000
namespace Pm
open PySem PySem.Spec PyProof.Rows L2
open PyProof in
theorem bo_int : bootBuiltins "int" = some (.type "int") := boot_int
open PyProof in
theorem bo_bool : bootBuiltins "bool" = some (.type "bool") := boot_bool
open PyProof in
theorem bo_list : bootBuiltins "list" = some (.type "list") := boot_list
open PyProof in
theorem bo_tuple : bootBuiltins "tuple" = some (.type "tuple") := boot_tuple
open PyProof in
theorem bo_isinstance : bootBuiltins "isinstance" = some (.builtin "isinstance") := boot_isinstance
open PyProof in
theorem bo_len : bootBuiltins "len" = some (.builtin "len") := boot_len
open PyProof in
theorem bo_abs : bootBuiltins "abs" = some (.builtin "abs") := boot_abs
open PyProof in
theorem bo_max : bootBuiltins "max" = some (.builtin "max") := boot_max
open PyProof in
theorem bo_divmod : bootBuiltins "divmod" = some (.builtin "divmod") := boot_divmod
open PyProof in
theorem bo_all : bootBuiltins "all" = some (.builtin "all") := boot_all
open PyProof in
theorem bo_repr : bootBuiltins "repr" = some (.builtin "repr") := boot_repr
theorem _root_.L2.Room.un64 {k : Nat} {A : Around} (h : Room k A) : A.units + 64 < cLine := by have := h.un; omega
theorem _root_.L2.Room.un66 {k : Nat} {A : Around} (h : Room k A) : A.units + 66 < cLine := by have := h.un; omega
theorem passK {P : Program} {w : World} {X : Cx} : Passes (L2.CX P w) X E0 := fun _ _ _ _ _ _ _ ⟨_, _, _, _, _, _, _, _, _, _, _, _, h⟩ => h.elim
section
variable {X : Cx} {g : G} {E : XK}
def addAll : D → D → S → Res D := fun x y s => (addD x y s).or (addS x y s)
theorem od_addAll : OpD X g E (binaryOp .Add) addAll := od_addD.or od_addS
theorem fn_never {P : Program} {w : World} {K : PySem.W.Frag} {mg : Str → Option Value} {base : Heap} {CX : CXT} {k n : Nat} {f : Addr} {fd : FuncData} {ps : List Str} : FnOk P w K mg base CX k f fd ps (spG g n fun _ _ => .stuck) :=
  ⟨fun vs H Q E ⟨_, _, _, _, _, _, _, _, h⟩ => h.elim, fun A outer s H args us vs Q E hr he hb hv ⟨_, _, _, _, _, _, _, _, h⟩ => h.elim⟩
def BindsV (K : PySem.W.Frag) (fd : FuncData) (ps : List Str) (dvs : List V) : Prop := ∃ ds, Vals dvs ds ∧ Binds K fd ps ds
variable {CX : CXT} {c k n nf : Nat} {f C : Addr} {fd : FuncData} {ps ks : List Str} {ff fi : List D → S → Res D} {x m nm : Str} {p pos apos kpos : Pos} {e o : Expr} {es : List Expr} {kws : List Keyword} {me mo : Env → S → Res D} {mr mk : Env → S → Res (List D)} {dvs : List V} {dds : List D}
theorem ev_makeV (M : Mk X.K (g.cls c) f) (Fk : FnOk X.prog X.w X.K X.mg X.base CX k f fd ps (spG g n fi)) (hnf : nf = (g.fn c).length) (hr : Room (k + 1) X.A) (hg : Gl X x) (hm : X.mg x = some (.ref (g.cls c))) (hb : BindsV X.K fd ps dvs) (hdd : ∀ ca F, Reps g ca F dds dvs) (hx : Passes CX X E)
    (ha : Ea X g E (e :: es) mr) (hdb : (x == ("__debug__" : Str)) = false := by decide) (he : starEach (e :: es) X.env = (false, eval e X.env) :: starEach es X.env := by rfl) (hpl : (backTo pos (starEach es X.env)).any (·.1) = false := by rfl) :
    Ev X g E (.Call (.Name x p) (e :: es) [] pos) (mMake c nf n dds fi mr) := by
  obtain ⟨ds, hd, hb⟩ := hb
  exact ev_make M Fk hnf hr hg hm hb hd hdd hx ha hdb he hpl
def sPar3 (i j l : Nat) (mr : Env → S → Res (List D)) : Env → S → Res Fl := fun env s => (mr env s).bind fun ds s1 => match ds with
  | [x, y, z] => .ok (.nx (((env.set i (some x)).set j (some y)).set l (some z))) s1
  | _ => .stuck
end
end Pm
set_option Elab.async false
set_option linter.all false
set_option maxRecDepth 100000
set_option maxHeartbeats 2000000
namespace Pm
open PySem PySem.Spec PyProof.Rows L2
theorem start_env {P : Program} {w : World} {K : PySem.W.Frag} {mg mb : Str → Option Value} {a : Addr} {t : Shared} {us : List Value} {ns : List Int}
    (hK : K.In t.heap) (hG : t.heap.Ns mainGlobals mg) (hB : t.heap.Ns builtinsNs mb) (hbo : ∀ x : Str, x ≠ "__name__" → mb x = bootBuiltins x) (hN : t.heap.NoLimit) (hgen : t.gens = #[])
    (hobj : t.heap.get? a = some { cls := .type "list", data := .seq us.toArray }) (hints : IntsAre us ns) (hlen : ns.length ≤ sizeLine) :
    ∃ H : Hp, Only H ∧ SqL K H a (ns.map V.int) ∧ Env0 P w K mg (hidT t.heap H) callerA [] t H ∧ K.In (hidT t.heap H) ∧ (hidT t.heap H).Ns mainGlobals mg := by
  have hv : Vals (ns.map V.int) us := vals_ints hints
  -- the common part: a view in which at most the script is told
  have common : ∀ H : Hp, HOk P w H t.heap → (∀ b, H b ≠ none → b = a) → (H a ≠ none → K.lookup a = none) →
      Env0 P w K mg (hidT t.heap H) callerA [] t H ∧ K.In (hidT t.heap H) ∧ (hidT t.heap H).Ns mainGlobals mg := by
    intro H ok only out
    have stays : ∀ {b : Addr} {z : Obj}, t.heap.get? b = some z → H b = none → (hidT t.heap H).get? b = some z := fun p q => hidT_get p q
    have notScript : ∀ {b : Addr} {z : Obj} {q : Array DictEntry} {j : Nat}, t.heap.get? b = some z → z.data = .dict q j → H b = none := by
      intro b z q j p d
      by_cases hb : H b = none
      · exact hb
      · have e := only b hb
        rw [e, hobj] at p
        have e2 := Option.some.inj p
        rw [← e2] at d
        exact absurd (show Data.seq us.toArray _ = Data.dict q j from d) (by intro c; cases c)
    have names : ∀ {b : Addr} {m : Str → Option Value}, t.heap.Ns b m → (hidT t.heap H).Ns b m := by
      intro b m hm
      obtain ⟨z, q, j, p, d, r⟩ := hm
      exact ⟨z, q, j, stays p (notScript p d), d, r⟩
    have kin : K.In (hidT t.heap H) := by
      intro b z e
      refine stays (hK b z e) ?_
      by_cases hb : H b = none
      · exact hb
      · have eb := only b hb
        subst eb
        rw [out hb] at e
        cases e
    refine ⟨⟨rfl, ⟨kin, names hG, ⟨mb, names hB, hbo⟩, ?_⟩, ?_, Nat.le_of_eq (hidT_size _ _), trivial, ?_, ok, .of_eq hgen⟩, kin, names hG⟩
    · obtain ⟨m, p, q⟩ := hN
      exact ⟨m, names p, q⟩
    · intro b z e
      exact of_hidT e
    · intro b hb
      cases hb
  cases hk : K.lookup a with
  | some z =>
    have e := hK a z hk
    rw [hobj] at e
    have e := Option.some.inj e
    subst e
    refine ⟨fun _ => none, fun _ => .inl rfl, .inr ⟨_, us.toArray, _, hk, rfl, rfl, rfl, ?_, ?_⟩, common _ ?_ (fun b q => absurd rfl q) fun q => absurd rfl q⟩
    · rw [List.size_toArray, hints.length]
      exact hlen
    · simpa using hv
    · intro b u q
      have q : (none : Option HO) = some u := q
      cases q
  | none =>
    refine ⟨fun b => if b = a then some (.frz { cls := .type "list", data := .seq us.toArray } (.lst (ns.map V.int))) else none, fun b => ?_, .inl (.inr ⟨{ cls := .type "list", data := .seq us.toArray }, if_pos rfl⟩), common _ ?_ ?_ fun _ => hk⟩
    · by_cases hb : b = a
      · exact .inr ⟨_, _, if_pos hb⟩
      · exact .inl (if_neg hb)
    · intro b u q
      by_cases hb : b = a
      · subst hb
        have q := (if_pos rfl).symm.trans q
        cases q
        exact ⟨hobj, by rw [List.length_map]; exact hlen, us, _, hv, hobj⟩
      · have q := (if_neg hb).symm.trans q
        cases q
    · intro b q
      by_cases hb : b = a
      · exact hb
      · exact absurd (if_neg hb) q
theorem law_callG {P : Program} {w : World} {K : PySem.W.Frag} {mg mb : Str → Option Value} {k : Nat} {fa a : Addr} {sp : Sp} {t : Shared} {us : List Value} {ns : List Int}
    (hK : K.In t.heap) (hG : t.heap.Ns mainGlobals mg) (hB : t.heap.Ns builtinsNs mb) (hbo : ∀ x : Str, x ≠ "__name__" → mb x = bootBuiltins x) (hN : t.heap.NoLimit) (hgen : t.gens = #[])
    (hobj : t.heap.get? a = some { cls := .type "list", data := .seq us.toArray }) (hints : IntsAre us ns) (hlen : ns.length ≤ sizeLine) (hr : Room k callerA)
    (F : ∀ base : Heap, FnG P w K mg base k fa sp) (hsp : ∀ H : Hp, SqL K H a (ns.map V.int) → sp [.ref a] H (fun v _ => v = .bl true) fun _ _ _ => False) :
    codeAny (model P w) callerA (.call (.ref fa) ⟨[.ref a], []⟩) (fun r t' => r = .ok (.ret (.bool true)) ∧ OldK t.heap t'.heap ∧ t'.os = t.os ∧ AllBare t'.gens) t := by
  obtain ⟨H, only, hS, e0, _, _⟩ := start_env (P := P) (w := w) hK hG hB hbo hN hgen hobj hints hlen
  refine codeAny_mono (F _ callerA [] t H [.ref a] [.ref a] (fun v _ => v = .bl true) (fun _ _ _ => False) hr rfl e0 (.cons rfl .nil) (hsp H hS)) ?_
  intro r t' back
  cases r with
  | error z =>
    obtain ⟨_, _, _, _, _, _, _, _, _, _, _, _, no⟩ := back
    exact no.elim
  | ok fl =>
    cases fl with
    | ret u =>
      obtain ⟨v, H', hos, hbare, un, ok', rv, ev⟩ := back
      have ev : v = .bl true := ev
      subst ev
      have eu : u = Value.bool true := rv
      subst eu
      refine ⟨rfl, OldK.of_keep fun b z p => ?_, hos, hbare⟩
      have noMem : ¬ b ∈ ([] : List Addr) := by simp
      by_cases hb : H b = none
      · exact un.keep b z p hb (fun q => absurd (show b ∈ ([] : List Addr) from q) noMem) noMem
      · rcases only b with q | ⟨zz, xs, q⟩
        · exact absurd q hb
        · have p1 := (e0.hok b _ q).1
          have p2 := (ok' b _ (un.frzs b zz _ q)).1
          rw [p] at p1
          cases p1
          exact p2
    | next => exact False.elim back
    | brk => exact False.elim back
    | cont => exact False.elim back
theorem walkG {l : PySem.W.OpenLaw} {n k : Nat} {q : Program} {loose : List Str} {XP : (Str → Option Value) → Heap → Prop} {YP : World → Heap → Prop} {d : DefRec} {m : List D → S → Res D}
    (hn : l.most = some n) (hn2 : n ≤ sizeLine) (hdf : d.params.defaults = []) (hr : Room k callerA)
    (F : ∀ (w : World) (mg : Str → Option Value) (fa : Addr) (h : Heap), YP w h → h.Ns mainGlobals mg → mg d.name = some (.ref fa) → ∃ (K : PySem.W.Frag) (g : G), K.In h ∧ g.K = K ∧ ∀ base : Heap, FnG l.prog w K mg base k fa (spG g 1 m))
    (ans : ∀ ns : List Int, ns.length ≤ n → ∃ s, m [.ro (ns.map D.int)] [] = .ok (.bl true) s) :
    PySem.W.WalkO q loose XP YP l.row.toRowW d [] (fun f vs => PySem.call f vs) := by
  refine Att.attach_call hn hdf fun w t0 t mg mb fa o pm cd doc a us ns Gr Y ho hd hcd hmg hobj hints hlen hgen => ?_
  obtain ⟨K, g, hK, eg, FG⟩ := F w mg fa _ Y Gr.T.g hmg
  refine law_callG hK Gr.T.g Gr.T.b Gr.T.builtins Gr.T.nolimit hgen hobj hints (Nat.le_trans hlen hn2) hr FG fun H hS => ?_
  obtain ⟨s, e⟩ := ans ns hlen
  have allI : ∀ l : List Int, Reps g [] H (l.map D.int) (l.map V.int) := by
    intro l
    induction l with
    | nil => exact .nil
    | cons i l ih => exact .cons rep_int ih
  have sim0 : Sim g [] H (fun _ => none) [] H := by
    refine ⟨Sub.refl _, ?_, ?_, rfl, ?_, ?_, ?_⟩
    · intro b z q
      have q : (none : Option HO) = some z := q
      cases q
    · intro b z q
      have q : (none : Option HO) = some z := q
      cases q
    · intro i j b q
      simp at q
    · intro i b q
      simp at q
    · intro i b c q
      simp at q
  refine ⟨[.ro (ns.map D.int)], [], H, fun _ => none, [], rfl, sim0, ?_, ?_⟩
  · refine .cons ?_ .nil
    simp only [Rep]
    exact ⟨a, ns.map V.int, rfl, by rw [eg]; exact hS, allI ns⟩
  · rw [e]
    intro ca' F' H' _ _ _ v rv
    simpa only [Rep] using rv
end Pm
set_option Elab.async false
set_option linter.all false
set_option maxRecDepth 100000
set_option maxHeartbeats 2000000
namespace Pm
open PySem PySem.Spec PyProof.Rows L2
abbrev Fr' := PySem.W.Frag
structure DefP where
  place : Fr' → Addr
  nm : Str
  qn : Str
  st : Stmt
  dv : List V := []
  /-- an __init__ that says super() -/
  own : Bool := false
def DefP.see (K : Fr') (p : DefP) : He.FnW :=
  match K.lookup (p.place K) with
  | some ⟨_, _, .func z, _⟩ => some (z.name, z.qualname, z.params, z.body, z.scope, z.globals, (if p.own then z.closure.map (fun c => (c.1, 0)) else z.closure), z.builtins)
  | _ => none
def DefP.due (p : DefP) : He.FnW := some (p.nm, p.qn, defArgs p.st, .stmts (defBody p.st), defScope p.st, mainGlobals, (if p.own then [("__class__", 0)] else []), builtinsNs)
def DefP.fine (K : Fr') (p : DefP) : Bool :=
  PySem.W.keepIn K (.ref (p.place K)) &&
    match K.lookup (p.place K) with
    | some ⟨_, _, .func z, _⟩ => PySem.W.codeIn K z.code p.qn && (He.dflB K z.defaults p.dv && He.kwdB K z.kwdefaults [])
    | _ => false
theorem and2 {a b : Bool} (h : (a && b) = true) : a = true ∧ b = true := by simpa using h
theorem DefP.fund {K : Fr'} {p : DefP} (ho : p.own = false) (e : p.see K = p.due) (c : p.fine K = true) : ∃ fd, FunD K p.nm p.qn (defArgs p.st) (defBody p.st) (defScope p.st) p.dv [] (p.place K) fd := by
  obtain ⟨kp, c⟩ := and2 c
  unfold DefP.see DefP.due at e
  rw [ho] at e
  simp only [Bool.false_eq_true, if_false] at e
  split at e
  · rename_i oc od z sl lk
    rw [lk] at c
    obtain ⟨c1, c⟩ := and2 c
    obtain ⟨c2, c3⟩ := and2 c
    cases z
    simp only [Option.some.injEq, Prod.mk.injEq] at e
    obtain ⟨e1, e2, e3, e4, e5, e6, e7, e8⟩ := e
    subst e1 e2 e3 e4 e5 e6 e7 e8
    exact ⟨_, ⟨_, _, _, _, _, _, _, _, _, _, rfl, lk, c1, He.dflB_ok c2, He.kwdB_ok c3⟩, kp⟩
  · cases e
theorem fun_of {K : Fr'} {x q : Str} {st : Stmt} {f : Addr} {fd : FuncData} (F : FunD K x q (defArgs st) (defBody st) (defScope st) [] [] f fd) : Fun K x q st f fd := by
  obtain ⟨⟨oc, od, dV, kV, doc, pm, an, cdv, ct, sl, e, lk, hc, hD, _⟩, kp⟩ := F
  rcases hD with ⟨_, rfl⟩ | ⟨no, _⟩
  · exact ⟨⟨oc, od, kV, doc, pm, an, cdv, ct, sl, e, lk, hc⟩, kp⟩
  · exact absurd rfl no
abbrev AlP : Type := List He.FnW × Bool
def refsP (o : Obj) : List Addr := match o.data with
  | .dict es _ => es.toList.flatMap fun e => He.refV e.val
  | .func fd => He.refV fd.code ++ He.refV fd.defaults ++ He.refV fd.kwdefaults ++ fd.closure.map (·.2)
  | .cls cd => [cd.ns]
  | .fields vs => match o.cls with
    | .type s => if s == "code" then [] else vs.toList.flatMap He.refV
    | _ => []
  | _ => []
def adF (g : Addr → Option Obj) : Nat → List Addr → List Addr → List Addr
  | 0, seen, _ => seen
  | n + 1, seen, fr =>
    let new := ((fr.flatMap fun a => match g a with
      | some o => refsP o
      | none => []).filter fun a => !seen.elem a).eraseDups
    adF g n (seen ++ new) new
def adP (g : Addr → Option Obj) (n : Nat) : List Addr := adF g n [mainGlobals, cStatics] [mainGlobals, cStatics]
theorem map3 {σ α β γ : Type} {o : Option σ} {A : σ → α} {B : σ → β} {C : σ → γ} {a : α} {b : β} {c : γ} (h1 : o.map A = some a) (h2 : o.map B = some b) (h3 : o.map C = some c) : o.map (fun x => (A x, B x, C x)) = some (a, b, c) := by
  cases o with
  | none => simp at h1
  | some x =>
    simp only [Option.map_some, Option.some.injEq] at h1 h2 h3 ⊢
    rw [h1, h2, h3]
def obsP (n : Nat) (ds : List DefP) (fs : List (Fr' → Bool)) (g : Addr → Option Obj) : AlP :=
  let K := He.frG g (adP g n)
  (ds.map (DefP.see K), ds.all (DefP.fine K) && fs.all (fun f => f K))
def valP (ds : List DefP) : AlP := (ds.map DefP.due, true)
theorem obsP_cat {σ : Type} {o : Option σ} {G : σ → Addr → Option Obj} {n : Nat} {ds ds1 ds2 : List DefP} {fs : List (Fr' → Bool)} (hd : ds1 ++ ds2 = ds) (h1 : o.map (fun x => obsP n ds1 [] (G x)) = some (valP ds1)) (h2 : o.map (fun x => obsP n ds2 [] (G x)) = some (valP ds2)) (h3 : o.map (fun x => obsP n [] fs (G x)) = some (valP [])) :
    o.map (fun x => obsP n ds fs (G x)) = some (valP ds) := by
  subst hd
  cases o with
  | none => simp at h1
  | some x =>
    simp only [Option.map_some, Option.some.injEq, obsP, valP, Prod.mk.injEq, List.all_nil, Bool.and_true, Bool.true_and, List.map_nil, true_and] at h1 h2 h3 ⊢
    simp only [List.map_append, List.all_append, h1.1, h2.1, h1.2, h2.2, h3, Bool.and_self, and_self]
structure SaysP (ds : List DefP) (fs : List (Fr' → Bool)) (K : Fr') : Prop where
  see : ds.map (DefP.see K) = ds.map DefP.due
  fine : ds.all (DefP.fine K) = true
  fs : fs.all (fun f => f K) = true
def hookP (n : Nat) (ds : List DefP) (fs : List (Fr' → Bool)) : PySem.W.Hook where
  α := AlP
  obs := fun s => obsP n ds fs s.heap.get?
  val := fun _ => valP ds
  says := fun _ h => ∃ K : Fr', K.In h ∧ SaysP ds fs K
  of := fun _ _ e => ⟨_, He.frG_in, congrArg (fun z : AlP => z.1) e, (and2 (congrArg (fun z : AlP => z.2) e)).1, (and2 (congrArg (fun z : AlP => z.2) e)).2⟩
  keeps := fun _ _ _ ⟨K, k1, k2⟩ k => ⟨K, PySem.W.Frag.In.keeps k1 k, k2⟩
theorem obsP_eq {n : Nat} {ds : List DefP} {fs : List (Fr' → Bool)} {g : Addr → Option Obj} {s : Shared} (h : ∀ a, g a = s.heap.get? a) : obsP n ds fs g = (hookP n ds fs).obs s :=
  congrArg (obsP n ds fs) (funext h)
theorem SaysP.fact {ds : List DefP} {fs : List (Fr' → Bool)} {K : Fr'} (c : SaysP ds fs K) (i : Nat) {f : Fr' → Bool} (h : fs[i]? = some f) : f K = true :=
  List.all_eq_true.mp c.fs f (List.mem_of_getElem? h)
theorem SaysP.fund {ds : List DefP} {fs : List (Fr' → Bool)} {K : Fr'} (c : SaysP ds fs K) (i : Nat) {p : DefP} (h : ds[i]? = some p) (ho : p.own = false := by rfl) : ∃ fd, FunD K p.nm p.qn (defArgs p.st) (defBody p.st) (defScope p.st) p.dv [] (p.place K) fd := by
  have e := congrArg (fun l => l[i]?) c.see
  simp only [List.getElem?_map, h, Option.map_some, Option.some.injEq] at e
  exact DefP.fund ho e (List.all_eq_true.mp c.fine p (List.mem_of_getElem? h))
def pG (x : Str) : Fr' → Addr := fun K => He.ga K x
def pM (C m : Str) : Fr' → Addr := fun K => He.ma K (He.ga K C) m
def pRec (T : String) (p : Fr' → Addr) : Fr' → Addr := fun K =>
  match PySem.W.recIn K (p K) T with
  | some (.ref g :: _) => g
  | _ => 0
def faA (f : He.Fa) : Fr' → Bool := fun K => f.ok K
def faB (x : Str) (id : String) : Fr' → Bool := fun K => He.eqO (PySem.W.nsIn K mainGlobals x) (some (some (.builtin id)))
theorem faB_ok {K : Fr'} {h : Heap} {mg : Str → Option Value} (X : K.In h) (G : h.Ns mainGlobals mg) {x : Str} {id : String} (c : faB x id K = true) : mg x = some (.builtin id) := PySem.W.mg_of X G (He.eqO_ok c)
def faP (C m : Str) : Fr' → Bool := fun K =>
  He.eqO (PySem.W.findIn K (.ref (He.ga K C)) m) (some (some (.ref (pM C m K)))) &&
  (He.eqO (PySem.W.specialIn K (.ref (pM C m K)) "__get__") (some (some (.builtin "property.__get__"))) &&
  (decide (PySem.W.takesIn K (.ref (pM C m K)) = some true) &&
  match PySem.W.recIn K (pM C m K) "property" with
  | some (.ref _ :: _) => true
  | _ => false))
theorem faP_ok {K : Fr'} {C m : Str} (c : faP C m K = true) : PropOf K (He.ga K C) m (pM C m K) (pRec "property" (pM C m) K) := by
  obtain ⟨c1, c⟩ := and2 c
  obtain ⟨c2, c⟩ := and2 c
  obtain ⟨c3, c4⟩ := and2 c
  refine ⟨He.eqO_ok c1, He.eqO_ok c2, of_decide_eq_true c3, ?_⟩
  unfold pRec
  split at c4
  · rename_i g r e
    exact ⟨r, by rw [e]⟩
  · cases c4
def faI (C : Str) : Fr' → Bool := fun K =>
  (He.Fa.cls C).ok K && (He.eqO (PySem.W.findIn K (.ref (He.ga K C)) "__class__") (some (some (.builtin "object.__class__"))) &&
  (He.eqO (PySem.W.specialIn K (.builtin "object.__class__") "__get__") (some (some (.builtin "getset_descriptor.__get__"))) &&
  (decide (PySem.W.takesIn K (.builtin "object.__class__") = some true) && decide (PySem.W.mroIn K (He.ga K C) (.type "object") = some true))))
theorem faI_ok {K : Fr'} {C : Str} (c : faI C K = true) : IsF K (He.ga K C) := by
  obtain ⟨c1, c⟩ := and2 c
  obtain ⟨c2, c⟩ := and2 c
  obtain ⟨c3, c⟩ := and2 c
  obtain ⟨c4, c5⟩ := and2 c
  exact ⟨He.cls_ok c1, He.eqO_ok c2, He.eqO_ok c3, of_decide_eq_true c4, of_decide_eq_true c5⟩
def faK (Cs : List Str) : Fr' → Bool := fun K =>
  Cs.all (fun C => faI C K && (["int", "bool", "str", "list", "tuple", "dict"].all (fun t => decide (PySem.W.kitOne K (.ref (He.ga K C)) (.type t) = some false)) &&
    ["NoneType", "bool", "int", "str", "list", "tuple", "dict"].all (fun t => decide (PySem.W.kitOne K (.type t) (.ref (He.ga K C)) = some false)))) &&
  (List.range Cs.length).all fun i => (List.range Cs.length).all fun j => decide (PySem.W.kitOne K (.ref (He.ga K (Cs.getD i ""))) (.ref (He.ga K (Cs.getD j ""))) = some (i == j))
theorem faK_ok {K : Fr'} {Cs : List Str} {g : G} (hg : ∀ i, i < Cs.length → g.cls i = He.ga K (Cs.getD i "")) (c : faK Cs K = true) : ClsF K g Cs.length := by
  obtain ⟨c1, c2⟩ := and2 c
  have each : ∀ i, i < Cs.length → faI (Cs.getD i "") K = true ∧ (["int", "bool", "str", "list", "tuple", "dict"].all (fun t => decide (PySem.W.kitOne K (.ref (He.ga K (Cs.getD i ""))) (.type t) = some false)) = true ∧
      ["NoneType", "bool", "int", "str", "list", "tuple", "dict"].all (fun t => decide (PySem.W.kitOne K (.type t) (.ref (He.ga K (Cs.getD i ""))) = some false)) = true) := by
    intro i hi
    have hm : Cs.getD i "" ∈ Cs := by
      have e : Cs.getD i "" = Cs[i] := by simp [List.getD_eq_getElem?_getD, hi]
      rw [e]
      exact List.getElem_mem hi
    have z := List.all_eq_true.mp c1 _ hm
    exact ⟨(and2 z).1, and2 (and2 z).2⟩
  refine ⟨fun i hi => by rw [hg i hi]; exact faI_ok (each i hi).1, fun i t hi => ?_, fun i t x hi e => ?_, fun i j hi hj => ?_⟩
  · rw [hg i hi]
    exact of_decide_eq_true (List.all_eq_true.mp (each i hi).2.1 t.name (by cases t <;> decide))
  · rw [hg i hi]
    refine of_decide_eq_true (List.all_eq_true.mp (each i hi).2.2 x ?_)
    cases t <;> cases e <;> decide
  · rw [hg i hi, hg j hj]
    exact of_decide_eq_true (List.all_eq_true.mp (List.all_eq_true.mp c2 i (List.mem_range.mpr hi)) j (List.mem_range.mpr hj))
def faO (C f r : Str) : Fr' → Bool := fun K =>
  PySem.W.selfFirst K (He.ga K C) && ((He.Fa.meth C f).ok K && ((He.Fa.meth C r).ok K && ((PySem.W.findIn K (.type "int") f).isSome && ((PySem.W.findIn K (.type "int") r).isSome &&
  (decide (PySem.W.subIn K (.type "int") (.ref (He.ga K C)) = some false) && decide (PySem.W.subIn K (.ref (He.ga K C)) (.type "int") = some false))))))
theorem faO_ok {K : Fr'} {C f r : Str} {op : Operator} {id : String} (c : faO C f r K = true) (hf : PySem.dunder op.info.2 = f) (hr : dunderR op.info.2 = r) (sl : Slot "int" f id) (fi : fillsNumberSlot (.type "int") op.info.2 = pure true) (de : Declines id (He.ga K C)) :
    OpF K (He.ga K C) op (pM C f K) (pM C r K) id := by
  obtain ⟨c1, c⟩ := and2 c
  obtain ⟨c2, c⟩ := and2 c
  obtain ⟨c3, c⟩ := and2 c
  obtain ⟨c4, c⟩ := and2 c
  obtain ⟨c5, c⟩ := and2 c
  obtain ⟨c6, c7⟩ := and2 c
  have mf := He.meth_ok c2
  have mr := He.meth_ok c3
  subst hf hr
  exact ⟨c1, mf.at_, mf.fn, mr.at_, mr.fn, Option.isSome_iff_exists.mp c4, Option.isSome_iff_exists.mp c5, of_decide_eq_true c6, of_decide_eq_true c7, sl, fi, de⟩
def faE (C : Str) : Fr' → Bool := fun K => (He.Fa.meth C "__eq__").ok K && (decide (PySem.W.subIn K (.type "int") (.ref (He.ga K C)) = some false) && (decide (PySem.W.subIn K (.ref (He.ga K C)) (.type "int") = some false) &&
  (He.eqO (PySem.W.findIn K (.ref (He.ga K C)) "__ne__") (some (some (.builtin "object.__ne__"))) && decide (PySem.W.mroIn K (He.ga K C) (.type "object") = some true))))
theorem faE_ok {K : Fr'} {C : Str} (c : faE C K = true) : EqF K (He.ga K C) (pM C "__eq__" K) ∧ NeF K (He.ga K C) (pM C "__eq__" K) := by
  obtain ⟨c1, c⟩ := and2 c
  obtain ⟨c2, c⟩ := and2 c
  obtain ⟨c3, c⟩ := and2 c
  obtain ⟨c4, c5⟩ := and2 c
  have m := He.meth_ok c1
  exact ⟨⟨m.at_, m.fn, of_decide_eq_true c2, of_decide_eq_true c3⟩, ⟨m.at_, m.fn, He.eqO_ok c4, of_decide_eq_true c5⟩⟩
theorem kb0_of {K : Fr'} {x q : Str} {st : Stmt} {f : Addr} {fd : FuncData} {ps ks : List Str} {n : Nat} (F : Fun K x q st f fd)
    (h : ∀ (kV doc pm : Value) (an : Option Addr) (cdv ct : Value) (us ws : List Value), us.length = n → ws.length = ks.length →
      bindArgs (PySem.W.fnOf x q (defArgs st) (defBody st) (defScope st) .none kV doc pm an cdv ct) ⟨us, ks.zip ws⟩ = pure (ps.zip (us ++ ws))) : KB K fd ps n ks := by
  obtain ⟨oc, od, kV, doc, pm, an, cdv, ct, sl, rfl, lk, hc⟩ := F.ex
  intro s us ws X hu hw
  exact .of_eq (h kV doc pm an cdv ct us ws hu hw)
end Pm
set_option Elab.async false
set_option linter.all false
set_option maxRecDepth 100000
set_option maxHeartbeats 4000000
set_option Elab.async false
set_option linter.all false
set_option maxRecDepth 100000
set_option maxHeartbeats 4000000
namespace Pm
open PySem PySem.Spec PyProof.Rows L2
open PySem.W (ksFn ksEnv ks_superIn excInitIn excOver takerIn hasDictIn)
structure EB where
  B : String
  newId : String
  initId : String
  mro : List String
end Pm
set_option Elab.async false
set_option linter.all false
set_option maxRecDepth 100000
set_option maxHeartbeats 400000
set_option Elab.async false
set_option linter.all false
set_option maxRecDepth 100000
set_option maxHeartbeats 400000
namespace K15
open PySem PySem.Spec PyProof.Rows L2 Pm
def top (i : Nat) : Stmt := PySem.Challenge.pw_fewcorners_k15_any_values_as_points_and.main.body.getD i (.Pass ⟨0, 0, 0, 0⟩)
abbrev s_is_integer : Stmt := top 3
abbrev s_c0_init_ : Stmt := inClass (top 10) 0
abbrev s_c0_top : Stmt := inClass (top 10) 1
abbrev s_c0_bottom : Stmt := inClass (top 10) 2
abbrev s_parts_of : Stmt := top 12
abbrev s_c0_add_ : Stmt := inClass (top 10) 6
abbrev s_c0_radd_ : Stmt := inClass (top 10) 7
abbrev s_c0_sub_ : Stmt := inClass (top 10) 8
abbrev s_c0_neg_ : Stmt := inClass (top 10) 12
abbrev s_c0_rsub_ : Stmt := inClass (top 10) 9
abbrev s_c0_mul_ : Stmt := inClass (top 10) 10
abbrev s_c0_rmul_ : Stmt := inClass (top 10) 11
abbrev s_c0_eq_ : Stmt := inClass (top 10) 17
abbrev s_c0_str_ : Stmt := inClass (top 10) 18
abbrev s_c0_repr_ : Stmt := inClass (top 10) 19
abbrev s_is_list : Stmt := top 4
abbrev s_is_number : Stmt := top 11
abbrev s_is_numbers : Stmt := top 14
abbrev s_is_table : Stmt := top 15
abbrev s_is_points : Stmt := top 17
abbrev s_check_points : Stmt := top 18
abbrev s_is_form : Stmt := top 20
abbrev s_law_pot : Stmt := top 22
abbrev s_law_draw : Stmt := top 23
abbrev s_law_pick : Stmt := top 24
abbrev s_law_low : Stmt := top 25
abbrev s_law_sum : Stmt := top 26
abbrev s_law_by : Stmt := top 27
abbrev s_law_passed : Stmt := top 28
abbrev s_law_given_row : Stmt := top 29
abbrev s_law_given : Stmt := top 30
abbrev s_law_entry : Stmt := top 31
abbrev s_law_points : Stmt := top 32
abbrev s_law_is_number : Stmt := top 33
abbrev s_law_is_row : Stmt := top 34
abbrev s_law_are_points : Stmt := top 35
abbrev s_law_is_form : Stmt := top 36
abbrev s_law_bent_points : Stmt := top 37
abbrev s_law_bent_forms : Stmt := top 38
abbrev s_law_right : Stmt := top 39
abbrev s_law : Stmt := top 40
abbrev D_is_integer : DefP := ⟨pG "is_integer", "is_integer", "is_integer", s_is_integer, [], false⟩
abbrev D_c0_init_ : DefP := ⟨pM "Ratio" "__init__", "__init__", "Ratio.__init__", s_c0_init_, [V.int 1], false⟩
abbrev D_c0_top : DefP := ⟨pRec "property" (pM "Ratio" "top"), "top", "Ratio.top", s_c0_top, [], false⟩
abbrev D_c0_bottom : DefP := ⟨pRec "property" (pM "Ratio" "bottom"), "bottom", "Ratio.bottom", s_c0_bottom, [], false⟩
abbrev D_parts_of : DefP := ⟨pG "parts_of", "parts_of", "parts_of", s_parts_of, [], false⟩
abbrev D_c0_add_ : DefP := ⟨pM "Ratio" "__add__", "__add__", "Ratio.__add__", s_c0_add_, [], false⟩
abbrev D_c0_radd_ : DefP := ⟨pM "Ratio" "__radd__", "__radd__", "Ratio.__radd__", s_c0_radd_, [], false⟩
abbrev D_c0_sub_ : DefP := ⟨pM "Ratio" "__sub__", "__sub__", "Ratio.__sub__", s_c0_sub_, [], false⟩
abbrev D_c0_neg_ : DefP := ⟨pM "Ratio" "__neg__", "__neg__", "Ratio.__neg__", s_c0_neg_, [], false⟩
abbrev D_c0_rsub_ : DefP := ⟨pM "Ratio" "__rsub__", "__rsub__", "Ratio.__rsub__", s_c0_rsub_, [], false⟩
abbrev D_c0_mul_ : DefP := ⟨pM "Ratio" "__mul__", "__mul__", "Ratio.__mul__", s_c0_mul_, [], false⟩
abbrev D_c0_rmul_ : DefP := ⟨pM "Ratio" "__rmul__", "__rmul__", "Ratio.__rmul__", s_c0_rmul_, [], false⟩
abbrev D_c0_eq_ : DefP := ⟨pM "Ratio" "__eq__", "__eq__", "Ratio.__eq__", s_c0_eq_, [], false⟩
abbrev D_c0_str_ : DefP := ⟨pM "Ratio" "__str__", "__str__", "Ratio.__str__", s_c0_str_, [], false⟩
abbrev D_c0_repr_ : DefP := ⟨pM "Ratio" "__repr__", "__repr__", "Ratio.__repr__", s_c0_repr_, [], false⟩
abbrev D_is_list : DefP := ⟨pG "is_list", "is_list", "is_list", s_is_list, [], false⟩
abbrev D_is_number : DefP := ⟨pG "is_number", "is_number", "is_number", s_is_number, [], false⟩
abbrev D_is_numbers : DefP := ⟨pG "is_numbers", "is_numbers", "is_numbers", s_is_numbers, [], false⟩
abbrev D_is_table : DefP := ⟨pG "is_table", "is_table", "is_table", s_is_table, [], false⟩
abbrev D_is_points : DefP := ⟨pG "is_points", "is_points", "is_points", s_is_points, [], false⟩
abbrev D_check_points : DefP := ⟨pG "check_points", "check_points", "check_points", s_check_points, [], false⟩
abbrev D_is_form : DefP := ⟨pG "is_form", "is_form", "is_form", s_is_form, [], false⟩
abbrev D_law_pot : DefP := ⟨pG "_law_pot", "_law_pot", "_law_pot", s_law_pot, [], false⟩
abbrev D_law_draw : DefP := ⟨pG "_law_draw", "_law_draw", "_law_draw", s_law_draw, [], false⟩
abbrev D_law_pick : DefP := ⟨pG "_law_pick", "_law_pick", "_law_pick", s_law_pick, [], false⟩
abbrev D_law_low : DefP := ⟨pG "_law_low", "_law_low", "_law_low", s_law_low, [], false⟩
abbrev D_law_sum : DefP := ⟨pG "_law_sum", "_law_sum", "_law_sum", s_law_sum, [], false⟩
abbrev D_law_by : DefP := ⟨pG "_law_by", "_law_by", "_law_by", s_law_by, [], false⟩
abbrev D_law_passed : DefP := ⟨pG "_law_passed", "_law_passed", "_law_passed", s_law_passed, [], false⟩
abbrev D_law_given_row : DefP := ⟨pG "_law_given_row", "_law_given_row", "_law_given_row", s_law_given_row, [], false⟩
abbrev D_law_given : DefP := ⟨pG "_law_given", "_law_given", "_law_given", s_law_given, [], false⟩
abbrev D_law_entry : DefP := ⟨pG "_law_entry", "_law_entry", "_law_entry", s_law_entry, [], false⟩
abbrev D_law_points : DefP := ⟨pG "_law_points", "_law_points", "_law_points", s_law_points, [], false⟩
abbrev D_law_is_number : DefP := ⟨pG "_law_is_number", "_law_is_number", "_law_is_number", s_law_is_number, [], false⟩
abbrev D_law_is_row : DefP := ⟨pG "_law_is_row", "_law_is_row", "_law_is_row", s_law_is_row, [], false⟩
abbrev D_law_are_points : DefP := ⟨pG "_law_are_points", "_law_are_points", "_law_are_points", s_law_are_points, [], false⟩
abbrev D_law_is_form : DefP := ⟨pG "_law_is_form", "_law_is_form", "_law_is_form", s_law_is_form, [], false⟩
abbrev D_law_bent_points : DefP := ⟨pG "_law_bent_points", "_law_bent_points", "_law_bent_points", s_law_bent_points, [], false⟩
abbrev D_law_bent_forms : DefP := ⟨pG "_law_bent_forms", "_law_bent_forms", "_law_bent_forms", s_law_bent_forms, [], false⟩
abbrev D_law_right : DefP := ⟨pG "_law_right", "_law_right", "_law_right", s_law_right, [], false⟩
abbrev D_law : DefP := ⟨pG "law", "law", "law", s_law, [], false⟩
def defs : List DefP := [D_is_integer, D_c0_init_, D_c0_top, D_c0_bottom, D_parts_of, D_c0_add_, D_c0_radd_, D_c0_sub_, D_c0_neg_, D_c0_rsub_, D_c0_mul_, D_c0_rmul_, D_c0_eq_, D_c0_str_, D_c0_repr_, D_is_list, D_is_number, D_is_numbers, D_is_table, D_is_points, D_check_points, D_is_form, D_law_pot, D_law_draw, D_law_pick, D_law_low, D_law_sum, D_law_by, D_law_passed, D_law_given_row, D_law_given, D_law_entry, D_law_points, D_law_is_number, D_law_is_row, D_law_are_points, D_law_is_form, D_law_bent_points, D_law_bent_forms, D_law_right, D_law]
def facts : List (Fr' → Bool) := [faA (.cls "Ratio"), faA (.glo "Ratio"), faA (.noat "Ratio" "_top"), faA (.noat "Ratio" "_bottom"), faA (.mkr "Ratio"), faK ["Ratio"], faA (.free "abs"), faA (.free "all"), faA (.free "bool"), faA (.free "divmod"), faA (.free "int"), faA (.free "isinstance"), faA (.free "len"), faA (.free "list"), faA (.free "max"), faA (.free "range"), faA (.free "repr"), faA (.free "str"), faA (.free "tuple"), faA (.free "zip"), faB "gcd" "math.gcd", faA (.glo "is_integer"), faP "Ratio" "top", faP "Ratio" "bottom", faA (.glo "parts_of"), faA (.glo "is_list"), faA (.glo "is_number"), faA (.glo "is_numbers"), faA (.glo "is_table"), faA (.glo "is_points"), faA (.glo "check_points"), faA (.glo "is_form"), faA (.glo "_law_pot"), faA (.glo "_law_draw"), faA (.glo "_law_pick"), faA (.glo "_law_low"), faA (.glo "_law_sum"), faA (.glo "_law_by"), faA (.glo "_law_passed"), faA (.glo "_law_given_row"), faA (.glo "_law_given"), faA (.glo "_law_entry"), faA (.glo "_law_points"), faA (.glo "_law_is_number"), faA (.glo "_law_is_row"), faA (.glo "_law_are_points"), faA (.glo "_law_is_form"), faA (.glo "_law_bent_points"), faA (.glo "_law_bent_forms"), faA (.glo "_law_right"), faA (.glo "law"), faO "Ratio" "__add__" "__radd__", faO "Ratio" "__sub__" "__rsub__", faO "Ratio" "__mul__" "__rmul__", faA (.meth "Ratio" "__neg__"), faE "Ratio", faA (.meth "Ratio" "__str__"), faA (.meth "Ratio" "__repr__")]
end K15
namespace K15
open PySem PySem.Spec PyProof.Rows L2 Pm
abbrev R : PySem.W.OpenRow := PySem.W.OpenLaw.row PySem.Challenge.rw_fewcorners_k15_any_values_as_points_and
abbrev hk : PySem.W.Hook := hookP 7 defs facts
def ob (s : PySem.W.SharedT) : AlP := obsP 7 defs facts (HandSHeadRun.getT s)
theorem ob_eq (s : PySem.W.SharedT) : ob s = hk.obs s.abs := obsP_eq (HandSHeadRun.getT_eq s)
def loose : List Str := "_wall" :: "__name__" :: "is_integer" :: "is_list" :: "BodyError" :: "InvalidNumber" :: "InvalidPoints" :: "Ratio" :: "is_number" :: "parts_of" :: "is_numbers" :: "is_table" :: "is_points" :: "check_points" :: "is_form" :: "_law_pot" :: "_law_draw" :: "_law_pick" :: "_law_low" :: "_law_sum" :: "_law_by" :: "_law_passed" :: "_law_given_row" :: "_law_given" :: "_law_entry" :: "_law_points" :: "_law_is_number" :: "_law_is_row" :: "_law_are_points" :: "_law_is_form" :: "_law_bent_points" :: "_law_bent_forms" :: "_law_right" :: []
section
open PySem.W HandSHeadRun
abbrev QV : Program := view R.prog [0, 40]
set_option maxHeartbeats 0 in
theorem run1 (w : World) : (wholeF (fun p => stepQ (denQ tabQ) p w) fenceQ 8000 R.prog).map (fun x => looksF R.prog x.1.heap x.2.abs) = some true := by kernel_rfl
set_option maxHeartbeats 0 in
theorem run2 (w : World) : (wholeF (fun p => stepQ (denQ tabQ) p w) fenceQ 8000 R.prog).map (fun x => seenQ QV loose (importedModules R.prog.main.body) (fun s => xlAt QV [] s && recOk R.toRowW.records s) x.2.abs) = some (openGood QV loose) := by kernel_rfl
set_option maxHeartbeats 0 in
theorem run3a (w : World) : (wholeF (fun p => stepQ (denQ tabQ) p w) fenceQ 8000 R.prog).map (fun x => obsP 7 (defs.take 20) [] (getT x.2)) = some (valP (defs.take 20)) := by kernel_rfl
set_option maxHeartbeats 0 in
theorem run3b (w : World) : (wholeF (fun p => stepQ (denQ tabQ) p w) fenceQ 8000 R.prog).map (fun x => obsP 7 (defs.drop 20) [] (getT x.2)) = some (valP (defs.drop 20)) := by kernel_rfl
set_option maxHeartbeats 0 in
theorem run3c (w : World) : (wholeF (fun p => stepQ (denQ tabQ) p w) fenceQ 8000 R.prog).map (fun x => obsP 7 [] facts (getT x.2)) = some (valP []) := by kernel_rfl
theorem hk_val (n : Nat) (ds : List DefP) (fs : List (Fr' → Bool)) (w : World) : (hookP n ds fs).val w = valP ds := rfl
theorem run3o (w : World) : (wholeF (fun p => stepQ (denQ tabQ) p w) fenceQ 8000 R.prog).map (fun x => obsP 7 defs facts (getT x.2)) = some (valP defs) :=
  obsP_cat (o := wholeF (fun p => stepQ (denQ tabQ) p w) fenceQ 8000 R.prog) (G := fun x => getT x.2) (n := 7) (ds := defs) (ds1 := defs.take 20) (ds2 := defs.drop 20) (fs := facts) (List.take_append_drop 20 defs) (run3a w) (run3b w) (run3c w)
theorem run3 (w : World) : (wholeF (fun p => stepQ (denQ tabQ) p w) fenceQ 8000 R.prog).map (fun x => ob x.2) = some (hk.val w) := by
  have e : (fun x : Shared × SharedT => ob x.2) = fun x => obsP 7 defs facts (getT x.2) := by
    funext x
    rw [ob]
  rw [e]
  exact (run3o w).trans (congrArg some (hk_val 7 defs facts w).symm)
end
theorem run (w : World) : HandSHeadRun.RunEqI R (PySem.W.view R.prog [0, 40]) hk ob 8000 loose w := by
  unfold HandSHeadRun.RunEqI
  exact map3 (run1 w) (run2 w) (run3 w)
end K15
set_option Elab.async false
set_option linter.all false
set_option maxRecDepth 100000
set_option maxHeartbeats 2000000
namespace Pm
open PySem PySem.Spec PyProof.Rows L2
section
variable {X : Cx} {g : G} {E : XK} {a b c e : Expr} {es rest : List Expr} {ma mb mc me mo : Env → S → Res D} {mr : Env → S → Res (List D)} {pos apos : Pos}
def truD (s : S) : D → Option Bool
  | .non => some false
  | .bl b => some b
  | .int i => some (i != 0)
  | .lst ds => some (!ds.isEmpty)
  | .ro ds => some (!ds.isEmpty)
  | .tup ds => some (!ds.isEmpty)
  | .rot ds => some (!ds.isEmpty)
  | .cell k => match s[k]? with
    | some (.lst ds) => some (!ds.isEmpty)
    | _ => none
  | _ => none
theorem reps_empty {ca : List Addr} {F : Hp} {ds : List D} {vs : List V} (r : Reps g ca F ds vs) : (!ds.isEmpty) = !vs.isEmpty := by
  have := r.length
  cases ds <;> cases vs <;> simp_all
theorem tru_rep (hK : g.K = X.K) {ca : List Addr} {F P H : Hp} {s : S} {d : D} {k : Bool} {v : V} (m : Sim g ca F P s H) (h : truD s d = some k) (r : Rep g ca F d v) : TruV X.K v H k := by
  unfold truD at h
  split at h
  · cases h; simp only [Rep] at r; subst r; rfl
  · cases h; simp only [Rep] at r; subst r; rfl
  · cases h; simp only [Rep] at r; subst r; rfl
  · cases h; simp only [Rep] at r; obtain ⟨a, xs, rfl, hF, rs⟩ := r; exact .inl ⟨xs, .of (m.sub _ _ hF), reps_empty rs⟩
  · cases h; simp only [Rep] at r; obtain ⟨a, xs, rfl, hF, rs⟩ := r; exact .inl ⟨xs, hK ▸ same_l m.sub hF, reps_empty rs⟩
  · cases h; simp only [Rep] at r; obtain ⟨a, xs, rfl, hF, rs⟩ := r; exact .inr (.inl ⟨xs, .of (m.sub _ _ hF), reps_empty rs⟩)
  · cases h; simp only [Rep] at r; obtain ⟨a, xs, rfl, hF, rs⟩ := r; exact .inr (.inl ⟨xs, hK ▸ same_t m.sub hF, reps_empty rs⟩)
  · split at h
    · rename_i hk
      cases h
      simp only [Rep] at r
      obtain ⟨a, rfl, ha⟩ := r
      obtain ⟨xs, hH, rs⟩ := m.cellL ha hk
      exact .inl ⟨xs, .of hH, reps_empty rs⟩
    · cases h
  · cases h
def mBt (f : Env → S → Res D) : Env → S → Res Bool := fun env s => (f env s).bind fun x s1 => match truD s1 x with
  | some b => .ok b s1
  | none => .stuck
theorem et_tru (hK : g.K = X.K) (h : Ev X g E e me) (he : ∀ whole, isTrue e X.env whole = (do let v ← whole; standAt e.pos; holding [v] (truthy v)) := by intro _; rfl) : Et X g E e (mBt me) := by
  obtain ⟨t, p, h⟩ := h
  refine ⟨_, pt_truth p he, fun env s ca F P H σ Q m sl q => ?_⟩
  refine h env s ca F P H σ _ m sl (Post.imp (Post.seq q) fun x s1 ca1 F1 H1 _ _ m1 q v rv => ?_)
  split at q
  · rename_i b hb
    exact ⟨b, tru_rep hK m1 hb rv, q.now m1⟩
  · exact q.elim
def mNotV (me : Env → S → Res D) : Env → S → Res D := fun env s => (me env s).bind fun x s1 => match truD s1 x with
  | some b => .ok (.bl (!b)) s1
  | none => .stuck
theorem ev_notV (hK : g.K = X.K) (h : Ev X g E a ma) : Ev X g E (.UnaryOp .Not a pos) (mNotV ma) := by
  obtain ⟨t, p, h⟩ := h
  refine ⟨_, pe_notT p, fun env s ca F P H σ Q m sl q => ?_⟩
  refine h env s ca F P H σ _ m sl (Post.imp (Post.seq q) fun x s1 ca1 F1 H1 _ _ m1 q v rv => ?_)
  split at q
  · rename_i b hb
    exact ⟨b, tru_rep hK m1 hb rv, q.now m1 _ rfl⟩
  · exact q.elim
def isNon : D → Bool
  | .non => true
  | _ => false
def isF (neg : Bool) : D → D → S → Res D := fun x y s => match y with
  | .non => .ok (.bl (if neg then !isNon x else isNon x)) s
  | _ => .stuck
def isB (neg : Bool) : D → D → S → Res D := fun x y s => match x, y with
  | .bl a, .bl b => .ok (.bl (if neg then !decide (a = b) else decide (a = b))) s
  | _, _ => .stuck
def isD (neg : Bool) : D → D → S → Res D := fun x y s => (isF neg x y s).or (isB neg x y s)
def Eo (X : Cx) (g : G) (E : XK) (o : Option Expr) (m : Env → S → Res (Option Int)) : Prop :=
  ∃ t : TO, PO X o t ∧ ∀ (env : Env) (s : S) (ca : List Addr) (F P H : Hp) (σ : L2.St) (Q : Option Int → Hp → Prop), Sim g ca F P s H → Slots g ca F env σ →
    Post g ca F P E (fun i _ _ _ H' => Q i H') (m env s) → t σ H Q
def oN : Env → S → Res (Option Int) := fun _ s => .ok none s
def oS (me : Env → S → Res D) : Env → S → Res (Option Int) := fun env s => (me env s).bind fun x s1 => match x with
  | .int i => .ok (some i) s1
  | _ => .stuck
theorem eo_n : Eo X g E none oN := ⟨_, po_none, fun env s ca F P H σ Q m sl q => q.now m⟩
theorem eo_s (h : Ev X g E e me) : Eo X g E (some e) (oS me) := by
  obtain ⟨t, p, h⟩ := h
  refine ⟨_, po_some p, fun env s ca F P H σ Q m sl q => ?_⟩
  refine h env s ca F P H σ _ m sl (Post.imp (Post.seq q) fun x s1 ca1 F1 H1 _ _ m1 q v rv => ?_)
  cases x with
  | int i => simp only [Rep] at rv; exact ⟨i, rv, q.now m1⟩
  | _ => exact q.elim
def lisOf (s : S) : D → Option (List D)
  | .lst ds => some ds
  | .ro ds => some ds
  | .cell k => match s[k]? with
    | some (.lst ds) => some ds
    | _ => none
  | _ => none
theorem lis_rep {K : PySem.W.Frag} (hK : g.K = K) {ca : List Addr} {F P H : Hp} {s : S} {d : D} {ds : List D} {v : V} (m : Sim g ca F P s H) (h : lisOf s d = some ds) (r : Rep g ca F d v) : ∃ a xs, v = .ref a ∧ SqL K H a xs ∧ Reps g ca F ds xs := by
  unfold lisOf at h
  split at h
  · cases h; simp only [Rep] at r; obtain ⟨a, xs, rfl, hF, rs⟩ := r; exact ⟨a, xs, rfl, .of (m.sub _ _ hF), rs⟩
  · cases h; simp only [Rep] at r; obtain ⟨a, xs, rfl, hF, rs⟩ := r; exact ⟨a, xs, rfl, hK ▸ same_l m.sub hF, rs⟩
  · split at h
    · rename_i hk
      cases h
      simp only [Rep] at r
      obtain ⟨a, rfl, ha⟩ := r
      obtain ⟨xs, hH, rs⟩ := m.cellL ha hk
      exact ⟨a, xs, rfl, .of hH, rs⟩
    · cases h
  · cases h
def sxD (n d : Nat) : Option Int → Nat
  | none => d
  | some v => if v < 0 then (v + (n : Int)).toNat else min v.toNat n
def cutD (ds : List D) (lo hi : Option Int) : List D := (ds.drop (sxD ds.length 0 lo)).take (sxD ds.length ds.length hi - sxD ds.length 0 lo)
theorem sxD_eq (n d : Nat) (o : Option Int) : sxD n d o = HT.sIx n d o := by cases o <;> rfl
theorem cut_rep {ca : List Addr} {F : Hp} {ds : List D} {vs : List V} (r : Reps g ca F ds vs) (lo hi : Option Int) : Reps g ca F (cutD ds lo hi) (cutV vs lo hi) := by
  unfold cutD cutV
  rw [sxD_eq, sxD_eq, r.length]
  exact (r.drop _).take _
theorem cutD_le (ds : List D) (lo hi : Option Int) : (cutD ds lo hi).length ≤ ds.length := by
  unfold cutD
  rw [List.length_take, List.length_drop]
  omega
def mSlice (me : Env → S → Res D) (ml mh : Env → S → Res (Option Int)) : Env → S → Res D := fun env s => (me env s).bind fun x s1 => (ml env s1).bind fun lo s2 => (mh env s2).bind fun hi s3 => match lisOf s3 x with
  | some ds => newL (cutD ds lo hi) s3
  | none => .stuck
theorem ev_slice {lo hi : Option Expr} {ml mh : Env → S → Res (Option Int)} {p2 : Pos} (hK : g.K = X.K) (he : Ev X g E e me) (hl : Eo X g E lo ml) (hh : Eo X g E hi mh) : Ev X g E (.Subscript e (.Slice lo hi none p2) pos) (mSlice me ml mh) := by
  obtain ⟨t, p, h⟩ := he
  obtain ⟨tl, pl, hl⟩ := hl
  obtain ⟨th, ph, hh⟩ := hh
  refine ⟨_, pe_slice sl_list p pl ph, fun env s ca F P H σ Q m sl q => ?_⟩
  refine h env s ca F P H σ _ m sl (Post.imp (Post.seq q) fun x s1 ca1 F1 H1 k1 k2 m1 q v rv => ?_)
  refine hl env s1 ca1 F1 P H1 σ _ m1 (sl.mono k1 k2) (Post.imp (Post.seq q) fun i s2 ca2 F2 H2 l1 l2 m2 q => ?_)
  refine hh env s2 ca2 F2 P H2 σ _ m2 ((sl.mono k1 k2).mono l1 l2) (Post.imp (Post.seq q) fun j s3 ca3 F3 H3 n1 n2 m3 q => ?_)
  split at q
  · rename_i ds hd
    obtain ⟨a, xs, rfl, hq, rs⟩ := lis_rep hK m3 hd (Rep.mono (l1.trans n1) (l2.trans n2) _ _ rv)
    exact ⟨a, xs, rfl, hq, (newL_ok m3 (cut_rep rs i j) q).2⟩
  · exact q.elim
def mRevL (me : Env → S → Res D) : Env → S → Res D := fun env s => (me env s).bind fun x s1 => match lisOf s1 x with
  | some ds => newL ds.reverse s1
  | none => .stuck
theorem chain_run {f f' : D → D → S → Res D} {r r' : R2} {ta tb tc : TE}
    (ha : ∀ (env : Env) (s : S) (ca : List Addr) (F P H : Hp) (σ : L2.St) (Q : VK), Sim g ca F P s H → Slots g ca F env σ → Post g ca F P E (fun d _ ca' F' H' => ∀ v, Rep g ca' F' d v → Q v H') (ma env s) → ta σ H Q)
    (hb : ∀ (env : Env) (s : S) (ca : List Addr) (F P H : Hp) (σ : L2.St) (Q : VK), Sim g ca F P s H → Slots g ca F env σ → Post g ca F P E (fun d _ ca' F' H' => ∀ v, Rep g ca' F' d v → Q v H') (mb env s) → tb σ H Q)
    (hc : ∀ (env : Env) (s : S) (ca : List Addr) (F P H : Hp) (σ : L2.St) (Q : VK), Sim g ca F P s H → Slots g ca F env σ → Post g ca F P E (fun d _ ca' F' H' => ∀ v, Rep g ca' F' d v → Q v H') (mc env s) → tc σ H Q)
    (h1 : ∀ (x y : D) (s : S) (ca : List Addr) (F P H : Hp) (v u : V) (Q : VK), Sim g ca F P s H → Rep g ca F x v → Rep g ca F y u → Post g ca F P E (fun d _ ca' F' H' => ∀ w, Rep g ca' F' d w → Q w H') (f x y s) → r v u H Q)
    (h2 : ∀ (x y : D) (s : S) (ca : List Addr) (F P H : Hp) (v u : V) (Q : VK), Sim g ca F P s H → Rep g ca F x v → Rep g ca F y u → Post g ca F P E (fun d _ ca' F' H' => ∀ w, Rep g ca' F' d w → Q w H') (f' x y s) → r' v u H Q)
    {env : Env} {s : S} {ca : List Addr} {F P H : Hp} {σ : L2.St} {Q : VK} (m : Sim g ca F P s H) (sl : Slots g ca F env σ) (q : Post g ca F P E (fun d _ ca' F' H' => ∀ v, Rep g ca' F' d v → Q v H') (mChain f f' ma mb mc env s)) :
    tChain r r' ta tb tc σ H Q := by
  refine ha env s ca F P H σ _ m sl (Post.imp (Post.seq q) fun x s1 ca1 F1 H1 k1 k2 m1 q v rv => ?_)
  refine hb env s1 ca1 F1 P H1 σ _ m1 (sl.mono k1 k2) (Post.imp (Post.seq q) fun y s2 ca2 F2 H2 l1 l2 m2 q u ru => ?_)
  refine h1 x y s2 ca2 F2 P H2 v u _ m2 (Rep.mono l1 l2 _ _ rv) ru (Post.imp (Post.seq q) fun z s3 ca3 F3 H3 n1 n2 m3 q w rw' => ?_)
  cases z with
  | bl k =>
    simp only [Rep] at rw'
    refine ⟨k, rw', ?_⟩
    cases k with
    | true =>
      refine hc env s3 ca3 F3 P H3 σ _ m3 (((sl.mono k1 k2).mono l1 l2).mono n1 n2) (Post.imp (Post.seq q) fun w s4 ca4 F4 H4 o1 o2 m4 q u' ru' => ?_)
      exact h2 y w s4 ca4 F4 P H4 u u' Q m4 (Rep.mono (n1.trans o1) (n2.trans o2) _ _ ru) ru' q
    | false => exact q.now m3 _ rfl
  | _ => exact q.elim
theorem et_chain {op op' : CmpOp} {f f' : D → D → S → Res D} (ho : OpD X g E (compareOp op) f) (ho' : OpD X g E (compareOp op') f') (ha : Ev X g E a ma) (hb : Ev X g E b mb) (hc : Ev X g E c mc)
    (hm : lastMarks [op, op'] [b, c] = false := by with_unfolding_all rfl) : Et X g E (.Compare a [op, op'] [b, c] pos) (mB (mChain f f' ma mb mc)) := by
  obtain ⟨r, h1, h2⟩ := ho
  obtain ⟨r', h1', h2'⟩ := ho'
  obtain ⟨ta, pa, ha⟩ := ha
  obtain ⟨tb, pb, hb⟩ := hb
  obtain ⟨tc, pc, hc⟩ := hc
  refine ⟨_, pt_chain h1 h1' pa pb pc hm, fun env s ca F P H σ Q m sl q => ?_⟩
  refine chain_run (Q := fun x H' => ∃ k, x = .bl k ∧ Q k H') ha hb hc h2 h2' m sl (Post.imp (Post.seq q) fun x s1 ca1 F1 H1 _ _ m1 q v rv => ?_)
  cases x with
  | bl b => exact ⟨b, rv, q.now m1⟩
  | _ => exact q.elim
def aStar (me : Env → S → Res D) (mr : Env → S → Res (List D)) : Env → S → Res (List D) := fun env s => (me env s).bind fun x s1 => match seqOf s1 x with
  | some ds => (mr env s1).bind fun xs s2 => .ok (ds ++ xs) s2
  | none => .stuck
def iLT (me : Env → S → Res D) : Env → S → Res (List D) := fun env s => (iLst me env s).or (iT me env s)
theorem iv_lt {tg : Expr} (hK : g.K = X.K) (h : Ev X g E e me) : Iv X g E tg e (iLT me) := by
  obtain ⟨w1, p1, h1⟩ := iv_l (tg := tg) hK h
  obtain ⟨w2, p2, h2⟩ := iv_t (tg := tg) hK h
  exact ⟨fun σ H R => w1 σ H R ∨ w2 σ H R, ⟨fun pins s σ H R I h => h.elim (p1.run pins s σ H R I) (p2.run pins s σ H R I)⟩, fun env s ca F P H σ R m sl q => q.or.imp (h1 env s ca F P H σ R m sl) (h2 env s ca F P H σ R m sl)⟩
end
end Pm
set_option Elab.async false
set_option linter.all false
set_option maxRecDepth 100000
set_option maxHeartbeats 2000000
namespace Pm
open PySem PySem.Spec PyProof.Rows L2
section
variable {X : Cx} {g : G} {E : XK} {a b c e : Expr} {es rest : List Expr} {ma mb mc me mo : Env → S → Res D} {mr : Env → S → Res (List D)} {pos apos : Pos}
def intsOf : List D → Option (List Int)
  | [] => some []
  | .int i :: ds => (intsOf ds).map (i :: ·)
  | _ => none
theorem intsOf_eq : ∀ {ds : List D} {ns : List Int}, intsOf ds = some ns → ds = ns.map D.int
  | [], ns, h => by simp only [intsOf, Option.some.injEq] at h; subst h; rfl
  | d :: ds, ns, h => by
    unfold intsOf at h
    split at h
    · rename_i heq; cases heq
    · rename_i i ds' heq
      cases heq
      rw [Option.map_eq_some_iff] at h
      obtain ⟨ms, h, rfl⟩ := h
      rw [intsOf_eq h]
      rfl
    · cases h
theorem reps_ints {ca : List Addr} {F : Hp} : ∀ {ns : List Int} {vs : List V}, Reps g ca F (ns.map D.int) vs → vs = ns.map V.int
  | [], vs, r => by simp only [List.map_nil, Reps] at r; subst r; rfl
  | n :: ns, vs, r => by
    simp only [List.map_cons, Reps] at r
    obtain ⟨v, ws, rfl, r1, r2⟩ := r
    simp only [Rep] at r1
    subst r1
    rw [reps_ints r2]
    rfl
def rowP (ns : List Int) : PyData := .list (ns.map .int)
def bReprS : List D → S → Res D := fun xs s => match xs with
  | [x] => if isSeqD x = true then bRepr [x] s else .stuck
  | _ => .stuck
theorem cd_reprS (hK : g.K = X.K) (hgd : X.A.guards = some []) (hu : X.A.units + 66 < cLine) : CallD X g E (.builtin "repr") bReprS := cd_reprD hK hgd hu
end
end Pm
set_option Elab.async false
set_option linter.all false
set_option maxRecDepth 100000
set_option maxHeartbeats 400000
set_option exponentiation.threshold 5000
namespace Pm
open PySem
theorem lgP {n : Nat} {k : Nat} (h : n < 2 ^ k) (hk : 0 < k) : n.log2 < k := by
  by_cases h0 : n = 0
  · subst h0
    simpa using hk
  · exact (Nat.log2_lt h0).mpr h
abbrev SmP (i : Int) : Prop := i.natAbs < 2 ^ 4000
theorem smP {i : Int} (h : i.natAbs < 2 ^ 200) : SmP i := Nat.lt_of_lt_of_le h (Nat.pow_le_pow_right (by decide) (by decide))
theorem mulP (i j : Int) (s : S) (hi : SmP i) (hj : SmP j) : mulD (.int i) (.int j) s = .ok (.int (i * j)) s := by
  have h : i.natAbs.log2 + j.natAbs.log2 < 1000000 := by
    have := lgP hi (by decide)
    have := lgP hj (by decide)
    omega
  simp [mulD, mulI, intOp, cMul, h, Res.or]
theorem addP (i j : Int) (s : S) : addAll (.int i) (.int j) s = .ok (.int (i + j)) s := by rfl
theorem subP (i j : Int) (s : S) : subI (.int i) (.int j) s = .ok (.int (i - j)) s := by rfl
theorem eqPi (i j : Int) (s : S) : eqP false (.int i) (.int j) s = .ok (.bl (decide (i = j))) s := by rfl
theorem runP3 {body : Pm.Env → S → Res Fl} {a b c r : D} {N : Nat} {s s1 : S} (h : body ([some a, some b, some c] ++ List.replicate (N - 3) none) s = .ok (.rt r) s1) : runBody 3 N body [a, b, c] s = .ok r s1 := by
  simp only [List.cons_append, List.nil_append] at h
  simp [runBody, h]
theorem runP2 {body : Pm.Env → S → Res Fl} {a b r : D} {N : Nat} {s s1 : S} (h : body ([some a, some b] ++ List.replicate (N - 2) none) s = .ok (.rt r) s1) : runBody 2 N body [a, b] s = .ok r s1 := by
  simp only [List.cons_append, List.nil_append] at h
  simp [runBody, h]
theorem runP1 {body : Pm.Env → S → Res Fl} {a r : D} {N : Nat} {s s1 : S} (h : body ([some a] ++ List.replicate (N - 1) none) s = .ok (.rt r) s1) : runBody 1 N body [a] s = .ok r s1 := by
  simp only [List.cons_append, List.nil_append] at h
  simp [runBody, h]
theorem seqP {a b : Pm.Env → S → Res Fl} {e e1 : Pm.Env} {s s1 : S} (h : a e s = .ok (.nx e1) s1) : sSeq a b e s = b e1 s1 := by simp [sSeq, h]
theorem seqRt {a b : Pm.Env → S → Res Fl} {e : Pm.Env} {r : D} {s s1 : S} (h : a e s = .ok (.rt r) s1) : sSeq a b e s = .ok (.rt r) s1 := by simp [sSeq, h]
theorem retP {m : Pm.Env → S → Res D} {e : Pm.Env} {r : D} {s s1 : S} (h : m e s = .ok r s1) : sRet m e s = .ok (.rt r) s1 := by simp [sRet, h]
theorem setP {m : Pm.Env → S → Res D} {e : Pm.Env} {r : D} {i : Nat} {s s1 : S} (h : m e s = .ok r s1) : sSet i m e s = .ok (.nx (e.set i (some r))) s1 := by simp [sSet, h]
theorem at_P {α : Type} {xs : List α} {x : α} {j : Nat} (h : xs[j]? = some x) : L2.atI xs (j : Int) = some x := by
  have hl : j < xs.length := (List.getElem?_eq_some_iff.mp h).1
  unfold L2.atI L2.ixN
  rw [if_pos (by omega), if_pos (by omega)]
  simpa using h
theorem fmodP (x : Int) {m : Int} (h : 0 < m) : 0 ≤ x.fmod m ∧ x.fmod m < m := by
  rw [Int.fmod_eq_emod_of_nonneg _ (by omega)]
  exact ⟨Int.emod_nonneg _ (by omega), Int.emod_lt_of_pos _ h⟩
section
variable {s : S} {k : Nat} {a b n A B : Int}
theorem lenP (e : s[k]? = some (.lst [.int a, .int b])) : k < s.length := (List.getElem?_eq_some_iff.mp e).1
theorem atP0 {x y : D} : L2.atI [x, y] 0 = some x := by rfl
theorem atP1 {x y : D} : L2.atI [x, y] 1 = some y := by rfl
theorem ixnP0 : L2.ixN 2 0 = some 0 := by rfl
theorem ixnP1 : L2.ixN 2 1 = some 1 := by rfl
theorem potP0 (e : s[k]? = some (.lst [.int a, .int b])) : ixD (.cell k) (.int 0) s = .ok (.int a) s := by
  simp [ixD, ixL, e, atP0, atP1, Res.or]
theorem potP1 (e : s[k]? = some (.lst [.int a, .int b])) : ixD (.cell k) (.int 1) s = .ok (.int b) s := by
  simp [ixD, ixL, e, atP0, atP1, Res.or]
def PotP (s : S) (k : Nat) : Prop := ∃ a b : Int, s[k]? = some (.lst [.int a, .int b]) ∧ 0 ≤ a ∧ 0 ≤ b ∧ b < 2 ^ 32
structure NxP (s s' : S) (k : Nat) : Prop where
  eq : ∃ c, s' = s.set k c
  pot : PotP s' k
theorem NxP.refl (h : PotP s k) : NxP s s k := by
  obtain ⟨a, b, e, h2⟩ := id h
  exact ⟨⟨.lst [.int a, .int b], (List.ext_getElem? fun i => by
    by_cases hi : k = i
    · subst hi
      rw [List.getElem?_set_self (lenP e), e]
    · rw [List.getElem?_set_ne hi])⟩, h⟩
theorem NxP.trans {s' s2 : S} (h : NxP s s' k) (h2 : NxP s' s2 k) : NxP s s2 k := by
  obtain ⟨⟨c, rfl⟩, _⟩ := h
  obtain ⟨⟨c2, rfl⟩, p⟩ := h2
  exact ⟨⟨c2, by rw [List.set_set]⟩, p⟩
def DrawOk (m : List D → S → Res D) : Prop := ∀ (s : S) (k : Nat) (n : Int), PotP s k → 0 < n → n < 1073741824 → ∃ (r : Int) (s' : S), m [.cell k, .int n] s = .ok (.int r) s' ∧ 0 ≤ r ∧ r < n ∧ NxP s s' k
inductive Sh : S → Nat → Prop
  | one (a b : Int) : Sh [.lst [.int a, .int b]] 0
  | two (a b c d : Int) : Sh [.lst [.int a, .int b], .lst [.int c, .int d]] 1
theorem Sh.next {s' : S} (h : Sh s k) (n : NxP s s' k) : Sh s' k := by
  obtain ⟨⟨c, rfl⟩, a, b, e, _⟩ := n
  cases h with
  | one a0 b0 => simp at e; subst e; exact .one a b
  | two a0 b0 c0 d0 => simp at e; subst e; exact .two a0 b0 a b
end
end Pm
set_option Elab.async false
set_option linter.all false
set_option maxRecDepth 100000
set_option maxHeartbeats 2000000
namespace Pm
open PySem PySem.Spec PyProof.Rows L2
section
variable {X : Cx} {g : G} {E : XK} {a b c e e2 : Expr} {es rest : List Expr} {ma mb mc me mo : Env → S → Res D} {mr : Env → S → Res (List D)} {pos apos tpos : Pos} {elts : List Expr} {kk : Nat}
def zipD : List D → List D → List D
  | x :: xs, y :: ys => .tup [x, y] :: zipD xs ys
  | _, _ => []
theorem zipD_get : ∀ {xs ys : List D} {i : Nat} {d : D}, (zipD xs ys)[i]? = some d → ∃ x y, xs[i]? = some x ∧ ys[i]? = some y ∧ d = .tup [x, y]
  | [], ys, i, d, h => by cases ys <;> simp [zipD] at h
  | x :: xs, [], i, d, h => by simp [zipD] at h
  | x :: xs, y :: ys, 0, d, h => by simp [zipD] at h; exact ⟨x, y, rfl, rfl, h.symm⟩
  | x :: xs, y :: ys, i + 1, d, h => by
    obtain ⟨x', y', h1, h2, h3⟩ := zipD_get (xs := xs) (ys := ys) (i := i) (d := d) (by simpa [zipD] using h)
    exact ⟨x', y', by simpa using h1, by simpa using h2, h3⟩
theorem zipD_len : ∀ (xs ys : List D), (zipD xs ys).length = min xs.length ys.length
  | [], ys => by cases ys <;> simp [zipD]
  | x :: xs, [] => by simp [zipD]
  | x :: xs, y :: ys => by simp [zipD, zipD_len xs ys]
theorem pair_new {ca : List Addr} {F P H : Hp} {s : S} {T : Addr} {x y : D} {v u : V} (m : Sim g ca F P s H) (hT : H T = none) (rx : Rep g ca F x v) (ry : Rep g ca F y u) :
    Sub F (upd F T (.tup [v, u])) ∧ Sim g ca (upd F T (.tup [v, u])) P s (upd H T (.tup [v, u])) ∧ Rep g ca (upd F T (.tup [v, u])) (.tup [x, y]) (.ref T) := by
  have hs : Sub F (upd F T (.tup [v, u])) := Sub.new (m.sub.free hT)
  refine ⟨hs, m.fresh _ hT, ?_⟩
  simp only [Rep]
  exact ⟨T, [v, u], rfl, upd_same, Reps.mono List.prefix_rfl hs _ _ (.cons rx (.cons ry .nil))⟩
theorem walks_z {ca : List Addr} {F : Hp} {p q : Addr} {xs ys : List V} {ds us : List D} {K : PySem.W.Frag} (hK : g.K = K) (h1 : SqL g.K F p xs) (h2 : SqL g.K F q ys) (r1 : Reps g ca F ds xs) (r2 : Reps g ca F us ys) : Walks g ca F (Itz K p q) (zipD ds us) := fun i ca' F' P H' s hc hF m => by
  have s1 : SqL K H' p xs := hK ▸ same_l (hF.trans m.sub) h1
  have s2 : SqL K H' q ys := hK ▸ same_l (hF.trans m.sub) h2
  refine ⟨fun d hd => ?_, fun hl => ⟨xs, ys, s1, s2, by rw [← r1.length, ← r2.length]; rw [zipD_len] at hl; omega⟩⟩
  obtain ⟨x, y, hx, hy, rfl⟩ := zipD_get hd
  obtain ⟨v, hv, rv⟩ := r1.get hx
  obtain ⟨u, hu, ru⟩ := r2.get hy
  refine ⟨⟨xs, ys, v, u, s1, s2, hv, hu⟩, fun z H'' hyd => ?_⟩
  obtain ⟨T, v', u', rfl, hT, rfl, f1, f2⟩ := hyd
  have e1 := f1 xs s1
  have e2 := f2 ys s2
  rw [hv] at e1; rw [hu] at e2
  cases e1; cases e2
  obtain ⟨k1, k2, k3⟩ := pair_new m hT (Rep.mono hc hF _ _ rv) (Rep.mono hc hF _ _ ru)
  exact ⟨_, k1, k2, k3⟩
theorem walks_zT {ca : List Addr} {F : Hp} {p q : Addr} {xs ys : List V} {ds us : List D} {K : PySem.W.Frag} (hK : g.K = K) (h1 : SqT g.K F p xs) (h2 : SqT g.K F q ys) (r1 : Reps g ca F ds xs) (r2 : Reps g ca F us ys) : Walks g ca F (RZ.ItzT K p q) (zipD ds us) := fun i ca' F' P H' s hc hF m => by
  have s1 : SqT K H' p xs := hK ▸ same_t (hF.trans m.sub) h1
  have s2 : SqT K H' q ys := hK ▸ same_t (hF.trans m.sub) h2
  refine ⟨fun d hd => ?_, fun hl => ⟨xs, ys, s1, s2, by rw [← r1.length, ← r2.length]; rw [zipD_len] at hl; omega⟩⟩
  obtain ⟨x, y, hx, hy, rfl⟩ := zipD_get hd
  obtain ⟨v, hv, rv⟩ := r1.get hx
  obtain ⟨u, hu, ru⟩ := r2.get hy
  refine ⟨⟨xs, ys, v, u, s1, s2, hv, hu⟩, fun z H'' hyd => ?_⟩
  obtain ⟨T, v', u', rfl, hT, rfl, f1, f2⟩ := hyd
  have e1 := f1 xs s1
  have e2 := f2 ys s2
  rw [hv] at e1; rw [hu] at e2
  cases e1; cases e2
  obtain ⟨k1, k2, k3⟩ := pair_new m hT (Rep.mono hc hF _ _ rv) (Rep.mono hc hF _ _ ru)
  exact ⟨_, k1, k2, k3⟩
inductive SqK where
  | l (ds : List D) | t (ds : List D) | no
def sqK : D → SqK
  | .lst ds => .l ds
  | .ro ds => .l ds
  | .tup ds => .t ds
  | .rot ds => .t ds
  | _ => .no
theorem sqK_l {ca : List Addr} {F : Hp} {d : D} {ds : List D} {v : V} (h : sqK d = .l ds) (r : Rep g ca F d v) : ∃ a xs, v = .ref a ∧ SqL g.K F a xs ∧ Reps g ca F ds xs := by
  cases d <;> simp only [sqK, SqK.l.injEq, reduceCtorEq] at h
  · subst h; simp only [Rep] at r; obtain ⟨a, xs, rfl, hF, rs⟩ := r; exact ⟨a, xs, rfl, .of hF, rs⟩
  · subst h; simp only [Rep] at r; obtain ⟨a, xs, rfl, hF, rs⟩ := r; exact ⟨a, xs, rfl, hF, rs⟩
theorem sqK_t {ca : List Addr} {F : Hp} {d : D} {ds : List D} {v : V} (h : sqK d = .t ds) (r : Rep g ca F d v) : ∃ a xs, v = .ref a ∧ SqT g.K F a xs ∧ Reps g ca F ds xs := by
  cases d <;> simp only [sqK, SqK.t.injEq, reduceCtorEq] at h
  · subst h; simp only [Rep] at r; obtain ⟨a, xs, rfl, hF, rs⟩ := r; exact ⟨a, xs, rfl, .of hF, rs⟩
  · subst h; simp only [Rep] at r; obtain ⟨a, xs, rfl, hF, rs⟩ := r; exact ⟨a, xs, rfl, hF, rs⟩
def zipF : List D → S → Res (List D) := fun ds s => match ds with
  | [x, y] => match sqK x, sqK y with
    | .l xs, .l ys => .ok (zipD xs ys) s
    | .t xs, .t ys => .ok (zipD xs ys) s
    | _, _ => .stuck
  | _ => .stuck
def iZipM (mr : Env → S → Res (List D)) : Env → S → Res (List D) := fun env s => (mr env s).bind zipF
theorem iv_zip {p : Pos} (hK : g.K = X.K) (hg : Gl X "zip") (hm : X.mg "zip" = none) (ha : Ea X g E [e, e2] mr)
    (hs : starEach [e, e2] X.env = (false, eval e X.env) :: starEach [e2] X.env := by rfl) (hpl : (backTo pos (starEach [e2] X.env)).any (·.1) = false := by rfl) :
    Iv X g E (.Tuple elts kk tpos) (.Call (.Name "zip" p) [e, e2] [] pos) (iZipM mr) := by
  obtain ⟨t, pa, ha⟩ := ha
  refine ⟨_, RZ.pi_zipA hg hm pa hs hpl, fun env s ca F P H σ R m sl q => ?_⟩
  refine ha env s ca F P H σ _ m sl (Post.imp (Post.seq q) fun ds s1 ca1 F1 H1 k1 k2 m1 q1 vs rs => ?_)
  unfold zipF at q1
  split at q1
  · rename_i x y
    obtain ⟨v, u, rfl, rx, ry⟩ := reps2 rs
    split at q1
    · rename_i xs ys hx hy
      obtain ⟨a1, zs, rfl, h1, r1⟩ := sqK_l hx rx
      obtain ⟨b1, ws, rfl, h2, r2⟩ := sqK_l hy ry
      exact ⟨a1, b1, zs, ws, rfl, .inl ⟨hK ▸ same_l m1.sub h1, hK ▸ same_l m1.sub h2, q1.now m1 _ (walks_z hK h1 h2 r1 r2)⟩⟩
    · rename_i xs ys hx hy
      obtain ⟨a1, zs, rfl, h1, r1⟩ := sqK_t hx rx
      obtain ⟨b1, ws, rfl, h2, r2⟩ := sqK_t hy ry
      exact ⟨a1, b1, zs, ws, rfl, .inr ⟨hK ▸ same_t m1.sub h1, hK ▸ same_t m1.sub h2, q1.now m1 _ (walks_zT hK h1 h2 r1 r2)⟩⟩
    · exact q1.elim
  · exact q1.elim
def enumD : Nat → List D → List D
  | _, [] => []
  | n, x :: xs => .tup [.int (n : Nat), x] :: enumD (n + 1) xs
def enumF : List D → S → Res (List D) := fun ds s => match ds with
  | [x] => match sqK x with
    | .l xs => .ok (enumD 0 xs) s
    | _ => .stuck
  | _ => .stuck
def iEnumM (mr : Env → S → Res (List D)) : Env → S → Res (List D) := fun env s => (mr env s).bind enumF
def inDl (neg : Bool) : D → D → S → Res D := fun x y s => match toPy x, toPy y with
  | some d, some (.list ds) => if (SeqAt.shaped d && SeqAt.shaped (.list ds)) = true then .ok (.bl (if neg then !(ds.any fun z => PyData.eqv z d) else ds.any fun z => PyData.eqv z d)) s else .stuck
  | _, _ => .stuck
def inDt (neg : Bool) : D → D → S → Res D := fun x y s => match toPy x, toPy y with
  | some d, some (.tuple ds) => if (SeqAt.shaped d && SeqAt.shaped (.tuple ds)) = true then .ok (.bl (if neg then !(ds.any fun z => PyData.eqv z d) else ds.any fun z => PyData.eqv z d)) s else .stuck
  | _, _ => .stuck
def inDD (neg : Bool) : D → D → S → Res D := fun x y s => (inDl neg x y s).or (inDt neg x y s)
def bLcm : List D → S → Res D := fun xs s => match xs with
  | [.int i, .int j] => if decide (i.natAbs < 18446744073709551616 ∧ j.natAbs < 18446744073709551616) = true then .ok (.int ((i.natAbs / Nat.gcd i.natAbs j.natAbs * j.natAbs : Nat) : Int)) s else .stuck
  | _ => .stuck
end
end Pm
set_option Elab.async false
set_option linter.all false
set_option maxRecDepth 100000
set_option maxHeartbeats 2000000
namespace Pm
open PySem PySem.Spec PyProof.Rows L2
def few1 : Nat := 400
def few2 : Nat := 40000
def compL2 (own vs1 : List Nat) (mt : D → Env → Option Env) (tt : Env → S → Res Bool) (mi1 : Env → S → Res (List D)) (mt1 : D → Env → Option Env) (tt1 : Env → S → Res Bool) (me : Env → S → Res D) : List D → Env → S → Res (List D)
  | [], _, s => .ok [] s
  | d :: ds, env, s => match mt d (wipeE env own) with
    | none => .stuck
    | some e1 => (noexn (tt e1 s)).bind fun b s1 => if b = true then (noexn (mi1 e1 s1)).bind (fun ds1 s2 => if ds1.length ≤ few2 then (compL vs1 mt1 tt1 me ds1 e1 s2).bind (fun ys s3 => (compL2 own vs1 mt tt mi1 mt1 tt1 me ds env s3).bind fun zs s4 => .ok (ys ++ zs) s4) else .stuck) else compL2 own vs1 mt tt mi1 mt1 tt1 me ds env s1
def mComp2 (own vs1 : List Nat) (mi : Env → S → Res (List D)) (mt : D → Env → Option Env) (tt : Env → S → Res Bool) (mi1 : Env → S → Res (List D)) (mt1 : D → Env → Option Env) (tt1 : Env → S → Res Bool) (me : Env → S → Res D) : Env → S → Res D := fun env s =>
  (mi env s).bind fun ds s1 => if ds.length ≤ few1 then (compL2 own vs1 mt tt mi1 mt1 tt1 me ds env s1).bind finL else .stuck
end Pm
set_option Elab.async false
set_option linter.all false
set_option maxRecDepth 100000
set_option maxHeartbeats 2000000
namespace Pm
open PySem PySem.Spec PyProof.Rows L2
def perm {α : Type} (σ : List Nat) (l : List α) : List α := σ.filterMap (l[·]?)
theorem vals_get {xs : List V} {us : List Value} (r : Vals xs us) : ∀ {i : Nat} {x : V}, xs[i]? = some x → ∃ u, us[i]? = some u ∧ RelV x u := by
  induction r with
  | nil => intro i x h; simp at h
  | cons h1 h2 ih =>
    intro i x h
    cases i with
    | zero => simp at h; subst h; exact ⟨_, rfl, h1⟩
    | succ i => exact ih (by simpa using h)
theorem vals_perm {xs : List V} {us : List Value} (r : Vals xs us) : ∀ σ : List Nat, Vals (perm σ xs) (perm σ us)
  | [] => .nil
  | i :: σ => by
    have ih := vals_perm r σ
    unfold perm at ih ⊢
    cases hx : xs[i]? with
    | none =>
      have hu : us[i]? = none := by
        rw [List.getElem?_eq_none_iff] at hx ⊢
        rw [← r.length]
        exact hx
      simp only [List.filterMap_cons, hx, hu]
      exact ih
    | some x =>
      obtain ⟨u, hu, hr⟩ := vals_get r hx
      simp only [List.filterMap_cons, hx, hu]
      exact .cons hr ih
theorem reps_perm {g : G} {ca : List Addr} {F : Hp} {ds : List D} {vs : List V} (r : Reps g ca F ds vs) : ∀ σ : List Nat, Reps g ca F (perm σ ds) (perm σ vs)
  | [] => .nil
  | i :: σ => by
    have ih := reps_perm r σ
    unfold perm at ih ⊢
    cases hx : ds[i]? with
    | none =>
      have hu : vs[i]? = none := by
        rw [List.getElem?_eq_none_iff] at hx ⊢
        rw [← r.length]
        exact hx
      simp only [List.filterMap_cons, hx, hu]
      exact ih
    | some x =>
      obtain ⟨u, hu, hr⟩ := r.get hx
      simp only [List.filterMap_cons, hx, hu]
      exact .cons hr ih
def KBp (K : PySem.W.Frag) (fd : FuncData) (ps ks : List Str) (σ : List Nat) : Prop :=
  ∀ (s : Shared) (ws : List Value), K.In s.heap → ws.length = ks.length → BindsTo s fd ⟨[], ks.zip ws⟩ (ps.zip (perm σ ws))
section
variable {X : Cx} {g : G} {E : XK} {x : Str} {p pos : Pos} {kws : List Keyword} {mk : Env → S → Res (List D)} {CX : CXT} {k n : Nat} {f : Addr} {fd : FuncData} {ps ks : List Str} {ff : List D → S → Res D} {σ : List Nat}
def mKwP (σ : List Nat) (n j : Nat) (ff : List D → S → Res D) (mk : Env → S → Res (List D)) : Env → S → Res D := fun env s => (mk env s).bind fun ys s2 => if ys.length = j ∧ (perm σ ys).length = n then ff (perm σ ys) s2 else .stuck
theorem run_kwP {pins : List (Addr × Obj)} {τ : L2.St} {H : Hp} {s : Shared} {Q : VK} {ws : List Value} {zs : List V} {sp : Sp} (F : FnOk X.prog X.w X.K X.mg X.base CX k f fd ps sp) (hr : Room k X.A) (hb : KBp X.K fd ps ks σ) (hx : Passes CX X E)
    (I : Inv X pins τ H s) (rz : Vals zs ws) (hl : ws.length = ks.length) (h : sp (perm σ zs) H Q E) : wpAny (model X.prog X.w) X.A (call (.ref f) [] (ks.zip ws)) (EP X pins τ Q) X.xe s := by
  refine wpAny_call (codeAny_mono (F.run X.A X.stack s H ⟨[], ks.zip ws⟩ (perm σ ws) (perm σ zs) Q E hr I.env0 (hb s ws I.kIn hl) (vals_perm rz σ) h) fun r s' hq => ?_)
  cases r with
  | error e => exact hx pins τ H s e s' I hq
  | ok fl =>
    cases fl with
    | ret u => exact I.after hq
    | next => exact False.elim hq
    | brk => exact False.elim hq
    | cont => exact False.elim hq
theorem ev_kwP (Fk : FnOk X.prog X.w X.K X.mg X.base CX k f fd ps (spG g n ff)) (hr : Room k X.A) (hg : Gl X x) (hm : X.mg x = some (.ref f)) (hk : PySem.W.keepIn X.K (.ref f) = true) (hb : KBp X.K fd ps ks σ) (hx : Passes CX X E) (hkw : Ek X g E kws mk)
    (hall : (backToKw pos (keywordEach kws X.env)).all (·.1.isSome) = true := by rfl) (hks : (backToKw pos (keywordEach kws X.env)).filterMap (·.1) = ks := by rfl)
    (hdb : (x == ("__debug__" : Str)) = false := by decide) (hpl : ((backTo pos (starEach [] X.env)).any (·.1) || (backToKw pos (keywordEach kws X.env)).any (·.1.isNone)) = false := by rfl) :
    Ev X g E (.Call (.Name x p) [] kws pos) (mKwP σ n ks.length ff mk) := by
  obtain ⟨t, pk, hkw⟩ := hkw
  refine ⟨fun τ H Q => t τ H fun zs H2 => zs.length = ks.length ∧ spG g n ff (perm σ zs) H2 Q E, ⟨fun pins s τ H Q I h => ?_⟩, fun env s ca F P H τ Q m sl q => ?_⟩
  · refine wpAny_Call_Name_kw (ld_glob I hg hm ?_ hdb)
    refine PySem.W.callWith_KW0 (h₀ := X.base) I.ok.mod.kin hk hall (thn (pk.run pos pins s τ H _ I h) fun ws s2 ⟨zs, H2, I2, rz, hl, q2⟩ => ⟨I2.kIn, ?_⟩) hpl
    rw [hks]
    exact run_kwP Fk hr hb hx I2 rz (by rw [← rz.length]; exact hl) q2
  · unfold mKwP at q
    refine hkw env s ca F P H τ _ m sl (Post.imp (Post.seq q) fun ys s1 ca1 F1 H1 k1 k2 m1 q1 vs rs => ?_)
    split at q1
    · rename_i hl
      exact ⟨by rw [← rs.length]; exact hl.1, spG_of m1 (reps_perm rs σ) hl.2 q1⟩
    · exact q1.elim
end
theorem kbp_of {K : Fr'} {x q : Str} {st : Stmt} {f : Addr} {fd : FuncData} {ps ks : List Str} {σ : List Nat} (F : Fun K x q st f fd)
    (h : ∀ (kV doc pm : Value) (an : Option Addr) (cdv ct : Value) (ws : List Value), ws.length = ks.length →
      bindArgs (PySem.W.fnOf x q (defArgs st) (defBody st) (defScope st) .none kV doc pm an cdv ct) ⟨[], ks.zip ws⟩ = pure (ps.zip (perm σ ws))) : KBp K fd ps ks σ := by
  obtain ⟨oc, od, kV, doc, pm, an, cdv, ct, sl, rfl, lk, hc⟩ := F.ex
  intro s ws X hw
  exact .of_eq (h kV doc pm an cdv ct ws hw)
end Pm
set_option Elab.async false
set_option linter.all false
set_option maxRecDepth 100000
set_option maxHeartbeats 2000000
namespace Pm
open PySem PySem.Spec PyProof.Rows L2
mutual
/-- how deep lists and tuples stand in each other -/
def ht : D → Nat
  | .lst ds => htL ds + 1
  | .tup ds => htL ds + 1
  | _ => 0
def htL : List D → Nat
  | [] => 0
  | d :: ds => max (ht d) (htL ds)
end
mutual
def okN : D → Bool
  | .non => true
  | .bl _ => true
  | .int _ => true
  | .str _ => true
  | .lst ds => okNs ds
  | .tup ds => okNs ds
  | .ins _ _ => true
  | .mty => true
  | _ => false
def okNs : List D → Bool
  | [] => true
  | d :: ds => okN d && okNs ds
end
mutual
/-- the text -/
def shN (c : Nat) (ff : List D → S → Res D) : D → S → Res Str
  | .non, s => .ok "None" s
  | .bl b, s => .ok (if b then "True" else "False") s
  | .int i, s => if decide (i.natAbs.log2 < 1920) = true then .ok (toString i : String) s else .stuck
  | .str x, s => if (reprText x).length ≤ line then .ok (reprText x) s else .stuck
  | .lst ds, s => (shL c ff ds s).bind fun ts s1 => .ok (match ts with
    | [] => "[]"
    | t :: r => listText (t :: r)) s1
  | .tup ds, s => (shL c ff ds s).bind fun ts s1 => .ok (tupleText ts) s1
  | .ins k fs, s => if k = c then (ff [.ins k fs] s).bind fun d s1 => match d with
    | .str x => .ok x s1
    | _ => .stuck else .stuck
  | .mty, s => .ok (dictText []) s
  | _, _ => .stuck
def shL (c : Nat) (ff : List D → S → Res D) : List D → S → Res (List Str)
  | [], s => .ok [] s
  | d :: ds, s => (shN c ff d s).bind fun t s1 => (shL c ff ds s1).bind fun ts s2 => .ok (t :: ts) s2
end
section
variable {g : G} {ca : List Addr} {F : Hp}
theorem htL_mem : ∀ {ds : List D} {d : D}, d ∈ ds → ht d ≤ htL ds
  | e :: ds, d, h => by
    rcases List.mem_cons.mp h with rfl | h
    · simp only [htL]; omega
    · have := htL_mem h; simp only [htL]; omega
theorem okNs_mem : ∀ {ds : List D} {d : D}, okNs ds = true → d ∈ ds → okN d = true
  | e :: ds, d, h, m => by
    simp only [okNs, Bool.and_eq_true] at h
    rcases List.mem_cons.mp m with rfl | m
    · exact h.1
    · exact okNs_mem h.2 m
mutual
theorem ht_uniq : ∀ (x y : D) (v : V), okN x = true → okN y = true → Rep g ca F x v → Rep g ca F y v → ht x = ht y
  | .lst xs, y, v, hx, hy, rx, ry => by
    simp only [Rep] at rx
    obtain ⟨a, ws, rfl, hF, rs⟩ := rx
    cases y <;> simp only [Rep, okN, Bool.false_eq_true] at ry hy <;> try (cases ry; done)
    case lst ys =>
      obtain ⟨b, zs, e, hG, rz⟩ := ry
      cases e
      rw [hF] at hG; cases hG
      simp only [ht]
      rw [htL_uniq xs ys ws (by simpa only [okN] using hx) hy rs rz]
    case tup ys =>
      obtain ⟨b, zs, e, hG, rz⟩ := ry
      cases e
      rw [hF] at hG; cases hG
    case ins c fs =>
      obtain ⟨b, dx, zs, e, hG, _⟩ := ry
      cases e
      rw [hF] at hG; cases hG
    case mty =>
      obtain ⟨b, e, hG⟩ := ry
      cases e
      rw [hF] at hG; cases hG
  | .tup xs, y, v, hx, hy, rx, ry => by
    simp only [Rep] at rx
    obtain ⟨a, ws, rfl, hF, rs⟩ := rx
    cases y <;> simp only [Rep, okN, Bool.false_eq_true] at ry hy <;> try (cases ry; done)
    case tup ys =>
      obtain ⟨b, zs, e, hG, rz⟩ := ry
      cases e
      rw [hF] at hG; cases hG
      simp only [ht]
      rw [htL_uniq xs ys ws (by simpa only [okN] using hx) hy rs rz]
    case lst ys =>
      obtain ⟨b, zs, e, hG, rz⟩ := ry
      cases e
      rw [hF] at hG; cases hG
    case ins c fs =>
      obtain ⟨b, dx, zs, e, hG, _⟩ := ry
      cases e
      rw [hF] at hG; cases hG
    case mty =>
      obtain ⟨b, e, hG⟩ := ry
      cases e
      rw [hF] at hG; cases hG
  | .ins c fs, y, v, hx, hy, rx, ry => by
    simp only [Rep] at rx
    obtain ⟨a, dx, ws, rfl, hF, _⟩ := rx
    cases y <;> simp only [Rep, okN, Bool.false_eq_true] at ry hy <;> first | rfl | (cases ry; done) | (obtain ⟨b, zs, e, hG, rz⟩ := ry; cases e; rw [hF] at hG; cases hG)
  | .mty, y, v, hx, hy, rx, ry => by
    simp only [Rep] at rx
    obtain ⟨a, rfl, hF⟩ := rx
    cases y <;> simp only [Rep, okN, Bool.false_eq_true] at ry hy <;> first | rfl | (cases ry; done) | (obtain ⟨b, zs, e, hG, rz⟩ := ry; cases e; rw [hF] at hG; cases hG)
  | .non, y, v, hx, hy, rx, ry => by
    simp only [Rep] at rx; subst rx
    cases y <;> simp only [Rep, okN, Bool.false_eq_true] at ry hy <;> first | rfl | (cases ry; done) | (obtain ⟨b, zs, e, _⟩ := ry; cases e)
  | .bl q, y, v, hx, hy, rx, ry => by
    simp only [Rep] at rx; subst rx
    cases y <;> simp only [Rep, okN, Bool.false_eq_true] at ry hy <;> first | rfl | (cases ry; done) | (obtain ⟨b, zs, e, _⟩ := ry; cases e)
  | .int q, y, v, hx, hy, rx, ry => by
    simp only [Rep] at rx; subst rx
    cases y <;> simp only [Rep, okN, Bool.false_eq_true] at ry hy <;> first | rfl | (cases ry; done) | (obtain ⟨b, zs, e, _⟩ := ry; cases e)
  | .str q, y, v, hx, hy, rx, ry => by
    simp only [Rep] at rx; subst rx
    cases y <;> simp only [Rep, okN, Bool.false_eq_true] at ry hy <;> first | rfl | (cases ry; done) | (obtain ⟨b, zs, e, _⟩ := ry; cases e)
  | .ro _, _, _, hx, _, _, _ => by cases hx
  | .rot _, _, _, hx, _, _, _ => by cases hx
  | .cell _, _, _, hx, _, _, _ => by cases hx
  | .cls _, _, _, hx, _, _, _ => by cases hx
  | .ty _, _, _, hx, _, _, _ => by cases hx
theorem htL_uniq : ∀ (xs ys : List D) (vs : List V), okNs xs = true → okNs ys = true → Reps g ca F xs vs → Reps g ca F ys vs → htL xs = htL ys
  | [], ys, vs, _, _, rx, ry => by
    simp only [Reps] at rx; subst rx
    cases ys with
    | nil => rfl
    | cons y ys => simp only [Reps] at ry; obtain ⟨_, _, e, _⟩ := ry; cases e
  | x :: xs, ys, vs, hx, hy, rx, ry => by
    simp only [Reps] at rx
    obtain ⟨v, ws, rfl, r, rs⟩ := rx
    cases ys with
    | nil => simp only [Reps] at ry; cases ry
    | cons y ys =>
      simp only [Reps] at ry
      obtain ⟨v', ws', e, r', rs'⟩ := ry
      cases e
      simp only [okNs, Bool.and_eq_true] at hx hy
      simp only [htL]
      rw [ht_uniq x y v hx.1 hy.1 r r', htL_uniq xs ys ws hx.2 hy.2 rs rs']
end
def GOk (g : G) (ca : List Addr) (F : Hp) (gs : List Code) (n : Nat) : Prop :=
  ∀ id v rest kw, Code.builtin id ⟨v :: rest, kw⟩ ∈ gs → ∃ b y, v = .ref b ∧ okN y = true ∧ Rep g ca F y (.ref b) ∧ n < ht y
theorem GOk.mono {ca' : List Addr} {F' : Hp} {gs : List Code} {n m : Nat} (h : GOk g ca F gs n) (hc : ca <+: ca') (hF : Sub F F') (hm : m ≤ n) : GOk g ca' F' gs m := fun id v rest kw q => by
  obtain ⟨b, y, e, o, r, l⟩ := h id v rest kw q
  exact ⟨b, y, e, o, Rep.mono hc hF _ _ r, by omega⟩
theorem GOk.clear {gs : List Code} {x : D} {a : Addr} (h : GOk g ca F gs (ht x)) (o : okN x = true) (r : Rep g ca F x (.ref a)) : Clear gs a := fun id v rest kw q e => by
  obtain ⟨b, y, e', oy, ry, l⟩ := h id v rest kw q
  rw [e] at e'
  cases e'
  have := ht_uniq y x _ oy o ry r
  omega
theorem GOk.push {gs : List Code} {x : D} {a : Addr} {id : String} {rest : List Value} {kw : List (Str × Value)} {n : Nat} (h : GOk g ca F gs (ht x)) (o : okN x = true) (r : Rep g ca F x (.ref a)) (hn : n < ht x) : GOk g ca F (.builtin id ⟨.ref a :: rest, kw⟩ :: gs) n := fun id' v rest' kw' q => by
  rcases List.mem_cons.mp q with e | q
  · cases e
    exact ⟨a, x, rfl, o, r, hn⟩
  · obtain ⟨b, y, e, o, r, l⟩ := h _ _ _ _ q
    exact ⟨b, y, e, o, r, by omega⟩
theorem gok_nil {n : Nat} : GOk g ca F [] n := fun _ _ _ _ h => nomatch h
end
end Pm
set_option Elab.async false
set_option linter.all false
set_option maxRecDepth 100000
set_option maxHeartbeats 2000000
namespace Pm
open PySem PySem.Spec PyProof.Rows L2
section
variable {X : Cx} {g : G} {E : XK} {c k : Nat} {ff : List D → S → Res D}
def WR (X : Cx) (pins : List (Addr × Obj)) (σ : L2.St) (g : G) (ca : List Addr) (F P : Hp) (st : S) (s' : Shared) : Prop :=
  ∃ ca' F' H', ca <+: ca' ∧ Sub F F' ∧ Sim g ca' F' P st H' ∧ Inv X pins σ H' s'
theorem WR.back {pins : List (Addr × Obj)} {σ : L2.St} {ca ca1 : List Addr} {F F1 P : Hp} {st : S} {s' : Shared} (h : WR X pins σ g ca1 F1 P st s') (a : ca <+: ca1) (b : Sub F F1) : WR X pins σ g ca F P st s' := by
  obtain ⟨ca', F', H', p, q, r⟩ := h
  exact ⟨ca', F', H', a.trans p, b.trans q, r⟩
structure At (X : Cx) (g : G) (A : Around) (gs : List Code) (k n : Nat) (ca : List Addr) (F : Hp) : Prop where
  fr : A.frames = some X.stack
  gd : A.guards = some gs
  ok : GOk g ca F gs n
  rm : Room (k + n) A
def RJ (X : Cx) (g : G) (c k : Nat) (ff : List D → S → Res D) (x : D) : Prop :=
  ∀ (base : Nat) (A : Around) (gs : List Code) (pins : List (Addr × Obj)) (σ : L2.St) (s : Shared) (ca : List Addr) (F P H : Hp) (st st' : S) (t : Str) (v : V) (u : Value),
    shN c ff x st = .ok t st' → base + t.length ≤ sizeLine → okN x = true → RelV v u → Rep g ca F x v → At X g A gs k (ht x) ca F → Sim g ca F P st H → Inv X pins σ H s →
    wpAny (model X.prog X.w) A (pyReprUnder base u) (fun t' s' => t' = t ∧ WR X pins σ g ca F P st' s') X.xe s
theorem under_room {A : Around} {j : Nat} {cd : Code} (h : Room (j + 1) A) (hw : cd.weight ≤ 1) (hu : cd.cUnits ≤ 1) : Room j (A.under cd) := by
  refine ⟨h.hd, ?_, ?_⟩
  · have := h.dp
    show A.depth + cd.weight + 3 * j + 5 < _
    omega
  · have := h.un
    show A.units + cd.cUnits + 16 * j + 200 < _
    omega
theorem loop_w (args : Args) : (Code.builtin "list.__repr__.loop" args).weight ≤ 1 := by
  simp [Code.weight, Code.frames, Code.isCreation, Code.isCaller, Code.isGuard, guardIds, Code.isFrame]
theorem tupu_w (args : Args) : (Code.builtin "tuple.__repr__.under" args).weight ≤ 1 := by
  simp [Code.weight, Code.frames, Code.isCreation, Code.isCaller, Code.isGuard, guardIds, Code.isFrame]
theorem tup_w (args : Args) : (Code.builtin "tuple.__repr__" args).weight ≤ 1 := by
  simp [Code.weight, Code.frames, Code.isCreation, Code.isCaller, Code.isGuard, guardIds, Code.isFrame]
theorem loop_u (args : Args) : (Code.builtin "list.__repr__.loop" args).cUnits ≤ 1 := by
  simp [Code.cUnits, Code.frames, Code.isFrame]
theorem tupu_u (args : Args) : (Code.builtin "tuple.__repr__.under" args).cUnits ≤ 1 := by
  simp [Code.cUnits, Code.frames, Code.isFrame]
theorem tup_u (args : Args) : (Code.builtin "tuple.__repr__" args).cUnits ≤ 1 := by
  simp [Code.cUnits, Code.frames, Code.isFrame]
theorem any_f {A : Around} {id : String} {args : Args} {l : List PySem.Env} (h : A.frames = some l) : (A.under (.builtin id args)).frames = some l := by
  simpa [Around.under, Code.envs, Code.isFrame, pushEnvs] using h
theorem At.deep {A : Around} {gs : List Code} {m : Nat} {ca : List Addr} {F : Hp} {x : D} {a : Addr} {id : String} {rest : List Value} {kw : List (Str × Value)} (h : At X g A gs k (ht x) ca F) (o : okN x = true) (r : Rep g ca F x (.ref a)) (hm : m < ht x)
    (hg : (Code.builtin id ⟨.ref a :: rest, kw⟩).isGuard = true) (hw : (Code.builtin id ⟨.ref a :: rest, kw⟩).weight ≤ 1) (hu : (Code.builtin id ⟨.ref a :: rest, kw⟩).cUnits ≤ 1) : At X g (A.under (.builtin id ⟨.ref a :: rest, kw⟩)) (.builtin id ⟨.ref a :: rest, kw⟩ :: gs) k m ca F :=
  ⟨any_f h.fr, guards_under_guard hg h.gd, h.ok.push o r hm, (under_room (h.rm.mono (show k + m + 1 ≤ k + ht x by omega)) hw hu)⟩
theorem At.le {A : Around} {gs : List Code} {n m : Nat} {ca ca' : List Addr} {F F' : Hp} (h : At X g A gs k n ca F) (hc : ca <+: ca') (hF : Sub F F') (hm : m ≤ n) : At X g A gs k m ca' F' :=
  ⟨h.fr, h.gd, h.ok.mono hc hF hm, h.rm.mono (by omega)⟩
structure Pd (X : Cx) (pins : List (Addr × Obj)) (p : Addr) : Prop where
  lo : X.s_0.heap.objs.size ≤ p
  ce : ∀ x c, X.env.cells.lookup x = some c → c ≠ p
  pn : ∀ q ∈ X.pn ++ pins, q.1 ≠ p
def pObj (acc : Array Value) (n : Nat) : Obj := { cls := .type "list", dict := none, data := .seq acc n, slots := #[] }
theorem pd_new {pins : List (Addr × Obj)} {σ : L2.St} {H : Hp} {s : Shared} (I : Inv X pins σ H s) : Pd X pins s.heap.objs.size :=
  ⟨I.sz, fun x c e z => by
    obtain ⟨v, o, ho, _⟩ := I.cell x c e
    exact absurd (Heap.lt_size ho) (by rw [z]; exact Nat.lt_irrefl _), fun q hq z => by
    obtain ⟨e, _⟩ := I.pin q hq
    exact absurd (Heap.lt_size e) (by rw [z]; exact Nat.lt_irrefl _)⟩
theorem pin_new {pins : List (Addr × Obj)} {σ : L2.St} {H : Hp} {s : Shared} (I : Inv X pins σ H s) : Inv X ((s.heap.objs.size, pObj #[] 0) :: pins) σ H { s with heap := s.heap.push (pObj #[] 0) } := by
  have J : Inv X pins σ H { s with heap := s.heap.push (pObj #[] 0), toks := s.toks } := I.kept fun b u e => Heap.get?_push_of_some _ e
  refine J.pins_of fun q hq => ?_
  rcases List.mem_cons.mp hq with rfl | hq
  · refine ⟨Heap.get?_push_size _ rfl, I.fresh, fun e => ?_, I.nofs (Nat.le_refl _), fun v e => nomatch e⟩
    exact absurd I.lt (by rw [← e]; exact Nat.lt_irrefl _)
  · exact J.pin q (List.mem_append_right _ hq)
theorem pin_less {pins : List (Addr × Obj)} {σ : L2.St} {H : Hp} {s : Shared} {q : Addr × Obj} (I : Inv X (q :: pins) σ H s) : Inv X pins σ H s :=
  I.pins_of fun p hp => I.pin p (List.mem_append_right _ (List.mem_cons_of_mem _ hp))
theorem pin_turn {pins : List (Addr × Obj)} {σ : L2.St} {H : Hp} {s : Shared} {p : Addr} {o o' : Obj} {h' : Heap} {t' : Nat} (I : Inv X ((p, o) :: pins) σ H s) (d : Pd X pins p)
    (k : ∀ b u, b ≠ p → s.heap.get? b = some u → h'.get? b = some u) (ho : h'.get? p = some o') (hc : ∀ v, o'.data ≠ .cell v) : Inv X ((p, o') :: pins) σ H { s with heap := h', toks := t' } := by
  obtain ⟨_, hn, hL, hf, _⟩ := I.pin (p, o) (List.mem_append_right _ List.mem_cons_self)
  have J := (pin_less I).turned (h' := h') (t' := t') k hn hL (.inr d.lo) d.ce d.pn
  refine J.pins_of fun q hq => ?_
  rcases List.mem_cons.mp hq with rfl | hq
  · exact ⟨ho, hn, hL, hf, hc⟩
  · exact J.pin q (List.mem_append_right _ hq)
theorem sim_lst {pins : List (Addr × Obj)} {σ : L2.St} {ca : List Addr} {F P H : Hp} {st : S} {s : Shared} {a : Addr} {xs : List V} (m : Sim g ca F P st H) (I : Inv X pins σ H s) (hF : F a = some (.lst xs)) :
    ∃ (its : List Value) (n : Nat), Vals xs its ∧ s.heap.get? a = some { cls := .type "list", data := .seq its.toArray n } := by
  obtain ⟨its, n, r, e, _⟩ := I.lst (m.sub _ _ hF)
  exact ⟨its, n, r, e⟩
end
end Pm
set_option Elab.async false
set_option linter.all false
set_option maxRecDepth 100000
set_option maxHeartbeats 2000000
namespace Pm
open PySem PySem.Spec PyProof.Rows L2
section
variable {X : Cx} {g : G} {E : XK} {c k : Nat} {ff : List D → S → Res D}
theorem sizes {us ts : List Str} {t : Str} {base : Nat} (h : base + (listText (us ++ t :: ts)).length ≤ sizeLine) : base + piled us + 1 + t.length ≤ sizeLine ∧ us.length ≤ sizeLine ∧ t.length ≤ sizeLine := by
  have hp := piled_le_listText (us ++ t :: ts)
  rw [piled_append, piled_cons] at hp
  have hl : us.length ≤ piled us := by
    clear hp h
    induction us with
    | nil => exact Nat.zero_le _
    | cons y r ih => rw [piled_cons]; simp only [List.length_cons]; omega
  omega
theorem bind_ok {α β : Type} {r : Res α} {f : α → S → Res β} {b : β} {s : S} (h : r.bind f = .ok b s) : ∃ a s1, r = .ok a s1 ∧ f a s1 = .ok b s := by
  cases r with
  | ok a s1 => exact ⟨a, s1, rfl, h⟩
  | stuck => cases h
  | exn _ _ _ => cases h
theorem rj_loop {a p : Addr} {ds : List D} {base : Nat} {A : Around} {gs : List Code} {pins : List (Addr × Obj)} {σ : L2.St} {P : Hp} {R : Result → Shared → Prop} (item : ∀ d ∈ ds, RJ X g c k ff d) (hk : okNs ds = true) (hne : a ≠ p) (hd : Pd X pins p)
    (hE : ∀ e s', X.xe e s' → R (.error e) s') : ∀ (rest : List D) (i : Nat) (made : List (Str × Tok)) (acc : Array Value) (n : Nat) (st st' : S) (ts : List Str) (xs : List V) (s : Shared) (ca : List Addr) (F H : Hp), ds.drop i = rest → made.length = i → acc.toList = strValues made →
    shL c ff rest st = .ok ts st' → base + (listText (made.map (·.1) ++ ts)).length ≤ sizeLine → F a = some (.lst xs) → Reps g ca F ds xs → At X g A gs k (ht (.lst ds)) ca F → Sim g ca F P st H → Inv X ((p, pObj acc n) :: pins) σ H s →
    (∀ tk s', WR X pins σ g ca F P st' s' → R (.ok (.ret (.str (listText (made.map (·.1) ++ ts)) tk))) s') →
    codeAny (model X.prog X.w) A (.builtin "list.__repr__.loop" ⟨[.ref a, rawInt i, .ref p, rawInt ((base + piled (made.map (·.1)) : Nat) : Int)], []⟩) R s := by
  intro rest
  induction rest with
  | nil =>
    intro i made acc n st st' ts xs s ca F H hdr hi hacc hsh hsz hF rs at_ m I hR
    simp only [shL] at hsh
    cases hsh
    obtain ⟨its, z, hv, hget⟩ := sim_lst m I hF
    have hpin := (I.pin (p, pObj acc n) (List.mem_append_right _ List.mem_cons_self)).1
    have hlen : its.length ≤ i := by
      have h1 : ds.length ≤ i := List.drop_eq_nil_iff.mp hdr
      have h2 := rs.length
      have h3 := hv.length
      omega
    refine codeAny_builtin PySem.F.entry_list_repr_loop ?_
    show wpAny _ _ (Builtin.«list.__repr__.loop» ⟨[.ref a, .int i 0, .ref p, .int ((base + piled (made.map (·.1)) : Nat) : Int) 0], []⟩) _ _ s
    rw [repr_loop_tree]
    refine wpAny_bind (wpAny_listItems hget rfl ?_)
    have hno : its.toArray[(i : Int).toNat]? = none := by simp [hlen]
    simp only [hno]
    unfold reprEnd
    refine wpAny_bind (wpAny_listItems hpin rfl ?_)
    rw [hacc, repr_fold]
    refine wpAny_bind (wpAny_pure ?_)
    simp only [List.append_nil] at hsz hR
    refine wpAny_bind (wpAny_mkStr (wpAny_pure ?_) (by have h : (listText (made.map (·.1))).length ≤ sizeLine := by omega
                                                       exact h))
    exact hR s.toks _ ⟨ca, F, H, List.prefix_refl _, Sub.refl _, m, (pin_less I).tok _⟩
  | cons d rest ih =>
    intro i made acc n st st' ts xs s ca F H hdr hi hacc hsh hsz hF rs at_ m I hR
    simp only [shL] at hsh
    obtain ⟨t, st1, h1, hsh⟩ := bind_ok hsh
    obtain ⟨us, st2, h2, hsh⟩ := bind_ok hsh
    cases hsh
    have hdi : ds[i]? = some d := by
      have := congrArg (·[0]?) hdr
      simpa [List.getElem?_drop] using this
    have hmem : d ∈ ds := List.mem_of_getElem? hdi
    have hdr' : ds.drop (i + 1) = rest := by
      have := congrArg (·.drop 1) hdr
      simpa [List.drop_drop] using this
    obtain ⟨z1, z2, z3⟩ := sizes hsz
    obtain ⟨its, z, hv, hget⟩ := sim_lst m I hF
    obtain ⟨v, hxv, rv⟩ := rs.get hdi
    obtain ⟨u, hu, ru⟩ := vals_get hv hxv
    refine codeAny_builtin PySem.F.entry_list_repr_loop ?_
    show wpAny _ _ (Builtin.«list.__repr__.loop» ⟨[.ref a, .int i 0, .ref p, .int ((base + piled (made.map (·.1)) : Nat) : Int) 0], []⟩) _ _ s
    rw [repr_loop_tree]
    refine wpAny_bind (wpAny_listItems hget rfl ?_)
    have hyes : its.toArray[(i : Int).toNat]? = some u := by simpa using hu
    simp only [hyes]
    rw [Int.toNat_natCast]
    have rl : Rep g ca F (.lst ds) (.ref a) := by simp only [Rep]; exact ⟨a, xs, rfl, hF, rs⟩
    have hlt : ht d < ht (.lst ds) := by have := htL_mem hmem; simp only [ht]; omega
    have deep := at_.deep (id := "list.__repr__.loop") (rest := [rawInt i, .ref p, rawInt ((base + piled (made.map (·.1)) : Nat) : Int)]) (kw := []) (by simpa only [okN] using hk) rl hlt (isGuard_list_loop _) (loop_w _) (loop_u _)
    refine wpAny_bind (wpAny_holding (wpAny_mono (item d hmem (base + piled (made.map (·.1)) + 1) _ _ _ σ s ca F P H st st1 t v u h1 z1 (okNs_mem hk hmem) ru rv deep m I) (fun t' s1 hq => ?_) fun e s' h => hE e s' h))
    obtain ⟨rfl, ca1, F1, H1, k1, k2, m1, I1⟩ := hq
    refine wpAny_bind (wpAny_mkStr ?_ z3)
    refine wpAny_bind ?_
    show wpAny _ _ (updateSeq p _) _ _ _
    have hpin := (I1.pin (p, pObj acc n) (List.mem_append_right _ List.mem_cons_self)).1
    have hasz : acc.size ≤ sizeLine := by
      have e1 : acc.toList.length = acc.size := by simp
      have e2 : (strValues made).length = (made.map (·.1)).length := by simp [strValues]
      rw [hacc] at e1; omega
    refine wpAny_updateSeq hpin rfl (wpAny_pure ⟨PySem.F.quiet_list_repr_loop _, ?_⟩) hasz
    have I2 := (I1.tok (s1.toks + 1))
    have hup : ∃ n', (s1.heap.update p (Obj.mapSeq fun y => y.push (.str t' s1.toks))).get? p = some (pObj (acc.push (.str t' s1.toks)) n') := by
      have h := Heap.get?_update_self (Obj.mapSeq fun y => y.push (.str t' s1.toks)) hpin rfl
      exact ⟨_, h⟩
    obtain ⟨n', hup⟩ := hup
    have I3 := pin_turn (h' := s1.heap.update p (Obj.mapSeq fun y => y.push (.str t' s1.toks))) (t' := s1.toks + 1) I2 hd (fun b o hb e => (Heap.get?_update_other _ _ (Ne.symm hb)).trans e) hup (fun v e => nomatch e)
    have hF1 := k2 _ _ hF
    have e1 : ((i : Int) + 1) = ((i + 1 : Nat) : Int) := by omega
    have e2 : base + piled (made.map (·.1)) + (t'.length + 2) = base + piled ((made ++ [(t', s1.toks)]).map (·.1)) := by
      rw [List.map_append, piled_append]
      simp [piled]
      omega
    rw [e1, e2]
    have ee : (made ++ [(t', s1.toks)]).map (·.1) ++ us = made.map (·.1) ++ t' :: us := by simp
    refine ih (i + 1) (made ++ [(t', s1.toks)]) _ n' st1 _ us xs _ ca1 F1 H1 hdr' (by simp [hi]) (by simp [hacc, strValues]) h2 (by rw [ee]; exact hsz) hF1 (Reps.mono k1 k2 _ _ rs) (at_.le k1 k2 (Nat.le_refl _)) m1 I3 fun tk s' hw => ?_
    rw [ee]
    exact hR tk s' (hw.back k1 k2)
end
end Pm
set_option Elab.async false
set_option linter.all false
set_option maxRecDepth 100000
set_option maxHeartbeats 2000000
namespace Pm
open PySem PySem.Spec PyProof.Rows L2
section
variable {X : Cx} {g : G} {E : XK} {c k : Nat} {ff : List D → S → Res D}
theorem shL_cons {d : D} {ds : List D} {st st' : S} {ts : List Str} (h : shL c ff (d :: ds) st = .ok ts st') : ∃ t r, ts = t :: r := by
  simp only [shL] at h
  obtain ⟨t, st1, h1, h⟩ := bind_ok h
  obtain ⟨us, st2, h2, h⟩ := bind_ok h
  cases h
  exact ⟨t, us, rfl⟩
theorem rj_list {a : Addr} {d : D} {ds : List D} {xs : List V} {base : Nat} {A : Around} {gs : List Code} {pins : List (Addr × Obj)} {σ : L2.St} {ca : List Addr} {F P H : Hp} {st st' : S} {ts : List Str} {s : Shared} {R : Result → Shared → Prop}
    (item : ∀ e ∈ d :: ds, RJ X g c k ff e) (hk : okNs (d :: ds) = true) (hE : ∀ e s', X.xe e s' → R (.error e) s') (hsh : shL c ff (d :: ds) st = .ok ts st') (hsz : base + (listText ts).length ≤ sizeLine) (hF : F a = some (.lst xs)) (rs : Reps g ca F (d :: ds) xs)
    (at_ : At X g A gs k (ht (.lst (d :: ds))) ca F) (m : Sim g ca F P st H) (I : Inv X pins σ H s) (hR : ∀ tk s', WR X pins σ g ca F P st' s' → R (.ok (.ret (.str (listText ts) tk))) s') :
    wpAny (model X.prog X.w) A.in1 (Builtin.listReprAt base ⟨[.ref a], []⟩) (fun fin s' => match fin with
      | .done f => R (.ok f) s'
      | .again c' => c'.quiet = true ∧ codeAny (model X.prog X.w) A c' R s') (fun e s' => R (.error e) s') s := by
  obtain ⟨its, z, hv, hget⟩ := sim_lst m I hF
  have rl : Rep g ca F (.lst (d :: ds)) (.ref a) := by simp only [Rep]; exact ⟨a, xs, rfl, hF, rs⟩
  have hcl := at_.ok.clear (by simpa only [okN] using hk) rl
  have hne : a ≠ s.heap.objs.size := Nat.ne_of_lt (Heap.lt_size hget)
  cases its with
  | nil =>
    have h1 := rs.length
    have h2 := hv.length
    simp only [List.length_cons, List.length_nil] at h1 h2
    omega
  | cons u us =>
    refine wpAny_list_repr_head (A := A.in1) at_.gd (fun v rest kw hm => listSameRef_of_ne (hcl _ _ _ _ hm)) hget rfl ?_
    refine wpAny_bind (m := newList []) (wpAny_newObj_type ?_)
    refine wpAny_pure ⟨PySem.F.quiet_list_repr_loop _, ?_⟩
    exact rj_loop (p := s.heap.objs.size) item hk hne (pd_new I) hE (d :: ds) 0 [] #[] 0 st st' ts xs _ ca F H rfl rfl (by simp [strValues]) hsh (by simpa using hsz) hF rs at_ m (pin_new I) (by simpa using hR)
theorem rj_fold {pins : List (Addr × Obj)} {σ : L2.St} {A : Around} {gs : List Code} {P : Hp} {Q : Array Str × Nat → Shared → Prop} : ∀ (ds : List D) (vs : List V) (us : List Value) (acc : Array Str) (n : Nat) (s : Shared) (st st' : S) (ts : List Str) (ca : List Addr) (F H : Hp),
    (∀ d ∈ ds, RJ X g c k ff d) → okNs ds = true → shL c ff ds st = .ok ts st' → n + piled ts ≤ sizeLine → Reps g ca F ds vs → Vals vs us → At X g A gs k (htL ds) ca F → Sim g ca F P st H → Inv X pins σ H s →
    (∀ s', WR X pins σ g ca F P st' s' → Q ⟨acc ++ ts.toArray, n + piled ts⟩ s') → wpAny (model X.prog X.w) A (forIn us (⟨acc, n⟩ : Array Str × Nat) tupBody) Q X.xe s
  | [], vs, us, acc, n, s, st, st', ts, ca, F, H, _, _, hsh, _, rs, hv, _, m, I, hQ => by
    simp only [shL] at hsh
    cases hsh
    simp only [Reps] at rs
    subst rs
    cases hv
    simp only [List.forIn_nil]
    have q := hQ s ⟨ca, F, H, List.prefix_refl _, Sub.refl _, m, I⟩
    exact wpAny_pure (by simpa [piled] using q)
  | d :: ds, vs, us, acc, n, s, st, st', ts, ca, F, H, item, hk, hsh, hsz, rs, hv, at_, m, I, hQ => by
    simp only [shL] at hsh
    obtain ⟨t, st1, h1, hsh⟩ := bind_ok hsh
    obtain ⟨ts', st2, h2, hsh⟩ := bind_ok hsh
    cases hsh
    simp only [Reps] at rs
    obtain ⟨v, ws, rfl, rv, rs⟩ := rs
    cases hv with
    | cons ru hv =>
      simp only [okNs, Bool.and_eq_true] at hk
      rw [piled_cons] at hsz
      have l1 : ht d ≤ htL (d :: ds) := htL_mem List.mem_cons_self
      have l2 : htL ds ≤ htL (d :: ds) := by simp only [htL]; omega
      rw [List.forIn_cons]
      refine wpAny_bind (wpAny_bind (wpAny_mono (item d List.mem_cons_self (n + 1) A gs pins σ s ca F P H st st1 t v _ h1 (by omega) hk.1 ru rv (at_.le (List.prefix_refl _) (Sub.refl _) l1) m I) (fun t' s1 hq => ?_) fun _ _ z => z))
      obtain ⟨rfl, ca1, F1, H1, k1, k2, m1, I1⟩ := hq
      refine wpAny_pure ?_
      refine rj_fold ds ws _ (acc.push t') (n + (t'.length + 2)) s1 st1 _ ts' ca1 F1 H1 (fun e he => item e (List.mem_cons_of_mem _ he)) hk.2 h2 (by omega) (Reps.mono k1 k2 _ _ rs) hv (at_.le k1 k2 l2) m1 I1 fun s' hw => ?_
      have q := hQ s' (hw.back k1 k2)
      have e : n + piled (t' :: ts') = n + (t'.length + 2) + piled ts' := by rw [piled_cons]; omega
      rw [e] at q
      simpa using q
theorem rj_tup {a : Addr} {ds : List D} {xs : List V} {base : Nat} {A : Around} {gs : List Code} {pins : List (Addr × Obj)} {σ : L2.St} {ca : List Addr} {F P H : Hp} {st st' : S} {ts : List Str} {s : Shared} {R : Result → Shared → Prop} {id : String} {rest : List Value}
    (hcg : (Code.builtin id ⟨.ref a :: rest, []⟩).isGuard = true) (hcw : (Code.builtin id ⟨.ref a :: rest, []⟩).weight ≤ 1) (hcu : (Code.builtin id ⟨.ref a :: rest, []⟩).cUnits ≤ 1)
    (item : ∀ e ∈ ds, RJ X g c k ff e) (hk : okNs ds = true) (hE : ∀ e s', X.xe e s' → R (.error e) s') (hsh : shL c ff ds st = .ok ts st') (hsz : base + (tupleText ts).length ≤ sizeLine) (hF : F a = some (.tup xs)) (rs : Reps g ca F ds xs)
    (at_ : At X g A gs k (ht (.tup ds)) ca F) (m : Sim g ca F P st H) (I : Inv X pins σ H s) (hR : ∀ tk s', WR X pins σ g ca F P st' s' → R (.ok (.ret (.str (tupleText ts) tk))) s') :
    wpOwn (model X.prog X.w) A (.builtin id ⟨.ref a :: rest, []⟩) (Builtin.tupleReprAt base ⟨[.ref a], []⟩) (fun fin s' => match fin with
      | .done f => R (.ok f) s'
      | .again c' => c'.quiet = true ∧ codeAny (model X.prog X.w) A c' R s') (fun e s' => R (.error e) s') s := by
  obtain ⟨_, its, hv, o, hget, hcls, z, hdat⟩ := (show ObjOk X.prog X.w H s.heap a (.tup xs) from I.hok a _ (m.sub _ _ hF))
  have rl : Rep g ca F (.tup ds) (.ref a) := by simp only [Rep]; exact ⟨a, xs, rfl, hF, rs⟩
  have hcl := at_.ok.clear (by simpa only [okN] using hk) rl
  have hp := piled_le_tupleText ts
  have hlen : ts.length = its.length := by
    have h1 := rs.length
    have h2 := hv.length
    have h3 : ∀ (ds : List D) (st st' : S) (ts : List Str), shL c ff ds st = .ok ts st' → ts.length = ds.length := by
      intro ds
      induction ds with
      | nil => intro st st' ts h; simp only [shL] at h; cases h; rfl
      | cons d ds ih =>
        intro st st' ts h
        simp only [shL] at h
        obtain ⟨t, st1, _, h⟩ := bind_ok h
        obtain ⟨us, st2, h2, h⟩ := bind_ok h
        cases h
        simp [ih _ _ _ h2]
    rw [h3 _ _ _ _ hsh]; omega
  have lt : htL ds < ht (.tup ds) := by simp only [ht]; omega
  rw [tuple_repr_tree, tupleReprUnderWay_eq]
  refine wpOwn_bind (wpOwn_stackTailAny at_.gd (tupGuardF_off _) (tupGuardF_pos _) ?_)
  have hn : (gs.any fun c => tupGuardF (.ref a) (c, default)) = false := by
    rw [List.any_eq_false]
    intro c hcm
    rw [tupGuardF_of_clear hcl c hcm]
    exact Bool.false_ne_true
  rw [hn]
  refine wpOwn_of_wpAny ?_
  show wpAny _ _ (tupleReprRest base (.ref a)) _ _ s
  unfold tupleReprRest Builtin.Tuple.tupleItemsOf
  refine wpAny_bind (wpAny_bind (wpAny_seqItems hget hdat (wpAny_pure ?_)))
  rw [← Array.forIn_toList]
  have deep := at_.deep (id := id) (rest := rest) (kw := []) (by simpa only [okN] using hk) rl lt hcg hcw hcu
  refine wpAny_bind (wpAny_mono (rj_fold (Q := fun r s' => r = ⟨#[] ++ ts.toArray, base + piled ts⟩ ∧ WR X pins σ g ca F P st' s') ds xs _ #[] base s st st' ts ca F H item hk hsh (by omega) rs hv deep m I fun s' hw => ⟨rfl, hw⟩) (fun r s' hq => ?_) fun e s' h => hE e s' h)
  obtain ⟨rfl, ca1, F1, H1, k1, k2, m1, I1⟩ := hq
  have e : (("(" : Str) ++ Str.join ", " (#[] ++ ts.toArray).toList ++ (if its.toArray.size == 1 then ",)" else ")" : String)) = tupleText ts := by simp [tupleText, hlen]
  refine wpAny_bind (wpAny_mkStr (wpAny_pure ?_) (by rw [e]; omega))
  rw [e]
  exact hR _ _ ⟨ca1, F1, H1, k1, k2, m1, I1.tok _⟩
end
end Pm
set_option Elab.async false
set_option linter.all false
set_option maxRecDepth 100000
set_option maxHeartbeats 2000000
namespace Pm
open PySem PySem.Spec PyProof.Rows L2
section
variable {X : Cx} {g : G} {E : XK} {c k : Nat} {ff : List D → S → Res D} {f : Addr} {fd : FuncData} {ps : List Str}
theorem at_units {A : Around} {gs : List Code} {n : Nat} {ca : List Addr} {F : Hp} (h : At X g A gs k n ca F) : A.units + 1 < cLine := by have := h.rm.un; omega
theorem rj_is {st : S} {t : Str} {u : Value} (h : ReprIs X.prog X.w u t) {base : Nat} {A : Around} {pins : List (Addr × Obj)} {σ : L2.St} {ca : List Addr} {F P H : Hp} {s : Shared} (hz : base + t.length ≤ sizeLine) (m : Sim g ca F P st H) (I : Inv X pins σ H s) :
    wpAny (model X.prog X.w) A (pyReprUnder base u) (fun t' s' => t' = t ∧ WR X pins σ g ca F P st s') X.xe s :=
  h base hz A _ s _ fun tk => ⟨rfl, ca, F, H, List.prefix_refl _, Sub.refl _, m, I.tok tk⟩
section
open PySem.W
variable {prog : Program} {w : World} {A : Around} {E : Value → Shared → Prop} {s : Shared} {K : Frag} {x C f : Addr} {ox : Obj} {od : Option Obj} {name : Str}
theorem by_own {M : Model} {last : Value → List Value → Sem Value} {Q : Option Value → Shared → Prop} (X : K.In s.heap) (I : InstAt s.heap x ox C od) (hs : findIn K (.ref C) name = some (some (.ref f))) (hf : isFn K (.ref f) = true)
    (h : wpAny M A (last (.ref f) [.ref x]) (fun v => Q (some v)) E s) : wpAny M A (callSpecialIfBoundBy? last (.ref x) name) Q E s := by
  simp only [callSpecialIfBoundBy?, bindSpecialIfBound?]
  refine wpAny_holding (wpAny_bind (wpAny_bind (wpAny_bind (I.type.here ((looks_findIn X hs).here ?_)))))
  refine wpAny_bind (wpAny_askSetting (wpAny_ite ?_))
  have fin : wpAny M A (last (.ref f) [.ref x] >>= fun v => pure (some v)) Q E s := wpAny_bind (wpAny_mono h (fun v s' h' => wpAny_pure h') fun _ _ h' => h')
  split
  · exact wpAny_bind ((bind_fn X _ (beq_iff_eq.mp hf)).here (wpAny_pure (by exact fin)))
  · exact wpAny_tryCatch (wpAny_bind ((bind_fn X _ (beq_iff_eq.mp hf)).here (wpAny_pure (by exact fin))))
theorem under_own {b : Nat} {Q : Value → Shared → Prop} (hu : A.units < cLine) (X : K.In s.heap) (I : InstAt s.heap x ox C od) (hs : findIn K (.ref C) "__repr__" = some (some (.ref f))) (hf : isFn K (.ref f) = true)
    (h : wpAny (model prog w) A (call (.ref f) [.ref x]) (fun v s' => ∃ y u, v = .str y u ∧ Q v s') E s) : wpAny (model prog w) A (pyReprObjUnder b (.ref x)) Q E s := by
  unfold pyReprObjUnder pyReprObjBy
  refine wpAny_bind (wpAny_cRoomFor hu ?_)
  refine wpAny_bind (wpAny_bind (I.type.here ((looks_findIn X hs).here ?_)))
  show wpAny _ _ (if (some (Value.ref f)).isNone = true then _ else _) _ _ _
  rw [if_neg (by simp)]
  refine wpAny_bind (m := callSpecialIfBoundBy? _ (.ref x) (Str.ofString "__repr__")) (by_own X I hs hf ?_)
  show wpAny (model prog w) A (call (.ref f) ([.ref x] ++ [])) _ _ _
  refine wpAny_mono h (fun v s' hq => ?_) fun _ _ y => y
  obtain ⟨y, u, rfl, hq⟩ := hq
  exact wpAny_bind (wpAny_isInstance (T := "str") (b := true) rfl isSubtype_str_str (wpAny_pure hq))
end
theorem env_at {A : Around} {pins : List (Addr × Obj)} {σ : L2.St} {H : Hp} {s : Shared} (I : Inv X pins σ H s) (h : A.frames = some X.stack) : Env0 X.prog X.w X.K X.mg X.base A X.stack s H :=
  have e := I.env0
  ⟨h, e.mod, e.bs, e.bsz, e.funs, e.frf, e.hok, e.bare⟩
structure Ow (X : Cx) (g : G) (E : XK) (CX : CXT) (c k : Nat) (ff : List D → S → Res D) (f : Addr) (fd : FuncData) (ps : List Str) : Prop where
  hs : PySem.W.findIn X.K (.ref (g.cls c)) "__repr__" = some (some (.ref f))
  hf : PySem.W.isFn X.K (.ref f) = true
  fk : FnOk X.prog X.w X.K X.mg X.base CX k f fd ps (spG g 1 ff)
  hb : Binds X.K fd ps []
  hx : Passes CX X E
theorem own_call {CX : CXT} (O : Ow X g E CX c k ff f fd ps) {A : Around} {pins : List (Addr × Obj)} {σ : L2.St} {ca : List Addr} {F P H : Hp} {st st' : S} {t : Str} {s : Shared} {v : V} {u : Value} {fs : List D} (hsh : ff [.ins c fs] st = .ok (.str t) st') (rv : Rep g ca F (.ins c fs) v) (ru : RelV v u) (hA : A.frames = some X.stack) (hr : Room k A) (m : Sim g ca F P st H) (I : Inv X pins σ H s) :
    wpAny (model X.prog X.w) A (call (.ref f) [u]) (fun v s' => ∃ y tk, v = .str y tk ∧ y = t ∧ WR X pins σ g ca F P st' s') X.xe s := by
  have hsp : spG g 1 ff [v] H (fun z H' => z = .str t ∧ ∃ ca' F', ca <+: ca' ∧ Sub F F' ∧ Sim g ca' F' P st' H') E := spG_of m (.cons rv .nil) rfl (by
    rw [hsh]
    intro ca' F' H' a b m' z rz
    exact ⟨by simpa only [Rep] using rz, ca', F', a, b, m'⟩)
  refine wpAny_mono (wpAny_call (SlX.run_at (us := [u]) (ws := [v]) (O.fk.raw O.hb .nil) hr (env_at I hA) O.hx I (.cons ru .nil) (show spG g 1 ff ([v] ++ []) H _ E from hsp))) (fun r s' hq => ?_) fun _ _ z => z
  obtain ⟨z, H', I', rz, rfl, ca', F', a, b, m'⟩ := hq
  obtain ⟨tk, rfl⟩ := (show ∃ tk, r = Value.str t tk from rz)
  exact ⟨t, tk, rfl, rfl, ca', F', H', a, b, m', I'⟩
theorem empty_dict {pins : List (Addr × Obj)} {σ : L2.St} {H : Hp} {s : Shared} {a : Addr} (I : Inv X pins σ H s) (h : H a = some (.dK [])) : (a == sysModules) = false ∧ ∃ o ep, s.heap.get? a = some o ∧ o.cls = .type "dict" ∧ o.data = .dict #[] ep := by
  obtain ⟨_, hn, vs, kv, o, es, ep, ho, ex, hd, _, pr, _⟩ := (show ObjOk X.prog X.w H s.heap a (.dK []) from I.hok a _ h)
  cases kv
  have h0 : es = #[] := by
    have := pr.length
    simpa using this
  subst h0
  exact ⟨hn, o, ep, ho, ex.1, hd⟩
theorem rj_own {CX : CXT} (O : Ow X g E CX c k ff f fd ps) (q : Nat) (fs : List D) : RJ X g c k ff (.ins q fs) := by
  intro base A gs pins σ s ca F P H st st' t v u hsh hz ok ru rv at_ m I
  simp only [shN] at hsh
  split at hsh
  · rename_i hq
    subst hq
    obtain ⟨d, st1, h1, hsh⟩ := bind_ok hsh
    cases d <;> try (cases hsh; done)
    cases hsh
    have rv' := rv
    simp only [Rep] at rv'
    obtain ⟨a, dx, xs, rfl, hF, _⟩ := rv'
    cases (show u = Value.ref a from ru)
    obtain ⟨od, J, e⟩ := ins_at I (m.sub _ _ hF)
    refine wpAny_pyReprUnder_ref (by omega) (under_own (Nat.lt_of_succ_lt (at_units at_)) I.kIn J O.hs O.hf (wpAny_mono (own_call O h1 rv ru at_.fr (at_.rm.mono (by omega)) m I) (fun r s' hq => ?_) fun _ _ z => z))
    obtain ⟨y, tk, rfl, rfl, hw⟩ := hq
    exact ⟨y, tk, rfl, y, tk, rfl, rfl, hw⟩
  · cases hsh
theorem dict_k {pins : List (Addr × Obj)} {σ : L2.St} {ca : List Addr} {F P H : Hp} {st : S} {s : Shared} {a : Addr} (m : Sim g ca F P st H) (I : Inv X pins σ H s) (hF : F a = some (.dK [])) : ReprK X.prog X.w [a] s.heap 1 (.ref a) (dictText []) := by
  obtain ⟨hn, o, ep, ho, hc, hd⟩ := empty_dict I (m.sub _ _ hF)
  exact ReprK.dict (as := []) (d := 0) ho hc hd hn (by simp) .nil
theorem rj_dict : RJ X g c k ff .mty := by
  intro base A gs pins σ s ca F P H st st' t v u hsh hz ok ru rv at_ m I
  simp only [shN] at hsh
  cases hsh
  have rv' := rv
  simp only [Rep] at rv'
  obtain ⟨a, rfl, hF⟩ := rv'
  cases (show u = Value.ref a from ru)
  have hcl := at_.ok.clear ok rv
  refine dict_k m I hF base hz A gs _ s _ at_.gd (fun b hb => ?_) (by have := at_units at_; omega) (fun _ _ e => e) fun h' tk hk => ⟨rfl, ca, F, H, List.prefix_refl _, Sub.refl _, m, I.kept hk⟩
  cases (show b = a by simpa using hb)
  exact hcl
theorem rj_nil {pins : List (Addr × Obj)} {σ : L2.St} {ca : List Addr} {F P H : Hp} {st : S} {s : Shared} {a : Addr} (m : Sim g ca F P st H) (I : Inv X pins σ H s) (hF : F a = some (.lst [])) :
    ∃ n, s.heap.get? a = some { cls := .type "list", data := .seq #[] n } := by
  obtain ⟨its, n, hv, hget⟩ := sim_lst m I hF
  cases hv
  exact ⟨n, hget⟩
mutual
theorem rj {CX : CXT} (O : Ow X g E CX c k ff f fd ps) : ∀ x : D, RJ X g c k ff x
  | .non => fun base A gs pins σ s ca F P H st st' t v u hsh hz ok ru rv at_ m I => by
    simp only [shN] at hsh; cases hsh
    simp only [Rep] at rv; subst rv
    cases (show u = Value.none from ru)
    exact rj_is .none hz m I
  | .bl b => fun base A gs pins σ s ca F P H st st' t v u hsh hz ok ru rv at_ m I => by
    simp only [shN] at hsh; cases hsh
    simp only [Rep] at rv; subst rv
    cases (show u = Value.bool b from ru)
    exact rj_is (.bool b) hz m I
  | .int i => fun base A gs pins σ s ca F P H st st' t v u hsh hz ok ru rv at_ m I => by
    simp only [shN] at hsh
    split at hsh
    · rename_i hi
      cases hsh
      simp only [Rep] at rv; subst rv
      obtain ⟨tk, rfl⟩ := (show ∃ tk, u = Value.int i tk from ru)
      exact rj_is (.int tk (of_decide_eq_true hi)) hz m I
    · cases hsh
  | .str x => fun base A gs pins σ s ca F P H st st' t v u hsh hz ok ru rv at_ m I => by
    simp only [shN] at hsh
    split at hsh
    · rename_i hi
      cases hsh
      simp only [Rep] at rv; subst rv
      obtain ⟨tk, rfl⟩ := (show ∃ tk, u = Value.str x tk from ru)
      exact rj_is (.str x tk (line_le hi)) hz m I
    · cases hsh
  | .lst [] => fun base A gs pins σ s ca F P H st st' t v u hsh hz ok ru rv at_ m I => by
    simp only [shN, shL] at hsh; cases hsh
    simp only [Rep, Reps] at rv
    obtain ⟨a, xs, rfl, hF, rfl⟩ := rv
    cases (show u = Value.ref a from ru)
    obtain ⟨n, hget⟩ := rj_nil m I hF
    exact wpAny_pyReprUnder_ref (by omega) (wpAny_pyReprObjUnder_list_empty ⟨_, hget, rfl⟩ (Nat.lt_of_succ_lt (at_units at_)) hget rfl ⟨_, _, rfl, rfl, ca, F, H, List.prefix_refl _, Sub.refl _, m, I.tok _⟩)
  | .lst (d :: ds) => fun base A gs pins σ s ca F P H st st' t v u hsh hz ok ru rv at_ m I => by
    simp only [shN] at hsh
    obtain ⟨ts, st1, h1, hsh⟩ := bind_ok hsh
    obtain ⟨y, r, rfl⟩ := shL_cons h1
    cases hsh
    simp only [Rep] at rv
    obtain ⟨a, xs, rfl, hF, rs⟩ := rv
    cases (show u = Value.ref a from ru)
    obtain ⟨its, n, hv, hget⟩ := sim_lst m I hF
    have hTy : s.TypeIs (.ref a) "list" := ⟨_, hget, rfl⟩
    refine wpAny_pyReprUnder_ref (by omega) (wpAny_pyReprObjUnder_twin (twin := "list.__repr__.under") hTy PySem.F.slot_list_repr.toG rfl (Nat.lt_of_succ_lt (at_units at_))
      (call_twin_plain PySem.F.plain_list_repr_under PySem.F.entry_list_repr_under PySem.F.check_list_repr_under hTy PySem.F.slot_list_repr.toG (PySem.F.args_list_repr_1 _)
        (rj_list (R := callEnd _ X.xe) (rjs O (d :: ds)) (by simpa only [okN] using ok) (fun _ _ z => z) h1 hz hF rs at_ m I fun tk s' hw => ⟨⟨_, _, rfl⟩, _, _, rfl, rfl, hw⟩)))
  | .tup ds => fun base A gs pins σ s ca F P H st st' t v u hsh hz ok ru rv at_ m I => by
    simp only [shN] at hsh
    obtain ⟨ts, st1, h1, hsh⟩ := bind_ok hsh
    cases hsh
    simp only [Rep] at rv
    obtain ⟨a, xs, rfl, hF, rs⟩ := rv
    cases (show u = Value.ref a from ru)
    have hTy : s.TypeIs (.ref a) "tuple" := by
      obtain ⟨_, its, hv, o, hget, hcls, _⟩ := (show ObjOk X.prog X.w H s.heap a (.tup xs) from I.hok a _ (m.sub _ _ hF))
      exact ⟨o, hget, hcls⟩
    refine wpAny_pyReprUnder_ref (by omega) (wpAny_pyReprObjUnder_twin (twin := "tuple.__repr__.under") hTy PySem.F.slot_tuple_repr rfl (Nat.lt_of_succ_lt (at_units at_))
      (call_twin_own (PySem.F.quiet_tuple_repr_under _) PySem.F.entry_tuple_repr_under PySem.F.check_tuple_repr_under hTy PySem.F.slot_tuple_repr (PySem.F.args_tuple_repr_1 _)
        (rj_tup (R := callEnd _ X.xe) (isGuard_tuple_repr_under _) (tupu_w _) (tupu_u _) (rjs O ds) (by simpa only [okN] using ok) (fun _ _ z => z) h1 hz hF rs at_ m I fun tk s' hw => ⟨⟨_, _, rfl⟩, _, _, rfl, rfl, hw⟩)))
  | .ins q fs => rj_own O q fs
  | .mty => rj_dict
  | .ro _ => fun _ _ _ _ _ _ _ _ _ _ _ _ _ _ _ h => by simp only [shN] at h; cases h
  | .rot _ => fun _ _ _ _ _ _ _ _ _ _ _ _ _ _ _ h => by simp only [shN] at h; cases h
  | .cell _ => fun _ _ _ _ _ _ _ _ _ _ _ _ _ _ _ h => by simp only [shN] at h; cases h
  | .cls _ => fun _ _ _ _ _ _ _ _ _ _ _ _ _ _ _ h => by simp only [shN] at h; cases h
  | .ty _ => fun _ _ _ _ _ _ _ _ _ _ _ _ _ _ _ h => by simp only [shN] at h; cases h
  | .dki _ _ => fun _ _ _ _ _ _ _ _ _ _ _ _ _ _ _ h => by simp only [shN] at h; cases h
  | .dkt _ _ => fun _ _ _ _ _ _ _ _ _ _ _ _ _ _ _ h => by simp only [shN] at h; cases h
  | .dct _ _ => fun _ _ _ _ _ _ _ _ _ _ _ _ _ _ _ h => by simp only [shN] at h; cases h
theorem rjs {CX : CXT} (O : Ow X g E CX c k ff f fd ps) : ∀ (ds : List D), ∀ d ∈ ds, RJ X g c k ff d
  | [], _, h => nomatch h
  | e :: es, d, h => (List.mem_cons.mp h).elim (fun z => z ▸ rj O e) fun z => rjs O es d z
end
end
end Pm
set_option Elab.async false
set_option linter.all false
set_option maxRecDepth 100000
set_option maxHeartbeats 2000000
namespace Pm
open PySem PySem.Spec PyProof.Rows L2
section
variable {X : Cx} {g : G} {E : XK} {c k : Nat} {ff : List D → S → Res D} {f : Addr} {fd : FuncData} {ps : List Str}
def bReprN (c : Nat) (ff : List D → S → Res D) : List D → S → Res D := fun xs s => match xs with
  | [x] => if okN x && decide (ht x ≤ 8) = true then match shN c ff x s with
    | .ok t s1 => if t.length ≤ line then .ok (.str t) s1 else .stuck
    | _ => .stuck else .stuck
  | _ => .stuck
def rReprN (g : G) (c : Nat) (ff : List D → S → Res D) : List V → Hp → VK → Prop := fun vs H Q => ∃ x v ca F P st st' t, vs = [v] ∧ shN c ff x st = .ok t st' ∧ t.length ≤ sizeLine ∧ okN x = true ∧ ht x ≤ 8 ∧ Rep g ca F x v ∧ Sim g ca F P st H ∧
  ∀ ca' F' H', ca <+: ca' → Sub F F' → Sim g ca' F' P st' H' → Q (.str t) H'
theorem call_reprN {CX : CXT} (O : Ow X g E CX c k ff f fd ps) (hr : Room (k + 9) X.A) (hgd : X.A.guards = some []) : CallR X (.builtin "repr") (rReprN g c ff) := by
  intro pins s σ H vs us Q I r h
  obtain ⟨x, v, ca, F, P, st, st', t, rfl, hsh, hz, ok, hd, rv, m, q⟩ := h
  obtain ⟨u, rfl, ru⟩ := vals1 r
  have fin : ∀ tk s', WR X pins σ g ca F P st' s' → EP X pins σ Q (.str t tk) s' := fun tk s' ⟨ca', F', H', a, b, m', I'⟩ => ⟨.str t, H', I', ⟨_, rfl⟩, q _ _ _ a b m'⟩
  have now : ∀ tk tk', st = st' → EP X pins σ Q (.str t tk) { s with toks := tk' } := fun tk tk' e => fin tk _ ⟨ca, F, H, List.prefix_refl _, Sub.refl _, e ▸ m, I.tok _⟩
  have at_ : At X g X.A.in1 [] k (ht x) ca F := ⟨I.ok.frames, hgd, gok_nil, (show Room (k + 8) X.A.in1 from Room.in1 hr).mono (by omega)⟩
  have hu := at_units at_
  have hu1 : X.A.units + 1 < cLine := Nat.lt_of_succ_lt hu
  cases x with
  | non =>
    simp only [shN] at hsh; cases hsh
    simp only [Rep] at rv; subst rv
    cases (show u = Value.none from ru)
    exact PySem.P.repr_of_none (now _ _ rfl)
  | bl b =>
    simp only [shN] at hsh; cases hsh
    simp only [Rep] at rv; subst rv
    cases (show u = Value.bool b from ru)
    exact PySem.P.repr_of_bool (now _ _ rfl)
  | int i =>
    simp only [shN] at hsh
    split at hsh
    · rename_i hi
      cases hsh
      simp only [Rep] at rv; subst rv
      obtain ⟨tk, rfl⟩ := (show ∃ tk, u = Value.int i tk from ru)
      exact PySem.P.repr_of_int (of_decide_eq_true hi) (now _ _ rfl)
    · cases hsh
  | str y =>
    simp only [shN] at hsh
    split at hsh
    · rename_i hi
      cases hsh
      simp only [Rep] at rv; subst rv
      obtain ⟨tk, rfl⟩ := (show ∃ tk, u = Value.str y tk from ru)
      exact PySem.P.repr_of_str (now _ _ rfl) (line_le hi)
    · cases hsh
  | lst ds =>
    have rv' := rv
    simp only [Rep] at rv
    obtain ⟨a, xs, rfl, hF, rs⟩ := rv
    cases (show u = Value.ref a from ru)
    obtain ⟨its, n, hv, hget⟩ := sim_lst m I hF
    have hTy : s.TypeIs (.ref a) "list" := ⟨_, hget, rfl⟩
    simp only [shN] at hsh
    obtain ⟨ts, st1, h1, hsh⟩ := bind_ok hsh
    cases ds with
    | nil =>
      simp only [shL] at h1
      cases h1
      cases hsh
      simp only [Reps] at rs
      subst rs
      cases hv
      exact call_repr_slot hu1 hTy PySem.F.slot_list_repr.toG (call_list_repr_empty hTy hget rfl ⟨_, _, rfl, now _ _ rfl⟩)
    | cons d ds =>
      obtain ⟨y, r, rfl⟩ := shL_cons h1
      cases hsh
      exact call_repr_slot hu1 hTy PySem.F.slot_list_repr.toG (wpAny_call (codeAny_call_builtin PySem.F.slot_list_repr.plain PySem.F.entry_list_repr (PySem.F.slot_list_repr.check _ _ _ _ _ _ _ _ hTy (PySem.F.args_list_repr_1 _)
        (rj_list (base := 0) (R := callEnd _ X.xe) (rjs O (d :: ds)) (by simpa only [okN] using ok) (fun _ _ z => z) h1 (by simpa using hz) hF rs at_ m I fun tk s' hw => ⟨_, _, rfl, fin tk s' hw⟩))))
  | tup ds =>
    have rv' := rv
    simp only [Rep] at rv
    obtain ⟨a, xs, rfl, hF, rs⟩ := rv
    cases (show u = Value.ref a from ru)
    have hTy : s.TypeIs (.ref a) "tuple" := by
      obtain ⟨_, its, hv, o, hget, hcls, _⟩ := (show ObjOk X.prog X.w H s.heap a (.tup xs) from I.hok a _ (m.sub _ _ hF))
      exact ⟨o, hget, hcls⟩
    simp only [shN] at hsh
    obtain ⟨ts, st1, h1, hsh⟩ := bind_ok hsh
    cases hsh
    exact call_repr_slot hu1 hTy PySem.F.slot_tuple_repr (wpAny_call (codeAny_call_builtin_own (Code.quiet_builtin _ (by decide +kernel)) PySem.F.entry_tuple_repr (PySem.F.slot_tuple_repr.check _ _ _ _ _ _ _ _ hTy (PySem.F.args_tuple_repr_1 _)
      (rj_tup (base := 0) (R := callEnd _ X.xe) (isGuard_tuple_repr _) (tup_w _) (tup_u _) (rjs O ds) (by simpa only [okN] using ok) (fun _ _ z => z) h1 (by omega) hF rs at_ m I fun tk s' hw => ⟨_, _, rfl, fin tk s' hw⟩))))
  | ins j fs =>
    simp only [shN] at hsh
    split at hsh
    · rename_i hj
      subst hj
      obtain ⟨d, st1, h1, hsh⟩ := bind_ok hsh
      cases d <;> try (cases hsh; done)
      cases hsh
      have rv' := rv
      simp only [Rep] at rv'
      obtain ⟨a, dx, xs, rfl, hF, _⟩ := rv'
      cases (show u = Value.ref a from ru)
      obtain ⟨od, J, e⟩ := ins_at I (m.sub _ _ hF)
      obtain ⟨mF, hFr⟩ := I.fr
      refine PySem.W.repr_K hu1 hFr I.ok.mod.kin J O.hs O.hf (wpAny_mono (own_call O h1 rv ru at_.fr (at_.rm.mono (by omega)) m I) (fun r s' hq => ?_) fun _ _ z => z)
      obtain ⟨y, tk, rfl, rfl, hw⟩ := hq
      obtain ⟨z, H', I', rz, q'⟩ := fin tk s' hw
      exact ⟨z, H', I', rz, q'⟩
    · cases hsh
  | mty =>
    simp only [shN] at hsh; cases hsh
    have rv' := rv
    simp only [Rep] at rv'
    obtain ⟨a, rfl, hF⟩ := rv'
    cases (show u = Value.ref a from ru)
    obtain ⟨hn, o, ep, ho, hc, hdt⟩ := empty_dict I (m.sub _ _ hF)
    have hcl := at_.ok.clear ok rv
    exact call_repr_slot hu1 ⟨o, ho, hc⟩ PySem.F.slot_dict_repr (call_dict_reprK (as := []) (d := 0) (h₀ := s.heap) ho hc hdt hn (by simp) .nil at_.gd (fun b hb => by
      cases (show b = a by simpa using hb)
      exact hcl) (by omega) (fun _ _ e => e) (fun h' u' tk hk => ⟨_, _, rfl, fin u' _ ⟨ca, F, H, List.prefix_refl _, Sub.refl _, m, I.kept hk⟩⟩) hz)
  | ro _ => simp only [shN] at hsh; cases hsh
  | rot _ => simp only [shN] at hsh; cases hsh
  | cell _ => simp only [shN] at hsh; cases hsh
  | cls _ => simp only [shN] at hsh; cases hsh
  | ty _ => simp only [shN] at hsh; cases hsh
  | dki _ _ => simp only [shN] at hsh; cases hsh
  | dkt _ _ => simp only [shN] at hsh; cases hsh
  | dct _ _ => simp only [shN] at hsh; cases hsh
theorem cd_reprN {CX : CXT} (O : Ow X g E CX c k ff f fd ps) (hr : Room (k + 9) X.A) (hgd : X.A.guards = some []) : CallD X g E (.builtin "repr") (bReprN c ff) := by
  refine ⟨_, call_reprN O hr hgd, fun xs s ca F P H vs Q m rs q => ?_⟩
  unfold bReprN at q
  split at q
  · rename_i x
    split at q
    · rename_i hc
      simp only [Bool.and_eq_true, decide_eq_true_eq] at hc
      obtain ⟨v, rfl, rv⟩ := reps1 rs
      cases hs : shN c ff x s with
      | stuck => rw [hs] at q; exact q.elim
      | exn a b d => rw [hs] at q; exact q.elim
      | ok t s1 =>
        rw [hs] at q
        dsimp only at q
        split at q
        · rename_i hl
          exact ⟨x, v, ca, F, P, s, s1, t, rfl, hs, line_le hl, hc.1, hc.2, rv, m, fun ca' F' H' a b m' => q ca' F' H' a b m' _ (by simp only [Rep])⟩
        · exact q.elim
    · exact q.elim
  · exact q.elim
end
end Pm
set_option Elab.async false
set_option linter.all false
set_option maxRecDepth 100000
set_option maxHeartbeats 2000000
namespace Pm
open PySem PySem.Spec PyProof.Rows L2
section
variable {X : Cx} {g : G} {E : XK} {pos : Pos}
def mDct0 : Env → S → Res D := fun _ s => .ok .mty s
theorem ev_dct0 : Ev X g E (.Dict [] [] pos) mDct0 := by
  refine ⟨_, pe_dnewK, fun env s ca F P H σ Q m sl q => fun p hp => ?_⟩
  have hF : F p = none := m.sub.free hp
  exact q ca (upd F p (.dK [])) (upd H p (.dK [])) (List.prefix_refl _) (Sub.new hF) (m.fresh _ hp) _ (by simp only [Rep]; exact ⟨p, rfl, by simp [upd]⟩)
end
end Pm
set_option Elab.async false
set_option linter.all false
set_option maxRecDepth 100000
set_option maxHeartbeats 2000000
namespace Pm
open PySem PySem.Spec PyProof.Rows L2
section
variable {X : Cx} {g : G} {E : XK}
def newC (xs : List D) (s : S) : Res D := if xs.length ≤ line then .ok (.cell s.length) (s ++ [.lst xs]) else .stuck
def bListC : List D → S → Res D := fun xs s => match xs with
  | [x] => match seqOf s x with
    | some ds => newC ds s
    | none => .stuck
  | _ => .stuck
end
end Pm
set_option Elab.async false
set_option linter.all false
set_option maxRecDepth 100000
set_option maxHeartbeats 400000
set_option exponentiation.threshold 5000
namespace Pm
open PySem
theorem lenAp (a b : Str) : (a ++ b).length = a.length + b.length := by
  cases a; cases b
  show (_ ++ _ : Array Nat).size = _
  simp [Str.length]
theorem txtI {i : Int} (h : i.natAbs < 2 ^ 490) : (intTxt i).length ≤ 491 := by
  have e := int_text_length_le (k := 490) (by decide) (lgP h (by decide))
  unfold intTxt
  rw [show ((toString i : String) : Str) = Str.ofString (toString i) from rfl, ofString_length]
  exact e
theorem okAp {a b : Str} (ha : PyData.strOk a = true) (hb : PyData.strOk b = true) : PyData.strOk (a ++ b) = true := by
  obtain ⟨x⟩ := a
  obtain ⟨y⟩ := b
  have ha : x.all (· < 0x110000) = true := ha
  have hb : y.all (· < 0x110000) = true := hb
  show (x ++ y).all (· < 0x110000) = true
  rw [Array.all_append, ha, hb]
  rfl
theorem okOf (s : String) : PyData.strOk (Str.ofString s) = true := by
  rw [Str.ofString_eq_toList]
  unfold PyData.strOk
  rw [Array.all_eq_true]
  intro i hi
  simp only [List.getElem_toArray, List.getElem_map, decide_eq_true_eq]
  have h := (s.toList[i]'(by simpa using hi)).valid
  show (s.toList[i]'(by simpa using hi)).val.toNat < 1114112
  simp only [UInt32.isValidChar, Nat.isValidChar] at h
  omega
theorem okFrom : ∀ (ts : List Str) (k : Nat) (acc : Str), PyData.strOk acc = true → (∀ t ∈ ts, PyData.strOk t = true) → PyData.strOk (textFrom k acc ts) = true
  | [], _, _, h, _ => h
  | t :: ts, k, acc, h, ht => okFrom ts (k + 1) _ (okAp (okAp h (okOf _)) (ht t (by simp))) fun u hu => ht u (by simp [hu])
theorem okJoin : ∀ (ts : List Str), (∀ t ∈ ts, PyData.strOk t = true) → PyData.strOk (Str.join ", " ts) = true
  | [], _ => by decide +kernel
  | [x], h => h x (by simp)
  | x :: y :: r, h => okAp (okAp (h x (by simp)) (okOf _)) (okJoin (y :: r) fun u hu => h u (by simp [hu]))
theorem okTup {ts : List Str} (h : ∀ t ∈ ts, PyData.strOk t = true) : PyData.strOk (tupleText ts) = true := okAp (okAp (okOf _) (okJoin ts h)) (okOf _)
theorem okLst {ts : List Str} (h : ∀ t ∈ ts, PyData.strOk t = true) : PyData.strOk (listText ts) = true := okAp (okFrom ts 0 _ (okOf _) h) (okOf _)
mutual
/-- as much room as the text may want -/
def wt : D → Nat
  | .lst ds => wtL ds + 2
  | .tup ds => wtL ds + 4
  | _ => 1000
def wtL : List D → Nat
  | [] => 0
  | d :: ds => wt d + 2 + wtL ds
end
mutual
def smD (c : Nat) (ok : List D → Bool) : D → Bool
  | .non => true
  | .bl _ => true
  | .int i => decide (i.natAbs < 2 ^ 490)
  | .str x => decide ((reprText x).length ≤ 1000) && PyData.strOk (reprText x)
  | .lst ds => smL c ok ds
  | .tup ds => smL c ok ds
  | .ins k fs => decide (k = c) && ok fs
  | .mty => true
  | _ => false
def smL (c : Nat) (ok : List D → Bool) : List D → Bool
  | [] => true
  | d :: ds => smD c ok d && smL c ok ds
end
theorem piledTup (ts : List Str) : (tupleText ts).length ≤ piled ts + 4 := by
  unfold tupleText
  rw [lenAp, lenAp]
  have e1 : ((("(" : String) : Str)).length = 1 := rfl
  have e3 : (((if ts.length == 1 then ",)" else ")" : String) : Str)).length ≤ 2 := by split <;> decide
  rw [e1]
  cases ts with
  | nil =>
    have e4 : (Str.join (", " : String) ([] : List Str)).length = 0 := rfl
    omega
  | cons t r =>
    have h := join_length_add (t :: r) (by simp)
    omega
theorem piledLst : ∀ (t : Str) (r : List Str), (listText (t :: r)).length ≤ piled (t :: r) + 2 := by
  intro t r
  have h := textFrom_length_pos r 1 (("[" : Str) ++ (if (0 : Nat) > 0 then ", " else "" : String) ++ t) (Nat.succ_pos 0)
  have e : ((("[" : Str) ++ (if (0 : Nat) > 0 then ", " else "" : String) ++ t)).length = 1 + t.length := by
    rw [lenAp, lenAp]; rfl
  have hX : (listText (t :: r)).length = (textFrom 0 "[" (t :: r)).length + 1 := by
    show (textFrom 0 "[" (t :: r) ++ "]").length = _
    rw [lenAp]; rfl
  have hY : (textFrom 0 "[" (t :: r)).length = (textFrom 1 (("[" : Str) ++ (if (0 : Nat) > 0 then ", " else "" : String) ++ t) r).length := rfl
  rw [hX, hY, h, e, piled_cons]; omega
section
variable {c : Nat} {ok : List D → Bool} {ff : List D → S → Res D}
mutual
theorem shN_ok (hff : ∀ fs, ok fs = true → ∃ x, x.length ≤ 1000 ∧ PyData.strOk x = true ∧ ∀ s, ff [.ins c fs] s = .ok (.str x) s) : ∀ d : D, smD c ok d = true → ∃ t, t.length ≤ wt d ∧ PyData.strOk t = true ∧ ∀ s, shN c ff d s = .ok t s
  | .non, _ => ⟨_, by simp only [wt]; decide, okOf _, fun s => rfl⟩
  | .bl b, _ => ⟨_, by simp only [wt]; cases b <;> decide, by cases b <;> exact okOf _, fun s => rfl⟩
  | .int i, h => by
    simp only [smD, decide_eq_true_eq] at h
    have l := lgP h (by decide)
    have l2 := txtI h
    refine ⟨intTxt i, by simp only [wt]; omega, okOf _, fun s => ?_⟩
    simp only [shN]
    rw [if_pos (decide_eq_true (by omega))]
    rfl
  | .str x, h => by
    simp only [smD, Bool.and_eq_true, decide_eq_true_eq] at h
    refine ⟨reprText x, by simpa only [wt] using h.1, h.2, fun s => ?_⟩
    simp only [shN]
    rw [if_pos (by unfold line; omega)]
  | .lst ds, h => by
    simp only [smD] at h
    obtain ⟨ts, l, o, e⟩ := shL_ok hff ds h
    refine ⟨_, ?_, ?_, fun s => by simp only [shN, e, Res.bind_ok]; rfl⟩
    · cases ts with
      | nil => simp only [wt]; exact Nat.le_trans (by decide) (Nat.le_add_left 2 _)
      | cons t r =>
        have := piledLst t r
        simp only [wt]
        omega
    · cases ts with
      | nil => exact okOf _
      | cons t r => exact okLst o
  | .tup ds, h => by
    simp only [smD] at h
    obtain ⟨ts, l, o, e⟩ := shL_ok hff ds h
    refine ⟨_, ?_, okTup o, fun s => by simp only [shN, e, Res.bind_ok]⟩
    have := piledTup ts
    simp only [wt]
    omega
  | .ins k fs, h => by
    simp only [smD, Bool.and_eq_true, decide_eq_true_eq] at h
    obtain ⟨rfl, hk⟩ := h
    obtain ⟨x, l, o, e⟩ := hff fs hk
    refine ⟨x, by simpa only [wt] using l, o, fun s => ?_⟩
    simp only [shN, if_true, e, Res.bind_ok]
  | .mty, _ => ⟨_, by simp only [wt]; decide, by decide +kernel, fun s => rfl⟩
  | .ro _, h => by cases h
  | .rot _, h => by cases h
  | .cell _, h => by cases h
  | .cls _, h => by cases h
  | .ty _, h => by cases h
  | .dki _ _, h => by cases h
  | .dkt _ _, h => by cases h
  | .dct _ _, h => by cases h
theorem shL_ok (hff : ∀ fs, ok fs = true → ∃ x, x.length ≤ 1000 ∧ PyData.strOk x = true ∧ ∀ s, ff [.ins c fs] s = .ok (.str x) s) : ∀ ds : List D, smL c ok ds = true → ∃ ts, piled ts ≤ wtL ds ∧ (∀ t ∈ ts, PyData.strOk t = true) ∧ ∀ s, shL c ff ds s = .ok ts s
  | [], _ => ⟨[], by simp [piled], by simp, fun s => rfl⟩
  | d :: ds, h => by
    simp only [smL, Bool.and_eq_true] at h
    obtain ⟨t, l, o, e⟩ := shN_ok hff d h.1
    obtain ⟨ts, l2, o2, e2⟩ := shL_ok hff ds h.2
    refine ⟨t :: ts, ?_, by simpa using ⟨o, o2⟩, fun s => by simp only [shL, e, Res.bind_ok, e2]⟩
    rw [piled_cons]
    simp only [wtL]
    omega
end
theorem reprN_ok (hff : ∀ fs, ok fs = true → ∃ x, x.length ≤ 1000 ∧ PyData.strOk x = true ∧ ∀ s, ff [.ins c fs] s = .ok (.str x) s) {d : D} (h : smD c ok d = true) (hk : okN d = true) (hh : ht d ≤ 8) (hw : wt d ≤ 16000000) : ∃ t, PyData.strOk t = true ∧ ∀ s, bReprN c ff [d] s = .ok (.str t) s := by
  obtain ⟨t, l, o, e⟩ := shN_ok hff d h
  refine ⟨t, o, fun s => ?_⟩
  have hl : t.length ≤ line := by unfold line; omega
  simp [bReprN, hk, hh, e, hl]
theorem empP (x : Str) : Str.empty ++ x = x := by
  obtain ⟨c⟩ := x
  exact congrArg Str.mk (Array.empty_append (xs := c))
theorem jCons {m : Pm.Env → S → Res D} {ms : List (Pm.Env → S → Res D)} {acc y : Str} {env : Pm.Env} {s : S} (e : m env s = .ok (.str y) s) (h : (acc ++ y).length ≤ line) : jRun (m :: ms) acc env s = jRun ms (acc ++ y) env s := by
  simp [jRun, e, h]
def ratR : List D → S → Res D := runBody 1 1 (sRet (mJoin [(mC (.str "Ratio(")), (mFmt (mFld 0 0 (mVar 0))), (mC (.str ", ")), (mFmt (mFld 0 1 (mVar 0))), (mC (.str ")"))]))
def ratOk : List D → Bool
  | [.int a, .int b] => decide (a.natAbs < 2 ^ 490) && decide (b.natAbs < 2 ^ 490)
  | _ => false
theorem ratR_ok {a b : Int} (ha : a.natAbs < 2 ^ 490) (hb : b.natAbs < 2 ^ 490) (s : S) : ratR [.ins 0 [.int a, .int b]] s = .ok (.str ((((("Ratio(" : Str) ++ intTxt a) ++ (", " : Str)) ++ intTxt b) ++ (")" : Str))) s := by
  have l1 := txtI ha
  have l2 := txtI hb
  have r1 : ("Ratio(" : Str).length = 6 := by rfl
  have r2 : (", " : Str).length = 2 := by rfl
  have r3 : (")" : Str).length = 1 := by rfl
  have f0 : mFmt (mFld 0 0 (mVar 0)) [some (.ins 0 [.int a, .int b])] s = .ok (.str (intTxt a)) s := by
    have z : mFld 0 0 (mVar 0) [some (.ins 0 [.int a, .int b])] s = .ok (.int a) s := by rfl
    simp [mFmt, z, Nat.lt_trans (lgP ha (by decide)) (by decide : 490 < 1920)]
  have f1 : mFmt (mFld 0 1 (mVar 0)) [some (.ins 0 [.int a, .int b])] s = .ok (.str (intTxt b)) s := by
    have z : mFld 0 1 (mVar 0) [some (.ins 0 [.int a, .int b])] s = .ok (.int b) s := by rfl
    simp [mFmt, z, Nat.lt_trans (lgP hb (by decide)) (by decide : 490 < 1920)]
  refine runP1 (retP ?_)
  show mJoin _ [some (.ins 0 [.int a, .int b])] s = _
  unfold mJoin
  rw [jCons (y := "Ratio(") (by rfl) (by rw [empP, r1]; unfold line; omega), empP, jCons f0 (by rw [lenAp, r1]; unfold line; omega), jCons (y := ", ") (by rfl) (by rw [lenAp, lenAp, r1, r2]; unfold line; omega),
    jCons f1 (by rw [lenAp, lenAp, lenAp, r1, r2]; unfold line; omega), jCons (y := ")") (by rfl) (by rw [lenAp, lenAp, lenAp, lenAp, r1, r2, r3]; unfold line; omega)]
  rfl
theorem rat_hff : ∀ fs, ratOk fs = true → ∃ x, x.length ≤ 1000 ∧ PyData.strOk x = true ∧ ∀ s, ratR [.ins 0 fs] s = .ok (.str x) s := fun fs h => by
  unfold ratOk at h
  split at h
  · rename_i a b
    simp only [Bool.and_eq_true, decide_eq_true_eq] at h
    have l1 := txtI h.1
    have l2 := txtI h.2
    have r1 : ("Ratio(" : Str).length = 6 := by rfl
    have r2 : (", " : Str).length = 2 := by rfl
    have r3 : (")" : Str).length = 1 := by rfl
    exact ⟨(((("Ratio(" : Str) ++ intTxt a) ++ (", " : Str)) ++ intTxt b) ++ (")" : Str), by rw [lenAp, lenAp, lenAp, lenAp, r1, r2, r3]; omega, okAp (okAp (okAp (okAp (okOf _) (okOf _)) (okOf _)) (okOf _)) (okOf _), ratR_ok h.1 h.2⟩
  · cases h
end
end Pm
set_option Elab.async false
set_option linter.all false
set_option maxRecDepth 100000
set_option maxHeartbeats 400000
namespace Pm
open PySem PySem.Spec PyProof.Rows L2
section
variable {X : Cx} {g : G} {E : XK}
def bIntA : List D → S → Res D := fun xs s => match xs with
  | [.int i] => .ok (.int i) s
  | [.bl k] => .ok (.int (if k then 1 else 0)) s
  | _ => .stuck
end
end Pm
set_option Elab.async false
set_option linter.all false
set_option maxRecDepth 100000
set_option maxHeartbeats 400000
namespace Pm
open PySem PySem.Spec PyProof.Rows L2
abbrev Wd := Int × List Int
def IsW (h : Heap) (v : Value) (x : Wd) : Prop := ∃ a o t r n bs, v = .ref a ∧ h.get? a = some o ∧ o.cls = .type "tuple" ∧ o.data = .seq #[.int x.1 t, r] n ∧ Reads h r (rowP x.2) bs
theorem IsW.keeps {h h' : Heap} {v : Value} {x : Wd} (p : IsW h v x) (k : ∀ b o, h.get? b = some o → h'.get? b = some o) : IsW h' v x := by
  obtain ⟨a, o, t, r, n, bs, e, ho, hc, hd, hr⟩ := p
  exact ⟨a, o, t, r, n, bs, e, k _ _ ho, hc, hd, Reads.keeps k hr⟩
end Pm
set_option Elab.async false
set_option linter.all false
set_option maxRecDepth 100000
set_option maxHeartbeats 400000
set_option Elab.async false
set_option linter.all false
set_option maxRecDepth 100000
set_option maxHeartbeats 400000
namespace Pm
open PySem PySem.Spec PyProof.Rows L2
def flatD : D → Bool
  | .non => true
  | .bl _ => true
  | .int _ => true
  | .str _ => true
  | .cell _ => true
  | _ => false
def bareD : D → Bool
  | .cell _ => false
  | d => flatD d
def flatC : Cell → Bool
  | .lst ds => ds.all bareD
  | .ins _ ds => ds.all bareD
  | .dead => true
  | .dK _ ds => ds.all bareD
  | .dT _ ds => ds.all bareD
  | .orc _ _ => true
def flatS (s : S) : Bool := s.all flatC
section
variable {g : G} {ca ca' : List Addr} {F F' P H H' : Hp} {s : S}
theorem bare_rep {d : D} {v : V} (h : bareD d = true) (r : Rep g ca F d v) : Rep g ca' F' d v := by
  cases d <;> first | (simp [bareD, flatD] at h; done) | simpa [Rep] using r
theorem bare_reps : ∀ {ds : List D} {vs : List V}, ds.all bareD = true → Reps g ca F ds vs → Reps g ca' F' ds vs
  | [], vs, _, r => by simp only [Reps] at r ⊢; exact r
  | d :: ds, vs, h, r => by
    simp only [List.all_cons, Bool.and_eq_true] at h
    simp only [Reps] at r ⊢
    obtain ⟨v, ws, rfl, r1, r2⟩ := r
    exact ⟨v, ws, rfl, bare_rep h.1 r1, bare_reps h.2 r2⟩
theorem flat_cell {a : Addr} {c : Cell} (h : flatC c = true) (hH : H' a = H a) (k : CellOk g ca F H a c) : CellOk g ca' F' H' a c := by
  cases c with
  | lst ds => obtain ⟨xs, e, r⟩ := k; exact ⟨xs, hH.trans e, bare_reps h r⟩
  | ins c ds => obtain ⟨dx, xs, e, r⟩ := k; exact ⟨dx, xs, hH.trans e, bare_reps h r⟩
  | dead => trivial
  | dK ks ds => obtain ⟨xs, e, l, r⟩ := k; exact ⟨xs, hH.trans e, l, bare_reps h r⟩
  | dT ks ds => obtain ⟨xs, e, l, r⟩ := k; exact ⟨xs, hH.trans e, l, bare_reps h r⟩
  | orc N ps => obtain ⟨x, c, e, q⟩ := k; exact ⟨x, c, hH.trans e, q⟩
theorem flatS_at (h : flatS s = true) {i : Nat} {c : Cell} (e : s[i]? = some c) : flatC c = true := List.all_eq_true.mp h c (List.mem_of_getElem? e)
def uni (P F : Hp) : Hp := fun a => match P a with
  | some o => some o
  | none => F a
theorem uni_l {a : Addr} {o : HO} (h : P a = some o) : uni P F a = some o := by simp [uni, h]
theorem uni_r {a : Addr} {o : HO} (h : F a = some o) (n : P a = none) : uni P F a = some o := by simp [uni, h, n]
theorem uni_none {a : Addr} : uni P F a = none ↔ P a = none ∧ F a = none := by
  unfold uni
  cases P a <;> simp
theorem Sim.join {ca1 : List Addr} {F1 H1 : Hp} {s1 : S} (m : Sim g ca F P s H) (m1 : Sim g ca1 F1 (uni P F) s1 H1) : Sub F (uni F F1) ∧ Sub F1 (uni F F1) ∧ Sim g ca1 (uni F F1) P s1 H1 := by
  have inH1 : ∀ a o, F a = some o → H1 a = some o := fun a o e => by
    cases z : P a with
    | none => exact m1.fr _ _ (uni_r e z)
    | some o2 =>
      have h1 := m.fr _ _ z
      rw [m.sub _ _ e] at h1
      cases h1
      exact m1.fr _ _ (uni_l z)
  have s1' : Sub F (uni F F1) := fun a o e => uni_l e
  have s2' : Sub F1 (uni F F1) := fun a o e => by
    cases q : F a with
    | none => exact uni_r e q
    | some o' =>
      have h1 := inH1 _ _ q
      rw [m1.sub _ _ e] at h1
      cases h1
      exact uni_l q
  refine ⟨s1', s2', ?_⟩
  exact {
    sub := fun a o e => by
      unfold uni at e
      split at e
      · rename_i o' hp
        cases e
        exact inH1 _ _ hp
      · exact m1.sub _ _ e
    fr := fun a o e => m1.fr _ _ (uni_l e)
    dis := fun a o e => by
      rcases m.dis a o e with h | ⟨xs, h⟩
      · rcases m1.dis a o (uni_l e) with h1 | ⟨xs, h1⟩
        · exact .inl (uni_none.mpr ⟨h, h1⟩)
        · exact .inr ⟨xs, uni_r h1 h⟩
      · exact .inr ⟨xs, uni_l h⟩
    len := m1.len
    nd := m1.nd
    out := fun i a e l => by
      obtain ⟨h1, h2⟩ := m1.out i a e l
      obtain ⟨h3, h4⟩ := uni_none.mp h2
      exact ⟨uni_none.mpr ⟨h4, h1⟩, h3⟩
    at_ := fun i a c e q => by
      by_cases hd : c = .dead
      · subst hd; trivial
      · exact (m1.at_ i a c e q).mono List.prefix_rfl s2' rfl }
def nt (F : Hp) : Hp := fun a => match F a with
  | some (.tup _) => none
  | o => o
theorem Sim.back {ca2 : List Addr} {F3 H2 : Hp} {s2 : S} (m : Sim g ca F P s H) (m3 : Sim g ca2 F3 P s2 H2) (hF : Sub F F3) (hf : flatS s2 = true) : Sim g ca2 F P s2 H2 where
  sub := hF.trans m3.sub
  fr := m3.fr
  dis := m.dis
  len := m3.len
  nd := m3.nd
  out := fun i a e l => ⟨hF.free (m3.out i a e l).1, (m3.out i a e l).2⟩
  at_ := fun i a c e q => flat_cell (flatS_at hf q) rfl (m3.at_ i a c e q)
end
mutual
def few : D → Bool
  | .lst ds => decide (ds.length ≤ 1000000) && fewL ds
  | .tup ds => fewL ds
  | _ => true
def fewL : List D → Bool
  | [] => true
  | d :: ds => few d && fewL ds
end
end Pm
set_option Elab.async false
set_option linter.all false
set_option maxRecDepth 100000
set_option maxHeartbeats 400000
namespace Pm
open PySem PySem.Spec PyProof.Rows L2
section
variable {X : Cx} {g : G} {E : XK}
def SameOff (w : List Nat) (σ σ' : L2.St) : Prop := σ'.length = σ.length ∧ ∀ j, j ∉ w → σ'[j]? = σ[j]?
structure ZCx (g : G) (i : Nat) (w : List Nat) (env0 : Pm.Env) (s0 : S) (ca0 : List Addr) (F0 P H0 : Hp) (σ0 : L2.St) (R : Hp) (d : D) (v : V) (ca : List Addr) (F : Hp) (σ : L2.St) : Prop where
  m0 : Sim g ca0 F0 P s0 H0
  sl0 : Slots g ca0 F0 env0 σ0
  hc : ca0 <+: ca
  hF : Sub F0 F
  hR : Sub R F
  af : ∀ a o, F0 a = some o → nt R a = none
  ap : ∀ a o, P a = some o → nt R a = none
  off : SameOff (i :: w) σ0 σ
  at_ : σ[i]? = some (some v)
  rep : Rep g ca R d v
  few : few d = true
theorem ZCx.later {i : Nat} {w : List Nat} {env0 : Pm.Env} {s0 : S} {ca0 : List Addr} {F0 P H0 : Hp} {σ0 : L2.St} {R : Hp} {d : D} {v : V} {ca ca1 : List Addr} {F F1 : Hp} {σ : L2.St} (z : ZCx g i w env0 s0 ca0 F0 P H0 σ0 R d v ca F σ) (h1 : ca <+: ca1) (h2 : Sub F F1) : ZCx g i w env0 s0 ca0 F0 P H0 σ0 R d v ca1 F1 σ :=
  { z with hc := z.hc.trans h1, hF := z.hF.trans h2, hR := z.hR.trans h2, rep := Rep.mono h1 (Sub.refl _) _ _ z.rep }
end
end Pm
set_option Elab.async false
set_option linter.all false
set_option maxRecDepth 100000
set_option maxHeartbeats 2000000
namespace Pm
open PySem PySem.Spec PyProof.Rows L2
theorem _root_.L2.Room.un1 {k : Nat} {A : Around} (h : Room k A) : A.units + 1 < cLine := by have := h.un; omega
section
variable {κ : Type} [DecidableEq κ] {κ' : Type} [DecidableEq κ']
def getK {α : Type} : List κ → List α → κ → Option α
  | k :: ks, x :: xs, q => if k = q then some x else getK ks xs q
  | _, _, _ => none
theorem getK_val (f : κ → κ') (hf : ∀ a b, f a = f b → a = b) (q : κ) : ∀ (ks : List κ) (xs : List V), valV ((ks.map f).zip xs) (f q) = getK ks xs q
  | [], xs => by cases xs <;> rfl
  | k :: ks, [] => rfl
  | k :: ks, x :: xs => by
    simp only [List.map_cons, List.zip_cons_cons, getK]
    by_cases e : k = q
    · subst e
      rw [if_pos rfl, valV_pos rfl]
    · rw [if_neg e, valV_neg (fun h => e (hf _ _ h))]
      exact getK_val f hf q ks xs
section
variable {g : G} {ca : List Addr} {F : Hp}
def ORep (g : G) (ca : List Addr) (F : Hp) (r : Option D) (o : Option V) : Prop := match r with
  | some d => ∃ w, o = some w ∧ Rep g ca F d w
  | none => o = none
theorem reps_getK (q : κ) : ∀ {ks : List κ} {ds : List D} {xs : List V}, Reps g ca F ds xs → ORep g ca F (getK ks ds q) (getK ks xs q)
  | [], ds, xs, _ => by cases ds <;> cases xs <;> rfl
  | k :: ks, [], xs, r => by simp only [Reps] at r; subst r; rfl
  | k :: ks, d :: ds, xs, r => by
    simp only [Reps] at r
    obtain ⟨v, ws, rfl, r1, r2⟩ := r
    simp only [getK]
    by_cases e : k = q
    · rw [if_pos e, if_pos e]
      exact ⟨v, rfl, r1⟩
    · rw [if_neg e, if_neg e]
      exact reps_getK q r2
end
end
theorem inl_inj (a b : Int) (h : (Sum.inl a : Key) = Sum.inl b) : a = b := Sum.inl.inj h
theorem inls_inj : ∀ (a b : List Int), (a.map fun i => (Sum.inl i : Key)) = b.map (fun i => (Sum.inl i : Key)) → a = b
  | [], [], _ => rfl
  | [], _ :: _, h => by simp at h
  | _ :: _, [], h => by simp at h
  | x :: xs, y :: ys, h => by
    simp only [List.map_cons, List.cons.injEq] at h
    rw [Sum.inl.inj h.1, inls_inj xs ys h.2]
def keyI : D → Option Int
  | .int i => some i
  | _ => none
def keyT : D → Option (List Int)
  | .tup ds => intsOf ds
  | _ => none
def dctI (s : S) : D → Option (List Int × List D)
  | .cell k => match s[k]? with
    | some (.dK ks ds) => some (ks, ds)
    | _ => none
  | .dki ks ds => some (ks, ds)
  | .mty => some ([], [])
  | _ => none
def dctT (s : S) : D → Option (List (List Int) × List D)
  | .cell k => match s[k]? with
    | some (.dT ks ds) => some (ks, ds)
    | _ => none
  | .dkt ks ds => some (ks, ds)
  | _ => none
def dGetF (s : S) (x y : D) : Option (Option D) := match dctI s x with
  | some (ks, ds) => (keyI y).map fun i => getK ks ds i
  | none => match dctT s x with
    | some (ks, ds) => (keyT y).map fun k => getK ks ds k
    | none => none
section
variable {X : Cx} {g : G} {E : XK} {ca : List Addr} {F P H : Hp} {s : S}
theorem dctI_rep {x : D} {v : V} {ks : List Int} {ds : List D} (m : Sim g ca F P s H) (h : dctI s x = some (ks, ds)) (r : Rep g ca F x v) : ∃ a xs, v = .ref a ∧ Rd H a (.dK (kvI ks xs)) ∧ ks.length = ds.length ∧ Reps g ca F ds xs := by
  unfold dctI at h
  split at h
  · rename_i k
    split at h
    · rename_i ks' ds' hk
      cases h
      simp only [Rep] at r
      obtain ⟨a, rfl, ha⟩ := r
      obtain ⟨xs, hH, hl, rs⟩ := m.at_ _ _ _ ha hk
      exact ⟨a, xs, rfl, .of hH, hl, rs⟩
    · cases h
  · cases h
    simp only [Rep] at r
    obtain ⟨a, o, xs, rfl, hF, hl, rs⟩ := r
    exact ⟨a, xs, rfl, .inr ⟨o, m.sub _ _ hF⟩, hl, rs⟩
  · cases h
    simp only [Rep] at r
    obtain ⟨a, rfl, hF⟩ := r
    exact ⟨a, [], rfl, .of (m.sub _ _ hF), rfl, .nil⟩
  · cases h
theorem dctT_rep {x : D} {v : V} {ks : List (List Int)} {ds : List D} (m : Sim g ca F P s H) (h : dctT s x = some (ks, ds)) (r : Rep g ca F x v) : ∃ a xs, v = .ref a ∧ Rd H a (.dT (kvT ks xs)) ∧ ks.length = ds.length ∧ Reps g ca F ds xs := by
  unfold dctT at h
  split at h
  · rename_i k
    split at h
    · rename_i ks' ds' hk
      cases h
      simp only [Rep] at r
      obtain ⟨a, rfl, ha⟩ := r
      obtain ⟨xs, hH, hl, rs⟩ := m.at_ _ _ _ ha hk
      exact ⟨a, xs, rfl, .of hH, hl, rs⟩
    · cases h
  · cases h
    simp only [Rep] at r
    obtain ⟨a, o, xs, rfl, hF, hl, rs⟩ := r
    exact ⟨a, xs, rfl, .inr ⟨o, m.sub _ _ hF⟩, hl, rs⟩
  · cases h
theorem ints_kV (ns : List Int) : ns.map V.int = (ns.map fun i => (Sum.inl i : Key)).map kV := by
  rw [List.map_map]; rfl
theorem keyI_rep {y : D} {u : V} {i : Int} (h : keyI y = some i) (r : Rep g ca F y u) : u = kV (.inl i) := by
  unfold keyI at h
  split at h
  · cases h; simp only [Rep] at r; exact r
  · cases h
theorem keyT_rep {y : D} {u : V} {k : List Int} (m : Sim g ca F P s H) (h : keyT y = some k) (r : Rep g ca F y u) : ∃ b, u = .ref b ∧ H b = some (.tup ((k.map fun i => (Sum.inl i : Key)).map kV)) := by
  unfold keyT at h
  split at h
  · rename_i ds
    have e := intsOf_eq h
    subst e
    simp only [Rep] at r
    obtain ⟨a, xs, rfl, hF, rs⟩ := r
    rw [reps_ints rs] at hF
    exact ⟨a, rfl, by rw [← ints_kV]; exact m.sub _ _ hF⟩
  · cases h
theorem dGet_rep {x y : D} {v u : V} {r : Option D} (m : Sim g ca F P s H) (h : dGetF s x y = some r) (rx : Rep g ca F x v) (ry : Rep g ca F y u) : ∃ a o, v = .ref a ∧ DGet H a u o ∧ ORep g ca F r o := by
  unfold dGetF at h
  split at h
  · rename_i ks ds hd
    rw [Option.map_eq_some_iff] at h
    obtain ⟨i, hi, rfl⟩ := h
    obtain ⟨a, xs, rfl, hR, hl, rs⟩ := dctI_rep m hd rx
    refine ⟨a, getK ks xs i, rfl, .inl ⟨_, .inl i, hR, keyI_rep hi ry, ?_⟩, reps_getK i rs⟩
    exact (getK_val Sum.inl inl_inj i ks xs).symm
  · split at h
    · rename_i ks ds hd
      rw [Option.map_eq_some_iff] at h
      obtain ⟨k, hk, rfl⟩ := h
      obtain ⟨a, xs, rfl, hR, hl, rs⟩ := dctT_rep m hd rx
      obtain ⟨b, rfl, hb⟩ := keyT_rep m hk ry
      refine ⟨a, getK ks xs k, rfl, .inr ⟨_, _, b, hR, rfl, hb, ?_⟩, reps_getK k rs⟩
      exact (getK_val (fun k : List Int => k.map fun i => (Sum.inl i : Key)) inls_inj k ks xs).symm
    · cases h
def rIxDct : R2 := fun x y H Q => ∃ a v, x = .ref a ∧ DGet H a y (some v) ∧ Q v H
theorem ixr_dct (hu : X.A.units + 1 < cLine) : IxR X rIxDct := by
  intro value slice pins s σ H x y v u Q I rx ry h hs
  obtain ⟨a, w, rfl, hg, q⟩ := h
  cases (show v = Value.ref a from rx)
  have hT := dict_typeIs I hg
  unfold subscriptTail
  refine wpAny_bind ?_
  rw [getitemInPython_of_ne hT.not_modules]
  refine wpAny_bind (wpAny_specialOf hT PySem.F.slot_dict_getitem.lookup ?_)
  have fin : wpAny (model X.prog X.w) X.A (subscripted slice false (.ref a) u) (fun r s₃ => wpAny (model X.prog X.w) X.A (letTemporaryGo value (.ref a) r >>= fun _ => pure r) (EP X pins σ Q) X.xe s₃) X.xe s := by
    rw [hs]
    exact wpAny_operating (wpAny_mono (d_getItem hu I hg ry fun w' s3 I3 rw' => (⟨w, H, I3, rw', q⟩ : EP X pins σ Q w' s3)) (fun r s₃ h₃ => wpAny_bind (wpAny_letTemporaryGo (wpAny_pure h₃))) fun _ _ x => x)
  first
    | exact wpAny_pure (wpAny_bind fin)
    | exact wpAny_bind (wpAny_pure (wpAny_bind fin))
    | exact wpAny_bind fin
def ixDct : D → D → S → Res D := fun x y s => match dGetF s x y with
  | some (some d) => .ok d s
  | _ => .stuck
theorem ixd_dct (hu : X.A.units + 1 < cLine) : IxD X g E ixDct := by
  refine ⟨_, ixr_dct hu, fun x y s ca F P H v u Q m rx ry p => ?_⟩
  unfold ixDct at p
  split at p
  · rename_i d hd
    obtain ⟨a, o, rfl, hg, w, rfl, rw'⟩ := dGet_rep m hd rx ry
    exact ⟨a, w, rfl, hg, p.now m _ rw'⟩
  · exact p.elim
def ixDD : D → D → S → Res D := fun x y s => (ixD x y s).or (ixDct x y s)
theorem ixdd (hK : g.K = X.K) (hu : X.A.units + 1 < cLine) : IxD X g E ixDD := (ixd hK).or (ixd_dct hu)
def inDct (neg : Bool) : D → D → S → Res D := fun y x s => match dGetF s x y with
  | some r => .ok (.bl (if neg then !r.isSome else r.isSome)) s
  | _ => .stuck
def inAll (neg : Bool) : D → D → S → Res D := fun x y s => (inDD neg x y s).or (inDct neg x y s)
end
end Pm
set_option Elab.async false
set_option linter.all false
set_option maxRecDepth 100000
set_option maxHeartbeats 2000000
namespace Pm
open PySem PySem.Spec PyProof.Rows L2
section
variable {X : Cx} {g : G} {E : XK} {e e2 f o i value : Expr} {es : List Expr} {me mo mi mk mz mv : Env → S → Res D} {mr mw : Env → S → Res (List D)} {pos pos' p apos : Pos} {x : Str}
def bLenD : List D → S → Res D := fun xs s => match xs with
  | [x] => match dctI s x with
    | some (ks, _) => .ok (.int ks.length) s
    | none => .stuck
  | _ => .stuck
theorem cd_lenD : CallD X g E (.builtin "len") bLenD := by
  refine ⟨fun xs H Q => ∃ a kvs, xs = [.ref a] ∧ Rd H a (.dK kvs) ∧ Q (.int kvs.length) H, fun pins s σ H xs us Q I r h => ?_, fun xs s ca F P H vs Q m rs p => ?_⟩
  · obtain ⟨a, kvs, rfl, hR, q⟩ := h
    obtain ⟨u, rfl, ru⟩ := vals1 r
    cases (show u = Value.ref a from ru)
    exact d_len I hR fun t s' I' => ⟨.int kvs.length, H, I', ⟨t, rfl⟩, q⟩
  · unfold bLenD at p
    split at p
    · rename_i x
      split at p
      · rename_i ks ds hd
        obtain ⟨v, rfl, r⟩ := reps1 rs
        obtain ⟨a, xs, rfl, hR, hl, rd⟩ := dctI_rep m hd r
        refine ⟨a, _, rfl, hR, p.now m _ ?_⟩
        simp only [Rep]
        have : (kvI ks xs).length = ks.length := by simp only [kvI, List.length_zip, List.length_map]; rw [← rd.length, hl, Nat.min_self]
        rw [this]
      · exact p.elim
    · exact p.elim
def bLenA : List D → S → Res D := fun xs s => (bLen xs s).or (bLenD xs s)
theorem cd_lenA (hK : g.K = X.K) : CallD X g E (.builtin "len") bLenA := (cd_len hK).or cd_lenD
end
end Pm
set_option Elab.async false
set_option linter.all false
set_option maxRecDepth 100000
set_option maxHeartbeats 2000000
set_option Elab.async false
set_option linter.all false
set_option maxRecDepth 100000
set_option maxHeartbeats 400000
namespace Pm
open PySem PySem.Spec PyProof PyProof.Rows L2
section
variable {X : Cx} {g : G} {E : XK}
theorem draw_list {prog : Program} {w : World} {A : Around} {E : Value → Shared → Prop} {it l : Addr} {items : Array Value} (hne : l ≠ it) : ∀ (n i : Nat) (s : Shared) (Q : List Value → Shared → Prop), s.heap.IsListIter it l i → s.heap.IsList l items → i + n ≤ items.size →
    (∀ h', h'.IsListIter it l (i + n) → Heap.SameBut it s.heap h' → Q ((items.toList.drop i).take n) { s with heap := h' }) → wpAny (model prog w) A (draw (.ref it) n) Q E s
  | 0, i, s, Q, hit, _, _, hQ => by
    show wpAny _ _ (pure []) Q E s
    exact wpAny_pure (by simpa using hQ s.heap hit (Heap.SameBut.refl ..))
  | n + 1, i, s, Q, hit, ht, hle, hQ => by
    have hlt : i < items.size := by omega
    show wpAny _ _ (pyNext (.ref it) >>= _) Q E s
    refine wpAny_bind (wpAny_pyNext_list_item hit ht (x := items[i]) (by simp [hlt]) fun h₁ hit₁ hs₁ => ?_)
    refine wpAny_bind (wpAny_holding (draw_list hne n (i + 1) _ _ hit₁ (ht.extBut hs₁.extBut hne) (by omega) fun h₂ hit₂ hs₂ => wpAny_pure ?_))
    have hd : items.toList.drop i = items[i] :: items.toList.drop (i + 1) := by simp [List.drop_eq_getElem_cons, hlt]
    have := hQ h₂ (by rw [show i + (n + 1) = i + 1 + n by omega]; exact hit₂) (hs₁.trans hs₂)
    rw [hd, List.take_succ_cons] at this
    exact this
theorem items_list {prog : Program} {w : World} {A : Around} {E : Value → Shared → Prop} {s : Shared} {l : Addr} {items : Array Value} {Q : List Value → Shared → Prop} (hh : A.handled = none) (ht : s.heap.IsList l items)
    (hQ : ∀ h', Heap.ExtBut s.heap.objs.size s.heap h' → Q items.toList { s with heap := h' }) : wpAny (model prog w) A (unpackItems (.ref l) items.size none) Q E s := by
  have hlt : l ≠ s.heap.objs.size := by obtain ⟨o, ho, _⟩ := ht; exact Nat.ne_of_lt (Heap.lt_size ho)
  unfold unpackItems
  refine wpAny_bind ?_
  · unfold notIterableAtAll
    refine wpAny_bind (wpAny_specialOf ht.typeIs slot_list_iter.lookup ?_)
    refine wpAny_pure ?_
    simp only [Bool.false_eq_true, if_false]
    refine wpAny_bind (wpAny_holding (wpAny_pyIter_list ht ?_))
    refine wpAny_bind (wpAny_holding (draw_list hlt items.size 0 _ _ ⟨_, Heap.get?_push_size _ rfl, rfl, rfl⟩ (ht.push _) (by omega) fun h₁ hit₁ hs₁ => ?_))
    have hall : List.take items.size (List.drop 0 items.toList) = items.toList := by
      rw [List.drop_zero]; exact List.take_of_length_le (by simp)
    rw [hall]
    rw [if_neg (by simp)]
    have ht₁ : h₁.IsList l items := (ht.push _).extBut hs₁.extBut hlt
    refine wpAny_bind (wpAny_holding (wpAny_pyNext_list_end hh hit₁ ht₁ (by simp) fun h₂ he₂ => ?_))
    simp only [Option.isSome_none, Bool.false_eq_true, if_false]
    refine wpAny_pure (hQ h₂ fun b o hb e => he₂ b o hb (hs₁.extBut b o hb (Heap.get?_push_of_some _ e)))
theorem asg_list {prog : Program} {w : World} {A : Around} {E : Value → Shared → Prop} {s : Shared} {env : PySem.Env} {elts : List Expr} {x1} {pos : Pos} {l : Addr} {items : Array Value} {Q : Unit → Shared → Prop} (hh : A.handled = none) (ht : s.heap.IsList l items)
    (hn : (assignEach elts env).length = items.size) (hstar : (assignEach elts env).findIdx? (·.1) = none)
    (h : ∀ h', Heap.ExtBut s.heap.objs.size s.heap h' → wpAny (model prog w) A (assignInOrder ((assignEach elts env).map (·.2)) items.toList) Q E { s with heap := h' }) :
    wpAny (model prog w) A (assign (.Tuple elts x1 pos) env (.ref l)) Q E s := by
  rw [assign_Tuple]
  refine wpAny_bind (wpAny_standAt ?_)
  unfold unpack
  rw [hn, hstar]
  exact wpAny_bind (wpAny_holding (items_list hh ht h))
variable {tgs : List Expr} {w : List Nat} {mgs : List D → Env → Option Env} {n : Nat} {pos : Pos}
def gSeq (K : PySem.W.Frag) (n : Nat) (t : TGs) : TG := fun v σ H Q => ∃ a xs, v = .ref a ∧ (SqT K H a xs ∨ SqL K H a xs) ∧ xs.length = n ∧ t xs σ H Q
theorem pg_seq {es : List Expr} {k : Nat} {t : TGs} {n : Nat} (hc : X.calm = true) (h : PGs X es t)
    (hn : (assignEach es X.env).length = n := by rfl) (hst : (assignEach es X.env).findIdx? (·.1) = none := by rfl) : PG X (.Tuple es k pos) (gSeq X.K n t) := by
  refine ⟨fun pins s σ H v u Q I r hw => ?_⟩
  obtain ⟨a, xs, e1, hq, hl, hw⟩ := hw
  subst e1
  cases r
  rcases hq with hq | hq
  · obtain ⟨its, rv, ht, hz⟩ := I.tuple hq
    refine assign_Tuple_tuple (I.ok.hd hc) ht (by simp [hn, ← hl, rv.length]) hst fun h' hx => ?_
    have I1 : Inv X pins σ H { s with heap := h' } := I.kept (t' := s.toks) fun b o e => hx b o (Nat.ne_of_lt (Heap.lt_size e)) e
    exact h.run pins _ σ H xs _ Q I1 (by simpa using rv) hw
  · obtain ⟨its, rv, ht, hz⟩ := I.list hq
    refine asg_list (I.ok.hd hc) ht.isList (by simp [hn, ← hl, rv.length]) hst fun h' hx => ?_
    have I1 : Inv X pins σ H { s with heap := h' } := I.kept (t' := s.toks) fun b o e => hx b o (Nat.ne_of_lt (Heap.lt_size e)) e
    exact h.run pins _ σ H xs _ Q I1 (by simpa using rv) hw
def tSeq (n : Nat) (ms : List D → Env → Option Env) : D → Env → Option Env := fun d env => match d with
  | .tup ds => if ds.length = n then ms ds env else none
  | .rot ds => if ds.length = n then ms ds env else none
  | .lst ds => if ds.length = n then ms ds env else none
  | .ro ds => if ds.length = n then ms ds env else none
  | _ => none
theorem tn_seq {kk : Nat} (hK : g.K = X.K) (hc : X.calm = true) (h : Tns X g tgs w mgs) (hn : (assignEach tgs X.env).length = n := by rfl) (hst : (assignEach tgs X.env).findIdx? (·.1) = none := by rfl) : Tn X g (.Tuple tgs kk pos) w (tSeq n mgs) := by
  obtain ⟨t, p, h⟩ := h
  refine ⟨_, pg_seq hc p hn hst, fun d env env' ca F P H s σ v Q m sl r hh q => ?_⟩
  unfold tSeq at hh
  split at hh
  · split at hh
    · rename_i ds hl
      simp only [Rep] at r
      obtain ⟨a, xs, rfl, hF, rs⟩ := r
      exact ⟨a, xs, rfl, .inl (.of (m.sub _ _ hF)), by rw [← rs.length]; exact hl, h ds env env' ca F P H s σ xs Q m sl rs hh q⟩
    · cases hh
  · split at hh
    · rename_i ds hl
      simp only [Rep] at r
      obtain ⟨a, xs, rfl, hF, rs⟩ := r
      exact ⟨a, xs, rfl, .inl (hK ▸ same_t m.sub hF), by rw [← rs.length]; exact hl, h ds env env' ca F P H s σ xs Q m sl rs hh q⟩
    · cases hh
  · split at hh
    · rename_i ds hl
      simp only [Rep] at r
      obtain ⟨a, xs, rfl, hF, rs⟩ := r
      exact ⟨a, xs, rfl, .inr (.of (m.sub _ _ hF)), by rw [← rs.length]; exact hl, h ds env env' ca F P H s σ xs Q m sl rs hh q⟩
    · cases hh
  · split at hh
    · rename_i ds hl
      simp only [Rep] at r
      obtain ⟨a, xs, rfl, hF, rs⟩ := r
      exact ⟨a, xs, rfl, .inr (hK ▸ same_l m.sub hF), by rw [← rs.length]; exact hl, h ds env env' ca F P H s σ xs Q m sl rs hh q⟩
    · cases hh
  · cases hh
def IsR (h : Heap) (v : Value) (x : List Int) : Prop := ∃ a o bs, v = .ref a ∧ h.get? a = some o ∧ o.cls = .type "list" ∧ Reads h v (rowP x) bs
theorem IsR.keeps {h h' : Heap} {v : Value} {x : List Int} (p : IsR h v x) (k : ∀ b o, h.get? b = some o → h'.get? b = some o) : IsR h' v x := by
  obtain ⟨a, o, bs, e, ho, hc, hr⟩ := p
  exact ⟨a, o, bs, e, k _ _ ho, hc, Reads.keeps k hr⟩
end
end Pm
set_option Elab.async false
set_option linter.all false
set_option maxRecDepth 100000
set_option maxHeartbeats 2000000
set_option Elab.async false
set_option linter.all false
set_option maxRecDepth 100000
set_option maxHeartbeats 2000000
namespace Pm
open PySem PySem.Spec PyProof.Rows L2
def rowT (ns : List Int) : PyData := .tuple (ns.map PyData.int)
def IsP (h : Heap) (v : Value) (x : Wd) : Prop := ∃ a o t r n bs, v = .ref a ∧ h.get? a = some o ∧ o.cls = .type "tuple" ∧ o.data = .seq #[.int x.1 t, r] n ∧ Reads h r (rowT x.2) bs
theorem IsP.keeps {h h' : Heap} {v : Value} {x : Wd} (p : IsP h v x) (k : ∀ b o, h.get? b = some o → h'.get? b = some o) : IsP h' v x := by
  obtain ⟨a, o, t, r, n, bs, e, ho, hc, hd, hr⟩ := p
  exact ⟨a, o, t, r, n, bs, e, k _ _ ho, hc, hd, Reads.keeps k hr⟩
end Pm
set_option Elab.async false
set_option linter.all false
set_option maxRecDepth 100000
set_option maxHeartbeats 2000000
namespace Pm
open PySem PySem.Spec PyProof.Rows L2
section
variable {X : Cx} {g : G} {E : XK} {o e : Expr} {mo : Env → S → Res D} {mr : Env → S → Res (List D)} {pos apos : Pos}
def mPop (mo : Env → S → Res D) (mr : Env → S → Res (List D)) : Env → S → Res D := fun env s => (mo env s).bind fun x s1 => match x with
  | .cell k => (match s1[k]? with
    | some (.lst _) => (mr env s1).bind (fun ys s2 => match s2[k]? with
      | some (.lst ds) => (match ys with
        | [.int i] => (match seqIndex? i ds.length with
          | some j => (match ds[j]? with
            | some d => if decide (-(2 ^ 63) ≤ i ∧ i < 2 ^ 63) = true then .ok d (s2.set k (.lst (ds.eraseIdx j))) else .stuck
            | none => .stuck)
          | none => .stuck)
        | _ => .stuck)
      | _ => .stuck)
    | _ => .stuck)
  | _ => .stuck
theorem Reps.erase {ca : List Addr} {F : Hp} : ∀ (i : Nat) {ds : List D} {vs : List V}, Reps g ca F ds vs → Reps g ca F (ds.eraseIdx i) (vs.eraseIdx i)
  | _, [], vs, r => by simp only [Reps] at r; subst r; simpa using Reps.nil
  | 0, d :: ds, vs, r => by
    simp only [Reps] at r
    obtain ⟨v, ws, rfl, _, r2⟩ := r
    simpa using r2
  | i + 1, d :: ds, vs, r => by
    simp only [Reps] at r
    obtain ⟨v, ws, rfl, r1, r2⟩ := r
    simpa using Reps.cons r1 (Reps.erase i r2)
end
end Pm
set_option Elab.async false
set_option linter.all false
set_option maxRecDepth 100000
set_option maxHeartbeats 2000000
set_option Elab.async false
set_option linter.all false
set_option maxRecDepth 100000
set_option maxHeartbeats 2000000
set_option Elab.async false
set_option linter.all false
set_option maxRecDepth 100000
set_option maxHeartbeats 2000000
set_option Elab.async false
set_option linter.all false
set_option maxRecDepth 100000
set_option maxHeartbeats 4000000
namespace Pm
open PySem PySem.Spec PyProof.Rows L2
section
variable {X : Cx} {g : G} {E : XK}
def sameA : D → D → Bool
  | .non, .non => true
  | .bl b, .bl c => decide (b = c)
  | .int i, .int j => decide (i = j)
  | .str x, .str y => decide (x = y)
  | .cell i, .cell j => decide (i = j)
  | .mty, .mty => true
  | _, _ => false
def seqK : D → Option (Bool × List D)
  | .lst xs => some (false, xs)
  | .ro xs => some (false, xs)
  | .tup xs => some (true, xs)
  | .rot xs => some (true, xs)
  | _ => none
def sameF : Nat → D → D → Bool
  | 0, x, y => sameA x y
  | n + 1, x, y => sameA x y || match seqK x, seqK y with
    | some (k, xs), some (l, ys) => decide (k = l) && (decide (xs.length = ys.length) && (xs.zip ys).all fun p => sameF n p.1 p.2)
    | _, _ => false
theorem eqAtom {A : Around} {s : Shared} {a b : Value} {d : PyData} (ra : Reads s.heap a d []) (rb : Reads s.heap b d []) (h : PySem.W.alike d d = true) (hd : d.depth = 0) (hu : A.units < cLine) : SeqAt.EqAt A s a b true := by
  have z := PySem.W.eqAt_alike d d A s a b [] [] ra rb h (by rw [hd]; simpa using hu)
  rwa [PySem.W.eqv_refl_alike d h] at z
theorem eqEmpty {P : Program} {w : World} {A : Around} {s : Shared} {a b : Addr} (ha : (a == sysModules) = false) (hb : (b == sysModules) = false) (da : s.heap.DictOf (mixKind P w) a []) (db : s.heap.DictOf (mixKind P w) b []) (hu : A.units < cLine) : SeqAt.EqAt A s (.ref a) (.ref b) true := by
  by_cases hne : a = b
  · subst hne; exact SeqAt.EqAt.same _
  · refine SeqAt.EqAt.of_refs hne fun prog w' E Q h => ?_
    have again : ∀ {c : Addr}, s.heap.DictOf (mixKind P w) c [] → s.heap.DictOf (intKind prog w') c [] := fun {c} x => by
      obtain ⟨o, es, ep, h1, h2, h3, h4, h5, h6⟩ := x
      have e0 : es.toList = [] := by
        cases hh : es.toList with
        | nil => rfl
        | cons z zs => rw [hh] at h5; cases h5
      refine ⟨o, es, ep, h1, h2, h3, ?_, by rw [e0]; exact .nil, .nil⟩
      intro z hz
      have := Array.mem_toList_iff.mpr hz
      rw [e0] at this
      cases this
    exact PySem.W.keq_eqIn ha hb (again da) (again db) hu (fun _ => .nil) (by simpa using h)
variable {pins : List (Addr × Obj)} {σ : L2.St} {H : Hp} {s : Shared}
theorem sameA_ok {ca : List Addr} {F P : Hp} {S' : S} {A : Around} (I : Inv X pins σ H s) (m : Sim g ca F P S' H) (hu : A.units < cLine) {x y : D} {v u : V} {a b : Value} (h : sameA x y = true) (rx : Rep g ca F x v) (ry : Rep g ca F y u) (r1 : RelV v a) (r2 : RelV u b) : SeqAt.EqAt A s a b true := by
  unfold sameA at h
  split at h
  · simp only [Rep] at rx ry
    subst rx ry
    obtain rfl : a = Value.none := r1
    obtain rfl : b = Value.none := r2
    exact SeqAt.EqAt.same _
  · have h := of_decide_eq_true h
    simp only [Rep] at rx ry
    subst rx ry h
    obtain rfl : a = Value.bool _ := r1
    obtain rfl : b = Value.bool _ := r2
    exact SeqAt.EqAt.same _
  · have h := of_decide_eq_true h
    simp only [Rep] at rx ry
    subst rx ry h
    obtain ⟨t, rfl⟩ := r1
    obtain ⟨t', rfl⟩ := r2
    exact eqAtom (.int _ _) (.int _ _) rfl rfl hu
  · have h := of_decide_eq_true h
    simp only [Rep] at rx ry
    subst rx ry h
    obtain ⟨t, rfl⟩ := r1
    obtain ⟨t', rfl⟩ := r2
    exact eqAtom (.str _ _) (.str _ _) rfl rfl hu
  · have h := of_decide_eq_true h
    simp only [Rep] at rx ry
    subst h
    obtain ⟨p, rfl, e1⟩ := rx
    obtain ⟨q, rfl, e2⟩ := ry
    rw [e1] at e2
    cases e2
    obtain rfl : a = Value.ref p := r1
    obtain rfl : b = Value.ref p := r2
    exact SeqAt.EqAt.same _
  · simp only [Rep] at rx ry
    obtain ⟨p, rfl, e1⟩ := rx
    obtain ⟨q, rfl, e2⟩ := ry
    obtain rfl : a = Value.ref p := r1
    obtain rfl : b = Value.ref q := r2
    have o1 : ObjOk X.prog X.w H s.heap p (.dK []) := I.hok p _ (m.sub _ _ e1)
    have o2 : ObjOk X.prog X.w H s.heap q (.dK []) := I.hok q _ (m.sub _ _ e2)
    obtain ⟨_, n1, vs1, k1, d1⟩ := o1
    obtain ⟨_, n2, vs2, k2, d2⟩ := o2
    cases k1
    cases k2
    exact eqEmpty n1 n2 d1 d2 hu
  · cases h
def SeqV (g : G) (ca : List Addr) (F : Hp) (h : Heap) (k : Bool) (ds : List D) (a : Value) : Prop := ∃ (p : Addr) (xs : List V) (its : List Value), a = .ref p ∧ Reps g ca F ds xs ∧ Vals xs its ∧ (if k = true then h.IsTuple p its.toArray else h.IsList p its.toArray)
theorem seqK_rep {ca : List Addr} {F P : Hp} {S' : S} (hK : g.K = X.K) (I : Inv X pins σ H s) (m : Sim g ca F P S' H) {x : D} {v : V} {a : Value} {k : Bool} {ds : List D} (h : seqK x = some (k, ds)) (rx : Rep g ca F x v) (r1 : RelV v a) :
    SeqV g ca F s.heap k ds a := by
  have L : ∀ {p : Addr} {xs : List V}, SqL g.K F p xs → Reps g ca F ds xs → k = false → a = Value.ref p → SeqV g ca F s.heap k ds a := fun {p xs} q rs e1 e2 => by
    obtain ⟨its, rv, hl, _⟩ := I.list (hK ▸ same_l m.sub q)
    exact ⟨p, xs, its, e2, rs, rv, by rw [e1]; exact hl.isList⟩
  have T : ∀ {p : Addr} {xs : List V}, SqT g.K F p xs → Reps g ca F ds xs → k = true → a = Value.ref p → SeqV g ca F s.heap k ds a := fun {p xs} q rs e1 e2 => by
    obtain ⟨its, rv, hl, _⟩ := I.tuple (hK ▸ same_t m.sub q)
    exact ⟨p, xs, its, e2, rs, rv, by rw [e1]; exact hl⟩
  unfold seqK at h
  split at h
  · cases h
    simp only [Rep] at rx
    obtain ⟨p, xs, rfl, f, rs⟩ := rx
    exact L (.of f) rs rfl r1
  · cases h
    simp only [Rep] at rx
    obtain ⟨p, xs, rfl, f, rs⟩ := rx
    exact L f rs rfl r1
  · cases h
    simp only [Rep] at rx
    obtain ⟨p, xs, rfl, f, rs⟩ := rx
    exact T (.of f) rs rfl r1
  · cases h
    simp only [Rep] at rx
    obtain ⟨p, xs, rfl, f, rs⟩ := rx
    exact T f rs rfl r1
  · cases h
theorem all_true (n : Nat) : (List.range n).all (fun _ => true) = true := by simp
theorem same_each {ca : List Addr} {F : Hp} {ds es : List D} {xs ys : List V} {its jts : List Value} {Q : Value → Value → Prop} {T : D → D → Bool} (hq : ∀ (x y : D) (v u : V) (a b : Value), T x y = true → Rep g ca F x v → Rep g ca F y u → RelV v a → RelV u b → Q a b) (hl : ds.length = es.length) (h : (ds.zip es).all (fun p => T p.1 p.2) = true) (r1 : Reps g ca F ds xs) (r2 : Reps g ca F es ys) (v1 : Vals xs its) (v2 : Vals ys jts) :
    its.toArray.size = jts.toArray.size ∧ ∀ j (h1 : j < its.toArray.size) (h2 : j < jts.toArray.size), Q its.toArray[j] jts.toArray[j] := by
  have l1 := r1.length
  have l2 := r2.length
  have l3 := v1.length
  have l4 := v2.length
  refine ⟨by simp; omega, fun j h1 h2 => ?_⟩
  have h1' : j < its.length := by simpa using h1
  have h2' : j < jts.length := by simpa using h2
  have hj : j < xs.length := by omega
  have hj2 : j < ys.length := by omega
  obtain ⟨d, ed, rd⟩ := r1.get' (v := xs[j]) (i := j) (by simp [hj])
  obtain ⟨e, ee, re⟩ := r2.get' (v := ys[j]) (i := j) (by simp [hj2])
  obtain ⟨a, ea, ra⟩ := v1.get (x := xs[j]) (i := j) (by simp [hj])
  obtain ⟨b, eb, rb⟩ := v2.get (x := ys[j]) (i := j) (by simp [hj2])
  have t : T d e = true := by
    refine List.all_eq_true.mp h (d, e) ?_
    refine List.mem_of_getElem? (i := j) ?_
    rw [List.getElem?_zip_eq_some]
    exact ⟨ed, ee⟩
  have e1 : its.toArray[j] = a := by
    have := List.getElem?_eq_some_iff.mp ea
    simpa using this.2
  have e2 : jts.toArray[j] = b := by
    have := List.getElem?_eq_some_iff.mp eb
    simpa using this.2
  rw [e1, e2]
  exact hq _ _ _ _ _ _ t rd re ra rb
theorem sameF_ok {ca : List Addr} {F P : Hp} {S' : S} (hK : g.K = X.K) (I : Inv X pins σ H s) (m : Sim g ca F P S' H) : ∀ (n : Nat) (A : Around) (x y : D) (v u : V) (a b : Value), A.units + n < cLine → sameF n x y = true → Rep g ca F x v → Rep g ca F y u → RelV v a → RelV u b → SeqAt.EqAt A s a b true
  | 0, A, x, y, v, u, a, b, hu, h, rx, ry, r1, r2 => sameA_ok I m hu h rx ry r1 r2
  | n + 1, A, x, y, v, u, a, b, hu, h, rx, ry, r1, r2 => by
    unfold sameF at h
    rcases Bool.or_eq_true_iff.mp h with h | h
    · exact sameA_ok I m (by omega) h rx ry r1 r2
    · split at h
      · rename_i k xs l ys e1 e2
        obtain ⟨h1, h⟩ := Bool.and_eq_true_iff.mp h
        obtain ⟨h2, h3⟩ := Bool.and_eq_true_iff.mp h
        obtain rfl : k = l := of_decide_eq_true h1
        obtain ⟨p, zs, its, rfl, rs, rv, hl⟩ := seqK_rep hK I m e1 rx r1
        obtain ⟨q, ws, jts, rfl, rs2, rv2, hl2⟩ := seqK_rep hK I m e2 ry r2
        by_cases hne : p = q
        · subst hne; exact SeqAt.EqAt.same _
        · obtain ⟨z1, z2⟩ := same_each (Q := fun a b => SeqAt.EqAt A.in1 s a b true) (fun x y v u a b t q1 q2 q3 q4 => sameF_ok hK I m n A.in1 x y v u a b (by show A.units + 1 + n < cLine; omega) t q1 q2 q3 q4) (of_decide_eq_true h2) h3 rs rs2 rv rv2
          cases k with
          | true =>
            have z := SeqAt.RcAt.tuples (e := fun _ => true) hl hl2 (by omega) z2
            rw [all_true, z1] at z
            simp only [BEq.rfl, Bool.and_self] at z
            exact SeqAt.EqAt.of_refs hne z
          | false =>
            have z := SeqAt.RcAt.lists (e := fun _ => true) hl hl2 z1 (by omega) z2
            rw [all_true] at z
            exact SeqAt.EqAt.of_refs hne z
      · cases h
def eqI (neg : Bool) : D → D → S → Res D := fun x y s => match seqK x, seqK y with
  | some (false, xs), some (false, ys) => if (decide (xs.length = ys.length) && (xs.zip ys).all fun p => sameF 40 p.1 p.2) = true then .ok (.bl (!neg)) s else .stuck
  | _, _ => .stuck
def REqI (X : Cx) (neg : Bool) : R2 := fun x y H Q => (∀ (pins : List (Addr × Obj)) (s : Shared) (σ : L2.St) (v u : Value), Inv X pins σ H s → RelV x v → RelV y u → ∀ (E : Value → Shared → Prop) (R : Value → Shared → Prop), R (.bool (!neg)) s → wpAny (model X.prog X.w) X.A (compareOp (if neg = true then .NotEq else .Eq) v u) R E s) ∧ Q (.bl (!neg)) H
theorem opr_eqI {neg : Bool} : OpR X (compareOp (if neg = true then .NotEq else .Eq)) (REqI X neg) := by
  intro pins s σ H x y v u Q I rx ry h
  exact h.1 pins s σ v u I rx ry _ _ ⟨.bl (!neg), H, I, rfl, h.2⟩
theorem od_eqI {neg : Bool} (hK : g.K = X.K) (hu : X.A.units + 64 < cLine) : OpD X g E (compareOp (if neg = true then .NotEq else .Eq)) (eqI neg) := by
  refine ⟨_, opr_eqI, fun x y S0 ca F P H v u Q m rx ry p => ?_⟩
  unfold eqI at p
  split at p
  · rename_i xs ys e1 e2
    split at p
    · rename_i h
      obtain ⟨h2, h3⟩ := Bool.and_eq_true_iff.mp h
      refine ⟨fun pins s σ a b I r1 r2 E' R hR => ?_, p.now m _ (by simp only [Rep])⟩
      obtain ⟨p', zs, its, rfl, rs, rv, hl⟩ := seqK_rep hK I m e1 rx r1
      obtain ⟨q', ws, jts, rfl, rs2, rv2, hl2⟩ := seqK_rep hK I m e2 ry r2
      obtain ⟨z1, z2⟩ := same_each (Q := fun a b => SeqAt.EqAt X.A.in1 s a b true) (fun x y v u a b t q1 q2 q3 q4 => sameF_ok hK I m 40 X.A.in1 x y v u a b (by show X.A.units + 1 + 40 < cLine; omega) t q1 q2 q3 q4) (of_decide_eq_true h2) h3 rs rs2 rv rv2
      cases neg with
      | true =>
        have z := SeqAt.RcNeAt.lists (e := fun _ => true) hl hl2 z1 (by omega) z2
        rw [all_true] at z
        exact z X.prog X.w E' R hR
      | false =>
        have z := SeqAt.RcAt.lists (e := fun _ => true) hl hl2 z1 (by omega) z2
        rw [all_true] at z
        exact z X.prog X.w E' R hR
    · exact p.elim
  · exact p.elim
theorem od_eqI0 (hK : g.K = X.K) (hu : X.A.units + 64 < cLine) : OpD X g E (compareOp .Eq) (eqI false) := od_eqI (neg := false) hK hu
theorem od_eqI1 (hK : g.K = X.K) (hu : X.A.units + 64 < cLine) : OpD X g E (compareOp .NotEq) (eqI true) := od_eqI (neg := true) hK hu
def rLtD (K : PySem.W.Frag) : R2 := fun x y H Q => ∃ d e, Dp K H x d ∧ Dp K H y e ∧ PySem.W.alike d e = true ∧ d ≠ .none ∧ d.depth ≤ 50 ∧ Q (.bl (PySem.W.dataLt d e)) H
theorem op_ltD (hu : X.A.units + 64 < cLine) : OpR X (compareOp .Lt) (rLtD X.K) := by
  intro pins s σ H x y v u Q I rx ry h
  obtain ⟨d, e, hd, he, ha, hn, hl, q⟩ := h
  obtain ⟨as, r1⟩ := Dp.reads I d x v hd rx
  obtain ⟨bs, r2⟩ := Dp.reads I e y u he ry
  exact PySem.W.rcLt_alike d e X.A s v u as bs r1 r2 ha hn (by have := Nat.min_le_left d.depth e.depth; omega) X.prog X.w X.xe _ ⟨.bl _, H, I, rfl, q⟩
def notNone : PyData → Bool
  | .none => false
  | _ => true
def ltDat : D → D → S → Res D := fun x y s => match toPy x, toPy y with
  | some d, some e => if (PySem.W.alike d e && (notNone d && decide (d.depth ≤ 50))) = true then .ok (.bl (PySem.W.dataLt d e)) s else .stuck
  | _, _ => .stuck
theorem od_ltDat (hK : g.K = X.K) (hu : X.A.units + 64 < cLine) : OpD X g E (compareOp .Lt) ltDat := by
  refine ⟨_, op_ltD hu, fun x y s ca F P H v u Q m rx ry p => ?_⟩
  unfold ltDat at p
  split at p
  · rename_i d e h1 h2
    split at p
    · rename_i h
      obtain ⟨c1, h⟩ := Bool.and_eq_true_iff.mp h
      obtain ⟨c2, c3⟩ := Bool.and_eq_true_iff.mp h
      exact ⟨d, e, dp_of hK m.sub _ _ _ h1 rx, dp_of hK m.sub _ _ _ h2 ry, c1, (fun z => by rw [z] at c2; cases c2), of_decide_eq_true c3, p.now m _ (by simp only [Rep])⟩
    · exact p.elim
  · exact p.elim
def ltA : D → D → S → Res D := fun x y s => (ltI x y s).or (ltDat x y s)
theorem od_ltA (hK : g.K = X.K) (hu : X.A.units + 64 < cLine) : OpD X g E (compareOp .Lt) ltA := od_lt.or (od_ltDat hK hu)
end
end Pm
set_option Elab.async false
set_option linter.all false
set_option maxRecDepth 100000
set_option maxHeartbeats 1000000
namespace Pm
open PySem PySem.Spec PyProof.Rows L2
section
open PySem.SeqAt PySem.AutoSeq1 PySem.MeetsSeq PySem.MeetsSeq2 PySem.MeetsSeq3 PySem.SeqRoads2
variable {pr : Program} {wo : World} {Ar : Around} {Re : Result → Shared → Prop}
theorem walkNe (p q : Addr) (m : Nat) (J : Nat → Shared → Prop) (hJ : GQ.ListI pr wo Ar (fun e t => Re (.error e) t) p q m J) (hend : ∀ t, J m t → Re (.ok (.ret (.bool false))) t) (d : Nat) :
    ∀ i : Nat, m - i = d → i ≤ m → ∀ t, J i t → wpAny (model pr wo) Ar.in1 (Builtin.«list.__eq__.loop» ⟨[.ref p, .ref q, rawInt i, rawInt 3], []⟩) (GQ.FinOf pr wo Ar Re) (fun e t' => Re (.error e) t') t := by
  induction d with
  | zero =>
    intro i hd hi t ht
    obtain ⟨us, ws, j1, j2, e1, e2, z1, z2, _⟩ := hJ _ _ ht
    have he : i = m := by omega
    have hq : Re (.ok (.ret (.bool false))) t := hend t (he ▸ ht)
    obtain ⟨c1, c2, c3, c4, c5⟩ := t
    wp_walk using wpAny_loadPart' e1, wpAny_loadPart' e2
    have f1 : us[((i : Nat) : Int).toNat]? = none := by simp; omega
    have f2 : ws[((i : Nat) : Int).toNat]? = none := by simp; omega
    rw [f1, f2]
    wp_walk using wpAny_loadPart' e1, wpAny_loadPart' e2
    show Re (.ok (.ret (.bool (us.size != ws.size)))) _
    rw [z1, z2]
    simpa using hq
  | succ d ih =>
    intro i hd hi t ht
    obtain ⟨us, ws, j1, j2, e1, e2, z1, z2, one⟩ := hJ _ _ ht
    have l1 : i < us.size := by omega
    have l2 : i < ws.size := by omega
    have o := one l1 l2
    obtain ⟨c1, c2, c3, c4, c5⟩ := t
    wp_walk using wpAny_loadPart' e1, wpAny_loadPart' e2
    have f1 : us[((i : Nat) : Int).toNat]? = some us[i] := by simp [l1]
    have f2 : ws[((i : Nat) : Int).toNat]? = some ws[i] := by simp [l2]
    have nx : ((i : Int) + 1) = ((i + 1 : Nat) : Int) := by omega
    rw [f1, f2]
    refine wpAny_bind (wpAny_mono o (fun b t2 k2 => ?_) fun _ _ x => x)
    obtain ⟨rfl, k2⟩ := k2
    have next := ih (i + 1) (by omega) (by omega) t2 k2
    obtain ⟨b1, b2, b3, b4, b5⟩ := t2
    wp_walk
    rw [nx]
    exact ⟨plainId_quiet plain_eq_loop _, codeAny_builtin entry_eq_loop (by rw [Around.under_plainId plain_eq_loop _]; exact next)⟩
theorem listNe (p q : Addr) (m : Nat) (J : Nat → Shared → Prop) (hJ : GQ.ListI pr wo Ar (fun e t => Re (.error e) t) p q m J) (hend : ∀ t, J m t → Re (.ok (.ret (.bool false))) t) {t : Shared} (ht : J 0 t) :
    wpAny (model pr wo) Ar.in1 (Builtin.«list.__ne__» ⟨[.ref p, .ref q], []⟩) (GQ.FinOf pr wo Ar Re) (fun e t' => Re (.error e) t') t := by
  obtain ⟨us, ws, j1, j2, e1, e2, z1, z2, _⟩ := hJ _ _ ht
  have next := walkNe (Ar := Ar) (Re := Re) p q m J hJ hend _ 0 rfl (Nat.zero_le _) t ht
  obtain ⟨c1, c2, c3, c4, c5⟩ := t
  have hsub := AutoSeq1.sub_list_list
  have hsz : ¬ (us.size != ws.size) = true := by simp [z1, z2]
  wp_walk using wpAny_loadPart' e1, wpAny_loadPart' e2
  exact ⟨plainId_quiet plain_eq_loop _, codeAny_builtin entry_eq_loop (by rw [Around.under_plainId plain_eq_loop _]; exact next)⟩
end
section
variable {X : Cx} {n k : Nat} {D : L2.Eqv}
theorem rcNe_list (hD : L2.Mon D) (h : L2.EqG X n D) (A : Around) (pins : List (Addr × Obj)) (s : Shared) (σ : L2.St) (H : Hp) (x y : V) (u v : Value) (sb : L2.Sub X (n + 1) A) (I : Inv X pins σ H s) (rx : RelV x u) (ry : RelV y v) (d : L2.DList D x y H) :
    wpAny (model X.prog X.w) A (richCompare .NotEq u v) (fun r s' => r = .bool false ∧ ∃ H', Inv X pins σ H' s' ∧ L2.Ext H H') X.xe s := by
  obtain ⟨a, b, xs, ys, rfl, rfl, ha, hb, p⟩ := d
  cases rx
  cases ry
  have hI : GQ.ListI X.prog X.w A X.xe a b xs.length (fun _ s' => L2.LoopI X pins σ H s') := fun i s' q => by
    obtain ⟨H1, I1, e1⟩ := id q
    obtain ⟨z, us, k1, r1, e⟩ := I1.hok a _ (e1 _ _ ha)
    obtain ⟨z2, ws, k2, r2, e2⟩ := I1.hok b _ (e1 _ _ hb)
    exact ⟨us.toArray, ws.toArray, k1, k2, e, e2, by rw [List.size_toArray, ← r1.length], by rw [List.size_toArray, ← r2.length, ← p.1], fun h1 h2 => L2.turnG hD h sb p r1 r2 i h1 h2 s' q⟩
  have q0 : L2.LoopI X pins σ H s := ⟨H, I, L2.Ext.rfl'⟩
  obtain ⟨us, ws, n1, n2, e1, e2, _, _, _⟩ := hI 0 s q0
  refine wpAny_richCompare_same_room (op := .NotEq) ⟨_, e1, rfl⟩ ⟨_, e2, rfl⟩ F.slot_list_ne (GQ.call_here F.slot_list_ne ⟨_, e1, rfl⟩ F.entry_list_ne (F.args_list_ne_2 _ _) ?_) sb.room.units0
  exact listNe (Re := wants (fun v s' => v ≠ .notImplemented ∧ (v = .bool false ∧ ∃ H', Inv X pins σ H' s' ∧ L2.Ext H H')) X.xe) a b xs.length _ hI (fun t q => ⟨(fun z => nomatch z), rfl, q⟩) q0
end
theorem Sim.ext {g : G} {ca : List Addr} {F P H H' : Hp} {s : S} (m : Sim g ca F P s H) (e : L2.Ext H H') : Sim g ca F P s H' where
  sub := fun a o h => e _ _ (m.sub _ _ h)
  fr := fun a o h => e _ _ (m.fr _ _ h)
  dis := m.dis
  len := m.len
  nd := m.nd
  out := m.out
  at_ := fun i a c h1 h2 => by
    by_cases hd : c = .dead
    · subst hd; trivial
    · have k := m.at_ i a c h1 h2
      refine k.mono List.prefix_rfl (Sub.refl F) ?_
      cases q : H a with
      | none => exact absurd q (k.some hd)
      | some o => exact e _ _ q
theorem Sim.alone0 {g : G} {F H : Hp} (h : Sub F H) : Sim g [] F (fun a => if F a = none then H a else none) [] H where
  sub := h
  fr := fun a o h => by
    by_cases q : F a = none
    · simpa [q] using h
    · simp [q] at h
  dis := fun a o h => by
    by_cases q : F a = none
    · exact .inl q
    · simp [q] at h
  len := rfl
  nd := fun i j a h => by simp at h
  out := fun i a h => by simp at h
  at_ := fun i a c h => by simp at h
theorem ext_alone {g : G} {F F' H H' : Hp} (hF : Sub F F') (m : Sim g [] F' (fun a => if F a = none then H a else none) [] H') (h0 : Sub F H) : L2.Ext H H' := fun a o h => by
  by_cases q : F a = none
  · exact m.fr a o (by simpa [q] using h)
  · cases z : F a with
    | none => exact absurd z q
    | some o' =>
      have := h0 _ _ z
      rw [h] at this
      cases this
      exact m.sub _ _ (hF _ _ z)
def isT (r : Res D) : Bool := match r with
  | .ok (.bl true) [] => true
  | _ => false
def seqT : D → Option (Bool × List D)
  | .lst xs => some (false, xs)
  | .tup xs => some (true, xs)
  | .rot xs => some (true, xs)
  | _ => none
def sameT (c : Nat) (ff : List D → S → Res D) : Nat → D → D → Bool
  | 0, x, y => sameA x y
  | n + 1, x, y => sameA x y || (match x, y with
    | .ins k fs, .ins l gs => (decide (k = c) && decide (l = c)) && isT (ff [.ins k fs, .ins l gs] [])
    | _, _ => false) || match seqT x, seqT y with
    | some (k, xs), some (l, ys) => decide (k = l) && (decide (xs.length = ys.length) && (xs.zip ys).all fun p => sameT c ff n p.1 p.2)
    | _, _ => false
def EqvT (g : G) (c : Nat) (ff : List D → S → Res D) (n : Nat) : L2.Eqv := fun x y H => ∃ (F : Hp) (d e : D), Sub F H ∧ Rep g [] F d x ∧ Rep g [] F e y ∧ sameT c ff n d e = true
theorem mon_T {g : G} {c n : Nat} {ff : List D → S → Res D} : L2.Mon (EqvT g c ff n) := fun x y H H' e h => by
  obtain ⟨F, d, d', h1, h2, h3, h4⟩ := h
  exact ⟨F, d, d', h1.trans e, h2, h3, h4⟩
def RIns (g : G) (c : Nat) (ff : List D → S → Res D) (a b : Addr) (H : Hp) : Prop := ∃ (F : Hp) (fs gs : List D), Sub F H ∧ Rep g [] F (.ins c fs) (.ref a) ∧ Rep g [] F (.ins c gs) (.ref b) ∧ isT (ff [.ins c fs, .ins c gs] []) = true
theorem isT_ok {r : Res D} (h : isT r = true) : r = .ok (.bl true) [] := by
  unfold isT at h
  split at h
  · rfl
  · cases h
theorem spEq_of {g : G} {c : Nat} {ff : List D → S → Res D} {vs : List V} {H : Hp} {Q : VK} {E : XK} (h : L2.spEq (RIns g c ff) vs H Q E) : spG g 2 ff vs H Q E := by
  obtain ⟨a, b, rfl, ⟨F, fs, gs, h1, h2, h3, h4⟩, q⟩ := h
  refine ⟨[.ins c fs, .ins c gs], [], F, _, [], rfl, Sim.alone0 h1, .cons h2 (.cons h3 .nil), ?_⟩
  rw [isT_ok h4]
  intro ca' F' H' h5 h6 h7 v hv
  simp only [Rep] at hv
  subst hv
  exact q H' (ext_alone (g := g) h6 (by
    have : ca' = [] := List.eq_nil_of_length_eq_zero (by simpa using h7.len)
    subst this
    exact h7) h1)
section
variable {X : Cx} {k n : Nat} {g : G} {E : XK} {c : Nat} {ff : List D → S → Res D} {CX : CXT} {f : Addr} {fd : FuncData} {ps : List Str}
structure OwE (X : Cx) (g : G) (E : XK) (CX : CXT) (c k : Nat) (ff : List D → S → Res D) (f : Addr) (fd : FuncData) (ps : List Str) : Prop where
  fn : FnOk X.prog X.w X.K X.mg X.base CX k f fd ps (spG g 2 ff)
  hs : PySem.W.findIn X.K (.ref (g.cls c)) "__eq__" = some (some (.ref f))
  hf : PySem.W.isFn X.K (.ref f) = true
  hb : Binds X.K fd ps []
  hx : Passes CX X E
theorem rep_prs {F H : Hp} (hF : Sub F H) : ∀ {ds es : List D} {xs ys : List V}, ds.length = es.length → ((ds.zip es).all fun p => sameT c ff n p.1 p.2) = true → Reps g [] F ds xs → Reps g [] F es ys → L2.Prs (EqvT g c ff n) xs ys H
  | [], [], xs, ys, _, _, r1, r2 => by
    simp only [Reps] at r1 r2
    subst r1 r2
    exact L2.Prs.nil
  | d :: ds, e :: es, xs, ys, hl, h, r1, r2 => by
    simp only [Reps] at r1 r2
    obtain ⟨v, vs, rfl, q1, t1⟩ := r1
    obtain ⟨w, ws, rfl, q2, t2⟩ := r2
    simp only [List.zip_cons_cons, List.all_cons, Bool.and_eq_true] at h
    exact L2.Prs.cons ⟨F, d, e, hF, q1, q2, h.1⟩ (rep_prs hF (by simpa using hl) h.2 t1 t2)
  | [], _ :: _, _, _, hl, _, _, _ => by simp at hl
  | _ :: _, [], _, _, hl, _, _, _ => by simp at hl
theorem seqT_at {F H : Hp} (hK : g.K = X.K) (hF : Sub F H) {d e : D} {v w : V} (h : (match seqT d, seqT e with
    | some (k, xs), some (l, ys) => decide (k = l) && (decide (xs.length = ys.length) && (xs.zip ys).all fun p => sameT c ff n p.1 p.2)
    | _, _ => false) = true) (r1 : Rep g [] F d v) (r2 : Rep g [] F e w) : L2.DList (EqvT g c ff n) v w H ∨ L2.DTup X.K (EqvT g c ff n) v w H := by
  split at h
  · rename_i k xs l ys e1 e2
    obtain ⟨h1, h⟩ := Bool.and_eq_true_iff.mp h
    obtain ⟨h2, h3⟩ := Bool.and_eq_true_iff.mp h
    obtain rfl : k = l := of_decide_eq_true h1
    have T : ∀ {d : D} {v : V} {xs : List D}, seqT d = some (true, xs) → Rep g [] F d v → ∃ a zs, v = .ref a ∧ SqT X.K H a zs ∧ Reps g [] F xs zs := fun {d v xs} z r => by
      unfold seqT at z
      split at z <;> cases z
      · simp only [Rep] at r
        obtain ⟨p, zs, rfl, q, rs⟩ := r
        exact ⟨p, zs, rfl, hK ▸ same_t hF (SqT.of q), rs⟩
      · simp only [Rep] at r
        obtain ⟨p, zs, rfl, q, rs⟩ := r
        exact ⟨p, zs, rfl, hK ▸ same_t hF q, rs⟩
    have L : ∀ {d : D} {v : V} {xs : List D}, seqT d = some (false, xs) → Rep g [] F d v → ∃ a zs, v = .ref a ∧ H a = some (.lst zs) ∧ Reps g [] F xs zs := fun {d v xs} z r => by
      unfold seqT at z
      split at z <;> cases z
      simp only [Rep] at r
      obtain ⟨p, zs, rfl, q, rs⟩ := r
      exact ⟨p, zs, rfl, hF _ _ q, rs⟩
    cases k with
    | true =>
      obtain ⟨a, zs, rfl, q1, s1⟩ := T e1 r1
      obtain ⟨b, us, rfl, q2, s2⟩ := T e2 r2
      exact .inr ⟨a, b, zs, us, rfl, rfl, q1, q2, rep_prs hF (of_decide_eq_true h2) h3 s1 s2⟩
    | false =>
      obtain ⟨a, zs, rfl, q1, s1⟩ := L e1 r1
      obtain ⟨b, us, rfl, q2, s2⟩ := L e2 r2
      exact .inl ⟨a, b, zs, us, rfl, rfl, q1, q2, rep_prs hF (of_decide_eq_true h2) h3 s1 s2⟩
  · cases h
theorem eqG_T (hK : g.K = X.K) (O : OwE X g E CX c k ff f fd ps) : ∀ n, L2.EqG X (k + n) (EqvT g c ff n)
  | 0 => by
    intro A pins s σ H x y u v sb I rx ry h
    obtain ⟨F, d, e, hF, q1, q2, hs⟩ := h
    exact sameA_ok I (Sim.alone0 (g := g) hF) sb.room.units0 hs q1 q2 rx ry X.prog X.w X.xe _ ⟨rfl, H, I, L2.Ext.rfl'⟩
  | n + 1 => by
    have ih := eqG_T hK O n
    intro A pins s σ H x y u v sb I rx ry h
    obtain ⟨F, d, e, hF, q1, q2, hs⟩ := h
    unfold sameT at hs
    rcases Bool.or_eq_true_iff.mp hs with hs | hs
    · rcases Bool.or_eq_true_iff.mp hs with hs | hs
      · exact sameA_ok I (Sim.alone0 (g := g) hF) sb.room.units0 hs q1 q2 rx ry X.prog X.w X.xe _ ⟨rfl, H, I, L2.Ext.rfl'⟩
      · split at hs
        · rename_i i fs j gs _ _
          obtain ⟨h1, h3⟩ := Bool.and_eq_true_iff.mp hs
          obtain ⟨h1, h2⟩ := Bool.and_eq_true_iff.mp h1
          obtain rfl : i = c := of_decide_eq_true h1
          obtain rfl : j = i := of_decide_eq_true h2
          have q1' := q1
          have q2' := q2
          simp only [Rep] at q1 q2
          obtain ⟨a, dx, xs, rfl, f1, l1, rs1⟩ := q1
          obtain ⟨b, dy, ys, rfl, f2, l2, rs2⟩ := q2
          exact L2.eqG_ins (R := RIns g j ff) ((O.fn.imp fun vs H Q E' z => spEq_of z).mono (by omega : k ≤ k + (n + 1))) O.hs O.hf O.hb O.hx A pins s σ H _ _ u v sb I rx ry ⟨a, b, dx, dy, _, _, rfl, rfl, hF _ _ f1, hF _ _ f2, F, fs, gs, hF, q1', q2', h3⟩
        · cases hs
    · rcases seqT_at hK hF hs q1 q2 with z | z
      · exact L2.eqG_list mon_T ih A pins s σ H x y u v sb I rx ry z
      · exact L2.eqG_tup mon_T ih A pins s σ H x y u v sb I rx ry z
def eqT (c : Nat) (ff : List D → S → Res D) (neg : Bool) : D → D → S → Res D := fun x y s => match x, y with
  | .lst xs, .lst ys => if ((pureL xs && pureL ys) && (decide (xs.length = ys.length) && (xs.zip ys).all fun p => sameT c ff 7 p.1 p.2)) = true then .ok (.bl (!neg)) s else .stuck
  | _, _ => .stuck
def rEqT (D : L2.Eqv) (neg : Bool) : R2 := fun x y H Q => L2.DList D x y H ∧ ∀ H', L2.Ext H H' → Q (.bl (!neg)) H'
theorem opr_eqT {D : L2.Eqv} {neg : Bool} (hD : L2.Mon D) (h : L2.EqG X n D) (hr : Room (n + 1) X.A) : OpR X (compareOp (if neg = true then .NotEq else .Eq)) (rEqT D neg) := by
  intro pins s σ H x y v u Q I rx ry hq
  obtain ⟨d, q⟩ := hq
  cases neg with
  | false =>
    refine wpAny_mono (L2.rcG_list hD h X.A pins s σ H x y v u ⟨hr, rfl⟩ I rx ry d) (fun r s' z => ?_) fun _ _ x => x
    obtain ⟨rfl, H', I', e⟩ := z
    exact ⟨.bl true, H', I', rfl, q H' e⟩
  | true =>
    refine wpAny_mono (rcNe_list hD h X.A pins s σ H x y v u ⟨hr, rfl⟩ I rx ry d) (fun r s' z => ?_) fun _ _ x => x
    obtain ⟨rfl, H', I', e⟩ := z
    exact ⟨.bl false, H', I', rfl, q H' e⟩
theorem od_eqT {neg : Bool} (hK : g.K = X.K) (O : OwE X g E CX c k ff f fd ps) (hr : Room (k + 7 + 1) X.A) : OpD X g E (compareOp (if neg = true then .NotEq else .Eq)) (eqT c ff neg) := by
  refine ⟨_, opr_eqT (n := k + 7) mon_T (eqG_T hK O 7) hr, fun x y s ca F P H v u Q m rx ry p => ?_⟩
  unfold eqT at p
  split at p
  · rename_i xs ys
    split at p
    · rename_i h
      obtain ⟨h0, h⟩ := Bool.and_eq_true_iff.mp h
      obtain ⟨p1, p2⟩ := Bool.and_eq_true_iff.mp h0
      obtain ⟨h2, h3⟩ := Bool.and_eq_true_iff.mp h
      simp only [Rep] at rx ry
      obtain ⟨a, vs, rfl, q1, r1⟩ := rx
      obtain ⟨b, ws, rfl, q2, r2⟩ := ry
      exact ⟨⟨a, b, vs, ws, rfl, rfl, m.sub _ _ q1, m.sub _ _ q2, rep_prs m.sub (of_decide_eq_true h2) h3 (Reps.bare _ _ p1 r1) (Reps.bare _ _ p2 r2)⟩, fun H' e => p ca F H' List.prefix_rfl (Sub.refl F) (m.ext e) _ (by simp only [Rep])⟩
    · exact p.elim
  · exact p.elim
theorem od_eqT0 (hK : g.K = X.K) (O : OwE X g E CX c k ff f fd ps) (hr : Room (k + 8) X.A) : OpD X g E (compareOp .Eq) (eqT c ff false) := od_eqT (neg := false) hK O hr
theorem od_eqT1 (hK : g.K = X.K) (O : OwE X g E CX c k ff f fd ps) (hr : Room (k + 8) X.A) : OpD X g E (compareOp .NotEq) (eqT c ff true) := od_eqT (neg := true) hK O hr
end
end Pm
set_option Elab.async false
set_option linter.all false
set_option maxRecDepth 100000
set_option maxHeartbeats 2000000
namespace Zz
open PySem
open PySem.Sem (wp)
def ItA (k : Bool) (h : Heap) (it l : Addr) (i : Nat) : Prop := if k = true then h.IsTupleIter it l i else h.IsListIter it l i
def SqA (k : Bool) (h : Heap) (l : Addr) (xs : Array Value) : Prop := if k = true then h.IsTuple l xs else h.IsList l xs
def itc (k : Bool) : String := if k = true then "tuple_iterator" else "list_iterator"
theorem ItA.but {k : Bool} {h g : Heap} {it l b : Addr} {i : Nat} (x : ItA k h it l i) (s : Heap.ExtBut b h g) (n : it ≠ b) : ItA k g it l i := by
  cases k
  · exact Heap.IsListIter.at (h := h) x fun o e => s _ _ n e
  · exact Heap.IsTupleIter.extBut (h := h) x s n
theorem ItA.at {k : Bool} {h g : Heap} {it l : Addr} {i : Nat} (x : ItA k h it l i) (e : ∀ o, h.get? it = some o → g.get? it = some o) : ItA k g it l i := by
  cases k
  · exact Heap.IsListIter.at (h := h) x e
  · exact Heap.IsTupleIter.at (h := h) x e
theorem SqA.but {k : Bool} {h g : Heap} {l b : Addr} {xs : Array Value} (x : SqA k h l xs) (s : Heap.ExtBut b h g) (n : l ≠ b) : SqA k g l xs := by
  cases k
  · exact Heap.IsList.extBut (h := h) x s n
  · exact Heap.IsTuple.extBut (h := h) x s n
theorem ItA.some {k : Bool} {h : Heap} {it l : Addr} {i : Nat} (x : ItA k h it l i) : ∃ o, h.get? it = some o ∧ ∀ v, o.data ≠ .cell v := by
  cases k <;> · obtain ⟨o, e, _, d⟩ := x; exact ⟨o, e, fun v q => by rw [d] at q; cases q⟩
section
variable {pr : Program} {wo : World} {Ar : Around} {Ex : Value → Shared → Prop} {t : Shared}
theorem nx_item {k : Bool} {it l : Addr} {i : Nat} {xs : Array Value} {x : Value} {Q : Value → Shared → Prop} (hi : ItA k t.heap it l i) (hl : SqA k t.heap l xs) (hx : xs[i]? = some x)
    (hq : ∀ g, ItA k g it l (i + 1) → Heap.SameBut it t.heap g → Q x { t with heap := g }) : wpAny (model pr wo) Ar (Builtin.SmallTypes.nextOf (.ref it)) Q Ex t := by
  cases k
  · exact wpAny_nextOf_list_item hi hl hx hq
  · exact RZ.nextOf_tuple_item hi hl hx hq
theorem nx_end {k : Bool} {it l : Addr} {i : Nat} {xs : Array Value} {Q : Value → Shared → Prop} (hh : Ar.handled = none) (hi : ItA k t.heap it l i) (hl : SqA k t.heap l xs) (hx : xs[i]? = none)
    (he : ∀ g e, Heap.ExtBut it t.heap g → (∃ o, g.get? e = some o ∧ o.cls = .type "StopIteration") → Ex (.ref e) { t with heap := g }) : wpAny (model pr wo) Ar (Builtin.SmallTypes.nextOf (.ref it)) Q Ex t := by
  cases k
  · exact wpAny_nextOf_list_end hh hi hl hx he
  · exact RZ.nextOf_tuple_end hh hi hl hx he
variable {z p q i1 i2 l1 l2 : Addr} {j1 j2 : Bool} {n1 n2 : Nat} {xs ys : Array Value} {x y a b : Value}
structure At (h : Heap) (z p q i1 i2 l1 l2 : Addr) (j1 j2 : Bool) (n1 n2 : Nat) (a b : Value) : Prop where
  z : IsZip h z p q .none
  p : IsPair h p (.ref i1) (.ref i2)
  q : IsPair h q a b
  one : ItA j1 h i1 l1 n1
  two : ItA j2 h i2 l2 n2
abbrev Rest (z q i1 i2 : Addr) (h g : Heap) : Prop := ∀ c o, c ≠ z → c ≠ q → c ≠ i1 → c ≠ i2 → h.get? c = some o → g.get? c = some o
theorem turn_item {Q : Value → Shared → Prop} (D : ZipApart z p q i1 i2 l1 l2) (T : At t.heap z p q i1 i2 l1 l2 j1 j2 n1 n2 a b) (s1 : SqA j1 t.heap l1 xs) (s2 : SqA j2 t.heap l2 ys) (hx : xs[n1]? = some x) (hy : ys[n2]? = some y)
    (hq : ∀ g, IsZip g z p q (rawInt t.heap.objs.size) → IsPair g q x y → ItA j1 g i1 l1 (n1 + 1) → ItA j2 g i2 l2 (n2 + 1) → IsPair g t.heap.objs.size x y → g.objs.size = t.heap.objs.size + 1 → Rest z q i1 i2 t.heap g → Q (.ref t.heap.objs.size) { t with heap := g }) :
    wpAny (model pr wo) Ar (Builtin.«zip.__next__» ⟨[.ref z], []⟩) (fun fin t' => ∃ v, fin = .done (.ret v) ∧ Q v t') Ex t := by
  obtain ⟨tz, tp, tq, t1, t2⟩ := T
  show wpAny _ _ (field (.ref z) 2 >>= _) _ _ _
  refine wpAny_bind (wpAny_field tz rfl (x := .bool false) rfl ?_)
  show wpAny _ _ (field (.ref z) 3 >>= _) _ _ _
  refine wpAny_bind (wpAny_field tz rfl (x := .ref p) rfl (wpAny_bind (wpAny_seqItems tp rfl ?_)))
  show wpAny _ _ (Builtin.SmallTypes.ownedTupleIsFree (.ref z) >>= _) _ _ _
  refine wpAny_bind ?_
  unfold Builtin.SmallTypes.ownedTupleIsFree
  refine wpAny_bind (wpAny_field tz rfl (x := .none) rfl (wpAny_pure ?_))
  simp only [if_true]
  refine wpAny_bind (wpAny_rule (wpAny_bind (wpAny_field tz rfl (x := .ref q) rfl (wpAny_bind (wpAny_setField_rec tz (by simp) fun g1 z1 m1 => ?_)))))
  replace z1 : IsZip g1 z p q .ellipsis := z1
  refine wpAny_bind ?_
  simp only [List.zipIdx_cons, List.zipIdx_nil, List.forIn_cons, List.forIn_nil]
  refine wpAny_bind (wpAny_bind (wpAny_onRaise ?_))
  show wpAny _ _ (Builtin.SmallTypes.nextOf (.ref i1) >>= _) _ _ _
  refine wpAny_bind (nx_item (t1.but m1.extBut D.i1z) (s1.but m1.extBut D.l1z) hx fun g2 a2 m2 => wpAny_pure ?_)
  have q2 : IsPair g2 q a b := m2.extBut _ _ D.TOi1 (m1.extBut _ _ D.TOz tq)
  refine wpAny_bind (wpAny_seqItems q2 rfl (wpAny_bind (wpAny_updateSeq_pair q2 fun g3 q3 m3 => ?_)))
  replace q3 : IsPair g3 q x b := q3
  refine wpAny_bind (wpAny_letGo (wpAny_pure (wpAny_bind (wpAny_bind (wpAny_onRaise ?_)))))
  show wpAny _ _ (Builtin.SmallTypes.nextOf (.ref i2) >>= _) _ _ _
  refine wpAny_bind (nx_item (((t2.but m1.extBut D.i2z).but m2.extBut D.i12.symm).but m3.extBut D.TOi2.symm) (((s2.but m1.extBut D.l2z).but m2.extBut D.l2i1).but m3.extBut D.l2TO) hy fun g4 b4 m4 => wpAny_pure ?_)
  have q4 : IsPair g4 q x b := m4.extBut _ _ D.TOi2 q3
  refine wpAny_bind (wpAny_seqItems q4 rfl (wpAny_bind (wpAny_updateSeq_pair q4 fun g5 q5 m5 => ?_)))
  replace q5 : IsPair g5 q x y := q5
  refine wpAny_bind (wpAny_letGo (wpAny_pure (wpAny_pure (wpAny_bind (wpAny_seqItems q5 rfl (wpAny_bind (wpAny_newTuple ?_)))))))
  have sz : g5.objs.size = t.heap.objs.size := by rw [m5.1, m4.1, m3.1, m2.1, m1.1]
  have z5 : IsZip g5 z p q .ellipsis := m5.extBut _ _ D.TOz.symm (m4.extBut _ _ D.i2z.symm (m3.extBut _ _ D.TOz.symm (m2.extBut _ _ D.i1z.symm z1)))
  have k5 : Rest z q i1 i2 t.heap g5 := fun c o c1 c2 c3 c4 e => m5.extBut _ _ c2 (m4.extBut _ _ c4 (m3.extBut _ _ c2 (m2.extBut _ _ c3 (m1.extBut _ _ c1 e))))
  have a5 : ItA j1 g5 i1 l1 (n1 + 1) := ((a2.but m3.extBut D.TOi1.symm).but m4.extBut D.i12).but m5.extBut D.TOi1.symm
  have b5 : ItA j2 g5 i2 l2 (n2 + 1) := b4.but m5.extBut D.TOi2.symm
  have zl : z < g5.objs.size := Heap.lt_size z5
  show wpAny _ _ (Builtin.SmallTypes.ownedTupleHandOut (.ref z) (.ref g5.objs.size) >>= _) _ _ _
  refine wpAny_bind ?_
  unfold Builtin.SmallTypes.ownedTupleHandOut
  have z6 : IsZip (g5.push { cls := .type "tuple", data := .seq #[x, y] }) z p q .ellipsis := Heap.get?_push_of_some _ z5
  refine wpAny_bind (wpAny_setField_rec z6 (by simp) fun g7 z7 m7 => ?_)
  replace z7 : IsZip g7 z p q (rawInt g5.objs.size) := z7
  refine wpAny_setField_rec z7 (by simp) fun g8 z8 m8 => ?_
  replace z8 : IsZip g8 z p q (rawInt g5.objs.size) := z8
  have up : ∀ c o, c ≠ z → g5.get? c = some o → g8.get? c = some o := fun c o n e => m8.extBut _ _ n (m7.extBut _ _ n (Heap.get?_push_of_some _ e))
  have new : IsPair g8 g5.objs.size x y := m8.extBut _ _ (Nat.ne_of_gt zl) (m7.extBut _ _ (Nat.ne_of_gt zl) (Heap.get?_push_size _ rfl))
  have sz8 : g8.objs.size = g5.objs.size + 1 := by rw [m8.1, m7.1, Heap.size_push]
  rw [sz] at z8 new sz8
  refine wpAny_pure ⟨_, rfl, ?_⟩
  show Q (.ref g5.objs.size) _
  rw [sz]
  exact hq g8 z8 (up _ _ D.TOz q5) (a5.at fun o e => up _ o D.i1z e) (b5.at fun o e => up _ o D.i2z e) new sz8 fun c o c1 c2 c3 c4 e => up c o c1 (k5 c o c1 c2 c3 c4 e)
theorem turn_end {Q : Fin → Shared → Prop} (hh : Ar.handled = none) (D : ZipApart z p q i1 i2 l1 l2) (T : At t.heap z p q i1 i2 l1 l2 j1 j2 n1 n2 a b) (s1 : SqA j1 t.heap l1 xs) (s2 : SqA j2 t.heap l2 ys) (hend : xs[n1]? = none ∨ ys[n2]? = none)
    (he : ∀ g e, Rest z q i1 i2 t.heap g → (∃ o, g.get? e = some o ∧ o.cls = .type "StopIteration") → Ex (.ref e) { t with heap := g }) : wpAny (model pr wo) Ar (Builtin.«zip.__next__» ⟨[.ref z], []⟩) Q Ex t := by
  obtain ⟨tz, tp, tq, t1, t2⟩ := T
  show wpAny _ _ (field (.ref z) 2 >>= _) _ _ _
  refine wpAny_bind (wpAny_field tz rfl (x := .bool false) rfl ?_)
  show wpAny _ _ (field (.ref z) 3 >>= _) _ _ _
  refine wpAny_bind (wpAny_field tz rfl (x := .ref p) rfl (wpAny_bind (wpAny_seqItems tp rfl ?_)))
  show wpAny _ _ (Builtin.SmallTypes.ownedTupleIsFree (.ref z) >>= _) _ _ _
  refine wpAny_bind ?_
  unfold Builtin.SmallTypes.ownedTupleIsFree
  refine wpAny_bind (wpAny_field tz rfl (x := .none) rfl (wpAny_pure ?_))
  simp only [if_true]
  refine wpAny_bind (wpAny_rule (wpAny_bind (wpAny_field tz rfl (x := .ref q) rfl (wpAny_bind (wpAny_setField_rec tz (by simp) fun g1 z1 m1 => ?_)))))
  replace z1 : IsZip g1 z p q .ellipsis := z1
  refine wpAny_bind ?_
  simp only [List.zipIdx_cons, List.zipIdx_nil, List.forIn_cons, List.forIn_nil]
  refine wpAny_bind (wpAny_bind (wpAny_onRaise ?_))
  show wpAny _ _ (Builtin.SmallTypes.nextOf (.ref i1) >>= _) _ _ _
  have last : ∀ {g : Heap} {e : Addr}, IsZip g z p q .ellipsis → (∃ o, g.get? e = some o ∧ o.cls = .type "StopIteration") → e ≠ z := fun hz he' n => by
    obtain ⟨o, e1, e2⟩ := he'
    subst n
    rw [hz] at e1
    cases e1
    simp at e2
  cases hx : xs[n1]? with
  | none =>
    refine wpAny_bind (nx_end hh (t1.but m1.extBut D.i1z) (s1.but m1.extBut D.l1z) hx fun g2 e m2 k2 => ?_)
    have z2 : IsZip g2 z p q .ellipsis := m2 _ _ D.i1z.symm z1
    have ne := last z2 k2
    obtain ⟨o, o1, o2⟩ := k2
    exact wpAny_setField_rec z2 (by simp) fun g3 _ m3 => he g3 e (fun c o c1 _ c3 _ x => m3.extBut _ _ c1 (m2 _ _ c3 (m1.extBut _ _ c1 x))) ⟨o, m3.extBut _ _ ne o1, o2⟩
  | some x =>
    have hy : ys[n2]? = none := hend.resolve_left (by rw [hx]; simp)
    refine wpAny_bind (nx_item (t1.but m1.extBut D.i1z) (s1.but m1.extBut D.l1z) hx fun g2 a2 m2 => wpAny_pure ?_)
    have q2 : IsPair g2 q a b := m2.extBut _ _ D.TOi1 (m1.extBut _ _ D.TOz tq)
    refine wpAny_bind (wpAny_seqItems q2 rfl (wpAny_bind (wpAny_updateSeq_pair q2 fun g3 q3 m3 => ?_)))
    refine wpAny_bind (wpAny_letGo (wpAny_pure (wpAny_bind (wpAny_bind (wpAny_onRaise ?_)))))
    show wpAny _ _ (Builtin.SmallTypes.nextOf (.ref i2) >>= _) _ _ _
    refine wpAny_bind (nx_end hh (((t2.but m1.extBut D.i2z).but m2.extBut D.i12.symm).but m3.extBut D.TOi2.symm) (((s2.but m1.extBut D.l2z).but m2.extBut D.l2i1).but m3.extBut D.l2TO) hy fun g4 e m4 k4 => ?_)
    have z4 : IsZip g4 z p q .ellipsis := m4 _ _ D.i2z.symm (m3.extBut _ _ D.TOz.symm (m2.extBut _ _ D.i1z.symm z1))
    have ne := last z4 k4
    obtain ⟨o, o1, o2⟩ := k4
    exact wpAny_setField_rec z4 (by simp) fun g5 _ m5 => he g5 e (fun c o c1 c2 c3 c4 x => m5.extBut _ _ c1 (m4 _ _ c4 (m3.extBut _ _ c2 (m2.extBut _ _ c3 (m1.extBut _ _ c1 x))))) ⟨o, m5.extBut _ _ ne o1, o2⟩
theorem py_item {Q : Option Value → Shared → Prop} (D : ZipApart z p q i1 i2 l1 l2) (T : At t.heap z p q i1 i2 l1 l2 j1 j2 n1 n2 a b) (s1 : SqA j1 t.heap l1 xs) (s2 : SqA j2 t.heap l2 ys) (hx : xs[n1]? = some x) (hy : ys[n2]? = some y)
    (hq : ∀ g, IsZip g z p q (rawInt t.heap.objs.size) → IsPair g q x y → ItA j1 g i1 l1 (n1 + 1) → ItA j2 g i2 l2 (n2 + 1) → IsPair g t.heap.objs.size x y → g.objs.size = t.heap.objs.size + 1 → Rest z q i1 i2 t.heap g → Q (some (.ref t.heap.objs.size)) { t with heap := g }) :
    wpAny (model pr wo) Ar (pyNext (.ref z)) Q Ex t := by
  have ty : t.TypeIs (.ref z) "zip" := ⟨_, T.z, rfl⟩
  unfold pyNext
  exact wpAny_bind (wpAny_attempt (wpAny_callSpecial?_slot (name := Str.ofString "__next__") ty F.slot_zip_next (wpAny_call_entry F.slot_zip_next ty F.entry_zip_next (turn_item D T s1 s2 hx hy fun g u1 u2 u3 u4 u5 u6 u7 => wpAny_pure (hq g u1 u2 u3 u4 u5 u6 u7)) (F.args_zip_next_1 _))))
theorem py_end {Q : Option Value → Shared → Prop} (hh : Ar.handled = none) (D : ZipApart z p q i1 i2 l1 l2) (T : At t.heap z p q i1 i2 l1 l2 j1 j2 n1 n2 a b) (s1 : SqA j1 t.heap l1 xs) (s2 : SqA j2 t.heap l2 ys) (hend : xs[n1]? = none ∨ ys[n2]? = none)
    (hq : ∀ g, Rest z q i1 i2 t.heap g → Q none { t with heap := g }) : wpAny (model pr wo) Ar (pyNext (.ref z)) Q Ex t := by
  have ty : t.TypeIs (.ref z) "zip" := ⟨_, T.z, rfl⟩
  unfold pyNext
  refine wpAny_bind (wpAny_attempt (wpAny_callSpecial?_slot (name := Str.ofString "__next__") ty F.slot_zip_next (wpAny_call_entry F.slot_zip_next ty F.entry_zip_next (turn_end hh D T s1 s2 hend fun g e hk k => ?_) (F.args_zip_next_1 _))))
  obtain ⟨o, o1, o2⟩ := k
  exact wpAny_bind (wpAny_isInstance (T := "StopIteration") (b := true) ⟨o, o1, o2⟩ isSubtype_stop (wpAny_pure (hq _ hk)))
end
abbrev hA (j : Bool) (h : Heap) (l : Addr) : Heap := h.push { cls := .type (itc j), data := .fields #[.ref l, .int 0 0] }
abbrev hB (j1 j2 : Bool) (h : Heap) (l1 l2 : Addr) : Heap := hA j2 (hA j1 h l1) l2
abbrev hC (j1 j2 : Bool) (h : Heap) (l1 l2 : Addr) : Heap := (hB j1 j2 h l1 l2).push { cls := .type "tuple", data := .seq #[.ref h.objs.size, .ref (hA j1 h l1).objs.size] }
abbrev hD (j1 j2 : Bool) (h : Heap) (l1 l2 : Addr) : Heap := (hC j1 j2 h l1 l2).push { cls := .type "tuple", data := .seq #[.none, .none] }
abbrev hE (j1 j2 : Bool) (h : Heap) (l1 l2 : Addr) : Heap := (hD j1 j2 h l1 l2).push { cls := .type "zip", data := .fields #[.none, .bool false, .bool false, .ref (hB j1 j2 h l1 l2).objs.size, .ref (hC j1 j2 h l1 l2).objs.size] }
theorem new_lt (l1 l2 : Addr) (xs ys : Array Value) : Meets (Builtin.«zip.__new__» ⟨[.type "zip", .ref l1, .ref l2], []⟩) (fun _ R s => SqA false s.heap l1 xs ∧ SqA true s.heap l2 ys ∧ R (.ok (.ret (.ref (hD false true s.heap l1 l2).objs.size))) { s with heap := hE false true s.heap l1 l2 }) :=
  .of_wp fun prog w A R s h => by
    obtain ⟨hp, g, d, tk, os⟩ := s; obtain ⟨k1, k2, h⟩ := h
    have hsub := sub_zip
    have e1 : Heap.IsList (Shared.heap ⟨hp, g, d, tk, os⟩) l1 xs := k1
    have e2 : Heap.IsTuple (Shared.heap ⟨hp.push { cls := .type "list_iterator", data := .fields #[.ref l1, .int 0 0] }, g, d, tk, os⟩) l2 ys := Heap.IsTuple.push k2 _
    wp_walk using wpAny_pyIter_list e1, wpAny_pyIter_tuple e2
    exact ⟨_, rfl, h⟩
theorem new_tl (l1 l2 : Addr) (xs ys : Array Value) : Meets (Builtin.«zip.__new__» ⟨[.type "zip", .ref l1, .ref l2], []⟩) (fun _ R s => SqA true s.heap l1 xs ∧ SqA false s.heap l2 ys ∧ R (.ok (.ret (.ref (hD true false s.heap l1 l2).objs.size))) { s with heap := hE true false s.heap l1 l2 }) :=
  .of_wp fun prog w A R s h => by
    obtain ⟨hp, g, d, tk, os⟩ := s; obtain ⟨k1, k2, h⟩ := h
    have hsub := sub_zip
    have e1 : Heap.IsTuple (Shared.heap ⟨hp, g, d, tk, os⟩) l1 xs := k1
    have e2 : Heap.IsList (Shared.heap ⟨hp.push { cls := .type "tuple_iterator", data := .fields #[.ref l1, .int 0 0] }, g, d, tk, os⟩) l2 ys := Heap.IsList.push k2 _
    wp_walk using wpAny_pyIter_tuple e1, wpAny_pyIter_list e2
    exact ⟨_, rfl, h⟩
section
variable {pr : Program} {wo : World} {Ar : Around} {Ex : Value → Shared → Prop} {t : Shared}
theorem made {l1 l2 : Addr} {j : Bool} {xs ys : Array Value} {Q : Value → Shared → Prop} (s1 : SqA j t.heap l1 xs) (s2 : SqA (!j) t.heap l2 ys)
    (h : ∀ g, At g (t.heap.objs.size + 4) (t.heap.objs.size + 2) (t.heap.objs.size + 3) t.heap.objs.size (t.heap.objs.size + 1) l1 l2 j (!j) 0 0 .none .none → (∀ c o, t.heap.get? c = some o → g.get? c = some o) → Q (.ref (t.heap.objs.size + 4)) { t with heap := g }) :
    wpAny (model pr wo) Ar (call (.type "zip") [.ref l1, .ref l2]) Q Ex t := by
  have w1 : (hA j t.heap l1).objs.size = t.heap.objs.size + 1 := Heap.size_push ..
  have w2 : (hB j (!j) t.heap l1 l2).objs.size = t.heap.objs.size + 2 := by rw [Heap.size_push, w1]
  have w3 : (hC j (!j) t.heap l1 l2).objs.size = t.heap.objs.size + 3 := by rw [Heap.size_push, w2]
  have w4 : (hD j (!j) t.heap l1 l2).objs.size = t.heap.objs.size + 4 := by rw [Heap.size_push, w3]
  have f5 : (hE j (!j) t.heap l1 l2).get? (hD j (!j) t.heap l1 l2).objs.size = some _ := Heap.get?_push_size _ rfl
  have f4 : (hE j (!j) t.heap l1 l2).get? (hC j (!j) t.heap l1 l2).objs.size = some _ := Heap.get?_push_of_some _ (Heap.get?_push_size _ rfl)
  have f3 : (hE j (!j) t.heap l1 l2).get? (hB j (!j) t.heap l1 l2).objs.size = some _ := Heap.get?_push_of_some _ (Heap.get?_push_of_some _ (Heap.get?_push_size _ rfl))
  have f2 : (hE j (!j) t.heap l1 l2).get? (hA j t.heap l1).objs.size = some _ := Heap.get?_push_of_some _ (Heap.get?_push_of_some _ (Heap.get?_push_of_some _ (Heap.get?_push_size _ rfl)))
  have f1 : (hE j (!j) t.heap l1 l2).get? t.heap.objs.size = some _ := Heap.get?_push_of_some _ (Heap.get?_push_of_some _ (Heap.get?_push_of_some _ (Heap.get?_push_of_some _ (Heap.get?_push_size _ rfl))))
  have old : ∀ c o, t.heap.get? c = some o → (hE j (!j) t.heap l1 l2).get? c = some o := fun c o e => Heap.get?_push_of_some _ (Heap.get?_push_of_some _ (Heap.get?_push_of_some _ (Heap.get?_push_of_some _ (Heap.get?_push_of_some _ e))))
  have f50 := f5
  rw [w2, w3, w4] at f5
  rw [w1, w2] at f3
  rw [w3] at f4
  rw [w1] at f2
  have it : ∀ (b : Bool) (g : Heap) (i l : Addr), g.get? i = some { cls := .type (itc b), data := .fields #[.ref l, .int 0 0] } → ItA b g i l 0 := fun b g i l e => by
    cases b
    · exact ⟨_, e, rfl, rfl⟩
    · exact ⟨_, e, rfl, rfl⟩
  have fin := h _ ⟨f5, f3, f4, it _ _ _ _ f1, it _ _ _ _ f2⟩ old
  rw [← w4] at fin
  cases j
  · exact callType_new F.called_zip (by decide) (F.typeCall_zip_2 _ _) (F.newCall_zip_2 _ _) (fun obj => F.args_object_init_3 obj _ _) F.entry_zip_new (new_lt l1 l2 xs ys) ⟨s1, s2, ⟨_, f50, rfl⟩, fin⟩
  · exact callType_new F.called_zip (by decide) (F.typeCall_zip_2 _ _) (F.newCall_zip_2 _ _) (fun obj => F.args_object_init_3 obj _ _) F.entry_zip_new (new_tl l1 l2 xs ys) ⟨s1, s2, ⟨_, f50, rfl⟩, fin⟩
end
end Zz
namespace Pm
open PySem PySem.Spec PyProof.Rows L2
def SqK' (k : Bool) (K : PySem.W.Frag) (H : Hp) (a : Addr) (xs : List V) : Prop := if k = true then SqT K H a xs else SqL K H a xs
def ItzM (K : PySem.W.Frag) (j1 j2 : Bool) (a b : Addr) : It :=
  ⟨fun i H => ∃ (xs ys : List V) (x y : V), SqK' j1 K H a xs ∧ SqK' j2 K H b ys ∧ xs[i]? = some x ∧ ys[i]? = some y,
    fun i H v H' => ∃ T x y, v = .ref T ∧ H T = none ∧ H' = upd H T (.tup [x, y]) ∧ (∀ xs, SqK' j1 K H a xs → xs[i]? = some x) ∧ ∀ ys, SqK' j2 K H b ys → ys[i]? = some y,
    fun i H => ∃ xs ys : List V, SqK' j1 K H a xs ∧ SqK' j2 K H b ys ∧ (xs.length ≤ i ∨ ys.length ≤ i)⟩
section
variable {X : Cx} {pins : List (Addr × Obj)} {σ : L2.St} {H : Hp} {s : Shared}
theorem seq_at {k : Bool} {a : Addr} {xs : List V} (I : Inv X pins σ H s) (h : SqK' k X.K H a xs) : ∃ its : List Value, Vals xs its ∧ Zz.SqA k s.heap a its.toArray ∧ a < s.heap.objs.size := by
  cases k
  · obtain ⟨its, rv, p, _⟩ := I.list h
    exact ⟨its, rv, p.isList, p.lt⟩
  · obtain ⟨its, rv, p, _⟩ := I.tuple h
    obtain ⟨o, ho, _⟩ := id p
    exact ⟨its, rv, p, Heap.lt_size ho⟩
theorem seq_one {k : Bool} {a : Addr} {xs ys : List V} (I : Inv X pins σ H s) (h1 : SqK' k X.K H a xs) (h2 : SqK' k X.K H a ys) : xs = ys := by
  cases k
  · exact I.list_inj h1 h2
  · exact I.tuple_inj h1 h2
end
theorem turn_zipM {P : Program} {w : World} {K : PySem.W.Frag} {elts : List Expr} {kk : Nat} {tpos : Pos} {j1 j2 : Bool} {a b z p q i1 i2 : Addr} (D : ZipApart z p q i1 i2 a b) :
    Turn P w K (.Tuple elts kk tpos) (ItzM K j1 j2 a b) [z, p, q, i1, i2] z (fun i h => ∃ x y, Zz.At h z p q i1 i2 a b j1 j2 i i x y) where
  mem := by simp
  obj := fun i h st c hc => by
    obtain ⟨x, y, tz, tp, tq, t1, t2⟩ := st
    have e : c = z ∨ c = p ∨ c = q ∨ c = i1 ∨ c = i2 := by simpa using hc
    rcases e with rfl | rfl | rfl | rfl | rfl
    · exact ⟨_, tz, fun v n => nomatch n⟩
    · exact ⟨_, tp, fun v n => nomatch n⟩
    · exact ⟨_, tq, fun v n => nomatch n⟩
    · exact t1.some
    · exact t2.some
  keep := fun i h g st k => by
    obtain ⟨x, y, tz, tp, tq, t1, t2⟩ := st
    exact ⟨x, y, k z (by simp) _ tz, k p (by simp) _ tp, k q (by simp) _ tq, t1.at fun o e => k i1 (by simp) o e, t2.at fun o e => k i2 (by simp) o e⟩
  item := by
    intro X hP hw hK hc i pins s σ H E I hf st hg
    subst hP hw hK
    obtain ⟨x0, y0, T⟩ := st
    obtain ⟨xs, ys, x, y, k1, k2, hx, hy⟩ := hg
    obtain ⟨its, rv, c1, _⟩ := seq_at I k1
    obtain ⟨its2, rv2, c2, _⟩ := seq_at I k2
    obtain ⟨u, hu, ru⟩ := rv.get hx
    obtain ⟨u2, hu2, ru2⟩ := rv2.get hy
    have zl : z < s.heap.objs.size := Heap.lt_size T.z
    refine Zz.py_item D T c1 c2 (x := u) (y := u2) (by simpa using hu) (by simpa using hu2) fun g gz gq g1 g2 gT gs gk => ?_
    refine ⟨_, rfl, wpAny_letOwnedTupleGo_zip (s := { s with heap := g }) gz fun g' z' sb => ?_⟩
    have new2 : g'.get? s.heap.objs.size = some { cls := .type "tuple", data := .seq #[u, u2] } := (sb.2 _ (Nat.ne_of_gt zl)).trans gT
    have new : ObjOk X.prog X.w (upd H s.heap.objs.size (.tup [x, y])) g' s.heap.objs.size (.tup [x, y]) := ⟨by show 2 ≤ sizeLine; decide, [u, u2], .cons ru (.cons ru2 .nil), ⟨_, new2, rfl, _, rfl⟩⟩
    have I1 : Inv X pins σ (upd H s.heap.objs.size (.tup [x, y])) { s with heap := g' } :=
      I.turnedNew (t' := s.toks) (ch := [z, p, q, i1, i2]) (fun c o hb e => (sb.2 c (fun n => hb (by simp [n]))).trans (gk c o (fun n => hb (by simp [n])) (fun n => hb (by simp [n])) (fun n => hb (by simp [n])) (fun n => hb (by simp [n])) e)) hf (Nat.le_refl _) new
    refine ⟨.ref s.heap.objs.size, _, I1, rfl, ⟨_, x, y, rfl, I.hok.fresh (Nat.le_refl _), rfl, fun l hl => by rw [seq_one I hl k1]; exact hx, fun l hl => by rw [seq_one I hl k2]; exact hy⟩, ⟨u, u2, z', ?_, ?_, ?_, ?_⟩, fun c hm => ?_⟩
    · exact (sb.2 _ D.TIz).trans (gk _ _ D.TIz D.TITO D.TIi1 D.TIi2 T.p)
    · exact (sb.2 _ D.TOz).trans gq
    · exact g1.at fun o e => (sb.2 _ D.i1z).trans e
    · exact g2.at fun o e => (sb.2 _ D.i2z).trans e
    · have lt : c < s.heap.objs.size := by
        have e : c = z ∨ c = p ∨ c = q ∨ c = i1 ∨ c = i2 := by simpa using hm
        rcases e with rfl | rfl | rfl | rfl | rfl
        · exact zl
        · exact Heap.lt_size T.p
        · exact Heap.lt_size T.q
        · obtain ⟨_, e1, _⟩ := T.one.some; exact Heap.lt_size e1
        · obtain ⟨_, e2, _⟩ := T.two.some; exact Heap.lt_size e2
      rw [upd_ne (Nat.ne_of_lt lt)]
      exact (hf c hm).1
  done := by
    intro X hP hw hK hc i pins s σ H E I hf st hg
    subst hP hw hK
    obtain ⟨x0, y0, T⟩ := st
    obtain ⟨xs, ys, k1, k2, hend⟩ := hg
    obtain ⟨its, rv, c1, _⟩ := seq_at I k1
    obtain ⟨its2, rv2, c2, _⟩ := seq_at I k2
    have m1 := rv.length
    have m2 := rv2.length
    have he : its.toArray[i]? = none ∨ its2.toArray[i]? = none := by
      rcases hend with n | n
      · exact .inl (by simp; omega)
      · exact .inr (by simp; omega)
    exact Zz.py_end (I.ok.hd hc) D T c1 c2 he fun g gk => ⟨rfl, I.turnedL (t' := s.toks) (ch := [z, p, q, i1, i2]) (fun c o hb e => gk c o (fun n => hb (by simp [n])) (fun n => hb (by simp [n])) (fun n => hb (by simp [n])) (fun n => hb (by simp [n])) e) hf⟩
  self := fun A i s Q E st h => by
    obtain ⟨x, y, T⟩ := st
    exact wpAny_pyIter_zip T.z h
def tZipM (K : PySem.W.Frag) (ta : TA) : TI := fun σ H R => ta σ H fun vs H1 => ∃ j a b xs ys, vs = [.ref a, .ref b] ∧ SqK' j K H1 a xs ∧ SqK' (!j) K H1 b ys ∧ R (ItzM K j (!j) a b) H1
theorem pi_zipM {X : Cx} {e e2 : Expr} {ta : TA} {p pos tpos : Pos} {elts : List Expr} {kk : Nat} (hg : Gl X "zip") (hm : X.mg "zip" = none) (ha : PA X [e, e2] ta)
    (hs : starEach [e, e2] X.env = (false, eval e X.env) :: starEach [e2] X.env := by rfl) (hpl : (backTo pos (starEach [e2] X.env)).any (·.1) = false := by rfl) : PI X (.Tuple elts kk tpos) (.Call (.Name "zip" p) [e, e2] [] pos) (tZipM X.K ta) := by
  refine ⟨fun pins s σ H R I h => ?_⟩
  refine Call_ (ld_blt I hg hm PyProof.Rows.boot_zip (PyProof.Rows.callWith_type1 (thn (ha.run pos pins s σ H _ I h) fun us s1 ⟨vs, H1, I1, r1, q1⟩ => ?_) hs hpl))
  obtain ⟨j, a, b, xs, ys, rfl, k1, k2, q⟩ := q1
  cases r1 with
  | cons r rr =>
    cases rr with
    | cons r' rr =>
      cases rr
      cases r
      cases r'
      obtain ⟨its, rv, c1, l1⟩ := seq_at I1 k1
      obtain ⟨its2, rv2, c2, l2⟩ := seq_at I1 k2
      refine Zz.made c1 c2 fun g T hk => wpAny_pyIter_zip T.z ?_
      have I2 : Inv X pins σ H1 { s1 with heap := g } := I1.kept (t' := s1.toks) hk
      refine ⟨s1.heap.objs.size + 4, [s1.heap.objs.size + 4, s1.heap.objs.size + 2, s1.heap.objs.size + 3, s1.heap.objs.size, s1.heap.objs.size + 1], _, _, H1, rfl, I2, turn_zipM (PySem.W.ktu_apart s1.heap.objs.size a b l1 l2), ⟨_, _, T⟩, fun c hcm => ?_, q⟩
      have e : c = s1.heap.objs.size + 4 ∨ c = s1.heap.objs.size + 2 ∨ c = s1.heap.objs.size + 3 ∨ c = s1.heap.objs.size ∨ c = s1.heap.objs.size + 1 := by simpa using hcm
      have hle : s1.heap.objs.size ≤ c := by rcases e with n | n | n | n | n <;> (rw [n]; omega)
      exact I1.fpOk hle (I1.hok.fresh hle)
section
variable {X : Cx} {g : G} {E : XK} {e e2 : Expr} {elts : List Expr} {kk : Nat} {tpos pos : Pos} {mr : Env → S → Res (List D)}
def zipX : List D → S → Res (List D) := fun ds s => match ds with
  | [x, y] => match sqK x, sqK y with
    | .l xs, .t ys => .ok (zipD xs ys) s
    | .t xs, .l ys => .ok (zipD xs ys) s
    | _, _ => .stuck
  | _ => .stuck
theorem walks_zM {ca : List Addr} {F : Hp} {j1 j2 : Bool} {p q : Addr} {xs ys : List V} {ds us : List D} {K : PySem.W.Frag} (hK : g.K = K) (h1 : SqK' j1 g.K F p xs) (h2 : SqK' j2 g.K F q ys) (r1 : Reps g ca F ds xs) (r2 : Reps g ca F us ys) : Walks g ca F (ItzM K j1 j2 p q) (zipD ds us) := by
  intro i ca' F' P' H' s' hc hF m
  have up : ∀ {j : Bool} {p : Addr} {xs : List V}, SqK' j g.K F p xs → SqK' j K H' p xs := fun {j p xs} h => by
    cases j
    · exact hK ▸ same_l (hF.trans m.sub) h
    · exact hK ▸ same_t (hF.trans m.sub) h
  have s1 := up h1
  have s2 := up h2
  refine ⟨fun d hd => ?_, fun hl => ⟨xs, ys, s1, s2, by rw [← r1.length, ← r2.length]; rw [zipD_len] at hl; omega⟩⟩
  obtain ⟨x, y, hx, hy, rfl⟩ := zipD_get hd
  obtain ⟨v, hv, rv⟩ := r1.get hx
  obtain ⟨u, hu, ru⟩ := r2.get hy
  refine ⟨⟨xs, ys, v, u, s1, s2, hv, hu⟩, fun z H'' hyd => ?_⟩
  obtain ⟨T, v', u', rfl, hT, rfl, f1, f2⟩ := hyd
  have e1 := f1 xs s1
  have e2 := f2 ys s2
  rw [hv] at e1; rw [hu] at e2
  cases e1; cases e2
  obtain ⟨k1, k2, k3⟩ := pair_new m hT (Rep.mono hc hF _ _ rv) (Rep.mono hc hF _ _ ru)
  exact ⟨_, k1, k2, k3⟩
def iZipX (mr : Env → S → Res (List D)) : Env → S → Res (List D) := fun env s => (mr env s).bind zipX
theorem iv_zipX {p : Pos} (hK : g.K = X.K) (hg : Gl X "zip") (hm : X.mg "zip" = none) (ha : Ea X g E [e, e2] mr)
    (hs : starEach [e, e2] X.env = (false, eval e X.env) :: starEach [e2] X.env := by rfl) (hpl : (backTo pos (starEach [e2] X.env)).any (·.1) = false := by rfl) :
    Iv X g E (.Tuple elts kk tpos) (.Call (.Name "zip" p) [e, e2] [] pos) (iZipX mr) := by
  obtain ⟨t, pa, ha⟩ := ha
  refine ⟨_, pi_zipM hg hm pa hs hpl, fun env s ca F P H σ R m sl q => ?_⟩
  refine ha env s ca F P H σ _ m sl (Post.imp (Post.seq q) fun ds s1 ca1 F1 H1 k1 k2 m1 q1 vs rs => ?_)
  unfold zipX at q1
  split at q1
  · rename_i x y
    obtain ⟨v, u, rfl, rx, ry⟩ := reps2 rs
    split at q1
    · rename_i xs ys hx hy
      obtain ⟨a1, zs, rfl, h1, r1⟩ := sqK_l hx rx
      obtain ⟨b1, ws, rfl, h2, r2⟩ := sqK_t hy ry
      exact ⟨false, a1, b1, zs, ws, rfl, hK ▸ same_l m1.sub h1, hK ▸ same_t m1.sub h2, q1.now m1 _ (walks_zM (j1 := false) (j2 := true) hK h1 h2 r1 r2)⟩
    · rename_i xs ys hx hy
      obtain ⟨a1, zs, rfl, h1, r1⟩ := sqK_t hx rx
      obtain ⟨b1, ws, rfl, h2, r2⟩ := sqK_l hy ry
      exact ⟨true, a1, b1, zs, ws, rfl, hK ▸ same_t m1.sub h1, hK ▸ same_l m1.sub h2, q1.now m1 _ (walks_zM (j1 := true) (j2 := false) hK h1 h2 r1 r2)⟩
    · exact q1.elim
  · exact q1.elim
def iZipA (mr : Env → S → Res (List D)) : Env → S → Res (List D) := fun env s => (iZipM mr env s).or (iZipX mr env s)
theorem iv_zipA {p : Pos} (hK : g.K = X.K) (hg : Gl X "zip") (hm : X.mg "zip" = none) (ha : Ea X g E [e, e2] mr)
    (hs : starEach [e, e2] X.env = (false, eval e X.env) :: starEach [e2] X.env := by rfl) (hpl : (backTo pos (starEach [e2] X.env)).any (·.1) = false := by rfl) :
    Iv X g E (.Tuple elts kk tpos) (.Call (.Name "zip" p) [e, e2] [] pos) (iZipA mr) := by
  obtain ⟨w1, p1, h1⟩ := iv_zip (elts := elts) (kk := kk) (tpos := tpos) (pos := pos) (p := p) hK hg hm ha hs hpl
  obtain ⟨w2, p2, h2⟩ := iv_zipX (elts := elts) (kk := kk) (tpos := tpos) (pos := pos) (p := p) hK hg hm ha hs hpl
  exact ⟨fun σ H R => w1 σ H R ∨ w2 σ H R, ⟨fun pins s σ H R I h => h.elim (p1.run pins s σ H R I) (p2.run pins s σ H R I)⟩, fun env s ca F P H σ R m sl q => q.or.imp (h1 env s ca F P H σ R m sl) (h2 env s ca F P H σ R m sl)⟩
end
end Pm
set_option Elab.async false
set_option linter.all false
set_option maxRecDepth 100000
set_option maxHeartbeats 1000000
namespace Pm
open PySem PySem.Spec PyProof.Rows L2
def isFa (r : Res D) : Bool := match r with
  | .ok (.bl false) [] => true
  | _ => false
def intsD : List D → Option (List Int)
  | [] => some []
  | .int i :: ds => (intsD ds).map fun l => i :: l
  | _ :: _ => none
def othD (c : Nat) (ff : List D → S → Res D) (fs : List D) (d : D) : Bool := match d with
  | .ins k gs => decide (k = c) && (isFa (ff [.ins c gs, .ins c fs] []) && match intsD fs, intsD gs with
    | some a, some b => decide (a ≠ b)
    | _, _ => false)
  | _ => false
def niT (c : Nat) (ff : List D → S → Res D) : D → D → S → Res D := fun x y s => match x, y with
  | .ins k fs, .lst ys => if (decide (k = c) && (pureL fs && pureL ys) && ys.all (othD c ff fs)) = true then .ok (.bl true) s else .stuck
  | _, _ => .stuck
end Pm
set_option Elab.async false
set_option linter.all false
set_option maxRecDepth 100000
set_option maxHeartbeats 1000000
namespace Pm
open PySem PySem.Spec PyProof.Rows L2
section
open PySem.SeqAt
variable {X : Cx} {g : G} {E : XK} {o e : Expr} {es : List Expr} {mo : Env → S → Res D} {mr : Env → S → Res (List D)} {pos apos : Pos}
def remF : List D → List D → Option (List D) := fun ds ys => match ys with
  | [y] => match toPys ds, toPy y with
    | some ps, some p => if (SeqAt.shaped p && SeqAt.shaped (.list ps)) = true then (ps.findIdx? fun z => PyData.eqv z p).map fun j => ds.eraseIdx j else none
    | _, _ => none
  | _ => none
theorem Reps.eraseIdx {ca : List Addr} {F : Hp} : ∀ {ds : List D} {vs : List V} (j : Nat), Reps g ca F ds vs → Reps g ca F (ds.eraseIdx j) (vs.eraseIdx j)
  | [], vs, j, r => by
    simp only [Reps] at r
    subst r
    simp [Reps]
  | d :: ds, vs, 0, r => by
    simp only [Reps] at r
    obtain ⟨v, ws, rfl, _, r2⟩ := r
    exact r2
  | d :: ds, vs, j + 1, r => by
    simp only [Reps] at r
    obtain ⟨v, ws, rfl, r1, r2⟩ := r
    simp only [List.eraseIdx_cons_succ, Reps]
    exact ⟨v, _, rfl, r1, Reps.eraseIdx j r2⟩
end
end Pm
set_option Elab.async false
set_option linter.all false
set_option maxRecDepth 100000
set_option maxHeartbeats 1000000
namespace Pm
open PySem PySem.Spec PyProof.Rows L2
section
variable {X : Cx} {g : G} {E E0 : XK} {elt tg iter : Expr} {ifs : List Expr} {scope : Scope} {own : List (Str × Nat)} {pos : Pos} {mo : Env → S → Res D} {mt : D → Env → Option Env} {tt : Env → S → Res Bool} {me : Env → S → Res D} {w : List Nat}
def compLC (own : List Nat) (mt : D → Env → Option Env) (tt : Env → S → Res Bool) (me : Env → S → Res D) (k : Nat) : Nat → Nat → Env → S → Res (List D)
  | 0, _, _, _ => .stuck
  | n + 1, i, env, s => match s[k]? with
    | some (.lst ds) => (match ds[i]? with
      | none => .ok [] s
      | some d => (match mt d (wipeE env own) with
        | none => .stuck
        | some e1 => (noexn (tt e1 s)).bind fun b s1 => if b = true then (noexn (me e1 s1)).bind (fun y s2 => (compLC own mt tt me k n (i + 1) env s2).bind fun ys s3 => .ok (y :: ys) s3) else compLC own mt tt me k n (i + 1) env s1))
    | _ => .stuck
def mCompK (fin : List D → S → Res D) (own : List Nat) (mo : Env → S → Res D) (mt : D → Env → Option Env) (tt : Env → S → Res Bool) (me : Env → S → Res D) : Env → S → Res D := fun env s =>
  (mo env s).bind fun x s1 => match x with
    | .cell k => (match s1[k]? with
      | some (.lst _) => (compLC own mt tt me k 1001 0 env s1).bind fin
      | _ => .stuck)
    | _ => .stuck
end
end Pm
set_option Elab.async false
set_option linter.all false
set_option maxRecDepth 100000
set_option maxHeartbeats 1000000
namespace Pm
open PySem PySem.Spec PyProof.Rows L2
section
variable {X : Cx} {g : G} {E : XK}
def neE : D → D → S → Res D := fun x y s => match x, y with
  | .cell k, .lst [] => (match s[k]? with
    | some (.lst ds) => .ok (.bl (!ds.isEmpty)) s
    | _ => .stuck)
  | _, _ => .stuck
end
end Pm
set_option Elab.async false
set_option linter.all false
set_option maxRecDepth 100000
set_option maxHeartbeats 1000000
set_option Elab.async false
set_option linter.all false
set_option maxRecDepth 100000
set_option maxHeartbeats 1000000
namespace Pm
open PySem PySem.Spec PyProof.Rows L2
def derL (f : D → Option D) : List D → Option (List D)
  | [] => some []
  | d :: ds => match f d, derL f ds with
    | some a, some b => some (a :: b)
    | _, _ => none
def der : Nat → S → D → Option D
  | 0, _, d => if pureD d = true then some d else none
  | n + 1, s, d => if pureD d = true then some d else match d with
    | .cell k => (match s[k]? with
      | some (.lst ds) => (derL (der n s) ds).map .lst
      | _ => none)
    | .lst ds => (derL (der n s) ds).map .lst
    | .tup ds => (derL (der n s) ds).map .tup
    | _ => none
section
variable {X : Cx} {k : Nat} {g : G} {E : XK} {c : Nat} {ff : List D → S → Res D} {CX : CXT} {f : Addr} {fd : FuncData} {ps : List Str}
def eqX (c : Nat) (ff : List D → S → Res D) (neg : Bool) : D → D → S → Res D := fun x y s => match der 9 s x, der 9 s y with
  | some a, some b => (match (eqP neg a b s).or (eqT c ff neg a b s) with
    | .ok (.bl t) _ => .ok (.bl t) s
    | _ => .stuck)
  | _, _ => .stuck
end
end Pm
set_option Elab.async false
set_option linter.all false
set_option maxRecDepth 100000
set_option maxHeartbeats 1000000
namespace Pm
open PySem PySem.Spec PyProof.Rows L2
abbrev Nxt := Nat → S → Option (Option D)
def compLD (own : List Nat) (mt : D → Env → Option Env) (tt : Env → S → Res Bool) (me : Env → S → Res D) (nx : Nxt) : Nat → Nat → Env → S → Res (List D)
  | 0, _, _, _ => .stuck
  | n + 1, i, env, s => match nx i s with
    | none => .stuck
    | some none => .ok [] s
    | some (some d) => (match mt d (wipeE env own) with
      | none => .stuck
      | some e1 => (noexn (tt e1 s)).bind fun b s1 => if b = true then (noexn (me e1 s1)).bind (fun y s2 => (compLD own mt tt me nx n (i + 1) env s2).bind fun ys s3 => .ok (y :: ys) s3) else compLD own mt tt me nx n (i + 1) env s1)
def mCompD (fin : List D → S → Res D) (own : List Nat) (mi : Env → S → Res Nxt) (mt : D → Env → Option Env) (tt : Env → S → Res Bool) (me : Env → S → Res D) : Env → S → Res D := fun env s =>
  (mi env s).bind fun nx s1 => (compLD own mt tt me nx 1001 0 env s1).bind fin
section
variable {X : Cx} {g : G} {E E0 : XK} {elt tg iter : Expr} {ifs : List Expr} {scope : Scope} {own : List (Str × Nat)} {pos : Pos} {mi : Env → S → Res Nxt} {mt : D → Env → Option Env} {tt : Env → S → Res Bool} {me : Env → S → Res D} {w : List Nat}
def seqD (s : S) : D → Option (List D)
  | .lst ds => some ds
  | .cell k => match s[k]? with
    | some (.lst ds) => some ds
    | _ => none
  | _ => none
def iL1 (mo : Env → S → Res D) : Env → S → Res Nxt := fun env s => (mo env s).bind fun x s1 => match seqD s1 x with
  | some _ => .ok (fun i s => (seqD s x).map fun ds => ds[i]?) s1
  | none => .stuck
def iZ2 (mr : Env → S → Res (List D)) : Env → S → Res Nxt := fun env s => (mr env s).bind fun xs s1 => match xs with
  | [x, y] => (match seqD s1 x, seqD s1 y with
    | some _, some _ => .ok (fun i s => match seqD s x, seqD s y with
      | some ds, some es => some (match ds[i]?, es[i]? with
        | some d, some e => some (.tup [d, e])
        | _, _ => none)
      | _, _ => none) s1
    | _, _ => .stuck)
  | _ => .stuck
variable {e e2 : Expr} {elts : List Expr} {kk : Nat} {tpos : Pos} {mo : Env → S → Res D} {mr : Env → S → Res (List D)}
end
end Pm
set_option Elab.async false
set_option linter.all false
set_option maxRecDepth 100000
set_option maxHeartbeats 1000000
namespace Pm
open PySem PySem.Spec PyProof.Rows L2
def forLD (mt : D → Env → Option Env) (b : Env → S → Res Fl) (nx : Nxt) : Nat → Nat → Env → S → Res Fl
  | 0, _, _, _ => .stuck
  | n + 1, i, env, s => match nx i s with
    | none => .stuck
    | some none => .ok (.nx env) s
    | some (some d) => (match mt d env with
      | none => .stuck
      | some e1 => (b e1 s).bind fun fl s1 => match fl with
        | .nx e => forLD mt b nx n (i + 1) e s1
        | .ct e => forLD mt b nx n (i + 1) e s1
        | .bk e => .ok (.nx e) s1
        | .rt d => .ok (.rt d) s1)
def sForD (mi : Env → S → Res Nxt) (mt : D → Env → Option Env) (b : Env → S → Res Fl) : Env → S → Res Fl := fun env s => (mi env s).bind fun nx s1 => forLD mt b nx 1001 0 env s1
end Pm
set_option Elab.async false
set_option linter.all false
set_option maxRecDepth 100000
set_option maxHeartbeats 1000000
set_option Elab.async false
set_option linter.all false
set_option maxRecDepth 100000
set_option maxHeartbeats 1000000
namespace Pm
open PySem PySem.Spec PyProof.Rows L2
def kindD : D → Nat
  | .ins _ _ => 1
  | .tup _ => 2
  | _ => 0
def apartD (x y : D) : Bool := decide (kindD x ≠ 0) && decide (kindD y ≠ 0) && decide (kindD x ≠ kindD y)
def apart (es ds : List D) : Bool := !decide (ds.length = es.length) || (es.zip ds).any fun p => apartD p.1 p.2
variable {X : Cx} {g : G} {E : XK}
end Pm
set_option Elab.async false
set_option linter.all false
set_option maxRecDepth 100000
set_option maxHeartbeats 2000000
namespace Pm
open PySem PySem.Spec PyProof.Rows L2
section
variable {X : Cx} {g : G} {E : XK} {pos : Pos} {me : Env → S → Res D} {mr : Env → S → Res (List D)}
def Edk (X : Cx) (g : G) (E : XK) (pos : Pos) (keys : List (Option Expr)) (values : List Expr) (ks : List Int) (m : Env → S → Res (List D)) : Prop :=
  ∃ trs, PPs X pos keys values trs ∧ ∀ (env : Env) (s : S) (ca : List Addr) (F P H : Hp) (σ : L2.St) (Q : List (V × V) → Hp → Prop), Sim g ca F P s H → Slots g ca F env σ →
    Post g ca F P E (fun ds _ ca' F' H' => ∀ vs, Reps g ca' F' ds vs → Q ((ks.map V.int).zip vs) H') (m env s) → tPairs trs σ H Q
theorem edk_nil : Edk X g E pos [] [] [] aNil := ⟨[], pps_nil, fun env s ca F P H σ Q m sl q => q.now m [] .nil⟩
theorem edk_cons {i : Int} {j : Nat} {p : Pos} {e : Expr} {keys : List (Option Expr)} {values : List Expr} {ks : List Int} (he : Ev X g E e me) (hr : Edk X g E pos keys values ks mr) :
    Edk X g E pos (some (.Constant (.int i) j p) :: keys) (e :: values) (i :: ks) (aCons me mr) := by
  obtain ⟨t, pt, h⟩ := he
  obtain ⟨trs, pp, hh⟩ := hr
  refine ⟨_, pps_cons pe_int pt pp, fun env s ca F P H σ Q m sl q => ?_⟩
  show t σ H _
  refine h env s ca F P H σ _ m sl (Post.imp (Post.seq q) fun d s1 ca1 F1 H1 k1 k2 m1 q v rv => ?_)
  refine hh env s1 ca1 F1 P H1 σ _ m1 (sl.mono k1 k2) (Post.imp (Post.seq q) fun ds s2 ca2 F2 H2 l1 l2 m2 q2 vs rvs => ?_)
  exact q2.now m2 _ (.cons (Rep.mono l1 l2 _ _ rv) rvs)
theorem zip_kv : ∀ (ks : List Int) (vs : List V), (ks.map V.int).zip vs = (kvI ks vs).map (fun kv => (kV kv.1, kv.2))
  | [], _ => rfl
  | _ :: _, [] => rfl
  | k :: ks, v :: vs => by
    have := zip_kv ks vs
    simp only [List.map_cons, List.zip_cons_cons, kvI] at this ⊢
    rw [this]
    rfl
theorem merge_new : ∀ (ks : List Int) (vs : List V) (acc : List (Key × V)), ks.Nodup → (∀ k ∈ ks, ∀ p ∈ acc, p.1 ≠ Sum.inl k) → mergeK acc (kvI ks vs) = acc ++ kvI ks vs
  | [], _, acc, _, _ => by simp [mergeK, kvI]
  | _ :: _, [], acc, _, _ => by simp [mergeK, kvI]
  | k :: ks, v :: vs, acc, nd, h => by
    have e : putK acc (Sum.inl k) v = acc ++ [(Sum.inl k, v)] := by
      unfold putK
      rw [if_neg]
      intro z
      obtain ⟨p, hp, e⟩ := List.any_eq_true.mp z
      exact h k (by simp) p hp (of_decide_eq_true e)
    have nd' := List.nodup_cons.mp nd
    show mergeK (putK acc (Sum.inl k) v) (kvI ks vs) = _
    rw [e, merge_new ks vs _ nd'.2 (fun k' hk p hp => by
      rcases List.mem_append.mp hp with z | z
      · exact h k' (by simp [hk]) p z
      · have : p = (Sum.inl k, v) := by simpa using z
        subst this
        intro z2
        cases z2
        exact nd'.1 hk)]
    simp [kvI]
def mDisp (ks : List Int) (mr : Env → S → Res (List D)) : Env → S → Res D := fun env s =>
  (mr env (s ++ [.dK [] []])).bind fun ds s2 => match s2[s.length]? with
    | some (.dK [] []) => if (decide (ks.length = ds.length) && decide (ks.length ≤ 15) && decide ks.Nodup) = true then .ok (.dct ks ds) (s2.set s.length .dead) else .stuck
    | _ => .stuck
theorem ev_disp {keys : List (Option Expr)} {values : List Expr} {ks : List Int} (hk : Edk X g E pos keys values ks mr) (hall : keys.all (·.isSome) = true := by rfl) (hl : keys.length = values.length := by rfl) (h0 : keys ≠ [] := by exact List.cons_ne_nil _ _)
    (h15 : keys.length ≤ 15 := by decide) : Ev X g E (.Dict keys values pos) (mDisp ks mr) := by
  obtain ⟨trs, pp, hh⟩ := hk
  refine ⟨_, pe_disp pp hall hl h0 h15, fun env s ca F P H σ Q m sl q => fun p hp => ?_⟩
  have m0 : Sim g (ca ++ [p]) F P (s ++ [.dK [] []]) (upd H p (.dK [])) := m.cellC hp ⟨[], upd_same, rfl, .nil⟩
  refine hh env (s ++ [.dK [] []]) (ca ++ [p]) F P _ σ _ m0 (sl.mono (List.prefix_append _ _) (Sub.refl _)) (Post.imp (Post.later (Post.seq q) (List.prefix_append _ _) (Sub.refl _)) fun ds s2 ca2 F2 H2 h1 h2 m2 q2 vs rs => ?_)
  have hca : ca2[s.length]? = some p := prefix_get h1 (by rw [← m.len]; simp)
  split at q2
  · rename_i hs2
    split at q2
    · rename_i hc
      simp only [Bool.and_eq_true, decide_eq_true_eq] at hc
      obtain ⟨⟨hlen, h15'⟩, hnd⟩ := hc
      obtain ⟨xs, he, hx, rx⟩ := m2.at_ _ _ _ hca hs2
      have hx0 : xs = [] := by simpa only [Reps] using rx
      subst hx0
      have hvl : ks.length = vs.length := by rw [hlen]; exact rs.length
      have hme : mergeK [] (kvI ks vs) = kvI ks vs := by rw [merge_new ks vs [] hnd (by simp)]; simp
      refine ⟨he, kvI ks vs, zip_kv ks vs, by simp only [kvI, List.length_zip, List.length_map]; omega, ?_⟩
      rw [hme]
      have m3 := m2.store (c := .dK ks ds) (o := .dK (kvI ks vs)) hca hs2 (by nofun) ⟨vs, upd_same, hlen, rs⟩
      have hlt : s.length < s2.length := (List.getElem?_eq_some_iff.mp hs2).1
      obtain ⟨m4, hF⟩ := m3.freeze hca (List.getElem?_set_self hlt) (by nofun) upd_same
      rw [List.set_set] at m4
      refine q2 ca2 (upd F2 p (.dK (kvI ks vs))) _ List.prefix_rfl (Sub.new hF) m4 _ ?_
      simp only [Rep]
      exact ⟨p, vs, rfl, upd_same, hlen, Reps.mono List.prefix_rfl (Sub.new hF) _ _ rs⟩
    · exact q2.elim
  · exact q2.elim
def dctPy (ks : List Int) (ps : List PyData) : PyData := .dict ((ks.map PyData.int).zip ps)
def bReprK : List D → S → Res D := fun xs s => match xs with
  | [.dct ks ds] => match toPys ds with
    | some ps => if (!PyData.hasDictAll ps && (dctPy ks ps).showable && decide ((dctPy ks ps).depth ≤ 40) && decide ((dctPy ks ps).shown.length ≤ line)) = true then .ok (.str (dctPy ks ps).shown) s else .stuck
    | none => .stuck
  | _ => .stuck
theorem kv_reads {h : Heap} : ∀ {ks : List Int} {xs : List V} {es : List DictEntry} {kvs : List (Key × Value)}, ks.length = xs.length → KV (kvI ks xs) kvs → (∀ {p w}, Pairs (mixKind p w) es kvs → Vals xs (es.map (·.val)) ∧ ∃ as, ReadsAll h (es.map (·.key)) (ks.map PyData.int) as)
  | [], [], es, kvs, _, r, p, w, pr => by
    simp only [kvI, List.map_nil, List.zip_nil_left] at r
    cases r
    cases pr
    exact ⟨.nil, [], .nil⟩
  | k :: ks, x :: xs, es, kvs, hl, r, p, w, pr => by
    simp only [kvI, List.map_cons, List.zip_cons_cons] at r
    cases r with
    | @cons a b as bs h1 t =>
      cases pr with
      | @cons e kv es' kvs' hk hv pr' =>
        obtain ⟨r1, as, r2⟩ := kv_reads (h := h) (by simpa using hl) t pr'
        obtain ⟨e1, e2⟩ := h1
        have e1 : Sum.inl k = b.1 := e1
        have hk' : keyIs (Sum.inl k) e.key = true := by rw [e1]; exact hk
        rcases keyIs_shape hk' with ⟨i, t', q1, q2⟩ | ⟨_, _, q1, _⟩
        · cases q1
          refine ⟨.cons (by show L2.RelV x e.val; rw [hv]; exact e2) r1, [] ++ as, ?_⟩
          simp only [List.map_cons]
          rw [q2]
          exact .cons (.int k t') r2
        · cases q1
theorem noDict_ints : ∀ ks : List Int, PyData.hasDictAll (ks.map PyData.int) = false
  | [] => by simp only [List.map_nil, PyData.hasDictAll]
  | k :: ks => by simp only [List.map_cons, PyData.hasDictAll, PyData.hasDict, noDict_ints ks, Bool.or_self]
theorem readsAll_len {h : Heap} : ∀ {us : List Value} {ds : List PyData} {bs : List Addr}, ReadsAll h us ds bs → us.length = ds.length
  | _, _, _, .nil => rfl
  | _, _, _, .cons _ r => by simp only [List.length_cons, readsAll_len r]
theorem cd_reprK (hK : g.K = X.K) (hgd : X.A.guards = some []) (hu : X.A.units + 66 < cLine) : CallD X g E (.builtin "repr") bReprK := by
  refine ⟨fun vs H Q => ∃ a ks xs ps, vs = [.ref a] ∧ H a = some (.dK (kvI ks xs)) ∧ ks.length = xs.length ∧ DpAll X.K H xs ps ∧ PyData.hasDictAll ps = false ∧ (dctPy ks ps).showable = true ∧ (dctPy ks ps).depth ≤ 40 ∧ (dctPy ks ps).shown.length ≤ sizeLine ∧ Q (.str (dctPy ks ps).shown) H, fun pins s σ H vs us Q I r h => ?_, fun xs s ca F P H vs Q m rs q => ?_⟩
  · obtain ⟨a, ks, xs, ps, rfl, hH, hl, hd, hnd, hsh, hdp, hz, q⟩ := h
    obtain ⟨u, rfl, ru⟩ := vals1 r
    cases (show u = Value.ref a from ru)
    obtain ⟨_, hn, kvs, kv, o, es, ep, ho, ex, hdat, _, pr, _⟩ := (show ObjOk X.prog X.w H s.heap a (.dK (kvI ks xs)) from I.hok a _ hH)
    obtain ⟨rv, ak, rk⟩ := kv_reads (h := s.heap) hl kv pr
    obtain ⟨av, rva⟩ := Dp.readsAll I ps _ _ hd rv
    have hlen : (ks.map PyData.int).length = ps.length := by
      have h1 : ∀ {us : List Value} {ds : List PyData} {bs : List Addr}, ReadsAll s.heap us ds bs → us.length = ds.length := fun r => readsAll_len r
      have e1 := h1 rk
      have e2 := h1 rva
      simp only [List.length_map] at e1 e2 ⊢
      omega
    have f1 : ((ks.map PyData.int).zip ps).map (·.1) = ks.map PyData.int := List.map_fst_zip (Nat.le_of_eq hlen)
    have f2 : ((ks.map PyData.int).zip ps).map (·.2) = ps := List.map_snd_zip (Nat.le_of_eq hlen.symm)
    have rd : Reads s.heap (.ref a) (.dict ((ks.map PyData.int).zip ps)) _ := .dict ho ex.1 hdat (by rw [f1]; exact rk) (by rw [f2]; exact rva)
    have hz' : (dictText (PyData.shownKv ((ks.map PyData.int).zip ps))).length ≤ sizeLine := by simpa only [dctPy, PyData.shown] using hz
    obtain ⟨hs1, hs2⟩ := PyData.showableKv_split ((ks.map PyData.int).zip ps) (by simpa [dctPy, PyData.showable] using hsh)
    have nk := noDict_ints ks
    obtain ⟨b1, hb1, k1⟩ := ReprAllK.of_readsAll (prog := X.prog) (w := X.w) (by rw [f1]; exact rk : ReadsAll s.heap (es.toList.map (·.key)) (((ks.map PyData.int).zip ps).map (·.1)) ak) hs1 (fun z => by rw [f1, nk] at z; cases z) (fun t ht => let ⟨p, hp, hl⟩ := PyData.shownKv_key_le _ t ht; Nat.le_trans hl (Nat.le_trans (dictText_mem_le hp) hz'))
    obtain ⟨b2, hb2, k2⟩ := ReprAllK.of_readsAll (prog := X.prog) (w := X.w) (by rw [f2]; exact rva : ReadsAll s.heap (es.toList.map (·.val)) (((ks.map PyData.int).zip ps).map (·.2)) av) hs2 (fun z => by rw [f2, hnd] at z; cases z) (fun t ht => let ⟨p, hp, hl⟩ := PyData.shownKv_val_le _ t ht; Nat.le_trans hl (Nat.le_trans (dictText_mem_le hp) hz'))
    have hb : ReadAtMost s.heap (PyData.depthKv ((ks.map PyData.int).zip ps)) (b1 ++ b2) := (hb1.mono (PyData.depthAll_keys_le _)).append (hb2.mono (PyData.depthAll_vals_le _))
    have hna : a ∉ b1 ++ b2 := not_mem_of_deeper rd (by simp only [PyData.depth]; omega) hb
    simp only [dctPy, PyData.depth] at hdp
    refine call_repr_slot (T := "dict") (by omega) ⟨o, ho, ex.1⟩ F.slot_dict_repr ?_
    have hq : ∀ h' u tk, (∀ b o, s.heap.get? b = some o → h'.get? b = some o) → EP X pins σ Q (.str (dctPy ks ps).shown u) { s with heap := h', toks := tk } := fun h' u tk hk => ⟨.str (dctPy ks ps).shown, H, I.kept hk, ⟨_, rfl⟩, q⟩
    simp only [dctPy, PyData.shown, PyData.shownKv_eq] at hq
    exact call_dict_reprK ho ex.1 hdat hn hna (ReprEntriesK.of_two es.toList _ _
      (k1.more_le (fun b hb => List.mem_append_left _ hb) (PyData.depthAll_keys_le _)) (k2.more_le (fun b hb => List.mem_append_right _ hb) (PyData.depthAll_vals_le _))) hgd (fun b _ => Clear.nil b) (by show X.A.units + 1 + _ < cLine; omega) (fun _ _ z => z) (fun h' u tk hk => ⟨_, _, rfl, hq h' u tk hk⟩) (by rw [← PyData.shownKv_eq]; exact hz')
  · unfold bReprK at q
    split at q
    · rename_i ks ds
      split at q
      · rename_i ps hps
        split at q
        · rename_i hc
          simp only [Bool.and_eq_true, decide_eq_true_eq, Bool.not_eq_true'] at hc
          obtain ⟨v, rfl, r⟩ := reps1 rs
          simp only [Rep] at r
          obtain ⟨a, xs, rfl, hF, hl, rx⟩ := r
          exact ⟨a, ks, xs, ps, rfl, m.sub _ _ hF, by rw [hl]; exact rx.length, dps_of hK m.sub _ _ _ hps rx, hc.1.1.1, hc.1.1.2, hc.1.2, line_le hc.2, q.now m _ (by simp only [Rep])⟩
        · exact q.elim
      · exact q.elim
    · exact q.elim
end
end Pm
set_option Elab.async false
set_option linter.all false
set_option maxRecDepth 100000
set_option maxHeartbeats 400000
namespace K15
open PySem PySem.Spec PyProof.Rows L2 Pm
structure Ad where
  C_Ratio : Addr
  a_is_integer : Addr
  d_is_integer : FuncData
  a_c0_init_ : Addr
  d_c0_init_ : FuncData
  a_c0_top : Addr
  d_c0_top : FuncData
  p_c0_top : Addr
  a_c0_bottom : Addr
  d_c0_bottom : FuncData
  p_c0_bottom : Addr
  a_parts_of : Addr
  d_parts_of : FuncData
  a_c0_add_ : Addr
  d_c0_add_ : FuncData
  a_c0_radd_ : Addr
  d_c0_radd_ : FuncData
  a_c0_sub_ : Addr
  d_c0_sub_ : FuncData
  a_c0_neg_ : Addr
  d_c0_neg_ : FuncData
  a_c0_rsub_ : Addr
  d_c0_rsub_ : FuncData
  a_c0_mul_ : Addr
  d_c0_mul_ : FuncData
  a_c0_rmul_ : Addr
  d_c0_rmul_ : FuncData
  a_c0_eq_ : Addr
  d_c0_eq_ : FuncData
  a_c0_str_ : Addr
  d_c0_str_ : FuncData
  a_c0_repr_ : Addr
  d_c0_repr_ : FuncData
  a_is_list : Addr
  d_is_list : FuncData
  a_is_number : Addr
  d_is_number : FuncData
  a_is_numbers : Addr
  d_is_numbers : FuncData
  a_is_table : Addr
  d_is_table : FuncData
  a_is_points : Addr
  d_is_points : FuncData
  a_check_points : Addr
  d_check_points : FuncData
  a_is_form : Addr
  d_is_form : FuncData
  a_law_pot : Addr
  d_law_pot : FuncData
  a_law_draw : Addr
  d_law_draw : FuncData
  a_law_pick : Addr
  d_law_pick : FuncData
  a_law_low : Addr
  d_law_low : FuncData
  a_law_sum : Addr
  d_law_sum : FuncData
  a_law_by : Addr
  d_law_by : FuncData
  a_law_passed : Addr
  d_law_passed : FuncData
  a_law_given_row : Addr
  d_law_given_row : FuncData
  a_law_given : Addr
  d_law_given : FuncData
  a_law_entry : Addr
  d_law_entry : FuncData
  a_law_points : Addr
  d_law_points : FuncData
  a_law_is_number : Addr
  d_law_is_number : FuncData
  a_law_is_row : Addr
  d_law_is_row : FuncData
  a_law_are_points : Addr
  d_law_are_points : FuncData
  a_law_is_form : Addr
  d_law_is_form : FuncData
  a_law_bent_points : Addr
  d_law_bent_points : FuncData
  a_law_bent_forms : Addr
  d_law_bent_forms : FuncData
  a_law_right : Addr
  d_law_right : FuncData
  a_law : Addr
  d_law : FuncData
def gg (K : PySem.W.Frag) (d : Ad) : G where
  K := K
  cls := fun c =>  d.C_Ratio
  fn := fun c => if c = 0 then ["_top", "_bottom"] else  []
theorem nd_Ratio : (["_top", "_bottom"] : List Str).Nodup := by decide +kernel
theorem lt_Ratio : (["_top", "_bottom"] : List Str).length < 1000 := by decide
structure Tx (K : PySem.W.Frag) (mg : Str → Option Value) (d : Ad) : Prop where
  cl_Ratio : Cls K d.C_Ratio
  m_Ratio : mg "Ratio" = some (.ref d.C_Ratio)
  na_Ratio_top : NoAttr K d.C_Ratio "_top"
  na_Ratio_bottom : NoAttr K d.C_Ratio "_bottom"
  mk_Ratio : Mk K d.C_Ratio d.a_c0_init_
  clsf : ClsF K (gg K d) 1
  n_abs : mg "abs" = none
  n_all : mg "all" = none
  n_bool : mg "bool" = none
  n_divmod : mg "divmod" = none
  n_int : mg "int" = none
  n_isinstance : mg "isinstance" = none
  n_len : mg "len" = none
  n_list : mg "list" = none
  n_max : mg "max" = none
  n_range : mg "range" = none
  n_repr : mg "repr" = none
  n_str : mg "str" = none
  n_tuple : mg "tuple" = none
  n_zip : mg "zip" = none
  m_gcd : mg "gcd" = some (.builtin "math.gcd")
  f_is_integer : Fun K "is_integer" "is_integer" s_is_integer d.a_is_integer d.d_is_integer
  b_is_integer : Binds K d.d_is_integer ["value"] []
  m_is_integer : mg "is_integer" = some (.ref d.a_is_integer)
  k_is_integer : PySem.W.keepIn K (.ref d.a_is_integer) = true
  f_c0_init_ : FunD K "__init__" "Ratio.__init__" (defArgs s_c0_init_) (defBody s_c0_init_) (defScope s_c0_init_) [V.int 1] [] d.a_c0_init_ d.d_c0_init_
  b0_c0_init_ : BindsV K d.d_c0_init_ ["self", "top", "bottom"] []
  b1_c0_init_ : BindsV K d.d_c0_init_ ["self", "top", "bottom"] [V.int 1]
  f_c0_top : Fun K "top" "Ratio.top" s_c0_top d.a_c0_top d.d_c0_top
  b_c0_top : Binds K d.d_c0_top ["self"] []
  pr_c0_top : PropOf K d.C_Ratio "top" d.p_c0_top d.a_c0_top
  f_c0_bottom : Fun K "bottom" "Ratio.bottom" s_c0_bottom d.a_c0_bottom d.d_c0_bottom
  b_c0_bottom : Binds K d.d_c0_bottom ["self"] []
  pr_c0_bottom : PropOf K d.C_Ratio "bottom" d.p_c0_bottom d.a_c0_bottom
  f_parts_of : Fun K "parts_of" "parts_of" s_parts_of d.a_parts_of d.d_parts_of
  b_parts_of : Binds K d.d_parts_of ["number"] []
  m_parts_of : mg "parts_of" = some (.ref d.a_parts_of)
  k_parts_of : PySem.W.keepIn K (.ref d.a_parts_of) = true
  f_c0_add_ : Fun K "__add__" "Ratio.__add__" s_c0_add_ d.a_c0_add_ d.d_c0_add_
  b_c0_add_ : Binds K d.d_c0_add_ ["self", "other"] []
  f_c0_radd_ : Fun K "__radd__" "Ratio.__radd__" s_c0_radd_ d.a_c0_radd_ d.d_c0_radd_
  b_c0_radd_ : Binds K d.d_c0_radd_ ["self", "other"] []
  f_c0_sub_ : Fun K "__sub__" "Ratio.__sub__" s_c0_sub_ d.a_c0_sub_ d.d_c0_sub_
  b_c0_sub_ : Binds K d.d_c0_sub_ ["self", "other"] []
  f_c0_neg_ : Fun K "__neg__" "Ratio.__neg__" s_c0_neg_ d.a_c0_neg_ d.d_c0_neg_
  b_c0_neg_ : Binds K d.d_c0_neg_ ["self"] []
  f_c0_rsub_ : Fun K "__rsub__" "Ratio.__rsub__" s_c0_rsub_ d.a_c0_rsub_ d.d_c0_rsub_
  b_c0_rsub_ : Binds K d.d_c0_rsub_ ["self", "other"] []
  f_c0_mul_ : Fun K "__mul__" "Ratio.__mul__" s_c0_mul_ d.a_c0_mul_ d.d_c0_mul_
  b_c0_mul_ : Binds K d.d_c0_mul_ ["self", "other"] []
  f_c0_rmul_ : Fun K "__rmul__" "Ratio.__rmul__" s_c0_rmul_ d.a_c0_rmul_ d.d_c0_rmul_
  b_c0_rmul_ : Binds K d.d_c0_rmul_ ["self", "other"] []
  f_c0_eq_ : Fun K "__eq__" "Ratio.__eq__" s_c0_eq_ d.a_c0_eq_ d.d_c0_eq_
  b_c0_eq_ : Binds K d.d_c0_eq_ ["self", "other"] []
  f_c0_str_ : Fun K "__str__" "Ratio.__str__" s_c0_str_ d.a_c0_str_ d.d_c0_str_
  b_c0_str_ : Binds K d.d_c0_str_ ["self"] []
  f_c0_repr_ : Fun K "__repr__" "Ratio.__repr__" s_c0_repr_ d.a_c0_repr_ d.d_c0_repr_
  b_c0_repr_ : Binds K d.d_c0_repr_ ["self"] []
  f_is_list : Fun K "is_list" "is_list" s_is_list d.a_is_list d.d_is_list
  b_is_list : Binds K d.d_is_list ["value"] []
  m_is_list : mg "is_list" = some (.ref d.a_is_list)
  k_is_list : PySem.W.keepIn K (.ref d.a_is_list) = true
  f_is_number : Fun K "is_number" "is_number" s_is_number d.a_is_number d.d_is_number
  b_is_number : Binds K d.d_is_number ["value"] []
  m_is_number : mg "is_number" = some (.ref d.a_is_number)
  k_is_number : PySem.W.keepIn K (.ref d.a_is_number) = true
  f_is_numbers : Fun K "is_numbers" "is_numbers" s_is_numbers d.a_is_numbers d.d_is_numbers
  b_is_numbers : Binds K d.d_is_numbers ["value", "many"] []
  m_is_numbers : mg "is_numbers" = some (.ref d.a_is_numbers)
  k_is_numbers : PySem.W.keepIn K (.ref d.a_is_numbers) = true
  f_is_table : Fun K "is_table" "is_table" s_is_table d.a_is_table d.d_is_table
  b_is_table : Binds K d.d_is_table ["value", "least", "most", "widest"] []
  m_is_table : mg "is_table" = some (.ref d.a_is_table)
  k_is_table : PySem.W.keepIn K (.ref d.a_is_table) = true
  f_is_points : Fun K "is_points" "is_points" s_is_points d.a_is_points d.d_is_points
  b_is_points : Binds K d.d_is_points ["value"] []
  m_is_points : mg "is_points" = some (.ref d.a_is_points)
  k_is_points : PySem.W.keepIn K (.ref d.a_is_points) = true
  f_check_points : Fun K "check_points" "check_points" s_check_points d.a_check_points d.d_check_points
  b_check_points : Binds K d.d_check_points ["points"] []
  m_check_points : mg "check_points" = some (.ref d.a_check_points)
  k_check_points : PySem.W.keepIn K (.ref d.a_check_points) = true
  f_is_form : Fun K "is_form" "is_form" s_is_form d.a_is_form d.d_is_form
  b_is_form : Binds K d.d_is_form ["points", "value"] []
  m_is_form : mg "is_form" = some (.ref d.a_is_form)
  k_is_form : PySem.W.keepIn K (.ref d.a_is_form) = true
  f_law_pot : Fun K "_law_pot" "_law_pot" s_law_pot d.a_law_pot d.d_law_pot
  b_law_pot : Binds K d.d_law_pot ["_law_script", "_law_k"] []
  m_law_pot : mg "_law_pot" = some (.ref d.a_law_pot)
  k_law_pot : PySem.W.keepIn K (.ref d.a_law_pot) = true
  f_law_draw : Fun K "_law_draw" "_law_draw" s_law_draw d.a_law_draw d.d_law_draw
  b_law_draw : Binds K d.d_law_draw ["_law_pot_here", "_law_size"] []
  m_law_draw : mg "_law_draw" = some (.ref d.a_law_draw)
  k_law_draw : PySem.W.keepIn K (.ref d.a_law_draw) = true
  f_law_pick : Fun K "_law_pick" "_law_pick" s_law_pick d.a_law_pick d.d_law_pick
  b_law_pick : Binds K d.d_law_pick ["_law_pot_here", "_law_some"] []
  m_law_pick : mg "_law_pick" = some (.ref d.a_law_pick)
  k_law_pick : PySem.W.keepIn K (.ref d.a_law_pick) = true
  f_law_low : Fun K "_law_low" "_law_low" s_law_low d.a_law_low d.d_law_low
  b_law_low : Binds K d.d_law_low ["_law_top", "_law_bottom"] []
  m_law_low : mg "_law_low" = some (.ref d.a_law_low)
  k_law_low : PySem.W.keepIn K (.ref d.a_law_low) = true
  f_law_sum : Fun K "_law_sum" "_law_sum" s_law_sum d.a_law_sum d.d_law_sum
  b_law_sum : Binds K d.d_law_sum ["_law_one", "_law_other"] []
  m_law_sum : mg "_law_sum" = some (.ref d.a_law_sum)
  k_law_sum : PySem.W.keepIn K (.ref d.a_law_sum) = true
  f_law_by : Fun K "_law_by" "_law_by" s_law_by d.a_law_by d.d_law_by
  b_law_by : Binds K d.d_law_by ["_law_one", "_law_other"] []
  m_law_by : mg "_law_by" = some (.ref d.a_law_by)
  k_law_by : PySem.W.keepIn K (.ref d.a_law_by) = true
  f_law_passed : Fun K "_law_passed" "_law_passed" s_law_passed d.a_law_passed d.d_law_passed
  b_law_passed : Binds K d.d_law_passed ["_law_pot_here", "_law_pair"] []
  m_law_passed : mg "_law_passed" = some (.ref d.a_law_passed)
  k_law_passed : PySem.W.keepIn K (.ref d.a_law_passed) = true
  f_law_given_row : Fun K "_law_given_row" "_law_given_row" s_law_given_row d.a_law_given_row d.d_law_given_row
  b_law_given_row : Binds K d.d_law_given_row ["_law_pot_here", "_law_row"] []
  m_law_given_row : mg "_law_given_row" = some (.ref d.a_law_given_row)
  k_law_given_row : PySem.W.keepIn K (.ref d.a_law_given_row) = true
  f_law_given : Fun K "_law_given" "_law_given" s_law_given d.a_law_given d.d_law_given
  b_law_given : Binds K d.d_law_given ["_law_pot_here", "_law_rows"] []
  m_law_given : mg "_law_given" = some (.ref d.a_law_given)
  k_law_given : PySem.W.keepIn K (.ref d.a_law_given) = true
  f_law_entry : Fun K "_law_entry" "_law_entry" s_law_entry d.a_law_entry d.d_law_entry
  b_law_entry : Binds K d.d_law_entry ["_law_pot_here"] []
  m_law_entry : mg "_law_entry" = some (.ref d.a_law_entry)
  k_law_entry : PySem.W.keepIn K (.ref d.a_law_entry) = true
  f_law_points : Fun K "_law_points" "_law_points" s_law_points d.a_law_points d.d_law_points
  b_law_points : Binds K d.d_law_points ["_law_pot_here", "_law_most_many", "_law_most_wide"] []
  m_law_points : mg "_law_points" = some (.ref d.a_law_points)
  k_law_points : PySem.W.keepIn K (.ref d.a_law_points) = true
  f_law_is_number : Fun K "_law_is_number" "_law_is_number" s_law_is_number d.a_law_is_number d.d_law_is_number
  b_law_is_number : Binds K d.d_law_is_number ["_law_value"] []
  m_law_is_number : mg "_law_is_number" = some (.ref d.a_law_is_number)
  k_law_is_number : PySem.W.keepIn K (.ref d.a_law_is_number) = true
  f_law_is_row : Fun K "_law_is_row" "_law_is_row" s_law_is_row d.a_law_is_row d.d_law_is_row
  b_law_is_row : Binds K d.d_law_is_row ["_law_value", "_law_wide"] []
  m_law_is_row : mg "_law_is_row" = some (.ref d.a_law_is_row)
  k_law_is_row : PySem.W.keepIn K (.ref d.a_law_is_row) = true
  f_law_are_points : Fun K "_law_are_points" "_law_are_points" s_law_are_points d.a_law_are_points d.d_law_are_points
  b_law_are_points : Binds K d.d_law_are_points ["_law_value"] []
  m_law_are_points : mg "_law_are_points" = some (.ref d.a_law_are_points)
  k_law_are_points : PySem.W.keepIn K (.ref d.a_law_are_points) = true
  f_law_is_form : Fun K "_law_is_form" "_law_is_form" s_law_is_form d.a_law_is_form d.d_law_is_form
  b_law_is_form : Binds K d.d_law_is_form ["_law_value", "_law_wide"] []
  m_law_is_form : mg "_law_is_form" = some (.ref d.a_law_is_form)
  k_law_is_form : PySem.W.keepIn K (.ref d.a_law_is_form) = true
  f_law_bent_points : Fun K "_law_bent_points" "_law_bent_points" s_law_bent_points d.a_law_bent_points d.d_law_bent_points
  b_law_bent_points : Binds K d.d_law_bent_points ["_law_pot_here", "_law_given_here"] []
  m_law_bent_points : mg "_law_bent_points" = some (.ref d.a_law_bent_points)
  k_law_bent_points : PySem.W.keepIn K (.ref d.a_law_bent_points) = true
  f_law_bent_forms : Fun K "_law_bent_forms" "_law_bent_forms" s_law_bent_forms d.a_law_bent_forms d.d_law_bent_forms
  b_law_bent_forms : Binds K d.d_law_bent_forms ["_law_pot_here", "_law_normal", "_law_number"] []
  m_law_bent_forms : mg "_law_bent_forms" = some (.ref d.a_law_bent_forms)
  k_law_bent_forms : PySem.W.keepIn K (.ref d.a_law_bent_forms) = true
  f_law_right : Fun K "_law_right" "_law_right" s_law_right d.a_law_right d.d_law_right
  b_law_right : Binds K d.d_law_right ["_law_pot_here"] []
  m_law_right : mg "_law_right" = some (.ref d.a_law_right)
  k_law_right : PySem.W.keepIn K (.ref d.a_law_right) = true
  f_law : Fun K "law" "law" s_law d.a_law d.d_law
  b_law : Binds K d.d_law ["_law_script"] []
  m_law : mg "law" = some (.ref d.a_law)
  k_law : PySem.W.keepIn K (.ref d.a_law) = true
  kb_is_points_value : KB K d.d_is_points ["value"] 0 ["value"]
  kbp_is_form_value_points : KBp K d.d_is_form ["points", "value"] ["value", "points"] [1, 0]
  o_pAdd : OpF K d.C_Ratio .Add d.a_c0_add_ d.a_c0_radd_ "int.__add__"
  o_pSub : OpF K d.C_Ratio .Sub d.a_c0_sub_ d.a_c0_rsub_ "int.__sub__"
  o_pMul : OpF K d.C_Ratio .Mult d.a_c0_mul_ d.a_c0_rmul_ "int.__mul__"
  g_neg1 : PySem.W.findIn K (.ref d.C_Ratio) "__neg__" = some (some (.ref d.a_c0_neg_))
  g_neg2 : PySem.W.isFn K (.ref d.a_c0_neg_) = true
  o_eq : EqF K d.C_Ratio d.a_c0_eq_
  o_ne : NeF K d.C_Ratio d.a_c0_eq_
  g_str1 : PySem.W.findIn K (.ref d.C_Ratio) "__str__" = some (some (.ref d.a_c0_str_))
  g_str2 : PySem.W.isFn K (.ref d.a_c0_str_) = true
  g_repr1 : PySem.W.findIn K (.ref d.C_Ratio) "__repr__" = some (some (.ref d.a_c0_repr_))
  g_repr2 : PySem.W.isFn K (.ref d.a_c0_repr_) = true
section
variable {P : Program} {w : World} {K : PySem.W.Frag} {mg : Str → Option Value} {base : Heap} {d : Ad}
def b_is_integer : Pm.Env → S → Res Fl := (sRet (mAnd (mCall (bIs 1) (aCons (mVar 0) (aCons (mC (.ty .int)) aNil))) (mNotV (mCall (bIs 1) (aCons (mVar 0) (aCons (mC (.ty .bool)) aNil))))))
def m_is_integer : List D → S → Res D := runBody 1 1 b_is_integer
theorem sc_is_integer : FnScope ["value"] ["value"] (defScope s_is_integer) := ⟨rfl, rfl, rfl, by decide +kernel, rfl, by decide +kernel, by decide +kernel⟩
theorem ok_is_integer (T : Tx K mg d) : FnOk P w K mg base (L2.CX P w) 1 d.a_is_integer d.d_is_integer ["value"] (spG (gg K d) 1 m_is_integer) :=
  (fn_def (N := ["value"]) T.f_is_integer sc_is_integer rfl (body := b_is_integer) fun cdv A outer s H E hr =>
    (svs_one (sv_ret (ev_and (ev_callB (cd_isinstance (by rfl) T.clsf) (by rfl) T.n_isinstance bo_isinstance (ea_cons (ev_var 0) (ea_cons (ev_bty .int (by rfl) T.n_int bo_int) ea_nil))) (ev_one (ev_notV (by rfl) (ev_callB (cd_isinstance (by rfl) T.clsf) (by rfl) T.n_isinstance bo_isinstance (ea_cons (ev_var 0) (ea_cons (ev_bty .bool (by rfl) T.n_bool bo_bool) ea_nil)))))))))
def b_c0_init_ : Pm.Env → S → Res Fl := (sSeq (sIf (mNotT (mBt (mCallD (n := 1) [] m_is_integer (aCons (mVar 1) aNil)))) sStuck sNext)
  (sSeq (sIf (mOrT (mNotT (mBt (mCallD (n := 1) [] m_is_integer (aCons (mVar 2) aNil)))) (mB (m2 (eqP false) (mVar 2) (mC (.int 0))))) sStuck sNext)
  (sSeq (sSet 3 (mCall (bInt2 (fun _ _ => true) fun i j => .int (gcdI i j)) (aCons (mVar 1) (aCons (mVar 2) aNil))))
  (sSeq (sIf (mB (m2 ltI (mVar 2) (mC (.int 0)))) (sSet 3 (m1 negI (mVar 3))) sNext)
  (sSeq (sFld 0 0 (mVar 0) (m2 divI (mVar 1) (mVar 3)))
  (sFld 0 1 (mVar 0) (m2 divI (mVar 2) (mVar 3))))))))
def m_c0_init_ : List D → S → Res D := runBody 3 4 b_c0_init_
theorem sc_c0_init_ : FnScope ["self", "top", "bottom", "shared"] ["self", "top", "bottom"] (defScope s_c0_init_) := ⟨rfl, rfl, rfl, by decide +kernel, rfl, by decide +kernel, by decide +kernel⟩
theorem ok_c0_init_ (T : Tx K mg d) : FnOk P w K mg base (L2.CX P w) 2 d.a_c0_init_ d.d_c0_init_ ["self", "top", "bottom"] (spG (gg K d) 3 m_c0_init_) :=
  (fn_defD (N := ["self", "top", "bottom", "shared"]) T.f_c0_init_ sc_c0_init_ rfl (body := b_c0_init_) fun cdv A outer s H E hr =>
    (svs_cons (sv_if (et_not (et_tru (by rfl) (ev_call (ok_is_integer (P := P) (w := w) (base := base) T) (hr.mono (by decide)) (by rfl) T.m_is_integer T.k_is_integer T.b_is_integer .nil (fun _ _ => .nil) passB (ea_cons (ev_var 1) ea_nil)))) (svs_one sv_never) svs_nil)
    (svs_cons (sv_if (ew_or (et_not (et_tru (by rfl) (ev_call (ok_is_integer (P := P) (w := w) (base := base) T) (hr.mono (by decide)) (by rfl) T.m_is_integer T.k_is_integer T.b_is_integer .nil (fun _ _ => .nil) passB (ea_cons (ev_var 2) ea_nil)))) (ew_or1 (et_cmp (od_eqP (by rfl) hr.un64) (ev_var 2) ev_int))).et (svs_one sv_never) svs_nil)
    (svs_cons (sv_set 3 sc_c0_init_.nd (by rfl) (Or.inl (by rfl)) (ev_callF cd_gcd (by rfl) T.m_gcd (ea_cons (ev_var 1) (ea_cons (ev_var 2) ea_nil))))
    (svs_cons (sv_if (et_cmp od_lt (ev_var 2) ev_int) (svs_one (sv_set 3 sc_c0_init_.nd (by rfl) (Or.inl (by rfl)) (ev_un ud_neg (ev_var 3)))) svs_nil)
    (svs_cons (sv_fld (c := 0) (i := 0) (ev_var 0) (ev_bin od_div (ev_var 1) (ev_var 3)) T.cl_Ratio T.na_Ratio_top (by rfl) nd_Ratio (lt_Ratio))
    (svs_one (sv_fld (c := 0) (i := 1) (ev_var 0) (ev_bin od_div (ev_var 2) (ev_var 3)) T.cl_Ratio T.na_Ratio_bottom (by rfl) nd_Ratio (lt_Ratio)))))))))
def b_c0_top : Pm.Env → S → Res Fl := (sRet (mFld 0 0 (mVar 0)))
def m_c0_top : List D → S → Res D := runBody 1 1 b_c0_top
theorem sc_c0_top : FnScope ["self"] ["self"] (defScope s_c0_top) := ⟨rfl, rfl, rfl, by decide +kernel, rfl, by decide +kernel, by decide +kernel⟩
theorem ok_c0_top (T : Tx K mg d) : FnOk P w K mg base (L2.CX P w) 1 d.a_c0_top d.d_c0_top ["self"] (spG (gg K d) 1 m_c0_top) :=
  (fn_def (N := ["self"]) T.f_c0_top sc_c0_top rfl (body := b_c0_top) fun cdv A outer s H E hr =>
    (svs_one (sv_ret (ev_fld (c := 0) (i := 0) (ev_var 0) T.cl_Ratio T.na_Ratio_top (by rfl) nd_Ratio))))
def b_c0_bottom : Pm.Env → S → Res Fl := (sRet (mFld 0 1 (mVar 0)))
def m_c0_bottom : List D → S → Res D := runBody 1 1 b_c0_bottom
theorem sc_c0_bottom : FnScope ["self"] ["self"] (defScope s_c0_bottom) := ⟨rfl, rfl, rfl, by decide +kernel, rfl, by decide +kernel, by decide +kernel⟩
theorem ok_c0_bottom (T : Tx K mg d) : FnOk P w K mg base (L2.CX P w) 1 d.a_c0_bottom d.d_c0_bottom ["self"] (spG (gg K d) 1 m_c0_bottom) :=
  (fn_def (N := ["self"]) T.f_c0_bottom sc_c0_bottom rfl (body := b_c0_bottom) fun cdv A outer s H E hr =>
    (svs_one (sv_ret (ev_fld (c := 0) (i := 1) (ev_var 0) T.cl_Ratio T.na_Ratio_bottom (by rfl) nd_Ratio))))
def b_parts_of : Pm.Env → S → Res Fl := (sSeq (sIf (mBt (mCall (bIs 1) (aCons (mVar 0) (aCons (mC (.cls 0)) aNil)))) (sRet (mTup (aCons (mProp 0 m_c0_top (mVar 0)) (aCons (mProp 0 m_c0_bottom (mVar 0)) aNil)))) sNext)
  (sSeq (sIf (mBt (mCallD (n := 1) [] m_is_integer (aCons (mVar 0) aNil))) (sRet (mTup (aCons (mVar 0) (aCons (mC (.int 1)) aNil)))) sNext)
  sStuck))
def m_parts_of : List D → S → Res D := runBody 1 1 b_parts_of
theorem sc_parts_of : FnScope ["number"] ["number"] (defScope s_parts_of) := ⟨rfl, rfl, rfl, by decide +kernel, rfl, by decide +kernel, by decide +kernel⟩
theorem ok_parts_of (T : Tx K mg d) : FnOk P w K mg base (L2.CX P w) 3 d.a_parts_of d.d_parts_of ["number"] (spG (gg K d) 1 m_parts_of) :=
  (fn_def (N := ["number"]) T.f_parts_of sc_parts_of rfl (body := b_parts_of) fun cdv A outer s H E hr =>
    (svs_cons (sv_if (et_tru (by rfl) (ev_callB (cd_isinstance (by rfl) T.clsf) (by rfl) T.n_isinstance bo_isinstance (ea_cons (ev_var 0) (ea_cons (ev_cls 0 (by rfl) T.m_Ratio) ea_nil)))) (svs_one (sv_ret (ev_tup (ea_cons (ev_prop (c := 0) (E' := E0) (ev_var 0) T.cl_Ratio T.pr_c0_top (ok_c0_top (P := P) (w := w) (base := base) T) (hr.mono (by decide)) T.b_c0_top passK) (ea_cons (ev_prop (c := 0) (E' := E0) (ev_var 0) T.cl_Ratio T.pr_c0_bottom (ok_c0_bottom (P := P) (w := w) (base := base) T) (hr.mono (by decide)) T.b_c0_bottom passK) ea_nil))))) svs_nil)
    (svs_cons (sv_if (et_tru (by rfl) (ev_call (ok_is_integer (P := P) (w := w) (base := base) T) (hr.mono (by decide)) (by rfl) T.m_is_integer T.k_is_integer T.b_is_integer .nil (fun _ _ => .nil) passB (ea_cons (ev_var 0) ea_nil))) (svs_one (sv_ret (ev_tup (ea_cons (ev_var 0) (ea_cons ev_int ea_nil))))) svs_nil)
    (svs_one sv_never))))
def b_c0_add_ : Pm.Env → S → Res Fl := (sSeq (sAsg (mCallD (n := 1) [] m_parts_of (aCons (mVar 1) aNil)) (taTup 2 (taCons (aN (tName 2)) (taCons (aN (tName 3)) taNil))))
  (sRet (mMake 0 2 3 [] m_c0_init_ (aCons (m2 addAll (m2 mulD (mFld 0 0 (mVar 0)) (mVar 3)) (m2 mulD (mVar 2) (mFld 0 1 (mVar 0)))) (aCons (m2 mulD (mFld 0 1 (mVar 0)) (mVar 3)) aNil)))))
def m_c0_add_ : List D → S → Res D := runBody 2 4 b_c0_add_
theorem sc_c0_add_ : FnScope ["self", "other", "top", "bottom"] ["self", "other"] (defScope s_c0_add_) := ⟨rfl, rfl, rfl, by decide +kernel, rfl, by decide +kernel, by decide +kernel⟩
theorem ok_c0_add_ (T : Tx K mg d) : FnOk P w K mg base (L2.CX P w) 4 d.a_c0_add_ d.d_c0_add_ ["self", "other"] (spG (gg K d) 2 m_c0_add_) :=
  (fn_def (N := ["self", "other", "top", "bottom"]) T.f_c0_add_ sc_c0_add_ rfl (body := b_c0_add_) fun cdv A outer s H E hr =>
    (svs_cons (sv_asg (ev_call (ok_parts_of (P := P) (w := w) (base := base) T) (hr.mono (by decide)) (by rfl) T.m_parts_of T.k_parts_of T.b_parts_of .nil (fun _ _ => .nil) passB (ea_cons (ev_var 1) ea_nil)) (ta_tup (by rfl) (by rfl) (tas_cons (ta_n (tn_name 2 sc_c0_add_.nd (by rfl) (Or.inl (by rfl)))) (tas_cons (ta_n (tn_name 3 sc_c0_add_.nd (by rfl) (Or.inl (by rfl)))) tas_nil))))
    (svs_one (sv_ret (ev_makeV T.mk_Ratio (ok_c0_init_ (P := P) (w := w) (base := base) T) (by rfl) (hr.mono (by decide)) (by rfl) T.m_Ratio T.b0_c0_init_ (fun _ _ => .nil) passB (ea_cons (ev_bin od_addAll (ev_bin od_mulD (ev_fld (c := 0) (i := 0) (ev_var 0) T.cl_Ratio T.na_Ratio_top (by rfl) nd_Ratio) (ev_var 3)) (ev_bin od_mulD (ev_var 2) (ev_fld (c := 0) (i := 1) (ev_var 0) T.cl_Ratio T.na_Ratio_bottom (by rfl) nd_Ratio))) (ea_cons (ev_bin od_mulD (ev_fld (c := 0) (i := 1) (ev_var 0) T.cl_Ratio T.na_Ratio_bottom (by rfl) nd_Ratio) (ev_var 3)) ea_nil)))))))
def b_c0_radd_ : Pm.Env → S → Res Fl := (sRet (m2 (opOwn 0 m_c0_add_ fun _ _ => .stuck) (mVar 0) (mVar 1)))
def m_c0_radd_ : List D → S → Res D := runBody 2 2 b_c0_radd_
theorem sc_c0_radd_ : FnScope ["self", "other"] ["self", "other"] (defScope s_c0_radd_) := ⟨rfl, rfl, rfl, by decide +kernel, rfl, by decide +kernel, by decide +kernel⟩
theorem ok_c0_radd_ (T : Tx K mg d) : FnOk P w K mg base (L2.CX P w) 5 d.a_c0_radd_ d.d_c0_radd_ ["self", "other"] (spG (gg K d) 2 m_c0_radd_) :=
  (fn_def (N := ["self", "other"]) T.f_c0_radd_ sc_c0_radd_ rfl (body := b_c0_radd_) fun cdv A outer s H E hr =>
    (svs_one (sv_ret (ev_bin (od_own (c := 0) T.o_pAdd (ok_c0_add_ (P := P) (w := w) (base := base) T) (fn_never (k := 0)) (hr.mono (by decide)) (hr.mono (by decide)) T.b_c0_add_ T.b_c0_radd_ passB) (ev_var 0) (ev_var 1)))))
def b_c0_sub_ : Pm.Env → S → Res Fl := (sSeq (sAsg (mCallD (n := 1) [] m_parts_of (aCons (mVar 1) aNil)) (taTup 2 (taCons (aN (tName 2)) (taCons (aN (tName 3)) taNil))))
  (sRet (mMake 0 2 3 [] m_c0_init_ (aCons (m2 subI (m2 mulD (mFld 0 0 (mVar 0)) (mVar 3)) (m2 mulD (mVar 2) (mFld 0 1 (mVar 0)))) (aCons (m2 mulD (mFld 0 1 (mVar 0)) (mVar 3)) aNil)))))
def m_c0_sub_ : List D → S → Res D := runBody 2 4 b_c0_sub_
theorem sc_c0_sub_ : FnScope ["self", "other", "top", "bottom"] ["self", "other"] (defScope s_c0_sub_) := ⟨rfl, rfl, rfl, by decide +kernel, rfl, by decide +kernel, by decide +kernel⟩
theorem ok_c0_sub_ (T : Tx K mg d) : FnOk P w K mg base (L2.CX P w) 4 d.a_c0_sub_ d.d_c0_sub_ ["self", "other"] (spG (gg K d) 2 m_c0_sub_) :=
  (fn_def (N := ["self", "other", "top", "bottom"]) T.f_c0_sub_ sc_c0_sub_ rfl (body := b_c0_sub_) fun cdv A outer s H E hr =>
    (svs_cons (sv_asg (ev_call (ok_parts_of (P := P) (w := w) (base := base) T) (hr.mono (by decide)) (by rfl) T.m_parts_of T.k_parts_of T.b_parts_of .nil (fun _ _ => .nil) passB (ea_cons (ev_var 1) ea_nil)) (ta_tup (by rfl) (by rfl) (tas_cons (ta_n (tn_name 2 sc_c0_sub_.nd (by rfl) (Or.inl (by rfl)))) (tas_cons (ta_n (tn_name 3 sc_c0_sub_.nd (by rfl) (Or.inl (by rfl)))) tas_nil))))
    (svs_one (sv_ret (ev_makeV T.mk_Ratio (ok_c0_init_ (P := P) (w := w) (base := base) T) (by rfl) (hr.mono (by decide)) (by rfl) T.m_Ratio T.b0_c0_init_ (fun _ _ => .nil) passB (ea_cons (ev_bin od_sub (ev_bin od_mulD (ev_fld (c := 0) (i := 0) (ev_var 0) T.cl_Ratio T.na_Ratio_top (by rfl) nd_Ratio) (ev_var 3)) (ev_bin od_mulD (ev_var 2) (ev_fld (c := 0) (i := 1) (ev_var 0) T.cl_Ratio T.na_Ratio_bottom (by rfl) nd_Ratio))) (ea_cons (ev_bin od_mulD (ev_fld (c := 0) (i := 1) (ev_var 0) T.cl_Ratio T.na_Ratio_bottom (by rfl) nd_Ratio) (ev_var 3)) ea_nil)))))))
def b_c0_neg_ : Pm.Env → S → Res Fl := (sRet (mMake 0 2 3 [] m_c0_init_ (aCons (m1 negI (mFld 0 0 (mVar 0))) (aCons (mFld 0 1 (mVar 0)) aNil))))
def m_c0_neg_ : List D → S → Res D := runBody 1 1 b_c0_neg_
theorem sc_c0_neg_ : FnScope ["self"] ["self"] (defScope s_c0_neg_) := ⟨rfl, rfl, rfl, by decide +kernel, rfl, by decide +kernel, by decide +kernel⟩
theorem ok_c0_neg_ (T : Tx K mg d) : FnOk P w K mg base (L2.CX P w) 4 d.a_c0_neg_ d.d_c0_neg_ ["self"] (spG (gg K d) 1 m_c0_neg_) :=
  (fn_def (N := ["self"]) T.f_c0_neg_ sc_c0_neg_ rfl (body := b_c0_neg_) fun cdv A outer s H E hr =>
    (svs_one (sv_ret (ev_makeV T.mk_Ratio (ok_c0_init_ (P := P) (w := w) (base := base) T) (by rfl) (hr.mono (by decide)) (by rfl) T.m_Ratio T.b0_c0_init_ (fun _ _ => .nil) passB (ea_cons (ev_un ud_neg (ev_fld (c := 0) (i := 0) (ev_var 0) T.cl_Ratio T.na_Ratio_top (by rfl) nd_Ratio)) (ea_cons (ev_fld (c := 0) (i := 1) (ev_var 0) T.cl_Ratio T.na_Ratio_bottom (by rfl) nd_Ratio) ea_nil))))))
def b_c0_rsub_ : Pm.Env → S → Res Fl := (sRet (m2 (opOwn 0 m_c0_add_ fun _ _ => .stuck) (m1 (fun x s => match x with | .ins k fs => if k = 0 then m_c0_neg_ [.ins k fs] s else .stuck | _ => .stuck) (mVar 0)) (mVar 1)))
def m_c0_rsub_ : List D → S → Res D := runBody 2 2 b_c0_rsub_
theorem sc_c0_rsub_ : FnScope ["self", "other"] ["self", "other"] (defScope s_c0_rsub_) := ⟨rfl, rfl, rfl, by decide +kernel, rfl, by decide +kernel, by decide +kernel⟩
theorem ok_c0_rsub_ (T : Tx K mg d) : FnOk P w K mg base (L2.CX P w) 5 d.a_c0_rsub_ d.d_c0_rsub_ ["self", "other"] (spG (gg K d) 2 m_c0_rsub_) :=
  (fn_def (N := ["self", "other"]) T.f_c0_rsub_ sc_c0_rsub_ rfl (body := b_c0_rsub_) fun cdv A outer s H E hr =>
    (svs_one (sv_ret (ev_bin (od_own (c := 0) T.o_pAdd (ok_c0_add_ (P := P) (w := w) (base := base) T) (fn_never (k := 0)) (hr.mono (by decide)) (hr.mono (by decide)) T.b_c0_add_ T.b_c0_radd_ passB) (ev_un (ud_own (c := 0) T.g_neg1 T.g_neg2 (ok_c0_neg_ (P := P) (w := w) (base := base) T) (hr.mono (by decide)) T.b_c0_neg_ passB) (ev_var 0)) (ev_var 1)))))
def b_c0_mul_ : Pm.Env → S → Res Fl := (sSeq (sAsg (mCallD (n := 1) [] m_parts_of (aCons (mVar 1) aNil)) (taTup 2 (taCons (aN (tName 2)) (taCons (aN (tName 3)) taNil))))
  (sRet (mMake 0 2 3 [] m_c0_init_ (aCons (m2 mulD (mFld 0 0 (mVar 0)) (mVar 2)) (aCons (m2 mulD (mFld 0 1 (mVar 0)) (mVar 3)) aNil)))))
def m_c0_mul_ : List D → S → Res D := runBody 2 4 b_c0_mul_
theorem sc_c0_mul_ : FnScope ["self", "other", "top", "bottom"] ["self", "other"] (defScope s_c0_mul_) := ⟨rfl, rfl, rfl, by decide +kernel, rfl, by decide +kernel, by decide +kernel⟩
theorem ok_c0_mul_ (T : Tx K mg d) : FnOk P w K mg base (L2.CX P w) 4 d.a_c0_mul_ d.d_c0_mul_ ["self", "other"] (spG (gg K d) 2 m_c0_mul_) :=
  (fn_def (N := ["self", "other", "top", "bottom"]) T.f_c0_mul_ sc_c0_mul_ rfl (body := b_c0_mul_) fun cdv A outer s H E hr =>
    (svs_cons (sv_asg (ev_call (ok_parts_of (P := P) (w := w) (base := base) T) (hr.mono (by decide)) (by rfl) T.m_parts_of T.k_parts_of T.b_parts_of .nil (fun _ _ => .nil) passB (ea_cons (ev_var 1) ea_nil)) (ta_tup (by rfl) (by rfl) (tas_cons (ta_n (tn_name 2 sc_c0_mul_.nd (by rfl) (Or.inl (by rfl)))) (tas_cons (ta_n (tn_name 3 sc_c0_mul_.nd (by rfl) (Or.inl (by rfl)))) tas_nil))))
    (svs_one (sv_ret (ev_makeV T.mk_Ratio (ok_c0_init_ (P := P) (w := w) (base := base) T) (by rfl) (hr.mono (by decide)) (by rfl) T.m_Ratio T.b0_c0_init_ (fun _ _ => .nil) passB (ea_cons (ev_bin od_mulD (ev_fld (c := 0) (i := 0) (ev_var 0) T.cl_Ratio T.na_Ratio_top (by rfl) nd_Ratio) (ev_var 2)) (ea_cons (ev_bin od_mulD (ev_fld (c := 0) (i := 1) (ev_var 0) T.cl_Ratio T.na_Ratio_bottom (by rfl) nd_Ratio) (ev_var 3)) ea_nil)))))))
def b_c0_rmul_ : Pm.Env → S → Res Fl := (sRet (m2 (opOwn 0 m_c0_mul_ fun _ _ => .stuck) (mVar 0) (mVar 1)))
def m_c0_rmul_ : List D → S → Res D := runBody 2 2 b_c0_rmul_
theorem sc_c0_rmul_ : FnScope ["self", "other"] ["self", "other"] (defScope s_c0_rmul_) := ⟨rfl, rfl, rfl, by decide +kernel, rfl, by decide +kernel, by decide +kernel⟩
theorem ok_c0_rmul_ (T : Tx K mg d) : FnOk P w K mg base (L2.CX P w) 5 d.a_c0_rmul_ d.d_c0_rmul_ ["self", "other"] (spG (gg K d) 2 m_c0_rmul_) :=
  (fn_def (N := ["self", "other"]) T.f_c0_rmul_ sc_c0_rmul_ rfl (body := b_c0_rmul_) fun cdv A outer s H E hr =>
    (svs_one (sv_ret (ev_bin (od_own (c := 0) T.o_pMul (ok_c0_mul_ (P := P) (w := w) (base := base) T) (fn_never (k := 0)) (hr.mono (by decide)) (hr.mono (by decide)) T.b_c0_mul_ T.b_c0_rmul_ passB) (ev_var 0) (ev_var 1)))))
def b_c0_eq_ : Pm.Env → S → Res Fl := (sRet (mAnd (mCall (bIs 1) (aCons (mVar 1) (aCons (mC (.cls 0)) aNil))) (mAnd (m2 (eqP false) (mFld 0 0 (mVar 0)) (mFld 0 0 (mVar 1))) (m2 (eqP false) (mFld 0 1 (mVar 0)) (mFld 0 1 (mVar 1))))))
def m_c0_eq_ : List D → S → Res D := runBody 2 2 b_c0_eq_
theorem sc_c0_eq_ : FnScope ["self", "other"] ["self", "other"] (defScope s_c0_eq_) := ⟨rfl, rfl, rfl, by decide +kernel, rfl, by decide +kernel, by decide +kernel⟩
theorem ok_c0_eq_ (T : Tx K mg d) : FnOk P w K mg base (L2.CX P w) 1 d.a_c0_eq_ d.d_c0_eq_ ["self", "other"] (spG (gg K d) 2 m_c0_eq_) :=
  (fn_def (N := ["self", "other"]) T.f_c0_eq_ sc_c0_eq_ rfl (body := b_c0_eq_) fun cdv A outer s H E hr =>
    (svs_one (sv_ret (ev_and (ev_callB (cd_isinstance (by rfl) T.clsf) (by rfl) T.n_isinstance bo_isinstance (ea_cons (ev_var 1) (ea_cons (ev_cls 0 (by rfl) T.m_Ratio) ea_nil))) (ev_and (ev_cmp (od_eqP (by rfl) hr.un64) (ev_fld (c := 0) (i := 0) (ev_var 0) T.cl_Ratio T.na_Ratio_top (by rfl) nd_Ratio) (ev_fld (c := 0) (i := 0) (ev_var 1) T.cl_Ratio T.na_Ratio_top (by rfl) nd_Ratio)) (ev_one (ev_cmp (od_eqP (by rfl) hr.un64) (ev_fld (c := 0) (i := 1) (ev_var 0) T.cl_Ratio T.na_Ratio_bottom (by rfl) nd_Ratio) (ev_fld (c := 0) (i := 1) (ev_var 1) T.cl_Ratio T.na_Ratio_bottom (by rfl) nd_Ratio))))))))
def b_c0_str_ : Pm.Env → S → Res Fl := (sSeq (sIf (mB (m2 (eqP false) (mFld 0 1 (mVar 0)) (mC (.int 1)))) (sRet (mCall bStrI (aCons (mFld 0 0 (mVar 0)) aNil))) sNext)
  (sRet (mJoin [(mFmt (mFld 0 0 (mVar 0))), (mC (.str "/")), (mFmt (mFld 0 1 (mVar 0)))])))
def b_c0_repr_ : Pm.Env → S → Res Fl := (sRet (mJoin [(mC (.str "Ratio(")), (mFmt (mFld 0 0 (mVar 0))), (mC (.str ", ")), (mFmt (mFld 0 1 (mVar 0))), (mC (.str ")"))]))
def m_c0_repr_ : List D → S → Res D := runBody 1 1 b_c0_repr_
theorem sc_c0_repr_ : FnScope ["self"] ["self"] (defScope s_c0_repr_) := ⟨rfl, rfl, rfl, by decide +kernel, rfl, by decide +kernel, by decide +kernel⟩
theorem ok_c0_repr_ (T : Tx K mg d) : FnOk P w K mg base (L2.CX P w) 1 d.a_c0_repr_ d.d_c0_repr_ ["self"] (spG (gg K d) 1 m_c0_repr_) :=
  (fn_def (N := ["self"]) T.f_c0_repr_ sc_c0_repr_ rfl (body := b_c0_repr_) fun cdv A outer s H E hr =>
    (svs_one (sv_ret (ev_join (Ej.cons ev_str (Ej.cons (ev_fmt (ev_fld (c := 0) (i := 0) (ev_var 0) T.cl_Ratio T.na_Ratio_top (by rfl) nd_Ratio)) (Ej.cons ev_str (Ej.cons (ev_fmt (ev_fld (c := 0) (i := 1) (ev_var 0) T.cl_Ratio T.na_Ratio_bottom (by rfl) nd_Ratio)) (Ej.cons ev_str Ej.nil)))))))))
def pAdd : D → D → S → Res D := fun x y s => (addAll x y s).or (opOwn 0 m_c0_add_ m_c0_radd_ x y s)
theorem od_pAdd {X : Cx} {E : XK} (T : Tx X.K X.mg d) (hr : Room 5 X.A) (hx : Passes (L2.CX X.prog X.w) X E) : OpD X (gg X.K d) E (binaryOp .Add) pAdd :=
  od_addAll.or (od_own (c := 0) T.o_pAdd (ok_c0_add_ (P := X.prog) (w := X.w) (base := X.base) T) (ok_c0_radd_ (P := X.prog) (w := X.w) (base := X.base) T) (hr.mono (by decide)) (hr.mono (by decide)) T.b_c0_add_ T.b_c0_radd_ hx)
def pSub : D → D → S → Res D := fun x y s => (subI x y s).or (opOwn 0 m_c0_sub_ m_c0_rsub_ x y s)
theorem od_pSub {X : Cx} {E : XK} (T : Tx X.K X.mg d) (hr : Room 5 X.A) (hx : Passes (L2.CX X.prog X.w) X E) : OpD X (gg X.K d) E (binaryOp .Sub) pSub :=
  od_sub.or (od_own (c := 0) T.o_pSub (ok_c0_sub_ (P := X.prog) (w := X.w) (base := X.base) T) (ok_c0_rsub_ (P := X.prog) (w := X.w) (base := X.base) T) (hr.mono (by decide)) (hr.mono (by decide)) T.b_c0_sub_ T.b_c0_rsub_ hx)
def pMul : D → D → S → Res D := fun x y s => (mulD x y s).or (opOwn 0 m_c0_mul_ m_c0_rmul_ x y s)
theorem od_pMul {X : Cx} {E : XK} (T : Tx X.K X.mg d) (hr : Room 5 X.A) (hx : Passes (L2.CX X.prog X.w) X E) : OpD X (gg X.K d) E (binaryOp .Mult) pMul :=
  od_mulD.or (od_own (c := 0) T.o_pMul (ok_c0_mul_ (P := X.prog) (w := X.w) (base := X.base) T) (ok_c0_rmul_ (P := X.prog) (w := X.w) (base := X.base) T) (hr.mono (by decide)) (hr.mono (by decide)) T.b_c0_mul_ T.b_c0_rmul_ hx)
def pNeg : D → S → Res D := fun x s => (negI x s).or (match x with
  | .ins k fs => if k = 0 then m_c0_neg_ [.ins k fs] s else .stuck
  | _ => .stuck)
theorem ud_pNeg {X : Cx} {E : XK} (T : Tx X.K X.mg d) (hr : Room 5 X.A) (hx : Passes (L2.CX X.prog X.w) X E) : UnD X (gg X.K d) E (unaryOp .USub) pNeg :=
  ud_neg.or (ud_own (c := 0) T.g_neg1 T.g_neg2 (ok_c0_neg_ (P := X.prog) (w := X.w) (base := X.base) T) (hr.mono (by decide)) T.b_c0_neg_ hx)
def pEq : D → D → S → Res D := fun x y s => ((eqP false x y s).or (eqOwn 0 m_c0_eq_ x y s)).or ((eqI false x y s).or (eqT 0 m_c0_eq_ false x y s))
theorem od_pEq {X : Cx} {E : XK} (T : Tx X.K X.mg d) (hr : Room 9 X.A) (hx : Passes (L2.CX X.prog X.w) X E) : OpD X (gg X.K d) E (compareOp .Eq) pEq :=
  ((od_eqP rfl hr.un64).or (od_eqOwn (c := 0) T.o_eq (ok_c0_eq_ (P := X.prog) (w := X.w) (base := X.base) T) (hr.mono (by decide)) T.b_c0_eq_ hx)).or ((od_eqI0 rfl hr.un64).or (od_eqT0 rfl ⟨(ok_c0_eq_ (P := X.prog) (w := X.w) (base := X.base) T), T.o_eq.hs, T.o_eq.hf, T.b_c0_eq_, hx⟩ (hr.mono (by decide))))
def pNe : D → D → S → Res D := fun x y s => ((eqP true x y s).or (neOwn 0 m_c0_eq_ x y s)).or ((eqI true x y s).or (eqT 0 m_c0_eq_ true x y s))
theorem od_pNe {X : Cx} {E : XK} (T : Tx X.K X.mg d) (hr : Room 10 X.A) (hx : Passes (L2.CX X.prog X.w) X E) : OpD X (gg X.K d) E (compareOp .NotEq) pNe :=
  ((od_neP rfl hr.un64).or (od_neOwn (c := 0) (k := 1) T.o_ne (ok_c0_eq_ (P := X.prog) (w := X.w) (base := X.base) T) (hr.mono (by decide)) T.b_c0_eq_ hx)).or ((od_eqI1 rfl hr.un64).or (od_eqT1 rfl ⟨(ok_c0_eq_ (P := X.prog) (w := X.w) (base := X.base) T), T.o_eq.hs, T.o_eq.hf, T.b_c0_eq_, hx⟩ (hr.mono (by decide))))
def pNi : D → D → S → Res D := fun x y s => (inAll true x y s).or (niT 0 m_c0_eq_ x y s)
def pRepr : List D → S → Res D := fun x s => ((bReprN 0 m_c0_repr_ x s).or (bReprS x s)).or (bReprK x s)
theorem cd_pRepr {X : Cx} {E : XK} (T : Tx X.K X.mg d) (hr : Room 10 X.A) (hx : Passes (L2.CX X.prog X.w) X E) (hgd : X.A.guards = some []) : CallD X (gg X.K d) E (.builtin "repr") pRepr :=
  ((cd_reprN (c := 0) (k := 1) ⟨T.g_repr1, T.g_repr2, (ok_c0_repr_ (P := X.prog) (w := X.w) (base := X.base) T), T.b_c0_repr_, hx⟩ hr hgd).or (cd_reprS rfl hgd hr.un66)).or (cd_reprK rfl hgd hr.un66)
def b_is_list : Pm.Env → S → Res Fl := (sRet (mCall (bIs 1) (aCons (mVar 0) (aCons (mTup (aCons (mC (.ty .list)) (aCons (mC (.ty .tuple)) aNil))) aNil))))
def m_is_list : List D → S → Res D := runBody 1 1 b_is_list
theorem sc_is_list : FnScope ["value"] ["value"] (defScope s_is_list) := ⟨rfl, rfl, rfl, by decide +kernel, rfl, by decide +kernel, by decide +kernel⟩
theorem ok_is_list (T : Tx K mg d) : FnOk P w K mg base (L2.CX P w) 1 d.a_is_list d.d_is_list ["value"] (spG (gg K d) 1 m_is_list) :=
  (fn_def (N := ["value"]) T.f_is_list sc_is_list rfl (body := b_is_list) fun cdv A outer s H E hr =>
    (svs_one (sv_ret (ev_callB (cd_isinstance (by rfl) T.clsf) (by rfl) T.n_isinstance bo_isinstance (ea_cons (ev_var 0) (ea_cons (ev_tup (ea_cons (ev_bty .list (by rfl) T.n_list bo_list) (ea_cons (ev_bty .tuple (by rfl) T.n_tuple bo_tuple) ea_nil))) ea_nil))))))
def b_is_number : Pm.Env → S → Res Fl := (sRet (mOr (mCallD (n := 1) [] m_is_integer (aCons (mVar 0) aNil)) (mCall (bIs 1) (aCons (mVar 0) (aCons (mC (.cls 0)) aNil)))))
def m_is_number : List D → S → Res D := runBody 1 1 b_is_number
theorem sc_is_number : FnScope ["value"] ["value"] (defScope s_is_number) := ⟨rfl, rfl, rfl, by decide +kernel, rfl, by decide +kernel, by decide +kernel⟩
theorem ok_is_number (T : Tx K mg d) : FnOk P w K mg base (L2.CX P w) 2 d.a_is_number d.d_is_number ["value"] (spG (gg K d) 1 m_is_number) :=
  (fn_def (N := ["value"]) T.f_is_number sc_is_number rfl (body := b_is_number) fun cdv A outer s H E hr =>
    (svs_one (sv_ret (ev_or (ev_call (ok_is_integer (P := P) (w := w) (base := base) T) (hr.mono (by decide)) (by rfl) T.m_is_integer T.k_is_integer T.b_is_integer .nil (fun _ _ => .nil) passB (ea_cons (ev_var 0) ea_nil)) (ev_one (ev_callB (cd_isinstance (by rfl) T.clsf) (by rfl) T.n_isinstance bo_isinstance (ea_cons (ev_var 0) (ea_cons (ev_cls 0 (by rfl) T.m_Ratio) ea_nil))))))))
def b_is_numbers : Pm.Env → S → Res Fl := (sRet (mAnd (mCallD (n := 1) [] m_is_list (aCons (mVar 0) aNil)) (mAnd (m2 pEq (mCall bLenA (aCons (mVar 0) aNil)) (mVar 1)) (mCall (bBools fun bs => bs.all id) (aCons (mCompF finL [2] (iLT (mVar 0)) (tName 2) mYes (mCallD (n := 1) [] m_is_number (aCons (mVar 2) aNil))) aNil)))))
def m_is_numbers : List D → S → Res D := runBody 2 3 b_is_numbers
theorem sc_is_numbers : FnScope ["value", "many", "number"] ["value", "many"] (defScope s_is_numbers) := ⟨rfl, rfl, rfl, by decide +kernel, rfl, by decide +kernel, by decide +kernel⟩
theorem ok_is_numbers (T : Tx K mg d) : FnOk P w K mg base (L2.CX P w) 10 d.a_is_numbers d.d_is_numbers ["value", "many"] (spG (gg K d) 2 m_is_numbers) :=
  (fn_def (N := ["value", "many", "number"]) T.f_is_numbers sc_is_numbers rfl (body := b_is_numbers) fun cdv A outer s H E hr =>
    (svs_one (sv_ret (ev_and (ev_call (ok_is_list (P := P) (w := w) (base := base) T) (hr.mono (by decide)) (by rfl) T.m_is_list T.k_is_list T.b_is_list .nil (fun _ _ => .nil) passB (ea_cons (ev_var 0) ea_nil)) (ev_and (ev_cmp (od_pEq T (hr.mono (by decide)) passB) (ev_callB (cd_lenA (by rfl)) (by rfl) T.n_len bo_len (ea_cons (ev_var 0) ea_nil)) (ev_var 1)) (ev_one (ev_callB (cd_all (by rfl) (by rfl)) (by rfl) T.n_all bo_all (ea_cons (ev_lcF fin_l (own := [("number", 2)]) (by rfl) sc_is_numbers.nd (iv_lt (by rfl) (ev_var 0)) (blkOk_by (N := ["value", "many", "number"]) (sc := defScope s_is_numbers) (by decide +kernel)) (by decide) (fun _ _ _ _ _ => (tn_name 2 sc_is_numbers.nd (by rfl) (Or.inl (by rfl)))) (fun _ _ _ _ _ => ets_nil) (fun _ _ _ _ _ => (ev_call (ok_is_number (P := P) (w := w) (base := base) T) (hr.mono (by decide)) (by rfl) T.m_is_number T.k_is_number T.b_is_number .nil (fun _ _ => .nil) passK (ea_cons (ev_var 2) ea_nil)))) ea_nil))))))))
def b_is_table : Pm.Env → S → Res Fl := (sSeq (sIf (mOrT (mNotT (mBt (mCallD (n := 1) [] m_is_list (aCons (mVar 0) aNil)))) (mNotT (mB (mChain leI leI (mVar 1) (mCall bLenA (aCons (mVar 0) aNil)) (mVar 2))))) (sRet (mC (.bl false))) sNext)
  (sSeq (sIf (mOrT (mNotT (mBt (mCallD (n := 1) [] m_is_list (aCons (m2 ixDD (mVar 0) (mC (.int 0))) aNil)))) (mNotT (mB (mChain leI leI (mC (.int 1)) (mCall bLenA (aCons (m2 ixDD (mVar 0) (mC (.int 0))) aNil)) (mVar 3))))) (sRet (mC (.bl false))) sNext)
  (sSeq (sSet 4 (mCall bLenA (aCons (m2 ixDD (mVar 0) (mC (.int 0))) aNil)))
  (sRet (mCall (bBools fun bs => bs.all id) (aCons (mCompF finL [5] (iLT (mVar 0)) (tName 5) mYes (mCallD (n := 2) [] m_is_numbers (aCons (mVar 5) (aCons (mVar 4) aNil)))) aNil))))))
def m_is_table : List D → S → Res D := runBody 4 6 b_is_table
theorem sc_is_table : FnScope ["value", "least", "most", "widest", "wide", "row"] ["value", "least", "most", "widest"] (defScope s_is_table) := ⟨rfl, rfl, rfl, by decide +kernel, rfl, by decide +kernel, by decide +kernel⟩
theorem ok_is_table (T : Tx K mg d) : FnOk P w K mg base (L2.CX P w) 11 d.a_is_table d.d_is_table ["value", "least", "most", "widest"] (spG (gg K d) 4 m_is_table) :=
  (fn_def (N := ["value", "least", "most", "widest", "wide", "row"]) T.f_is_table sc_is_table rfl (body := b_is_table) fun cdv A outer s H E hr =>
    (svs_cons (sv_if (ew_or (et_not (et_tru (by rfl) (ev_call (ok_is_list (P := P) (w := w) (base := base) T) (hr.mono (by decide)) (by rfl) T.m_is_list T.k_is_list T.b_is_list .nil (fun _ _ => .nil) passB (ea_cons (ev_var 0) ea_nil)))) (ew_or1 (et_not (et_chain od_le od_le (ev_var 1) (ev_callB (cd_lenA (by rfl)) (by rfl) T.n_len bo_len (ea_cons (ev_var 0) ea_nil)) (ev_var 2))))).et (svs_one (sv_ret ev_bl)) svs_nil)
    (svs_cons (sv_if (ew_or (et_not (et_tru (by rfl) (ev_call (ok_is_list (P := P) (w := w) (base := base) T) (hr.mono (by decide)) (by rfl) T.m_is_list T.k_is_list T.b_is_list .nil (fun _ _ => .nil) passB (ea_cons (ev_ix (ixdd (by rfl) hr.un1) (ev_var 0) ev_int) ea_nil)))) (ew_or1 (et_not (et_chain od_le od_le ev_int (ev_callB (cd_lenA (by rfl)) (by rfl) T.n_len bo_len (ea_cons (ev_ix (ixdd (by rfl) hr.un1) (ev_var 0) ev_int) ea_nil)) (ev_var 3))))).et (svs_one (sv_ret ev_bl)) svs_nil)
    (svs_cons (sv_set 4 sc_is_table.nd (by rfl) (by first | exact Or.inl rfl | exact Or.inr rfl) (ev_callB (cd_lenA (by rfl)) (by rfl) T.n_len bo_len (ea_cons (ev_ix (ixdd (by rfl) hr.un1) (ev_var 0) ev_int) ea_nil)))
    (svs_one (sv_ret (ev_callB (cd_all (by rfl) (by rfl)) (by rfl) T.n_all bo_all (ea_cons (ev_lcF fin_l (own := [("row", 5)]) (by rfl) sc_is_table.nd (iv_lt (by rfl) (ev_var 0)) (blkOk_by (N := ["value", "least", "most", "widest", "wide", "row"]) (sc := defScope s_is_table) (by decide +kernel)) (by decide) (fun _ _ _ _ _ => (tn_name 5 sc_is_table.nd (by rfl) (by first | exact Or.inl rfl | exact Or.inr rfl))) (fun _ _ _ _ _ => ets_nil) (fun _ _ _ _ _ => (ev_call (ok_is_numbers (P := P) (w := w) (base := base) T) (hr.mono (by decide)) (by rfl) T.m_is_numbers T.k_is_numbers T.b_is_numbers .nil (fun _ _ => .nil) passK (ea_cons (ev_var 5) (ea_cons (ev_var 4) ea_nil))))) ea_nil))))))))
def b_is_points : Pm.Env → S → Res Fl := (sRet (mCallD (n := 4) [] m_is_table (aCons (mVar 0) (aCons (mC (.int 2)) (aCons (mC (.int 9)) (aCons (mC (.int 8)) aNil))))))
def m_is_points : List D → S → Res D := runBody 1 1 b_is_points
theorem sc_is_points : FnScope ["value"] ["value"] (defScope s_is_points) := ⟨rfl, rfl, rfl, by decide +kernel, rfl, by decide +kernel, by decide +kernel⟩
theorem ok_is_points (T : Tx K mg d) : FnOk P w K mg base (L2.CX P w) 12 d.a_is_points d.d_is_points ["value"] (spG (gg K d) 1 m_is_points) :=
  (fn_def (N := ["value"]) T.f_is_points sc_is_points rfl (body := b_is_points) fun cdv A outer s H E hr =>
    (svs_one (sv_ret (ev_call (ok_is_table (P := P) (w := w) (base := base) T) (hr.mono (by decide)) (by rfl) T.m_is_table T.k_is_table T.b_is_table .nil (fun _ _ => .nil) passB (ea_cons (ev_var 0) (ea_cons ev_int (ea_cons ev_int (ea_cons ev_int ea_nil))))))))
def b_check_points : Pm.Env → S → Res Fl := (sIf (mNotT (mBt (mCallD (n := 1) [] m_is_points (aCons (mVar 0) aNil)))) sStuck sNext)
def m_check_points : List D → S → Res D := runBody 1 1 b_check_points
theorem sc_check_points : FnScope ["points"] ["points"] (defScope s_check_points) := ⟨rfl, rfl, rfl, by decide +kernel, rfl, by decide +kernel, by decide +kernel⟩
theorem ok_check_points (T : Tx K mg d) : FnOk P w K mg base (L2.CX P w) 13 d.a_check_points d.d_check_points ["points"] (spG (gg K d) 1 m_check_points) :=
  (fn_def (N := ["points"]) T.f_check_points sc_check_points rfl (body := b_check_points) fun cdv A outer s H E hr =>
    (svs_one (sv_if (et_not (et_tru (by rfl) (ev_call (ok_is_points (P := P) (w := w) (base := base) T) (hr.mono (by decide)) (by rfl) T.m_is_points T.k_is_points T.b_is_points .nil (fun _ _ => .nil) passB (ea_cons (ev_var 0) ea_nil)))) (svs_one sv_never) svs_nil)))
def b_is_form : Pm.Env → S → Res Fl := (sSeq (sExpr (mCallD (n := 1) [] m_check_points (aCons (mVar 0) aNil)))
  (sSeq (sIf (mOrT (mNotT (mBt (mCall (bIs 1) (aCons (mVar 1) (aCons (mC (.ty .tuple)) aNil))))) (mB (m2 pNe (mCall bLenA (aCons (mVar 1) aNil)) (mC (.int 2))))) (sRet (mC (.bl false))) sNext)
  (sRet (mAnd (mCallD (n := 2) [] m_is_numbers (aCons (m2 ixDD (mVar 1) (mC (.int 0))) (aCons (mCall bLenA (aCons (m2 ixDD (mVar 0) (mC (.int 0))) aNil)) aNil))) (mCallD (n := 1) [] m_is_number (aCons (m2 ixDD (mVar 1) (mC (.int 1))) aNil))))))
def m_is_form : List D → S → Res D := runBody 2 2 b_is_form
theorem sc_is_form : FnScope ["points", "value"] ["points", "value"] (defScope s_is_form) := ⟨rfl, rfl, rfl, by decide +kernel, rfl, by decide +kernel, by decide +kernel⟩
theorem ok_is_form (T : Tx K mg d) : FnOk P w K mg base (L2.CX P w) 14 d.a_is_form d.d_is_form ["points", "value"] (spG (gg K d) 2 m_is_form) :=
  (fn_def (N := ["points", "value"]) T.f_is_form sc_is_form rfl (body := b_is_form) fun cdv A outer s H E hr =>
    (svs_cons (sv_expr (ev_call (ok_check_points (P := P) (w := w) (base := base) T) (hr.mono (by decide)) (by rfl) T.m_check_points T.k_check_points T.b_check_points .nil (fun _ _ => .nil) passB (ea_cons (ev_var 0) ea_nil)))
    (svs_cons (sv_if (ew_or (et_not (et_tru (by rfl) (ev_callB (cd_isinstance (by rfl) T.clsf) (by rfl) T.n_isinstance bo_isinstance (ea_cons (ev_var 1) (ea_cons (ev_bty .tuple (by rfl) T.n_tuple bo_tuple) ea_nil))))) (ew_or1 (et_cmp (od_pNe T (hr.mono (by decide)) passB) (ev_callB (cd_lenA (by rfl)) (by rfl) T.n_len bo_len (ea_cons (ev_var 1) ea_nil)) ev_int))).et (svs_one (sv_ret ev_bl)) svs_nil)
    (svs_one (sv_ret (ev_and (ev_call (ok_is_numbers (P := P) (w := w) (base := base) T) (hr.mono (by decide)) (by rfl) T.m_is_numbers T.k_is_numbers T.b_is_numbers .nil (fun _ _ => .nil) passB (ea_cons (ev_ix (ixdd (by rfl) hr.un1) (ev_var 1) ev_int) (ea_cons (ev_callB (cd_lenA (by rfl)) (by rfl) T.n_len bo_len (ea_cons (ev_ix (ixdd (by rfl) hr.un1) (ev_var 0) ev_int) ea_nil)) ea_nil))) (ev_one (ev_call (ok_is_number (P := P) (w := w) (base := base) T) (hr.mono (by decide)) (by rfl) T.m_is_number T.k_is_number T.b_is_number .nil (fun _ _ => .nil) passB (ea_cons (ev_ix (ixdd (by rfl) hr.un1) (ev_var 1) ev_int) ea_nil)))))))))
def b_law_pot : Pm.Env → S → Res Fl := (sSeq (sSet 2 (m2 pAdd (m2 pMul (mC (.int 149)) (mVar 1)) (mC (.int 71))))
  (sSeq (sIf (mB (m2 ltA (mVar 1) (mCall bLenA (aCons (mVar 0) aNil)))) (sSet 2 (mCall (bInt1 fun i => .int (absI i)) (aCons (m2 ixDD (mVar 0) (mVar 1)) aNil))) sNext)
  (sRet (mCell (aCons (mCall (bInt2 (fun _ _ => true) fun i j => .int (maxI i j)) (aCons (mC (.int 0)) (aCons (m2 pSub (mVar 2) (m2 powI (mC (.int 10)) (mC (.int 18)))) aNil))) (aCons (m2 pAdd (m2 modI (m2 pMul (mCall (bInt1 fun i => .int i) (aCons (m2 pAdd (m2 modI (mCall (bInt1 fun i => .int i) (aCons (mVar 2) aNil)) (mC (.int 2147483549))) (mC (.int 71))) aNil)) (m2 powI (m2 pAdd (m2 pMul (mC (.int 2)) (mVar 1)) (mC (.int 3))) (mC (.int 3)))) (mC (.int 2147483477))) (mC (.int 1))) aNil))))))
def m_law_pot : List D → S → Res D := runBody 2 3 b_law_pot
theorem sc_law_pot : FnScope ["_law_script", "_law_k", "_law_cell"] ["_law_script", "_law_k"] (defScope s_law_pot) := ⟨rfl, rfl, rfl, by decide +kernel, rfl, by decide +kernel, by decide +kernel⟩
theorem ok_law_pot (T : Tx K mg d) : FnOk P w K mg base (L2.CX P w) 6 d.a_law_pot d.d_law_pot ["_law_script", "_law_k"] (spG (gg K d) 2 m_law_pot) :=
  (fn_def (N := ["_law_script", "_law_k", "_law_cell"]) T.f_law_pot sc_law_pot rfl (body := b_law_pot) fun cdv A outer s H E hr =>
    (svs_cons (sv_set 2 sc_law_pot.nd (by rfl) (Or.inl (by rfl)) (ev_bin (od_pAdd T (hr.mono (by decide)) passB) (ev_bin (od_pMul T (hr.mono (by decide)) passB) ev_int (ev_var 1)) ev_int))
    (svs_cons (sv_if (et_cmp (od_ltA (by rfl) hr.un64) (ev_var 1) (ev_callB (cd_lenA (by rfl)) (by rfl) T.n_len bo_len (ea_cons (ev_var 0) ea_nil))) (svs_one (sv_set 2 sc_law_pot.nd (by rfl) (Or.inl (by rfl)) (ev_callB (cd_abs) (by rfl) T.n_abs bo_abs (ea_cons (ev_ix (ixdd (by rfl) hr.un1) (ev_var 0) (ev_var 1)) ea_nil)))) svs_nil)
    (svs_one (sv_ret (ev_cell (ea_cons (ev_callB (cd_max2 (by rfl)) (by rfl) T.n_max bo_max (ea_cons ev_int (ea_cons (ev_bin (od_pSub T (hr.mono (by decide)) passB) (ev_var 2) (ev_bin od_pow ev_int ev_int)) ea_nil))) (ea_cons (ev_bin (od_pAdd T (hr.mono (by decide)) passB) (ev_bin od_mod (ev_bin (od_pMul T (hr.mono (by decide)) passB) (ev_callTy (cd_int) (by rfl) T.n_int bo_int (ea_cons (ev_bin (od_pAdd T (hr.mono (by decide)) passB) (ev_bin od_mod (ev_callTy (cd_int) (by rfl) T.n_int bo_int (ea_cons (ev_var 2) ea_nil)) ev_int) ev_int) ea_nil)) (ev_bin od_pow (ev_bin (od_pAdd T (hr.mono (by decide)) passB) (ev_bin (od_pMul T (hr.mono (by decide)) passB) ev_int (ev_var 1)) ev_int) ev_int)) ev_int) ev_int) ea_nil))))))))
def b_law_draw : Pm.Env → S → Res Fl := (sSeq (sIf (mB (m2 gtI (m2 ixDD (mVar 0) (mC (.int 0))) (mC (.int 0)))) (sSeq (sAsg (mCall bDivmod (aCons (m2 ixDD (mVar 0) (mC (.int 0))) (aCons (mVar 1) aNil))) (taTup 2 (taCons (taSub (mVar 0) (mC (.int 0))) (taCons (aN (tName 2)) taNil))))
  (sRet (mVar 2))) sNext)
  (sSeq (sAsg (m2 modI (mCall (bInt1 fun i => .int i) (aCons (m2 pAdd (m2 pMul (m2 ixDD (mVar 0) (mC (.int 1))) (mC (.int 48271))) (mC (.int 18162))) aNil)) (mC (.int 2147483587))) (taSub (mVar 0) (mC (.int 1))))
  (sRet (m2 modI (mCall (bInt1 fun i => .int i) (aCons (m2 divI (m2 modI (mCall (bInt1 fun i => .int i) (aCons (m2 pMul (m2 ixDD (mVar 0) (mC (.int 1))) (m2 ixDD (mVar 0) (mC (.int 1)))) aNil)) (mC (.int 2147483549))) (mC (.int 29))) aNil)) (mVar 1)))))
def m_law_draw : List D → S → Res D := runBody 2 3 b_law_draw
theorem sc_law_draw : FnScope ["_law_pot_here", "_law_size", "_law_digit"] ["_law_pot_here", "_law_size"] (defScope s_law_draw) := ⟨rfl, rfl, rfl, by decide +kernel, rfl, by decide +kernel, by decide +kernel⟩
theorem ok_law_draw (T : Tx K mg d) : FnOk P w K mg base (L2.CX P w) 6 d.a_law_draw d.d_law_draw ["_law_pot_here", "_law_size"] (spG (gg K d) 2 m_law_draw) :=
  (fn_def (N := ["_law_pot_here", "_law_size", "_law_digit"]) T.f_law_draw sc_law_draw rfl (body := b_law_draw) fun cdv A outer s H E hr =>
    (svs_cons (sv_if (et_cmp od_gt (ev_ix (ixdd (by rfl) hr.un1) (ev_var 0) ev_int) ev_int) (svs_cons (sv_asg (ev_callB (cd_divmod) (by rfl) T.n_divmod bo_divmod (ea_cons (ev_ix (ixdd (by rfl) hr.un1) (ev_var 0) ev_int) (ea_cons (ev_var 1) ea_nil))) (ta_tup (by rfl) (by rfl) (tas_cons (ta_sub (ev_var 0) ev_int) (tas_cons (ta_n (tn_name 2 sc_law_draw.nd (by rfl) (Or.inl (by rfl)))) tas_nil))))
    (svs_one (sv_ret (ev_var 2)))) svs_nil)
    (svs_cons (sv_asg (ev_bin od_mod (ev_callTy (cd_int) (by rfl) T.n_int bo_int (ea_cons (ev_bin (od_pAdd T (hr.mono (by decide)) passB) (ev_bin (od_pMul T (hr.mono (by decide)) passB) (ev_ix (ixdd (by rfl) hr.un1) (ev_var 0) ev_int) ev_int) ev_int) ea_nil)) ev_int) (ta_sub (ev_var 0) ev_int))
    (svs_one (sv_ret (ev_bin od_mod (ev_callTy (cd_int) (by rfl) T.n_int bo_int (ea_cons (ev_bin od_div (ev_bin od_mod (ev_callTy (cd_int) (by rfl) T.n_int bo_int (ea_cons (ev_bin (od_pMul T (hr.mono (by decide)) passB) (ev_ix (ixdd (by rfl) hr.un1) (ev_var 0) ev_int) (ev_ix (ixdd (by rfl) hr.un1) (ev_var 0) ev_int)) ea_nil)) ev_int) ev_int) ea_nil)) (ev_var 1)))))))
def b_law_pick : Pm.Env → S → Res Fl := (sRet (m2 ixDD (mVar 1) (mCallD (n := 2) [] m_law_draw (aCons (mVar 0) (aCons (mCall bLenA (aCons (mVar 1) aNil)) aNil)))))
def m_law_pick : List D → S → Res D := runBody 2 2 b_law_pick
theorem sc_law_pick : FnScope ["_law_pot_here", "_law_some"] ["_law_pot_here", "_law_some"] (defScope s_law_pick) := ⟨rfl, rfl, rfl, by decide +kernel, rfl, by decide +kernel, by decide +kernel⟩
theorem ok_law_pick (T : Tx K mg d) : FnOk P w K mg base (L2.CX P w) 7 d.a_law_pick d.d_law_pick ["_law_pot_here", "_law_some"] (spG (gg K d) 2 m_law_pick) :=
  (fn_def (N := ["_law_pot_here", "_law_some"]) T.f_law_pick sc_law_pick rfl (body := b_law_pick) fun cdv A outer s H E hr =>
    (svs_one (sv_ret (ev_ix (ixdd (by rfl) hr.un1) (ev_var 1) (ev_call (ok_law_draw (P := P) (w := w) (base := base) T) (hr.mono (by decide)) (by rfl) T.m_law_draw T.k_law_draw T.b_law_draw .nil (fun _ _ => .nil) passB (ea_cons (ev_var 0) (ea_cons (ev_callB (cd_lenA (by rfl)) (by rfl) T.n_len bo_len (ea_cons (ev_var 1) ea_nil)) ea_nil)))))))
def b_law_low : Pm.Env → S → Res Fl := (sSeq (sPar 2 3 (aCons (mCall (bInt1 fun i => .int (absI i)) (aCons (mVar 0) aNil)) (aCons (mCall (bInt1 fun i => .int (absI i)) (aCons (mVar 1) aNil)) aNil)))
  (sSeq (whileL (mB (m2 gtI (mVar 3) (mC (.int 0)))) (sPar 2 3 (aCons (mVar 3) (aCons (m2 modI (mCall (bInt1 fun i => .int i) (aCons (mVar 2) aNil)) (mVar 3)) aNil))) 100000)
  (sSeq (sSet 2 (mIf (mB (m2 gtI (mVar 1) (mC (.int 0)))) (mVar 2) (m2 pSub (mC (.int 0)) (mVar 2))))
  (sRet (mTup (aCons (m2 divI (mVar 0) (mVar 2)) (aCons (m2 divI (mVar 1) (mVar 2)) aNil)))))))
def m_law_low : List D → S → Res D := runBody 2 4 b_law_low
theorem sc_law_low : FnScope ["_law_top", "_law_bottom", "_law_one", "_law_other"] ["_law_top", "_law_bottom"] (defScope s_law_low) := ⟨rfl, rfl, rfl, by decide +kernel, rfl, by decide +kernel, by decide +kernel⟩
theorem ok_law_low (T : Tx K mg d) : FnOk P w K mg base (L2.CX P w) 6 d.a_law_low d.d_law_low ["_law_top", "_law_bottom"] (spG (gg K d) 2 m_law_low) :=
  (fn_def (N := ["_law_top", "_law_bottom", "_law_one", "_law_other"]) T.f_law_low sc_law_low rfl (body := b_law_low) fun cdv A outer s H E hr =>
    (svs_cons (sv_par 2 3 (by rfl) sc_law_low.nd (by rfl) (by rfl) (by decide) (by rfl) (by rfl) (ea_cons (ev_callB (cd_abs) (by rfl) T.n_abs bo_abs (ea_cons (ev_var 0) ea_nil)) (ea_cons (ev_callB (cd_abs) (by rfl) T.n_abs bo_abs (ea_cons (ev_var 1) ea_nil)) ea_nil)) (by rfl))
    (svs_cons (sv_while 100000 (L2.passes_of (by rfl)) (et_cmp od_gt (ev_var 3) ev_int) (svs_one (sv_par 2 3 (by rfl) sc_law_low.nd (by rfl) (by rfl) (by decide) (by rfl) (by rfl) (ea_cons (ev_var 3) (ea_cons (ev_bin od_mod (ev_callTy (cd_int) (by rfl) T.n_int bo_int (ea_cons (ev_var 2) ea_nil)) (ev_var 3)) ea_nil)) (by rfl))))
    (svs_cons (sv_set 2 sc_law_low.nd (by rfl) (Or.inl (by rfl)) (ev_if (et_cmp od_gt (ev_var 1) ev_int) (ev_var 2) (ev_bin (od_pSub T (hr.mono (by decide)) passB) ev_int (ev_var 2))))
    (svs_one (sv_ret (ev_tup (ea_cons (ev_bin od_div (ev_var 0) (ev_var 2)) (ea_cons (ev_bin od_div (ev_var 1) (ev_var 2)) ea_nil)))))))))
def b_law_sum : Pm.Env → S → Res Fl := (sRet (mCallD (n := 2) [] m_law_low (aCons (m2 pAdd (m2 pMul (m2 ixDD (mVar 0) (mC (.int 0))) (m2 ixDD (mVar 1) (mC (.int 1)))) (m2 pMul (m2 ixDD (mVar 1) (mC (.int 0))) (m2 ixDD (mVar 0) (mC (.int 1))))) (aCons (m2 pMul (m2 ixDD (mVar 0) (mC (.int 1))) (m2 ixDD (mVar 1) (mC (.int 1)))) aNil))))
def m_law_sum : List D → S → Res D := runBody 2 2 b_law_sum
theorem sc_law_sum : FnScope ["_law_one", "_law_other"] ["_law_one", "_law_other"] (defScope s_law_sum) := ⟨rfl, rfl, rfl, by decide +kernel, rfl, by decide +kernel, by decide +kernel⟩
theorem ok_law_sum (T : Tx K mg d) : FnOk P w K mg base (L2.CX P w) 7 d.a_law_sum d.d_law_sum ["_law_one", "_law_other"] (spG (gg K d) 2 m_law_sum) :=
  (fn_def (N := ["_law_one", "_law_other"]) T.f_law_sum sc_law_sum rfl (body := b_law_sum) fun cdv A outer s H E hr =>
    (svs_one (sv_ret (ev_call (ok_law_low (P := P) (w := w) (base := base) T) (hr.mono (by decide)) (by rfl) T.m_law_low T.k_law_low T.b_law_low .nil (fun _ _ => .nil) passB (ea_cons (ev_bin (od_pAdd T (hr.mono (by decide)) passB) (ev_bin (od_pMul T (hr.mono (by decide)) passB) (ev_ix (ixdd (by rfl) hr.un1) (ev_var 0) ev_int) (ev_ix (ixdd (by rfl) hr.un1) (ev_var 1) ev_int)) (ev_bin (od_pMul T (hr.mono (by decide)) passB) (ev_ix (ixdd (by rfl) hr.un1) (ev_var 1) ev_int) (ev_ix (ixdd (by rfl) hr.un1) (ev_var 0) ev_int))) (ea_cons (ev_bin (od_pMul T (hr.mono (by decide)) passB) (ev_ix (ixdd (by rfl) hr.un1) (ev_var 0) ev_int) (ev_ix (ixdd (by rfl) hr.un1) (ev_var 1) ev_int)) ea_nil))))))
def b_law_by : Pm.Env → S → Res Fl := (sRet (mCallD (n := 2) [] m_law_low (aCons (m2 pMul (m2 ixDD (mVar 0) (mC (.int 0))) (m2 ixDD (mVar 1) (mC (.int 0)))) (aCons (m2 pMul (m2 ixDD (mVar 0) (mC (.int 1))) (m2 ixDD (mVar 1) (mC (.int 1)))) aNil))))
def m_law_by : List D → S → Res D := runBody 2 2 b_law_by
theorem sc_law_by : FnScope ["_law_one", "_law_other"] ["_law_one", "_law_other"] (defScope s_law_by) := ⟨rfl, rfl, rfl, by decide +kernel, rfl, by decide +kernel, by decide +kernel⟩
theorem ok_law_by (T : Tx K mg d) : FnOk P w K mg base (L2.CX P w) 7 d.a_law_by d.d_law_by ["_law_one", "_law_other"] (spG (gg K d) 2 m_law_by) :=
  (fn_def (N := ["_law_one", "_law_other"]) T.f_law_by sc_law_by rfl (body := b_law_by) fun cdv A outer s H E hr =>
    (svs_one (sv_ret (ev_call (ok_law_low (P := P) (w := w) (base := base) T) (hr.mono (by decide)) (by rfl) T.m_law_low T.k_law_low T.b_law_low .nil (fun _ _ => .nil) passB (ea_cons (ev_bin (od_pMul T (hr.mono (by decide)) passB) (ev_ix (ixdd (by rfl) hr.un1) (ev_var 0) ev_int) (ev_ix (ixdd (by rfl) hr.un1) (ev_var 1) ev_int)) (ea_cons (ev_bin (od_pMul T (hr.mono (by decide)) passB) (ev_ix (ixdd (by rfl) hr.un1) (ev_var 0) ev_int) (ev_ix (ixdd (by rfl) hr.un1) (ev_var 1) ev_int)) ea_nil))))))
def b_law_passed : Pm.Env → S → Res Fl := (sSeq (sSet 2 (mAnd (m2 pEq (m2 ixDD (mVar 1) (mC (.int 1))) (mC (.int 1))) (m2 ltA (mCall (bInt1 fun i => .int (absI i)) (aCons (m2 ixDD (mVar 1) (mC (.int 0))) aNil)) (m2 powI (mC (.int 10)) (mC (.int 6))))))
  (sRet (mIf (mAndT (mBt (mVar 2)) (mB (m2 pEq (mCallD (n := 2) [] m_law_draw (aCons (mVar 0) (aCons (mC (.int 2)) aNil))) (mC (.int 0))))) (m2 ixDD (mVar 1) (mC (.int 0))) (mMake 0 2 3 [] m_c0_init_ (aCons (m2 ixDD (mVar 1) (mC (.int 0))) (aCons (m2 ixDD (mVar 1) (mC (.int 1))) aNil))))))
def m_law_passed : List D → S → Res D := runBody 2 3 b_law_passed
theorem sc_law_passed : FnScope ["_law_pot_here", "_law_pair", "_law_is_small"] ["_law_pot_here", "_law_pair"] (defScope s_law_passed) := ⟨rfl, rfl, rfl, by decide +kernel, rfl, by decide +kernel, by decide +kernel⟩
theorem ok_law_passed (T : Tx K mg d) : FnOk P w K mg base (L2.CX P w) 10 d.a_law_passed d.d_law_passed ["_law_pot_here", "_law_pair"] (spG (gg K d) 2 m_law_passed) :=
  (fn_def (N := ["_law_pot_here", "_law_pair", "_law_is_small"]) T.f_law_passed sc_law_passed rfl (body := b_law_passed) fun cdv A outer s H E hr =>
    (svs_cons (sv_set 2 sc_law_passed.nd (by rfl) (Or.inl (by rfl)) (ev_and (ev_cmp (od_pEq T (hr.mono (by decide)) passB) (ev_ix (ixdd (by rfl) hr.un1) (ev_var 1) ev_int) ev_int) (ev_one (ev_cmp (od_ltA (by rfl) hr.un64) (ev_callB (cd_abs) (by rfl) T.n_abs bo_abs (ea_cons (ev_ix (ixdd (by rfl) hr.un1) (ev_var 1) ev_int) ea_nil)) (ev_bin od_pow ev_int ev_int)))))
    (svs_one (sv_ret (ev_if (ew_and (et_tru (by rfl) (ev_var 2)) (ew_and1 (et_cmp (od_pEq T (hr.mono (by decide)) passB) (ev_call (ok_law_draw (P := P) (w := w) (base := base) T) (hr.mono (by decide)) (by rfl) T.m_law_draw T.k_law_draw T.b_law_draw .nil (fun _ _ => .nil) passB (ea_cons (ev_var 0) (ea_cons ev_int ea_nil))) ev_int))).et (ev_ix (ixdd (by rfl) hr.un1) (ev_var 1) ev_int) (ev_makeV T.mk_Ratio (ok_c0_init_ (P := P) (w := w) (base := base) T) (by rfl) (hr.mono (by decide)) (by rfl) T.m_Ratio T.b0_c0_init_ (fun _ _ => .nil) passB (ea_cons (ev_ix (ixdd (by rfl) hr.un1) (ev_var 1) ev_int) (ea_cons (ev_ix (ixdd (by rfl) hr.un1) (ev_var 1) ev_int) ea_nil))))))))
def b_law_given_row : Pm.Env → S → Res Fl := (sSeq (sSet 2 (mCompF finL [3] (iLst (mVar 1)) (tName 3) mYes (mCallD (n := 2) [] m_law_passed (aCons (mVar 0) (aCons (mVar 3) aNil)))))
  (sRet (mIf (mB (m2 pEq (mCallD (n := 2) [] m_law_draw (aCons (mVar 0) (aCons (mC (.int 3)) aNil))) (mC (.int 0)))) (mCall bTuple (aCons (mVar 2) aNil)) (mVar 2))))
def m_law_given_row : List D → S → Res D := runBody 2 4 b_law_given_row
theorem sc_law_given_row : FnScope ["_law_pot_here", "_law_row", "_law_found", "_law_pair"] ["_law_pot_here", "_law_row"] (defScope s_law_given_row) := ⟨rfl, rfl, rfl, by decide +kernel, rfl, by decide +kernel, by decide +kernel⟩
theorem ok_law_given_row (T : Tx K mg d) : FnOk P w K mg base (L2.CX P w) 11 d.a_law_given_row d.d_law_given_row ["_law_pot_here", "_law_row"] (spG (gg K d) 2 m_law_given_row) :=
  (fn_def (N := ["_law_pot_here", "_law_row", "_law_found", "_law_pair"]) T.f_law_given_row sc_law_given_row rfl (body := b_law_given_row) fun cdv A outer s H E hr =>
    (svs_cons (sv_setLcF fin_l 2 (own := [("_law_pair", 3)]) (by rfl) sc_law_given_row.nd (by rfl) (by rfl) (by rfl) (iv_l (by rfl) (ev_var 1)) (blkOk_by (N := ["_law_pot_here", "_law_row", "_law_found", "_law_pair"]) (sc := defScope s_law_given_row) (by decide +kernel)) (by decide) (fun _ _ _ _ _ => (tn_name 3 sc_law_given_row.nd (by rfl) (by first | exact Or.inl rfl | exact Or.inr rfl))) (fun _ _ _ _ _ => ets_nil) (fun _ _ _ _ _ => (ev_call (ok_law_passed (P := P) (w := w) (base := base) T) (hr.mono (by decide)) (by rfl) T.m_law_passed T.k_law_passed T.b_law_passed .nil (fun _ _ => .nil) passK (ea_cons (ev_var 0) (ea_cons (ev_var 3) ea_nil)))))
    (svs_one (sv_ret (ev_if (et_cmp (od_pEq T (hr.mono (by decide)) passB) (ev_call (ok_law_draw (P := P) (w := w) (base := base) T) (hr.mono (by decide)) (by rfl) T.m_law_draw T.k_law_draw T.b_law_draw .nil (fun _ _ => .nil) passB (ea_cons (ev_var 0) (ea_cons ev_int ea_nil))) ev_int) (ev_callTy (cd_tuple (by rfl)) (by rfl) T.n_tuple bo_tuple (ea_cons (ev_var 2) ea_nil)) (ev_var 2))))))
def b_law_given : Pm.Env → S → Res Fl := (sSeq (sSet 2 (mCompF finL [3] (iLst (mVar 1)) (tName 3) mYes (mCallD (n := 2) [] m_law_given_row (aCons (mVar 0) (aCons (mVar 3) aNil)))))
  (sRet (mIf (mB (m2 pEq (mCallD (n := 2) [] m_law_draw (aCons (mVar 0) (aCons (mC (.int 3)) aNil))) (mC (.int 0)))) (mCall bTuple (aCons (mVar 2) aNil)) (mVar 2))))
def m_law_given : List D → S → Res D := runBody 2 4 b_law_given
theorem sc_law_given : FnScope ["_law_pot_here", "_law_rows", "_law_found", "_law_row"] ["_law_pot_here", "_law_rows"] (defScope s_law_given) := ⟨rfl, rfl, rfl, by decide +kernel, rfl, by decide +kernel, by decide +kernel⟩
theorem ok_law_given (T : Tx K mg d) : FnOk P w K mg base (L2.CX P w) 12 d.a_law_given d.d_law_given ["_law_pot_here", "_law_rows"] (spG (gg K d) 2 m_law_given) :=
  (fn_def (N := ["_law_pot_here", "_law_rows", "_law_found", "_law_row"]) T.f_law_given sc_law_given rfl (body := b_law_given) fun cdv A outer s H E hr =>
    (svs_cons (sv_setLcF fin_l 2 (own := [("_law_row", 3)]) (by rfl) sc_law_given.nd (by rfl) (by rfl) (by rfl) (iv_l (by rfl) (ev_var 1)) (blkOk_by (N := ["_law_pot_here", "_law_rows", "_law_found", "_law_row"]) (sc := defScope s_law_given) (by decide +kernel)) (by decide) (fun _ _ _ _ _ => (tn_name 3 sc_law_given.nd (by rfl) (by first | exact Or.inl rfl | exact Or.inr rfl))) (fun _ _ _ _ _ => ets_nil) (fun _ _ _ _ _ => (ev_call (ok_law_given_row (P := P) (w := w) (base := base) T) (hr.mono (by decide)) (by rfl) T.m_law_given_row T.k_law_given_row T.b_law_given_row .nil (fun _ _ => .nil) passK (ea_cons (ev_var 0) (ea_cons (ev_var 3) ea_nil)))))
    (svs_one (sv_ret (ev_if (et_cmp (od_pEq T (hr.mono (by decide)) passB) (ev_call (ok_law_draw (P := P) (w := w) (base := base) T) (hr.mono (by decide)) (by rfl) T.m_law_draw T.k_law_draw T.b_law_draw .nil (fun _ _ => .nil) passB (ea_cons (ev_var 0) (ea_cons ev_int ea_nil))) ev_int) (ev_callTy (cd_tuple (by rfl)) (by rfl) T.n_tuple bo_tuple (ea_cons (ev_var 2) ea_nil)) (ev_var 2))))))
def b_law_entry : Pm.Env → S → Res Fl := (sRet (mCallD (n := 2) [] m_law_pick (aCons (mVar 0) (aCons (mLst (aCons (mTup (aCons (mC (.int 0)) (aCons (mC (.int 1)) aNil))) (aCons (mTup (aCons (mC (.int 0)) (aCons (mC (.int 1)) aNil))) (aCons (mTup (aCons (mC (.int 1)) (aCons (mC (.int 1)) aNil))) (aCons (mTup (aCons (m1 pNeg (mC (.int 1))) (aCons (mC (.int 1)) aNil))) (aCons (mTup (aCons (mC (.int 2)) (aCons (mC (.int 1)) aNil))) (aCons (mTup (aCons (mC (.int 3)) (aCons (mC (.int 1)) aNil))) (aCons (mTup (aCons (m1 pNeg (mC (.int 4))) (aCons (mC (.int 1)) aNil))) (aCons (mTup (aCons (mC (.int 1)) (aCons (mC (.int 2)) aNil))) (aCons (mTup (aCons (m1 pNeg (mC (.int 5))) (aCons (mC (.int 3)) aNil))) (aCons (mTup (aCons (mC (.int 7)) (aCons (mC (.int 1)) aNil))) aNil))))))))))) aNil))))
def m_law_entry : List D → S → Res D := runBody 1 1 b_law_entry
theorem sc_law_entry : FnScope ["_law_pot_here"] ["_law_pot_here"] (defScope s_law_entry) := ⟨rfl, rfl, rfl, by decide +kernel, rfl, by decide +kernel, by decide +kernel⟩
theorem ok_law_entry (T : Tx K mg d) : FnOk P w K mg base (L2.CX P w) 8 d.a_law_entry d.d_law_entry ["_law_pot_here"] (spG (gg K d) 1 m_law_entry) :=
  (fn_def (N := ["_law_pot_here"]) T.f_law_entry sc_law_entry rfl (body := b_law_entry) fun cdv A outer s H E hr =>
    (svs_one (sv_ret (ev_call (ok_law_pick (P := P) (w := w) (base := base) T) (hr.mono (by decide)) (by rfl) T.m_law_pick T.k_law_pick T.b_law_pick .nil (fun _ _ => .nil) passB (ea_cons (ev_var 0) (ea_cons (ev_lst (ea_cons (ev_tup (ea_cons ev_int (ea_cons ev_int ea_nil))) (ea_cons (ev_tup (ea_cons ev_int (ea_cons ev_int ea_nil))) (ea_cons (ev_tup (ea_cons ev_int (ea_cons ev_int ea_nil))) (ea_cons (ev_tup (ea_cons (ev_un (ud_pNeg T (hr.mono (by decide)) passB) ev_int) (ea_cons ev_int ea_nil))) (ea_cons (ev_tup (ea_cons ev_int (ea_cons ev_int ea_nil))) (ea_cons (ev_tup (ea_cons ev_int (ea_cons ev_int ea_nil))) (ea_cons (ev_tup (ea_cons (ev_un (ud_pNeg T (hr.mono (by decide)) passB) ev_int) (ea_cons ev_int ea_nil))) (ea_cons (ev_tup (ea_cons ev_int (ea_cons ev_int ea_nil))) (ea_cons (ev_tup (ea_cons (ev_un (ud_pNeg T (hr.mono (by decide)) passB) ev_int) (ea_cons ev_int ea_nil))) (ea_cons (ev_tup (ea_cons ev_int (ea_cons ev_int ea_nil))) ea_nil))))))))))) ea_nil))))))
def b_law_points : Pm.Env → S → Res Fl := (sSeq (sAsg (mTup (aCons (m2 pAdd (mC (.int 2)) (mCallD (n := 2) [] m_law_draw (aCons (mVar 0) (aCons (m2 pSub (mVar 1) (mC (.int 1))) aNil)))) (aCons (m2 pAdd (mC (.int 1)) (mCallD (n := 2) [] m_law_draw (aCons (mVar 0) (aCons (mVar 2) aNil)))) aNil))) (taTup 2 (taCons (aN (tName 3)) (taCons (aN (tName 4)) taNil))))
  (sSeq (sSet 5 (mCompF finC [8] (iR1 (aCons (mVar 3) aNil)) (tName 8) mYes (mCompF finL [11] (iR1 (aCons (mVar 4) aNil)) (tName 11) mYes (mCallD (n := 1) [] m_law_entry (aCons (mVar 0) aNil)))))
  (sSeq (sIf (mAndT (mB (m2 gtI (mVar 3) (mC (.int 2)))) (mB (m2 pEq (mCallD (n := 2) [] m_law_draw (aCons (mVar 0) (aCons (mC (.int 3)) aNil))) (mC (.int 0))))) (sSeq (sPar 6 7 (aCons (mCallD (n := 2) [] m_law_pick (aCons (mVar 0) (aCons (mSlice (mVar 5) oN (oS (m1 pNeg (mC (.int 1))))) aNil))) (aCons (mCallD (n := 2) [] m_law_pick (aCons (mVar 0) (aCons (mSlice (mVar 5) oN (oS (m1 pNeg (mC (.int 1))))) aNil))) aNil)))
  (sAsg (mCompF finL [9, 10] (iZipA (aCons (mVar 6) (aCons (mVar 7) aNil))) (tSeq 2 (tCons (tName 9) (tCons (tName 10) tNil))) mYes (mCallD (n := 2) [] m_law_by (aCons (mCallD (n := 2) [] m_law_sum (aCons (mVar 9) (aCons (mVar 10) aNil))) (aCons (mTup (aCons (mC (.int 1)) (aCons (mC (.int 2)) aNil))) aNil)))) (taSub (mVar 5) (m1 pNeg (mC (.int 1)))))) sNext)
  (sSeq (sFrz 5 (sIf (mB (m2 pEq (mCallD (n := 2) [] m_law_draw (aCons (mVar 0) (aCons (mC (.int 6)) aNil))) (mC (.int 0)))) (sAsg (mCall bList (aCons (m2 ixDD (mVar 5) (m1 pNeg (mC (.int 1)))) aNil)) (taSub (mVar 5) (mC (.int 0)))) sNext))
  (sRet (mVar 5))))))
def m_law_points : List D → S → Res D := fun ds s => cutRes s.length (runBody 3 12 b_law_points ds s)
theorem sc_law_points : FnScope ["_law_pot_here", "_law_most_many", "_law_most_wide", "_law_many", "_law_wide", "_law_found", "_law_near", "_law_far", "_law_at", "_law_one", "_law_two", "_law_place"] ["_law_pot_here", "_law_most_many", "_law_most_wide"] (defScope s_law_points) := ⟨rfl, rfl, rfl, by decide +kernel, rfl, by decide +kernel, by decide +kernel⟩
theorem ok_law_points (T : Tx K mg d) : FnOk P w K mg base (L2.CX P w) 10 d.a_law_points d.d_law_points ["_law_pot_here", "_law_most_many", "_law_most_wide"] (spG (gg K d) 3 m_law_points) :=
  FnCut (fn_def (N := ["_law_pot_here", "_law_most_many", "_law_most_wide", "_law_many", "_law_wide", "_law_found", "_law_near", "_law_far", "_law_at", "_law_one", "_law_two", "_law_place"]) T.f_law_points sc_law_points rfl (body := b_law_points) fun cdv A outer s H E hr =>
    (svs_cons (sv_asg (ev_tup (ea_cons (ev_bin (od_pAdd T (hr.mono (by decide)) passB) ev_int (ev_call (ok_law_draw (P := P) (w := w) (base := base) T) (hr.mono (by decide)) (by rfl) T.m_law_draw T.k_law_draw T.b_law_draw .nil (fun _ _ => .nil) passB (ea_cons (ev_var 0) (ea_cons (ev_bin (od_pSub T (hr.mono (by decide)) passB) (ev_var 1) ev_int) ea_nil)))) (ea_cons (ev_bin (od_pAdd T (hr.mono (by decide)) passB) ev_int (ev_call (ok_law_draw (P := P) (w := w) (base := base) T) (hr.mono (by decide)) (by rfl) T.m_law_draw T.k_law_draw T.b_law_draw .nil (fun _ _ => .nil) passB (ea_cons (ev_var 0) (ea_cons (ev_var 2) ea_nil)))) ea_nil))) (ta_tup (by rfl) (by rfl) (tas_cons (ta_n (tn_name 3 sc_law_points.nd (by rfl) (by first | exact Or.inl rfl | exact Or.inr rfl))) (tas_cons (ta_n (tn_name 4 sc_law_points.nd (by rfl) (by first | exact Or.inl rfl | exact Or.inr rfl))) tas_nil))))
    (svs_cons (sv_setLcF fin_c 5 (own := [("_law_at", 8)]) (by rfl) sc_law_points.nd (by rfl) (by rfl) (by rfl) (iv_r1 (by rfl) T.n_range (ea_cons (ev_var 3) ea_nil)) (blkOk_by (N := ["_law_pot_here", "_law_most_many", "_law_most_wide", "_law_many", "_law_wide", "_law_found", "_law_near", "_law_far", "_law_at", "_law_one", "_law_two", "_law_place"]) (sc := defScope s_law_points) (by decide +kernel)) (by decide) (fun _ _ _ _ _ => (tn_name 8 sc_law_points.nd (by rfl) (by first | exact Or.inl rfl | exact Or.inr rfl))) (fun _ _ _ _ _ => ets_nil) (fun _ _ _ _ _ => (ev_lcF fin_l (own := [("_law_place", 11)]) (by rfl) sc_law_points.nd (iv_r1 (by rfl) T.n_range (ea_cons (ev_var 4) ea_nil)) (blkOk_by (N := ["_law_pot_here", "_law_most_many", "_law_most_wide", "_law_many", "_law_wide", "_law_found", "_law_near", "_law_far", "_law_at", "_law_one", "_law_two", "_law_place"]) (by kernel_rfl)) (by decide) (fun _ _ _ _ _ => (tn_name 11 sc_law_points.nd (by rfl) (by first | exact Or.inl rfl | exact Or.inr rfl))) (fun _ _ _ _ _ => ets_nil) (fun _ _ _ _ _ => (ev_call (ok_law_entry (P := P) (w := w) (base := base) T) (hr.mono (by decide)) (by rfl) T.m_law_entry T.k_law_entry T.b_law_entry .nil (fun _ _ => .nil) passK (ea_cons (ev_var 0) ea_nil))))))
    (svs_cons (sv_if (ew_and (et_cmp od_gt (ev_var 3) ev_int) (ew_and1 (et_cmp (od_pEq T (hr.mono (by decide)) passB) (ev_call (ok_law_draw (P := P) (w := w) (base := base) T) (hr.mono (by decide)) (by rfl) T.m_law_draw T.k_law_draw T.b_law_draw .nil (fun _ _ => .nil) passB (ea_cons (ev_var 0) (ea_cons ev_int ea_nil))) ev_int))).et (svs_cons (sv_par 6 7 (by rfl) sc_law_points.nd (by rfl) (by rfl) (by decide) (by rfl) (by rfl) (ea_cons (ev_call (ok_law_pick (P := P) (w := w) (base := base) T) (hr.mono (by decide)) (by rfl) T.m_law_pick T.k_law_pick T.b_law_pick .nil (fun _ _ => .nil) passB (ea_cons (ev_var 0) (ea_cons (ev_slice (by rfl) (ev_var 5) eo_n (eo_s (ev_un (ud_pNeg T (hr.mono (by decide)) passB) ev_int))) ea_nil))) (ea_cons (ev_call (ok_law_pick (P := P) (w := w) (base := base) T) (hr.mono (by decide)) (by rfl) T.m_law_pick T.k_law_pick T.b_law_pick .nil (fun _ _ => .nil) passB (ea_cons (ev_var 0) (ea_cons (ev_slice (by rfl) (ev_var 5) eo_n (eo_s (ev_un (ud_pNeg T (hr.mono (by decide)) passB) ev_int))) ea_nil))) ea_nil)) (by rfl))
    (svs_one (sv_asg (ev_lcF fin_l (own := [("_law_one", 9), ("_law_two", 10)]) (by rfl) sc_law_points.nd (iv_zipA (by rfl) (by rfl) T.n_zip (ea_cons (ev_var 6) (ea_cons (ev_var 7) ea_nil))) (blkOk_by (N := ["_law_pot_here", "_law_most_many", "_law_most_wide", "_law_many", "_law_wide", "_law_found", "_law_near", "_law_far", "_law_at", "_law_one", "_law_two", "_law_place"]) (sc := defScope s_law_points) (by decide +kernel)) (by decide) (fun _ _ _ _ _ => (tn_seq (by rfl) (by rfl) (tns_cons (tn_name 9 sc_law_points.nd (by rfl) (by first | exact Or.inl rfl | exact Or.inr rfl)) (tns_cons (tn_name 10 sc_law_points.nd (by rfl) (by first | exact Or.inl rfl | exact Or.inr rfl)) tns_nil)))) (fun _ _ _ _ _ => ets_nil) (fun _ _ _ _ _ => (ev_call (ok_law_by (P := P) (w := w) (base := base) T) (hr.mono (by decide)) (by rfl) T.m_law_by T.k_law_by T.b_law_by .nil (fun _ _ => .nil) passK (ea_cons (ev_call (ok_law_sum (P := P) (w := w) (base := base) T) (hr.mono (by decide)) (by rfl) T.m_law_sum T.k_law_sum T.b_law_sum .nil (fun _ _ => .nil) passK (ea_cons (ev_var 9) (ea_cons (ev_var 10) ea_nil))) (ea_cons (ev_tup (ea_cons ev_int (ea_cons ev_int ea_nil))) ea_nil))))) (ta_sub (ev_var 5) (ev_un (ud_pNeg T (hr.mono (by decide)) passB) ev_int))))) svs_nil)
    (svs_cons (sv_frz 5 (sv_if (et_cmp (od_pEq T (hr.mono (by decide)) passB) (ev_call (ok_law_draw (P := P) (w := w) (base := base) T) (hr.mono (by decide)) (by rfl) T.m_law_draw T.k_law_draw T.b_law_draw .nil (fun _ _ => .nil) passB (ea_cons (ev_var 0) (ea_cons ev_int ea_nil))) ev_int) (svs_one (sv_asg (ev_callTy (cd_list (by rfl)) (by rfl) T.n_list bo_list (ea_cons (ev_ix (ixdd (by rfl) hr.un1) (ev_var 5) (ev_un (ud_pNeg T (hr.mono (by decide)) passB) ev_int)) ea_nil)) (ta_sub (ev_var 5) ev_int))) svs_nil))
    (svs_one (sv_ret (ev_var 5))))))))
def b_law_is_number : Pm.Env → S → Res Fl := (sRet (mOr (mCall (bIs 1) (aCons (mVar 0) (aCons (mC (.cls 0)) aNil))) (mAnd (mCall (bIs 1) (aCons (mVar 0) (aCons (mC (.ty .int)) aNil))) (mNotV (mCall (bIs 1) (aCons (mVar 0) (aCons (mC (.ty .bool)) aNil)))))))
def m_law_is_number : List D → S → Res D := runBody 1 1 b_law_is_number
theorem sc_law_is_number : FnScope ["_law_value"] ["_law_value"] (defScope s_law_is_number) := ⟨rfl, rfl, rfl, by decide +kernel, rfl, by decide +kernel, by decide +kernel⟩
theorem ok_law_is_number (T : Tx K mg d) : FnOk P w K mg base (L2.CX P w) 1 d.a_law_is_number d.d_law_is_number ["_law_value"] (spG (gg K d) 1 m_law_is_number) :=
  (fn_def (N := ["_law_value"]) T.f_law_is_number sc_law_is_number rfl (body := b_law_is_number) fun cdv A outer s H E hr =>
    (svs_one (sv_ret (ev_or (ev_callB (cd_isinstance (by rfl) T.clsf) (by rfl) T.n_isinstance bo_isinstance (ea_cons (ev_var 0) (ea_cons (ev_cls 0 (by rfl) T.m_Ratio) ea_nil))) (ev_one (ev_and (ev_callB (cd_isinstance (by rfl) T.clsf) (by rfl) T.n_isinstance bo_isinstance (ea_cons (ev_var 0) (ea_cons (ev_bty .int (by rfl) T.n_int bo_int) ea_nil))) (ev_one (ev_notV (by rfl) (ev_callB (cd_isinstance (by rfl) T.clsf) (by rfl) T.n_isinstance bo_isinstance (ea_cons (ev_var 0) (ea_cons (ev_bty .bool (by rfl) T.n_bool bo_bool) ea_nil)))))))))))
def b_law_is_row : Pm.Env → S → Res Fl := (sRet (mAnd (mCall (bIs 1) (aCons (mVar 0) (aCons (mTup (aCons (mC (.ty .list)) (aCons (mC (.ty .tuple)) aNil))) aNil))) (mAnd (m2 pEq (mCall bLenA (aCons (mVar 0) aNil)) (mVar 1)) (mCall (bBools fun bs => bs.all id) (aCons (mCompF finL [2] (iLT (mVar 0)) (tName 2) mYes (mCallD (n := 1) [] m_law_is_number (aCons (mVar 2) aNil))) aNil)))))
def m_law_is_row : List D → S → Res D := runBody 2 3 b_law_is_row
theorem sc_law_is_row : FnScope ["_law_value", "_law_wide", "_law_one"] ["_law_value", "_law_wide"] (defScope s_law_is_row) := ⟨rfl, rfl, rfl, by decide +kernel, rfl, by decide +kernel, by decide +kernel⟩
theorem ok_law_is_row (T : Tx K mg d) : FnOk P w K mg base (L2.CX P w) 10 d.a_law_is_row d.d_law_is_row ["_law_value", "_law_wide"] (spG (gg K d) 2 m_law_is_row) :=
  (fn_def (N := ["_law_value", "_law_wide", "_law_one"]) T.f_law_is_row sc_law_is_row rfl (body := b_law_is_row) fun cdv A outer s H E hr =>
    (svs_one (sv_ret (ev_and (ev_callB (cd_isinstance (by rfl) T.clsf) (by rfl) T.n_isinstance bo_isinstance (ea_cons (ev_var 0) (ea_cons (ev_tup (ea_cons (ev_bty .list (by rfl) T.n_list bo_list) (ea_cons (ev_bty .tuple (by rfl) T.n_tuple bo_tuple) ea_nil))) ea_nil))) (ev_and (ev_cmp (od_pEq T (hr.mono (by decide)) passB) (ev_callB (cd_lenA (by rfl)) (by rfl) T.n_len bo_len (ea_cons (ev_var 0) ea_nil)) (ev_var 1)) (ev_one (ev_callB (cd_all (by rfl) (by rfl)) (by rfl) T.n_all bo_all (ea_cons (ev_lcF fin_l (own := [("_law_one", 2)]) (by rfl) sc_law_is_row.nd (iv_lt (by rfl) (ev_var 0)) (blkOk_by (N := ["_law_value", "_law_wide", "_law_one"]) (sc := defScope s_law_is_row) (by decide +kernel)) (by decide) (fun _ _ _ _ _ => (tn_name 2 sc_law_is_row.nd (by rfl) (Or.inl (by rfl)))) (fun _ _ _ _ _ => ets_nil) (fun _ _ _ _ _ => (ev_call (ok_law_is_number (P := P) (w := w) (base := base) T) (hr.mono (by decide)) (by rfl) T.m_law_is_number T.k_law_is_number T.b_law_is_number .nil (fun _ _ => .nil) passK (ea_cons (ev_var 2) ea_nil)))) ea_nil))))))))
def b_law_are_points : Pm.Env → S → Res Fl := (sSeq (sIf (mOrT (mNotT (mBt (mCall (bIs 1) (aCons (mVar 0) (aCons (mTup (aCons (mC (.ty .list)) (aCons (mC (.ty .tuple)) aNil))) aNil))))) (mNotT (mB (mChain leI leI (mC (.int 2)) (mCall bLenA (aCons (mVar 0) aNil)) (mC (.int 9)))))) (sRet (mC (.bl false))) sNext)
  (sSeq (sIf (mOrT (mNotT (mBt (mCall (bIs 1) (aCons (m2 ixDD (mVar 0) (mC (.int 0))) (aCons (mTup (aCons (mC (.ty .list)) (aCons (mC (.ty .tuple)) aNil))) aNil))))) (mNotT (mB (mChain leI leI (mC (.int 1)) (mCall bLenA (aCons (m2 ixDD (mVar 0) (mC (.int 0))) aNil)) (mC (.int 8)))))) (sRet (mC (.bl false))) sNext)
  (sRet (mCall (bBools fun bs => bs.all id) (aCons (mCompF finL [1] (iLT (mVar 0)) (tName 1) mYes (mCallD (n := 2) [] m_law_is_row (aCons (mVar 1) (aCons (mCall bLenA (aCons (m2 ixDD (mVar 0) (mC (.int 0))) aNil)) aNil)))) aNil)))))
def m_law_are_points : List D → S → Res D := runBody 1 2 b_law_are_points
theorem sc_law_are_points : FnScope ["_law_value", "_law_row"] ["_law_value"] (defScope s_law_are_points) := ⟨rfl, rfl, rfl, by decide +kernel, rfl, by decide +kernel, by decide +kernel⟩
theorem ok_law_are_points (T : Tx K mg d) : FnOk P w K mg base (L2.CX P w) 11 d.a_law_are_points d.d_law_are_points ["_law_value"] (spG (gg K d) 1 m_law_are_points) :=
  (fn_def (N := ["_law_value", "_law_row"]) T.f_law_are_points sc_law_are_points rfl (body := b_law_are_points) fun cdv A outer s H E hr =>
    (svs_cons (sv_if (ew_or (et_not (et_tru (by rfl) (ev_callB (cd_isinstance (by rfl) T.clsf) (by rfl) T.n_isinstance bo_isinstance (ea_cons (ev_var 0) (ea_cons (ev_tup (ea_cons (ev_bty .list (by rfl) T.n_list bo_list) (ea_cons (ev_bty .tuple (by rfl) T.n_tuple bo_tuple) ea_nil))) ea_nil))))) (ew_or1 (et_not (et_chain od_le od_le ev_int (ev_callB (cd_lenA (by rfl)) (by rfl) T.n_len bo_len (ea_cons (ev_var 0) ea_nil)) ev_int)))).et (svs_one (sv_ret ev_bl)) svs_nil)
    (svs_cons (sv_if (ew_or (et_not (et_tru (by rfl) (ev_callB (cd_isinstance (by rfl) T.clsf) (by rfl) T.n_isinstance bo_isinstance (ea_cons (ev_ix (ixdd (by rfl) hr.un1) (ev_var 0) ev_int) (ea_cons (ev_tup (ea_cons (ev_bty .list (by rfl) T.n_list bo_list) (ea_cons (ev_bty .tuple (by rfl) T.n_tuple bo_tuple) ea_nil))) ea_nil))))) (ew_or1 (et_not (et_chain od_le od_le ev_int (ev_callB (cd_lenA (by rfl)) (by rfl) T.n_len bo_len (ea_cons (ev_ix (ixdd (by rfl) hr.un1) (ev_var 0) ev_int) ea_nil)) ev_int)))).et (svs_one (sv_ret ev_bl)) svs_nil)
    (svs_one (sv_ret (ev_callB (cd_all (by rfl) (by rfl)) (by rfl) T.n_all bo_all (ea_cons (ev_lcF fin_l (own := [("_law_row", 1)]) (by rfl) sc_law_are_points.nd (iv_lt (by rfl) (ev_var 0)) (blkOk_by (N := ["_law_value", "_law_row"]) (sc := defScope s_law_are_points) (by decide +kernel)) (by decide) (fun _ _ _ _ _ => (tn_name 1 sc_law_are_points.nd (by rfl) (by first | exact Or.inl rfl | exact Or.inr rfl))) (fun _ _ _ _ _ => ets_nil) (fun _ _ _ _ _ => (ev_call (ok_law_is_row (P := P) (w := w) (base := base) T) (hr.mono (by decide)) (by rfl) T.m_law_is_row T.k_law_is_row T.b_law_is_row .nil (fun _ _ => .nil) passK (ea_cons (ev_var 1) (ea_cons (ev_callB (cd_lenA (by rfl)) (by rfl) T.n_len bo_len (ea_cons (ev_ix (ixdd (by rfl) hr.un1) (ev_var 0) ev_int) ea_nil)) ea_nil))))) ea_nil)))))))
def b_law_is_form : Pm.Env → S → Res Fl := (sSeq (sIf (mOrT (mNotT (mBt (mCall (bIs 1) (aCons (mVar 0) (aCons (mC (.ty .tuple)) aNil))))) (mB (m2 pNe (mCall bLenA (aCons (mVar 0) aNil)) (mC (.int 2))))) (sRet (mC (.bl false))) sNext)
  (sRet (mAnd (mCallD (n := 2) [] m_law_is_row (aCons (m2 ixDD (mVar 0) (mC (.int 0))) (aCons (mVar 1) aNil))) (mCallD (n := 1) [] m_law_is_number (aCons (m2 ixDD (mVar 0) (mC (.int 1))) aNil)))))
def m_law_is_form : List D → S → Res D := runBody 2 2 b_law_is_form
theorem sc_law_is_form : FnScope ["_law_value", "_law_wide"] ["_law_value", "_law_wide"] (defScope s_law_is_form) := ⟨rfl, rfl, rfl, by decide +kernel, rfl, by decide +kernel, by decide +kernel⟩
theorem ok_law_is_form (T : Tx K mg d) : FnOk P w K mg base (L2.CX P w) 11 d.a_law_is_form d.d_law_is_form ["_law_value", "_law_wide"] (spG (gg K d) 2 m_law_is_form) :=
  (fn_def (N := ["_law_value", "_law_wide"]) T.f_law_is_form sc_law_is_form rfl (body := b_law_is_form) fun cdv A outer s H E hr =>
    (svs_cons (sv_if (ew_or (et_not (et_tru (by rfl) (ev_callB (cd_isinstance (by rfl) T.clsf) (by rfl) T.n_isinstance bo_isinstance (ea_cons (ev_var 0) (ea_cons (ev_bty .tuple (by rfl) T.n_tuple bo_tuple) ea_nil))))) (ew_or1 (et_cmp (od_pNe T (hr.mono (by decide)) passB) (ev_callB (cd_lenA (by rfl)) (by rfl) T.n_len bo_len (ea_cons (ev_var 0) ea_nil)) ev_int))).et (svs_one (sv_ret ev_bl)) svs_nil)
    (svs_one (sv_ret (ev_and (ev_call (ok_law_is_row (P := P) (w := w) (base := base) T) (hr.mono (by decide)) (by rfl) T.m_law_is_row T.k_law_is_row T.b_law_is_row .nil (fun _ _ => .nil) passB (ea_cons (ev_ix (ixdd (by rfl) hr.un1) (ev_var 0) ev_int) (ea_cons (ev_var 1) ea_nil))) (ev_one (ev_call (ok_law_is_number (P := P) (w := w) (base := base) T) (hr.mono (by decide)) (by rfl) T.m_law_is_number T.k_law_is_number T.b_law_is_number .nil (fun _ _ => .nil) passB (ea_cons (ev_ix (ixdd (by rfl) hr.un1) (ev_var 0) ev_int) ea_nil))))))))
def b_law_bent_points : Pm.Env → S → Res Fl := (sSeq (sPar 2 3 (aCons (mCallD (n := 2) [] m_law_draw (aCons (mVar 0) (aCons (mCall bLenA (aCons (mVar 1) aNil)) aNil))) (aCons (mCallD (n := 2) [] m_law_pick (aCons (mVar 0) (aCons (mLst (aCons (mC .non) (aCons (mC (.bl true)) (aCons (mC (.str "1")) (aCons (mLst (aCons (mC (.int 1)) aNil)) (aCons mDct0 (aCons (mTup aNil) aNil))))))) aNil))) aNil)))
  (sSeq (sSet 4 (mCall bList (aCons (m2 ixDD (mVar 1) (mVar 2)) aNil)))
  (sSeq (sPar 5 6 (aCons (mCallD (n := 2) [] m_law_draw (aCons (mVar 0) (aCons (mCall bLenA (aCons (mVar 4) aNil)) aNil))) (aCons (mCell aNil) aNil)))
  (sSeq (sFor (iLst (mLst (aCons (m2 pAdd (mVar 4) (mLst (aCons (mC (.int 0)) aNil))) (aCons (mSlice (mVar 4) oN (oS (m1 pNeg (mC (.int 1))))) (aCons (mVar 3) (aCons (m2 pAdd (m2 pAdd (mSlice (mVar 4) oN (oS (mVar 5))) (mLst (aCons (mVar 3) aNil))) (mSlice (mVar 4) (oS (m2 pAdd (mVar 5) (mC (.int 1)))) oN)) (aCons (m2 pAdd (m2 pAdd (mSlice (mVar 4) oN (oS (mVar 5))) (mLst (aCons (mC (.int 7)) aNil))) (mSlice (mVar 4) (oS (m2 pAdd (mVar 5) (mC (.int 1)))) oN)) aNil))))))) (tName 7) (sExpr (mtCell appF (mVar 6) (aCons (m2 pAdd (m2 pAdd (mSlice (mVar 1) oN (oS (mVar 2))) (mLst (aCons (mVar 7) aNil))) (mSlice (mVar 1) (oS (m2 pAdd (mVar 2) (mC (.int 1)))) oN)) aNil))))
  (sSeq (sFrz 6 (sExpr (mtCell extF (mVar 6) (aCons (mLst (aCons (m2 pAdd (mVar 1) (mLst (aCons (mVar 4) aNil))) (aCons (m2 pAdd (mSlice (mVar 1) oN (oS (mVar 2))) (mSlice (mVar 1) (oS (m2 pAdd (mVar 2) (mC (.int 1)))) oN)) (aCons (m2 pAdd (m2 pMul (mVar 1) (mC (.int 2))) (m2 pMul (mSlice (mVar 1) oN (oS (mC (.int 1)))) (mC (.int 9)))) (aCons (m2 pAdd (mVar 1) (mLst (aCons (mVar 3) aNil))) (aCons (mLst (aCons (mVar 1) aNil)) (aCons (mCompF finL [7] (iLst (mVar 1)) (tName 7) mYes (mCall bTuple (aCons (mVar 7) aNil))) aNil))))))) aNil))))
  (sRet (m2 pAdd (mVar 6) (mLst (aCons (mSlice (mVar 1) oN (oS (mC (.int 1)))) (aCons (mCompF finL [7] (iLst (mVar 1)) (tName 7) mYes (m2 pMul (mCall bList (aCons (mVar 7) aNil)) (mC (.int 3)))) aNil))))))))))
def m_law_bent_points : List D → S → Res D := fun ds s => cutRes s.length (runBody 2 8 b_law_bent_points ds s)
theorem sc_law_bent_points : FnScope ["_law_pot_here", "_law_given_here", "_law_at", "_law_odd", "_law_point", "_law_place", "_law_found", "_law_row"] ["_law_pot_here", "_law_given_here"] (defScope s_law_bent_points) := ⟨rfl, rfl, rfl, by decide +kernel, rfl, by decide +kernel, by decide +kernel⟩
theorem ok_law_bent_points (T : Tx K mg d) : FnOk P w K mg base (L2.CX P w) 8 d.a_law_bent_points d.d_law_bent_points ["_law_pot_here", "_law_given_here"] (spG (gg K d) 2 m_law_bent_points) :=
  FnCut (fn_def (N := ["_law_pot_here", "_law_given_here", "_law_at", "_law_odd", "_law_point", "_law_place", "_law_found", "_law_row"]) T.f_law_bent_points sc_law_bent_points rfl (body := b_law_bent_points) fun cdv A outer s H E hr =>
    (svs_cons (sv_par 2 3 (by rfl) sc_law_bent_points.nd (by rfl) (by rfl) (by decide) (by rfl) (by rfl) (ea_cons (ev_call (ok_law_draw (P := P) (w := w) (base := base) T) (hr.mono (by decide)) (by rfl) T.m_law_draw T.k_law_draw T.b_law_draw .nil (fun _ _ => .nil) passB (ea_cons (ev_var 0) (ea_cons (ev_callB (cd_lenA (by rfl)) (by rfl) T.n_len bo_len (ea_cons (ev_var 1) ea_nil)) ea_nil))) (ea_cons (ev_call (ok_law_pick (P := P) (w := w) (base := base) T) (hr.mono (by decide)) (by rfl) T.m_law_pick T.k_law_pick T.b_law_pick .nil (fun _ _ => .nil) passB (ea_cons (ev_var 0) (ea_cons (ev_lst (ea_cons ev_non (ea_cons ev_bl (ea_cons ev_str (ea_cons (ev_lst (ea_cons ev_int ea_nil)) (ea_cons ev_dct0 (ea_cons (ev_tup ea_nil) ea_nil))))))) ea_nil))) ea_nil)) (by rfl))
    (svs_cons (sv_set 4 sc_law_bent_points.nd (by rfl) (Or.inl (by rfl)) (ev_callTy (cd_list (by rfl)) (by rfl) T.n_list bo_list (ea_cons (ev_ix (ixdd (by rfl) hr.un1) (ev_var 1) (ev_var 2)) ea_nil)))
    (svs_cons (sv_par 5 6 (by rfl) sc_law_bent_points.nd (by rfl) (by rfl) (by decide) (by rfl) (by rfl) (ea_cons (ev_call (ok_law_draw (P := P) (w := w) (base := base) T) (hr.mono (by decide)) (by rfl) T.m_law_draw T.k_law_draw T.b_law_draw .nil (fun _ _ => .nil) passB (ea_cons (ev_var 0) (ea_cons (ev_callB (cd_lenA (by rfl)) (by rfl) T.n_len bo_len (ea_cons (ev_var 4) ea_nil)) ea_nil))) (ea_cons (ev_cell ea_nil) ea_nil)) (by rfl))
    (svs_cons (sv_for (L2.passes_of (by rfl)) (by rfl) (iv_l (by rfl) (ev_lst (ea_cons (ev_bin (od_pAdd T (hr.mono (by decide)) passB) (ev_var 4) (ev_lst (ea_cons ev_int ea_nil))) (ea_cons (ev_slice (by rfl) (ev_var 4) eo_n (eo_s (ev_un (ud_pNeg T (hr.mono (by decide)) passB) ev_int))) (ea_cons (ev_var 3) (ea_cons (ev_bin (od_pAdd T (hr.mono (by decide)) passB) (ev_bin (od_pAdd T (hr.mono (by decide)) passB) (ev_slice (by rfl) (ev_var 4) eo_n (eo_s (ev_var 5))) (ev_lst (ea_cons (ev_var 3) ea_nil))) (ev_slice (by rfl) (ev_var 4) (eo_s (ev_bin (od_pAdd T (hr.mono (by decide)) passB) (ev_var 5) ev_int)) eo_n)) (ea_cons (ev_bin (od_pAdd T (hr.mono (by decide)) passB) (ev_bin (od_pAdd T (hr.mono (by decide)) passB) (ev_slice (by rfl) (ev_var 4) eo_n (eo_s (ev_var 5))) (ev_lst (ea_cons ev_int ea_nil))) (ev_slice (by rfl) (ev_var 4) (eo_s (ev_bin (od_pAdd T (hr.mono (by decide)) passB) (ev_var 5) ev_int)) eo_n)) ea_nil))))))) (tn_name 7 sc_law_bent_points.nd (by rfl) (Or.inl (by rfl))) (svs_one (sv_expr (ev_append (ev_var 6) (ea_cons (ev_bin (od_pAdd T (hr.mono (by decide)) passB) (ev_bin (od_pAdd T (hr.mono (by decide)) passB) (ev_slice (by rfl) (ev_var 1) eo_n (eo_s (ev_var 2))) (ev_lst (ea_cons (ev_var 7) ea_nil))) (ev_slice (by rfl) (ev_var 1) (eo_s (ev_bin (od_pAdd T (hr.mono (by decide)) passB) (ev_var 2) ev_int)) eo_n)) ea_nil)))))
    (svs_cons (sv_frz 6 (sv_expr (ev_extend (ev_var 6) (ea_cons (ev_lst (ea_cons (ev_bin (od_pAdd T (hr.mono (by decide)) passB) (ev_var 1) (ev_lst (ea_cons (ev_var 4) ea_nil))) (ea_cons (ev_bin (od_pAdd T (hr.mono (by decide)) passB) (ev_slice (by rfl) (ev_var 1) eo_n (eo_s (ev_var 2))) (ev_slice (by rfl) (ev_var 1) (eo_s (ev_bin (od_pAdd T (hr.mono (by decide)) passB) (ev_var 2) ev_int)) eo_n)) (ea_cons (ev_bin (od_pAdd T (hr.mono (by decide)) passB) (ev_bin (od_pMul T (hr.mono (by decide)) passB) (ev_var 1) ev_int) (ev_bin (od_pMul T (hr.mono (by decide)) passB) (ev_slice (by rfl) (ev_var 1) eo_n (eo_s ev_int)) ev_int)) (ea_cons (ev_bin (od_pAdd T (hr.mono (by decide)) passB) (ev_var 1) (ev_lst (ea_cons (ev_var 3) ea_nil))) (ea_cons (ev_lst (ea_cons (ev_var 1) ea_nil)) (ea_cons (ev_lcF fin_l (own := [("_law_row", 7)]) (by rfl) sc_law_bent_points.nd (iv_l (by rfl) (ev_var 1)) (blkOk_by (N := ["_law_pot_here", "_law_given_here", "_law_at", "_law_odd", "_law_point", "_law_place", "_law_found", "_law_row"]) (sc := defScope s_law_bent_points) (by decide +kernel)) (by decide) (fun _ _ _ _ _ => (tn_name 7 sc_law_bent_points.nd (by rfl) (Or.inl (by rfl)))) (fun _ _ _ _ _ => ets_nil) (fun _ _ _ _ _ => (ev_callTy (cd_tuple (by rfl)) (by rfl) T.n_tuple bo_tuple (ea_cons (ev_var 7) ea_nil)))) ea_nil))))))) ea_nil))))
    (svs_one (sv_ret (ev_bin (od_pAdd T (hr.mono (by decide)) passB) (ev_var 6) (ev_lst (ea_cons (ev_slice (by rfl) (ev_var 1) eo_n (eo_s ev_int)) (ea_cons (ev_lcF fin_l (own := [("_law_row", 7)]) (by rfl) sc_law_bent_points.nd (iv_l (by rfl) (ev_var 1)) (blkOk_by (N := ["_law_pot_here", "_law_given_here", "_law_at", "_law_odd", "_law_point", "_law_place", "_law_found", "_law_row"]) (sc := defScope s_law_bent_points) (by decide +kernel)) (by decide) (fun _ _ _ _ _ => (tn_name 7 sc_law_bent_points.nd (by rfl) (Or.inl (by rfl)))) (fun _ _ _ _ _ => ets_nil) (fun _ _ _ _ _ => (ev_bin (od_pMul T (hr.mono (by decide)) passK) (ev_callTy (cd_list (by rfl)) (by rfl) T.n_list bo_list (ea_cons (ev_var 7) ea_nil)) ev_int))) ea_nil))))))))))))
def b_law_bent_forms : Pm.Env → S → Res Fl := (sSeq (sPar 3 4 (aCons (mCallD (n := 2) [] m_law_draw (aCons (mVar 0) (aCons (mCall bLenA (aCons (mVar 1) aNil)) aNil))) (aCons (mCallD (n := 2) [] m_law_pick (aCons (mVar 0) (aCons (mLst (aCons (mC .non) (aCons (mC (.bl true)) (aCons (mC (.str "1")) (aCons (mLst (aCons (mC (.int 1)) aNil)) (aCons mDct0 aNil)))))) aNil))) aNil)))
  (sSeq (sSet 5 (mCell (aCons (mTup (aCons (mVar 1) (aCons (mVar 2) aNil))) (aCons (mTup (aCons (mCall bTuple (aCons (mVar 1) aNil)) (aCons (mVar 2) aNil))) (aCons (mLst (aCons (mVar 1) (aCons (mVar 2) aNil))) (aCons (mTup (aCons (mVar 1) (aCons (mVar 4) aNil))) (aCons (mTup (aCons (mVar 4) (aCons (mVar 2) aNil))) (aCons (mTup (aCons (mVar 1) (aCons (mVar 2) (aCons (mC (.int 0)) aNil)))) aNil))))))))
  (sSeq (sFrz 5 (sExpr (mtCell extF (mVar 5) (aCons (mLst (aCons (mTup (aCons (m2 pAdd (m2 pAdd (mSlice (mVar 1) oN (oS (mVar 3))) (mLst (aCons (mVar 4) aNil))) (mSlice (mVar 1) (oS (m2 pAdd (mVar 3) (mC (.int 1)))) oN)) (aCons (mVar 2) aNil))) (aCons (mTup (aCons (m2 pAdd (mVar 1) (mLst (aCons (mC (.int 0)) aNil))) (aCons (mVar 2) aNil))) (aCons (mTup (aCons (mSlice (mVar 1) oN (oS (m1 pNeg (mC (.int 1))))) (aCons (mVar 2) aNil))) (aCons (mTup (aCons (mVar 1) aNil)) aNil))))) aNil))))
  (sRet (m2 pAdd (mVar 5) (mLst (aCons (mTup (aCons (mVar 2) (aCons (mVar 1) aNil))) (aCons (mTup (aCons (mVar 1) (aCons (mLst (aCons (mVar 2) aNil)) aNil))) (aCons (mTup (aCons (mLst (aCons (mVar 1) aNil)) (aCons (mVar 2) aNil))) (aCons (mC .non) (aCons (mC (.int 0)) (aCons (mC (.str "")) (aCons mDct0 (aCons (mTup aNil) (aCons (mLst aNil) (aCons (mTup (aCons (mLst aNil) (aCons (mC (.int 0)) aNil))) aNil))))))))))))))))
def m_law_bent_forms : List D → S → Res D := fun ds s => cutRes s.length (runBody 3 6 b_law_bent_forms ds s)
theorem sc_law_bent_forms : FnScope ["_law_pot_here", "_law_normal", "_law_number", "_law_at", "_law_odd", "_law_found"] ["_law_pot_here", "_law_normal", "_law_number"] (defScope s_law_bent_forms) := ⟨rfl, rfl, rfl, by decide +kernel, rfl, by decide +kernel, by decide +kernel⟩
theorem ok_law_bent_forms (T : Tx K mg d) : FnOk P w K mg base (L2.CX P w) 8 d.a_law_bent_forms d.d_law_bent_forms ["_law_pot_here", "_law_normal", "_law_number"] (spG (gg K d) 3 m_law_bent_forms) :=
  FnCut (fn_def (N := ["_law_pot_here", "_law_normal", "_law_number", "_law_at", "_law_odd", "_law_found"]) T.f_law_bent_forms sc_law_bent_forms rfl (body := b_law_bent_forms) fun cdv A outer s H E hr =>
    (svs_cons (sv_par 3 4 (by rfl) sc_law_bent_forms.nd (by rfl) (by rfl) (by decide) (by rfl) (by rfl) (ea_cons (ev_call (ok_law_draw (P := P) (w := w) (base := base) T) (hr.mono (by decide)) (by rfl) T.m_law_draw T.k_law_draw T.b_law_draw .nil (fun _ _ => .nil) passB (ea_cons (ev_var 0) (ea_cons (ev_callB (cd_lenA (by rfl)) (by rfl) T.n_len bo_len (ea_cons (ev_var 1) ea_nil)) ea_nil))) (ea_cons (ev_call (ok_law_pick (P := P) (w := w) (base := base) T) (hr.mono (by decide)) (by rfl) T.m_law_pick T.k_law_pick T.b_law_pick .nil (fun _ _ => .nil) passB (ea_cons (ev_var 0) (ea_cons (ev_lst (ea_cons ev_non (ea_cons ev_bl (ea_cons ev_str (ea_cons (ev_lst (ea_cons ev_int ea_nil)) (ea_cons ev_dct0 ea_nil)))))) ea_nil))) ea_nil)) (by rfl))
    (svs_cons (sv_set 5 sc_law_bent_forms.nd (by rfl) (Or.inl (by rfl)) (ev_cell (ea_cons (ev_tup (ea_cons (ev_var 1) (ea_cons (ev_var 2) ea_nil))) (ea_cons (ev_tup (ea_cons (ev_callTy (cd_tuple (by rfl)) (by rfl) T.n_tuple bo_tuple (ea_cons (ev_var 1) ea_nil)) (ea_cons (ev_var 2) ea_nil))) (ea_cons (ev_lst (ea_cons (ev_var 1) (ea_cons (ev_var 2) ea_nil))) (ea_cons (ev_tup (ea_cons (ev_var 1) (ea_cons (ev_var 4) ea_nil))) (ea_cons (ev_tup (ea_cons (ev_var 4) (ea_cons (ev_var 2) ea_nil))) (ea_cons (ev_tup (ea_cons (ev_var 1) (ea_cons (ev_var 2) (ea_cons ev_int ea_nil)))) ea_nil))))))))
    (svs_cons (sv_frz 5 (sv_expr (ev_extend (ev_var 5) (ea_cons (ev_lst (ea_cons (ev_tup (ea_cons (ev_bin (od_pAdd T (hr.mono (by decide)) passB) (ev_bin (od_pAdd T (hr.mono (by decide)) passB) (ev_slice (by rfl) (ev_var 1) eo_n (eo_s (ev_var 3))) (ev_lst (ea_cons (ev_var 4) ea_nil))) (ev_slice (by rfl) (ev_var 1) (eo_s (ev_bin (od_pAdd T (hr.mono (by decide)) passB) (ev_var 3) ev_int)) eo_n)) (ea_cons (ev_var 2) ea_nil))) (ea_cons (ev_tup (ea_cons (ev_bin (od_pAdd T (hr.mono (by decide)) passB) (ev_var 1) (ev_lst (ea_cons ev_int ea_nil))) (ea_cons (ev_var 2) ea_nil))) (ea_cons (ev_tup (ea_cons (ev_slice (by rfl) (ev_var 1) eo_n (eo_s (ev_un (ud_pNeg T (hr.mono (by decide)) passB) ev_int))) (ea_cons (ev_var 2) ea_nil))) (ea_cons (ev_tup (ea_cons (ev_var 1) ea_nil)) ea_nil))))) ea_nil))))
    (svs_one (sv_ret (ev_bin (od_pAdd T (hr.mono (by decide)) passB) (ev_var 5) (ev_lst (ea_cons (ev_tup (ea_cons (ev_var 2) (ea_cons (ev_var 1) ea_nil))) (ea_cons (ev_tup (ea_cons (ev_var 1) (ea_cons (ev_lst (ea_cons (ev_var 2) ea_nil)) ea_nil))) (ea_cons (ev_tup (ea_cons (ev_lst (ea_cons (ev_var 1) ea_nil)) (ea_cons (ev_var 2) ea_nil))) (ea_cons ev_non (ea_cons ev_int (ea_cons ev_str (ea_cons ev_dct0 (ea_cons (ev_tup ea_nil) (ea_cons (ev_lst ea_nil) (ea_cons (ev_tup (ea_cons (ev_lst ea_nil) (ea_cons ev_int ea_nil))) ea_nil))))))))))))))))))
def b_law_right : Pm.Env → S → Res Fl := (sSeq (sSet 1 (mCallD (n := 3) [] m_law_points (aCons (mVar 0) (aCons (mC (.int 9)) (aCons (mC (.int 8)) aNil)))))
  (sSeq (sSet 2 (mCall bList (aCons (mCallD (n := 2) [] m_law_given (aCons (mVar 0) (aCons (mVar 1) aNil))) aNil)))
  (sSeq (sSet 3 (m2 pAdd (m2 pAdd (mLst (aCons (mVar 2) (aCons (mCall bTuple (aCons (mVar 2) aNil)) aNil))) (mCallD (n := 2) [] m_law_bent_points (aCons (mVar 0) (aCons (mVar 2) aNil)))) (mLst (aCons (mC .non) (aCons (mC (.int 5)) (aCons (mC (.bl true)) (aCons (mC (.str "")) (aCons (mC (.str "ab")) (aCons mDct0 (aCons (mLst aNil) (aCons (mTup aNil) (aCons (mLst (aCons (mLst aNil) aNil)) (aCons (mLst (aCons (mLst aNil) (aCons (mLst aNil) aNil))) aNil)))))))))))))
  (sSeq (sFor (iLst (m2 pAdd (mVar 3) (mLst (aCons (mDisp [0, 1] (aCons (mLst (aCons (mC (.int 1)) aNil)) (aCons (mLst (aCons (mC (.int 1)) aNil)) aNil))) (aCons (mLst (aCons (mLst (aCons (mC (.int 0)) aNil)) (aCons (mLst (aCons (mC (.int 0)) aNil)) aNil))) (aCons (m2 pMul (mLst (aCons (m2 pMul (mLst (aCons (mC (.int 0)) aNil)) (mC (.int 8))) aNil)) (mC (.int 9))) (aCons (m2 pMul (mLst (aCons (m2 pMul (mLst (aCons (mC (.int 0)) aNil)) (mC (.int 9))) aNil)) (mC (.int 2))) (aCons (m2 pMul (mLst (aCons (mLst (aCons (mC (.int 0)) aNil)) aNil)) (mC (.int 10))) (aCons (mLst (aCons (mC (.int 0)) (aCons (mC (.int 0)) aNil))) (aCons (mLst (aCons (mLst (aCons (mC (.int 0)) aNil)) (aCons (mTup (aCons (mC (.int 0)) aNil)) aNil))) aNil)))))))))) (tName 4) (sSeq (sPar 5 6 (aCons (mCallD (n := 1) [] m_law_are_points (aCons (mVar 4) aNil)) (aCons (mCall pRepr (aCons (mVar 4) aNil)) aNil)))
  (sSeq (sIf (mB (m2 pNe (mCall pRepr (aCons (mLst (aCons (mCallD (n := 1) [] m_is_points (aCons (mVar 4) aNil)) (aCons (mKw 0 1 m_is_points aNil (aCons (mVar 4) aNil)) aNil))) aNil)) (mCall pRepr (aCons (mLst (aCons (mVar 5) (aCons (mVar 5) aNil))) aNil)))) (sRet (mC (.bl false))) sNext)
  (sIf (mB (m2 pNe (mCall pRepr (aCons (mVar 4) aNil)) (mVar 6))) (sRet (mC (.bl false))) sNext))))
  (sSeq (sSet 7 (mCompF finL [8] (iLst (m2 pMul (m2 ixDD (mCallD (n := 3) [] m_law_points (aCons (mVar 0) (aCons (mC (.int 2)) (aCons (mC (.int 1)) aNil)))) (mC (.int 0))) (mCall bLenA (aCons (m2 ixDD (mVar 1) (mC (.int 0))) aNil)))) (tName 8) mYes (mMake 0 2 3 [] m_c0_init_ (aCons (m2 ixDD (mVar 8) (mC (.int 0))) (aCons (m2 ixDD (mVar 8) (mC (.int 1))) aNil)))))
  (sSeq (sFor (iLst (mCallD (n := 3) [] m_law_bent_forms (aCons (mVar 0) (aCons (mVar 7) (aCons (mCallD (n := 2) [] m_law_passed (aCons (mVar 0) (aCons (mCallD (n := 1) [] m_law_entry (aCons (mVar 0) aNil)) aNil))) aNil))))) (tName 4) (sSeq (sPar 5 6 (aCons (mCallD (n := 2) [] m_law_is_form (aCons (mVar 4) (aCons (mCall bLenA (aCons (m2 ixDD (mVar 1) (mC (.int 0))) aNil)) aNil))) (aCons (mCall pRepr (aCons (mVar 4) aNil)) aNil)))
  (sIf (mOrT (mB (m2 pNe (mCall pRepr (aCons (mLst (aCons (mCallD (n := 2) [] m_is_form (aCons (mVar 2) (aCons (mVar 4) aNil))) (aCons (mKwP [1, 0] 2 2 m_is_form (aCons (mVar 4) (aCons (mVar 2) aNil))) aNil))) aNil)) (mCall pRepr (aCons (mLst (aCons (mVar 5) (aCons (mVar 5) aNil))) aNil)))) (mB (m2 pNe (mCall pRepr (aCons (mVar 4) aNil)) (mVar 6)))) (sRet (mC (.bl false))) sNext)))
  (sRet (mC (.bl true)))))))))
def m_law_right : List D → S → Res D := runBody 1 9 b_law_right
theorem sc_law_right : FnScope ["_law_pot_here", "_law_points_here", "_law_given_here", "_law_values", "_law_value", "_law_due", "_law_stay", "_law_normal", "_law_pair"] ["_law_pot_here"] (defScope s_law_right) := ⟨rfl, rfl, rfl, by decide +kernel, rfl, by decide +kernel, by decide +kernel⟩
theorem ok_law_right (T : Tx K mg d) : FnG P w K mg base 15 d.a_law_right (spG (gg K d) 1 m_law_right) :=
  fnG_def (N := ["_law_pot_here", "_law_points_here", "_law_given_here", "_law_values", "_law_value", "_law_due", "_law_stay", "_law_normal", "_law_pair"]) T.f_law_right sc_law_right T.b_law_right rfl (body := b_law_right) fun cdv A outer s H E hr hgd =>
    (svs_cons (sv_set 1 sc_law_right.nd (by rfl) (Or.inl (by rfl)) (ev_call (ok_law_points (P := P) (w := w) (base := base) T) (hr.mono (by decide)) (by rfl) T.m_law_points T.k_law_points T.b_law_points .nil (fun _ _ => .nil) passB (ea_cons (ev_var 0) (ea_cons ev_int (ea_cons ev_int ea_nil)))))
    (svs_cons (sv_set 2 sc_law_right.nd (by rfl) (Or.inl (by rfl)) (ev_callTy (cd_list (by rfl)) (by rfl) T.n_list bo_list (ea_cons (ev_call (ok_law_given (P := P) (w := w) (base := base) T) (hr.mono (by decide)) (by rfl) T.m_law_given T.k_law_given T.b_law_given .nil (fun _ _ => .nil) passB (ea_cons (ev_var 0) (ea_cons (ev_var 1) ea_nil))) ea_nil)))
    (svs_cons (sv_set 3 sc_law_right.nd (by rfl) (Or.inl (by rfl)) (ev_bin (od_pAdd T (hr.mono (by decide)) passB) (ev_bin (od_pAdd T (hr.mono (by decide)) passB) (ev_lst (ea_cons (ev_var 2) (ea_cons (ev_callTy (cd_tuple (by rfl)) (by rfl) T.n_tuple bo_tuple (ea_cons (ev_var 2) ea_nil)) ea_nil))) (ev_call (ok_law_bent_points (P := P) (w := w) (base := base) T) (hr.mono (by decide)) (by rfl) T.m_law_bent_points T.k_law_bent_points T.b_law_bent_points .nil (fun _ _ => .nil) passB (ea_cons (ev_var 0) (ea_cons (ev_var 2) ea_nil)))) (ev_lst (ea_cons ev_non (ea_cons ev_int (ea_cons ev_bl (ea_cons ev_str (ea_cons ev_str (ea_cons ev_dct0 (ea_cons (ev_lst ea_nil) (ea_cons (ev_tup ea_nil) (ea_cons (ev_lst (ea_cons (ev_lst ea_nil) ea_nil)) (ea_cons (ev_lst (ea_cons (ev_lst ea_nil) (ea_cons (ev_lst ea_nil) ea_nil))) ea_nil)))))))))))))
    (svs_cons (sv_for (L2.passes_of (by rfl)) (by rfl) (iv_l (by rfl) (ev_bin (od_pAdd T (hr.mono (by decide)) passB) (ev_var 3) (ev_lst (ea_cons (ev_disp (edk_cons (ev_lst (ea_cons ev_int ea_nil)) (edk_cons (ev_lst (ea_cons ev_int ea_nil)) edk_nil))) (ea_cons (ev_lst (ea_cons (ev_lst (ea_cons ev_int ea_nil)) (ea_cons (ev_lst (ea_cons ev_int ea_nil)) ea_nil))) (ea_cons (ev_bin (od_pMul T (hr.mono (by decide)) passB) (ev_lst (ea_cons (ev_bin (od_pMul T (hr.mono (by decide)) passB) (ev_lst (ea_cons ev_int ea_nil)) ev_int) ea_nil)) ev_int) (ea_cons (ev_bin (od_pMul T (hr.mono (by decide)) passB) (ev_lst (ea_cons (ev_bin (od_pMul T (hr.mono (by decide)) passB) (ev_lst (ea_cons ev_int ea_nil)) ev_int) ea_nil)) ev_int) (ea_cons (ev_bin (od_pMul T (hr.mono (by decide)) passB) (ev_lst (ea_cons (ev_lst (ea_cons ev_int ea_nil)) ea_nil)) ev_int) (ea_cons (ev_lst (ea_cons ev_int (ea_cons ev_int ea_nil))) (ea_cons (ev_lst (ea_cons (ev_lst (ea_cons ev_int ea_nil)) (ea_cons (ev_tup (ea_cons ev_int ea_nil)) ea_nil))) ea_nil)))))))))) (tn_name 4 sc_law_right.nd (by rfl) (Or.inl (by rfl))) (svs_cons (sv_par 5 6 (by rfl) sc_law_right.nd (by rfl) (by rfl) (by decide) (by rfl) (by rfl) (ea_cons (ev_call (ok_law_are_points (P := P) (w := w) (base := base) T) (hr.mono (by decide)) (by rfl) T.m_law_are_points T.k_law_are_points T.b_law_are_points .nil (fun _ _ => .nil) passB (ea_cons (ev_var 4) ea_nil)) (ea_cons (ev_callB (cd_pRepr T (hr.mono (by decide)) passB hgd) (by rfl) T.n_repr bo_repr (ea_cons (ev_var 4) ea_nil)) ea_nil)) (by rfl))
    (svs_cons (sv_if (et_cmp (od_pNe T (hr.mono (by decide)) passB) (ev_callB (cd_pRepr T (hr.mono (by decide)) passB hgd) (by rfl) T.n_repr bo_repr (ea_cons (ev_lst (ea_cons (ev_call (ok_is_points (P := P) (w := w) (base := base) T) (hr.mono (by decide)) (by rfl) T.m_is_points T.k_is_points T.b_is_points .nil (fun _ _ => .nil) passB (ea_cons (ev_var 4) ea_nil)) (ea_cons (ev_kw0 (ok_is_points (P := P) (w := w) (base := base) T) (hr.mono (by decide)) (by rfl) T.m_is_points T.k_is_points T.kb_is_points_value (by rfl) passB (ek_cons (ev_var 4) ek_nil)) ea_nil))) ea_nil)) (ev_callB (cd_pRepr T (hr.mono (by decide)) passB hgd) (by rfl) T.n_repr bo_repr (ea_cons (ev_lst (ea_cons (ev_var 5) (ea_cons (ev_var 5) ea_nil))) ea_nil))) (svs_one (sv_ret ev_bl)) svs_nil)
    (svs_one (sv_if (et_cmp (od_pNe T (hr.mono (by decide)) passB) (ev_callB (cd_pRepr T (hr.mono (by decide)) passB hgd) (by rfl) T.n_repr bo_repr (ea_cons (ev_var 4) ea_nil)) (ev_var 6)) (svs_one (sv_ret ev_bl)) svs_nil)))))
    (svs_cons (sv_setLcF fin_l 7 (own := [("_law_pair", 8)]) (by rfl) sc_law_right.nd (by rfl) (by rfl) (by rfl) (iv_l (by rfl) (ev_bin (od_pMul T (hr.mono (by decide)) passB) (ev_ix (ixdd (by rfl) hr.un1) (ev_call (ok_law_points (P := P) (w := w) (base := base) T) (hr.mono (by decide)) (by rfl) T.m_law_points T.k_law_points T.b_law_points .nil (fun _ _ => .nil) passB (ea_cons (ev_var 0) (ea_cons ev_int (ea_cons ev_int ea_nil)))) ev_int) (ev_callB (cd_lenA (by rfl)) (by rfl) T.n_len bo_len (ea_cons (ev_ix (ixdd (by rfl) hr.un1) (ev_var 1) ev_int) ea_nil)))) (blkOk_by (N := ["_law_pot_here", "_law_points_here", "_law_given_here", "_law_values", "_law_value", "_law_due", "_law_stay", "_law_normal", "_law_pair"]) (sc := defScope s_law_right) (by decide +kernel)) (by decide) (fun _ _ _ _ _ => (tn_name 8 sc_law_right.nd (by rfl) (Or.inl (by rfl)))) (fun _ _ _ _ _ => ets_nil) (fun _ _ _ _ _ => (ev_makeV T.mk_Ratio (ok_c0_init_ (P := P) (w := w) (base := base) T) (by rfl) (hr.mono (by decide)) (by rfl) T.m_Ratio T.b0_c0_init_ (fun _ _ => .nil) passK (ea_cons (ev_ix (ixdd (by rfl) hr.un1) (ev_var 8) ev_int) (ea_cons (ev_ix (ixdd (by rfl) hr.un1) (ev_var 8) ev_int) ea_nil)))))
    (svs_cons (sv_for (L2.passes_of (by rfl)) (by rfl) (iv_l (by rfl) (ev_call (ok_law_bent_forms (P := P) (w := w) (base := base) T) (hr.mono (by decide)) (by rfl) T.m_law_bent_forms T.k_law_bent_forms T.b_law_bent_forms .nil (fun _ _ => .nil) passB (ea_cons (ev_var 0) (ea_cons (ev_var 7) (ea_cons (ev_call (ok_law_passed (P := P) (w := w) (base := base) T) (hr.mono (by decide)) (by rfl) T.m_law_passed T.k_law_passed T.b_law_passed .nil (fun _ _ => .nil) passB (ea_cons (ev_var 0) (ea_cons (ev_call (ok_law_entry (P := P) (w := w) (base := base) T) (hr.mono (by decide)) (by rfl) T.m_law_entry T.k_law_entry T.b_law_entry .nil (fun _ _ => .nil) passB (ea_cons (ev_var 0) ea_nil)) ea_nil))) ea_nil))))) (tn_name 4 sc_law_right.nd (by rfl) (Or.inl (by rfl))) (svs_cons (sv_par 5 6 (by rfl) sc_law_right.nd (by rfl) (by rfl) (by decide) (by rfl) (by rfl) (ea_cons (ev_call (ok_law_is_form (P := P) (w := w) (base := base) T) (hr.mono (by decide)) (by rfl) T.m_law_is_form T.k_law_is_form T.b_law_is_form .nil (fun _ _ => .nil) passB (ea_cons (ev_var 4) (ea_cons (ev_callB (cd_lenA (by rfl)) (by rfl) T.n_len bo_len (ea_cons (ev_ix (ixdd (by rfl) hr.un1) (ev_var 1) ev_int) ea_nil)) ea_nil))) (ea_cons (ev_callB (cd_pRepr T (hr.mono (by decide)) passB hgd) (by rfl) T.n_repr bo_repr (ea_cons (ev_var 4) ea_nil)) ea_nil)) (by rfl))
    (svs_one (sv_if (ew_or (et_cmp (od_pNe T (hr.mono (by decide)) passB) (ev_callB (cd_pRepr T (hr.mono (by decide)) passB hgd) (by rfl) T.n_repr bo_repr (ea_cons (ev_lst (ea_cons (ev_call (ok_is_form (P := P) (w := w) (base := base) T) (hr.mono (by decide)) (by rfl) T.m_is_form T.k_is_form T.b_is_form .nil (fun _ _ => .nil) passB (ea_cons (ev_var 2) (ea_cons (ev_var 4) ea_nil))) (ea_cons (ev_kwP (ok_is_form (P := P) (w := w) (base := base) T) (hr.mono (by decide)) (by rfl) T.m_is_form T.k_is_form T.kbp_is_form_value_points passB (ek_cons (ev_var 4) (ek_cons (ev_var 2) ek_nil))) ea_nil))) ea_nil)) (ev_callB (cd_pRepr T (hr.mono (by decide)) passB hgd) (by rfl) T.n_repr bo_repr (ea_cons (ev_lst (ea_cons (ev_var 5) (ea_cons (ev_var 5) ea_nil))) ea_nil))) (ew_or1 (et_cmp (od_pNe T (hr.mono (by decide)) passB) (ev_callB (cd_pRepr T (hr.mono (by decide)) passB hgd) (by rfl) T.n_repr bo_repr (ea_cons (ev_var 4) ea_nil)) (ev_var 6)))).et (svs_one (sv_ret ev_bl)) svs_nil))))
    (svs_one (sv_ret ev_bl))))))))
def b_law : Pm.Env → S → Res Fl := (sRet (mCallD (n := 1) [] m_law_right (aCons (mCallD (n := 2) [] m_law_pot (aCons (mVar 0) (aCons (mC (.int 0)) aNil))) aNil)))
def m_law : List D → S → Res D := runBody 1 1 b_law
theorem sc_law : FnScope ["_law_script"] ["_law_script"] (defScope s_law) := ⟨rfl, rfl, rfl, by decide +kernel, rfl, by decide +kernel, by decide +kernel⟩
theorem ok_law (T : Tx K mg d) : FnG P w K mg base 16 d.a_law (spG (gg K d) 1 m_law) :=
  fnG_def (N := ["_law_script"]) T.f_law sc_law T.b_law rfl (body := b_law) fun cdv A outer s H E hr hgd =>
    (svs_one (sv_ret (ev_callG (ok_law_right (P := P) (w := w) (base := base) T) (hr.mono (by decide)) hgd (by rfl) T.m_law_right T.k_law_right passB (ea_cons (ev_call (ok_law_pot (P := P) (w := w) (base := base) T) (hr.mono (by decide)) (by rfl) T.m_law_pot T.k_law_pot T.b_law_pot .nil (fun _ _ => .nil) passB (ea_cons (ev_var 0) (ea_cons ev_int ea_nil))) ea_nil))))
end
set_option maxHeartbeats 0 in
theorem tx_of {K : Fr'} {h : Heap} {mg : Str → Option Value} (X : K.In h) (G : h.Ns mainGlobals mg) (c : SaysP defs facts K) : ∃ d : Ad, d.a_law = He.ga K "law" ∧ Tx K mg d := by
  obtain ⟨d_is_integer, F_is_integer⟩ := c.fund 0 (p := D_is_integer) rfl
  obtain ⟨d_c0_init_, F_c0_init_⟩ := c.fund 1 (p := D_c0_init_) rfl
  obtain ⟨d_c0_top, F_c0_top⟩ := c.fund 2 (p := D_c0_top) rfl
  obtain ⟨d_c0_bottom, F_c0_bottom⟩ := c.fund 3 (p := D_c0_bottom) rfl
  obtain ⟨d_parts_of, F_parts_of⟩ := c.fund 4 (p := D_parts_of) rfl
  obtain ⟨d_c0_add_, F_c0_add_⟩ := c.fund 5 (p := D_c0_add_) rfl
  obtain ⟨d_c0_radd_, F_c0_radd_⟩ := c.fund 6 (p := D_c0_radd_) rfl
  obtain ⟨d_c0_sub_, F_c0_sub_⟩ := c.fund 7 (p := D_c0_sub_) rfl
  obtain ⟨d_c0_neg_, F_c0_neg_⟩ := c.fund 8 (p := D_c0_neg_) rfl
  obtain ⟨d_c0_rsub_, F_c0_rsub_⟩ := c.fund 9 (p := D_c0_rsub_) rfl
  obtain ⟨d_c0_mul_, F_c0_mul_⟩ := c.fund 10 (p := D_c0_mul_) rfl
  obtain ⟨d_c0_rmul_, F_c0_rmul_⟩ := c.fund 11 (p := D_c0_rmul_) rfl
  obtain ⟨d_c0_eq_, F_c0_eq_⟩ := c.fund 12 (p := D_c0_eq_) rfl
  obtain ⟨d_c0_str_, F_c0_str_⟩ := c.fund 13 (p := D_c0_str_) rfl
  obtain ⟨d_c0_repr_, F_c0_repr_⟩ := c.fund 14 (p := D_c0_repr_) rfl
  obtain ⟨d_is_list, F_is_list⟩ := c.fund 15 (p := D_is_list) rfl
  obtain ⟨d_is_number, F_is_number⟩ := c.fund 16 (p := D_is_number) rfl
  obtain ⟨d_is_numbers, F_is_numbers⟩ := c.fund 17 (p := D_is_numbers) rfl
  obtain ⟨d_is_table, F_is_table⟩ := c.fund 18 (p := D_is_table) rfl
  obtain ⟨d_is_points, F_is_points⟩ := c.fund 19 (p := D_is_points) rfl
  obtain ⟨d_check_points, F_check_points⟩ := c.fund 20 (p := D_check_points) rfl
  obtain ⟨d_is_form, F_is_form⟩ := c.fund 21 (p := D_is_form) rfl
  obtain ⟨d_law_pot, F_law_pot⟩ := c.fund 22 (p := D_law_pot) rfl
  obtain ⟨d_law_draw, F_law_draw⟩ := c.fund 23 (p := D_law_draw) rfl
  obtain ⟨d_law_pick, F_law_pick⟩ := c.fund 24 (p := D_law_pick) rfl
  obtain ⟨d_law_low, F_law_low⟩ := c.fund 25 (p := D_law_low) rfl
  obtain ⟨d_law_sum, F_law_sum⟩ := c.fund 26 (p := D_law_sum) rfl
  obtain ⟨d_law_by, F_law_by⟩ := c.fund 27 (p := D_law_by) rfl
  obtain ⟨d_law_passed, F_law_passed⟩ := c.fund 28 (p := D_law_passed) rfl
  obtain ⟨d_law_given_row, F_law_given_row⟩ := c.fund 29 (p := D_law_given_row) rfl
  obtain ⟨d_law_given, F_law_given⟩ := c.fund 30 (p := D_law_given) rfl
  obtain ⟨d_law_entry, F_law_entry⟩ := c.fund 31 (p := D_law_entry) rfl
  obtain ⟨d_law_points, F_law_points⟩ := c.fund 32 (p := D_law_points) rfl
  obtain ⟨d_law_is_number, F_law_is_number⟩ := c.fund 33 (p := D_law_is_number) rfl
  obtain ⟨d_law_is_row, F_law_is_row⟩ := c.fund 34 (p := D_law_is_row) rfl
  obtain ⟨d_law_are_points, F_law_are_points⟩ := c.fund 35 (p := D_law_are_points) rfl
  obtain ⟨d_law_is_form, F_law_is_form⟩ := c.fund 36 (p := D_law_is_form) rfl
  obtain ⟨d_law_bent_points, F_law_bent_points⟩ := c.fund 37 (p := D_law_bent_points) rfl
  obtain ⟨d_law_bent_forms, F_law_bent_forms⟩ := c.fund 38 (p := D_law_bent_forms) rfl
  obtain ⟨d_law_right, F_law_right⟩ := c.fund 39 (p := D_law_right) rfl
  obtain ⟨d_law, F_law⟩ := c.fund 40 (p := D_law) rfl
  refine ⟨{ C_Ratio := He.ga K "Ratio", a_is_integer := (pG "is_integer") K, d_is_integer := d_is_integer, a_c0_init_ := (pM "Ratio" "__init__") K, d_c0_init_ := d_c0_init_, a_c0_top := (pRec "property" (pM "Ratio" "top")) K, d_c0_top := d_c0_top, p_c0_top := pM "Ratio" "top" K, a_c0_bottom := (pRec "property" (pM "Ratio" "bottom")) K, d_c0_bottom := d_c0_bottom, p_c0_bottom := pM "Ratio" "bottom" K, a_parts_of := (pG "parts_of") K, d_parts_of := d_parts_of, a_c0_add_ := (pM "Ratio" "__add__") K, d_c0_add_ := d_c0_add_, a_c0_radd_ := (pM "Ratio" "__radd__") K, d_c0_radd_ := d_c0_radd_, a_c0_sub_ := (pM "Ratio" "__sub__") K, d_c0_sub_ := d_c0_sub_, a_c0_neg_ := (pM "Ratio" "__neg__") K, d_c0_neg_ := d_c0_neg_, a_c0_rsub_ := (pM "Ratio" "__rsub__") K, d_c0_rsub_ := d_c0_rsub_, a_c0_mul_ := (pM "Ratio" "__mul__") K, d_c0_mul_ := d_c0_mul_, a_c0_rmul_ := (pM "Ratio" "__rmul__") K, d_c0_rmul_ := d_c0_rmul_, a_c0_eq_ := (pM "Ratio" "__eq__") K, d_c0_eq_ := d_c0_eq_, a_c0_str_ := (pM "Ratio" "__str__") K, d_c0_str_ := d_c0_str_, a_c0_repr_ := (pM "Ratio" "__repr__") K, d_c0_repr_ := d_c0_repr_, a_is_list := (pG "is_list") K, d_is_list := d_is_list, a_is_number := (pG "is_number") K, d_is_number := d_is_number, a_is_numbers := (pG "is_numbers") K, d_is_numbers := d_is_numbers, a_is_table := (pG "is_table") K, d_is_table := d_is_table, a_is_points := (pG "is_points") K, d_is_points := d_is_points, a_check_points := (pG "check_points") K, d_check_points := d_check_points, a_is_form := (pG "is_form") K, d_is_form := d_is_form, a_law_pot := (pG "_law_pot") K, d_law_pot := d_law_pot, a_law_draw := (pG "_law_draw") K, d_law_draw := d_law_draw, a_law_pick := (pG "_law_pick") K, d_law_pick := d_law_pick, a_law_low := (pG "_law_low") K, d_law_low := d_law_low, a_law_sum := (pG "_law_sum") K, d_law_sum := d_law_sum, a_law_by := (pG "_law_by") K, d_law_by := d_law_by, a_law_passed := (pG "_law_passed") K, d_law_passed := d_law_passed, a_law_given_row := (pG "_law_given_row") K, d_law_given_row := d_law_given_row, a_law_given := (pG "_law_given") K, d_law_given := d_law_given, a_law_entry := (pG "_law_entry") K, d_law_entry := d_law_entry, a_law_points := (pG "_law_points") K, d_law_points := d_law_points, a_law_is_number := (pG "_law_is_number") K, d_law_is_number := d_law_is_number, a_law_is_row := (pG "_law_is_row") K, d_law_is_row := d_law_is_row, a_law_are_points := (pG "_law_are_points") K, d_law_are_points := d_law_are_points, a_law_is_form := (pG "_law_is_form") K, d_law_is_form := d_law_is_form, a_law_bent_points := (pG "_law_bent_points") K, d_law_bent_points := d_law_bent_points, a_law_bent_forms := (pG "_law_bent_forms") K, d_law_bent_forms := d_law_bent_forms, a_law_right := (pG "_law_right") K, d_law_right := d_law_right, a_law := (pG "law") K, d_law := d_law }, rfl, ?_⟩
  exact {
    cl_Ratio := He.cls_ok (c.fact 0 (f := faA (.cls "Ratio")) rfl)
    m_Ratio := He.glo_ok X G (c.fact 1 (f := faA (.glo "Ratio")) rfl)
    na_Ratio_top := He.noat_ok (c.fact 2 (f := faA (.noat "Ratio" "_top")) rfl)
    na_Ratio_bottom := He.noat_ok (c.fact 3 (f := faA (.noat "Ratio" "_bottom")) rfl)
    mk_Ratio := He.mkr_ok (c.fact 4 (f := faA (.mkr "Ratio")) rfl)
    clsf := faK_ok (Cs := ["Ratio"]) (by intro i hi; have hi : i < 1 := hi; match i, hi with | 0, _ => rfl) (c.fact 5 (f := faK ["Ratio"]) rfl)
    n_abs := He.free_ok X G (c.fact 6 (f := faA (.free "abs")) rfl)
    n_all := He.free_ok X G (c.fact 7 (f := faA (.free "all")) rfl)
    n_bool := He.free_ok X G (c.fact 8 (f := faA (.free "bool")) rfl)
    n_divmod := He.free_ok X G (c.fact 9 (f := faA (.free "divmod")) rfl)
    n_int := He.free_ok X G (c.fact 10 (f := faA (.free "int")) rfl)
    n_isinstance := He.free_ok X G (c.fact 11 (f := faA (.free "isinstance")) rfl)
    n_len := He.free_ok X G (c.fact 12 (f := faA (.free "len")) rfl)
    n_list := He.free_ok X G (c.fact 13 (f := faA (.free "list")) rfl)
    n_max := He.free_ok X G (c.fact 14 (f := faA (.free "max")) rfl)
    n_range := He.free_ok X G (c.fact 15 (f := faA (.free "range")) rfl)
    n_repr := He.free_ok X G (c.fact 16 (f := faA (.free "repr")) rfl)
    n_str := He.free_ok X G (c.fact 17 (f := faA (.free "str")) rfl)
    n_tuple := He.free_ok X G (c.fact 18 (f := faA (.free "tuple")) rfl)
    n_zip := He.free_ok X G (c.fact 19 (f := faA (.free "zip")) rfl)
    m_gcd := faB_ok X G (c.fact 20 (f := faB "gcd" "math.gcd") rfl)
    f_is_integer := fun_of F_is_integer
    b_is_integer := Fun.binds (fun_of F_is_integer) fun _ _ _ _ _ _ us hl => match us, hl with | [_], _ => rfl
    m_is_integer := He.glo_ok X G (c.fact 21 (f := faA (.glo "is_integer")) rfl)
    k_is_integer := F_is_integer.kp
    f_c0_init_ := F_c0_init_
    b0_c0_init_ := F_c0_init_.binds1 3 1 (by decide) (by decide) fun _ _ _ _ _ _ _ us its hu hi => match us, its, hu, hi with | [_, _, _], [_], _, _ => ⟨_, rfl, rfl⟩
    b1_c0_init_ := F_c0_init_.binds1 2 0 (by decide) (by decide) fun _ _ _ _ _ _ _ us its hu hi => match us, its, hu, hi with | [_, _], [_], _, _ => ⟨_, rfl, rfl⟩
    f_c0_top := fun_of F_c0_top
    b_c0_top := Fun.binds (fun_of F_c0_top) fun _ _ _ _ _ _ us hl => match us, hl with | [_], _ => rfl
    pr_c0_top := faP_ok (c.fact 22 (f := faP "Ratio" "top") rfl)
    f_c0_bottom := fun_of F_c0_bottom
    b_c0_bottom := Fun.binds (fun_of F_c0_bottom) fun _ _ _ _ _ _ us hl => match us, hl with | [_], _ => rfl
    pr_c0_bottom := faP_ok (c.fact 23 (f := faP "Ratio" "bottom") rfl)
    f_parts_of := fun_of F_parts_of
    b_parts_of := Fun.binds (fun_of F_parts_of) fun _ _ _ _ _ _ us hl => match us, hl with | [_], _ => rfl
    m_parts_of := He.glo_ok X G (c.fact 24 (f := faA (.glo "parts_of")) rfl)
    k_parts_of := F_parts_of.kp
    f_c0_add_ := fun_of F_c0_add_
    b_c0_add_ := Fun.binds (fun_of F_c0_add_) fun _ _ _ _ _ _ us hl => match us, hl with | [_, _], _ => rfl
    f_c0_radd_ := fun_of F_c0_radd_
    b_c0_radd_ := Fun.binds (fun_of F_c0_radd_) fun _ _ _ _ _ _ us hl => match us, hl with | [_, _], _ => rfl
    f_c0_sub_ := fun_of F_c0_sub_
    b_c0_sub_ := Fun.binds (fun_of F_c0_sub_) fun _ _ _ _ _ _ us hl => match us, hl with | [_, _], _ => rfl
    f_c0_neg_ := fun_of F_c0_neg_
    b_c0_neg_ := Fun.binds (fun_of F_c0_neg_) fun _ _ _ _ _ _ us hl => match us, hl with | [_], _ => rfl
    f_c0_rsub_ := fun_of F_c0_rsub_
    b_c0_rsub_ := Fun.binds (fun_of F_c0_rsub_) fun _ _ _ _ _ _ us hl => match us, hl with | [_, _], _ => rfl
    f_c0_mul_ := fun_of F_c0_mul_
    b_c0_mul_ := Fun.binds (fun_of F_c0_mul_) fun _ _ _ _ _ _ us hl => match us, hl with | [_, _], _ => rfl
    f_c0_rmul_ := fun_of F_c0_rmul_
    b_c0_rmul_ := Fun.binds (fun_of F_c0_rmul_) fun _ _ _ _ _ _ us hl => match us, hl with | [_, _], _ => rfl
    f_c0_eq_ := fun_of F_c0_eq_
    b_c0_eq_ := Fun.binds (fun_of F_c0_eq_) fun _ _ _ _ _ _ us hl => match us, hl with | [_, _], _ => rfl
    f_c0_str_ := fun_of F_c0_str_
    b_c0_str_ := Fun.binds (fun_of F_c0_str_) fun _ _ _ _ _ _ us hl => match us, hl with | [_], _ => rfl
    f_c0_repr_ := fun_of F_c0_repr_
    b_c0_repr_ := Fun.binds (fun_of F_c0_repr_) fun _ _ _ _ _ _ us hl => match us, hl with | [_], _ => rfl
    f_is_list := fun_of F_is_list
    b_is_list := Fun.binds (fun_of F_is_list) fun _ _ _ _ _ _ us hl => match us, hl with | [_], _ => rfl
    m_is_list := He.glo_ok X G (c.fact 25 (f := faA (.glo "is_list")) rfl)
    k_is_list := F_is_list.kp
    f_is_number := fun_of F_is_number
    b_is_number := Fun.binds (fun_of F_is_number) fun _ _ _ _ _ _ us hl => match us, hl with | [_], _ => rfl
    m_is_number := He.glo_ok X G (c.fact 26 (f := faA (.glo "is_number")) rfl)
    k_is_number := F_is_number.kp
    f_is_numbers := fun_of F_is_numbers
    b_is_numbers := Fun.binds (fun_of F_is_numbers) fun _ _ _ _ _ _ us hl => match us, hl with | [_, _], _ => rfl
    m_is_numbers := He.glo_ok X G (c.fact 27 (f := faA (.glo "is_numbers")) rfl)
    k_is_numbers := F_is_numbers.kp
    f_is_table := fun_of F_is_table
    b_is_table := Fun.binds (fun_of F_is_table) fun _ _ _ _ _ _ us hl => match us, hl with | [_, _, _, _], _ => rfl
    m_is_table := He.glo_ok X G (c.fact 28 (f := faA (.glo "is_table")) rfl)
    k_is_table := F_is_table.kp
    f_is_points := fun_of F_is_points
    b_is_points := Fun.binds (fun_of F_is_points) fun _ _ _ _ _ _ us hl => match us, hl with | [_], _ => rfl
    m_is_points := He.glo_ok X G (c.fact 29 (f := faA (.glo "is_points")) rfl)
    k_is_points := F_is_points.kp
    f_check_points := fun_of F_check_points
    b_check_points := Fun.binds (fun_of F_check_points) fun _ _ _ _ _ _ us hl => match us, hl with | [_], _ => rfl
    m_check_points := He.glo_ok X G (c.fact 30 (f := faA (.glo "check_points")) rfl)
    k_check_points := F_check_points.kp
    f_is_form := fun_of F_is_form
    b_is_form := Fun.binds (fun_of F_is_form) fun _ _ _ _ _ _ us hl => match us, hl with | [_, _], _ => rfl
    m_is_form := He.glo_ok X G (c.fact 31 (f := faA (.glo "is_form")) rfl)
    k_is_form := F_is_form.kp
    f_law_pot := fun_of F_law_pot
    b_law_pot := Fun.binds (fun_of F_law_pot) fun _ _ _ _ _ _ us hl => match us, hl with | [_, _], _ => rfl
    m_law_pot := He.glo_ok X G (c.fact 32 (f := faA (.glo "_law_pot")) rfl)
    k_law_pot := F_law_pot.kp
    f_law_draw := fun_of F_law_draw
    b_law_draw := Fun.binds (fun_of F_law_draw) fun _ _ _ _ _ _ us hl => match us, hl with | [_, _], _ => rfl
    m_law_draw := He.glo_ok X G (c.fact 33 (f := faA (.glo "_law_draw")) rfl)
    k_law_draw := F_law_draw.kp
    f_law_pick := fun_of F_law_pick
    b_law_pick := Fun.binds (fun_of F_law_pick) fun _ _ _ _ _ _ us hl => match us, hl with | [_, _], _ => rfl
    m_law_pick := He.glo_ok X G (c.fact 34 (f := faA (.glo "_law_pick")) rfl)
    k_law_pick := F_law_pick.kp
    f_law_low := fun_of F_law_low
    b_law_low := Fun.binds (fun_of F_law_low) fun _ _ _ _ _ _ us hl => match us, hl with | [_, _], _ => rfl
    m_law_low := He.glo_ok X G (c.fact 35 (f := faA (.glo "_law_low")) rfl)
    k_law_low := F_law_low.kp
    f_law_sum := fun_of F_law_sum
    b_law_sum := Fun.binds (fun_of F_law_sum) fun _ _ _ _ _ _ us hl => match us, hl with | [_, _], _ => rfl
    m_law_sum := He.glo_ok X G (c.fact 36 (f := faA (.glo "_law_sum")) rfl)
    k_law_sum := F_law_sum.kp
    f_law_by := fun_of F_law_by
    b_law_by := Fun.binds (fun_of F_law_by) fun _ _ _ _ _ _ us hl => match us, hl with | [_, _], _ => rfl
    m_law_by := He.glo_ok X G (c.fact 37 (f := faA (.glo "_law_by")) rfl)
    k_law_by := F_law_by.kp
    f_law_passed := fun_of F_law_passed
    b_law_passed := Fun.binds (fun_of F_law_passed) fun _ _ _ _ _ _ us hl => match us, hl with | [_, _], _ => rfl
    m_law_passed := He.glo_ok X G (c.fact 38 (f := faA (.glo "_law_passed")) rfl)
    k_law_passed := F_law_passed.kp
    f_law_given_row := fun_of F_law_given_row
    b_law_given_row := Fun.binds (fun_of F_law_given_row) fun _ _ _ _ _ _ us hl => match us, hl with | [_, _], _ => rfl
    m_law_given_row := He.glo_ok X G (c.fact 39 (f := faA (.glo "_law_given_row")) rfl)
    k_law_given_row := F_law_given_row.kp
    f_law_given := fun_of F_law_given
    b_law_given := Fun.binds (fun_of F_law_given) fun _ _ _ _ _ _ us hl => match us, hl with | [_, _], _ => rfl
    m_law_given := He.glo_ok X G (c.fact 40 (f := faA (.glo "_law_given")) rfl)
    k_law_given := F_law_given.kp
    f_law_entry := fun_of F_law_entry
    b_law_entry := Fun.binds (fun_of F_law_entry) fun _ _ _ _ _ _ us hl => match us, hl with | [_], _ => rfl
    m_law_entry := He.glo_ok X G (c.fact 41 (f := faA (.glo "_law_entry")) rfl)
    k_law_entry := F_law_entry.kp
    f_law_points := fun_of F_law_points
    b_law_points := Fun.binds (fun_of F_law_points) fun _ _ _ _ _ _ us hl => match us, hl with | [_, _, _], _ => rfl
    m_law_points := He.glo_ok X G (c.fact 42 (f := faA (.glo "_law_points")) rfl)
    k_law_points := F_law_points.kp
    f_law_is_number := fun_of F_law_is_number
    b_law_is_number := Fun.binds (fun_of F_law_is_number) fun _ _ _ _ _ _ us hl => match us, hl with | [_], _ => rfl
    m_law_is_number := He.glo_ok X G (c.fact 43 (f := faA (.glo "_law_is_number")) rfl)
    k_law_is_number := F_law_is_number.kp
    f_law_is_row := fun_of F_law_is_row
    b_law_is_row := Fun.binds (fun_of F_law_is_row) fun _ _ _ _ _ _ us hl => match us, hl with | [_, _], _ => rfl
    m_law_is_row := He.glo_ok X G (c.fact 44 (f := faA (.glo "_law_is_row")) rfl)
    k_law_is_row := F_law_is_row.kp
    f_law_are_points := fun_of F_law_are_points
    b_law_are_points := Fun.binds (fun_of F_law_are_points) fun _ _ _ _ _ _ us hl => match us, hl with | [_], _ => rfl
    m_law_are_points := He.glo_ok X G (c.fact 45 (f := faA (.glo "_law_are_points")) rfl)
    k_law_are_points := F_law_are_points.kp
    f_law_is_form := fun_of F_law_is_form
    b_law_is_form := Fun.binds (fun_of F_law_is_form) fun _ _ _ _ _ _ us hl => match us, hl with | [_, _], _ => rfl
    m_law_is_form := He.glo_ok X G (c.fact 46 (f := faA (.glo "_law_is_form")) rfl)
    k_law_is_form := F_law_is_form.kp
    f_law_bent_points := fun_of F_law_bent_points
    b_law_bent_points := Fun.binds (fun_of F_law_bent_points) fun _ _ _ _ _ _ us hl => match us, hl with | [_, _], _ => rfl
    m_law_bent_points := He.glo_ok X G (c.fact 47 (f := faA (.glo "_law_bent_points")) rfl)
    k_law_bent_points := F_law_bent_points.kp
    f_law_bent_forms := fun_of F_law_bent_forms
    b_law_bent_forms := Fun.binds (fun_of F_law_bent_forms) fun _ _ _ _ _ _ us hl => match us, hl with | [_, _, _], _ => rfl
    m_law_bent_forms := He.glo_ok X G (c.fact 48 (f := faA (.glo "_law_bent_forms")) rfl)
    k_law_bent_forms := F_law_bent_forms.kp
    f_law_right := fun_of F_law_right
    b_law_right := Fun.binds (fun_of F_law_right) fun _ _ _ _ _ _ us hl => match us, hl with | [_], _ => rfl
    m_law_right := He.glo_ok X G (c.fact 49 (f := faA (.glo "_law_right")) rfl)
    k_law_right := F_law_right.kp
    f_law := fun_of F_law
    b_law := Fun.binds (fun_of F_law) fun _ _ _ _ _ _ us hl => match us, hl with | [_], _ => rfl
    m_law := He.glo_ok X G (c.fact 50 (f := faA (.glo "law")) rfl)
    k_law := F_law.kp
    kb_is_points_value := kb0_of (fun_of F_is_points) fun _ _ _ _ _ _ us ws hu hw => match us, ws, hu, hw with | [], [_], _, _ => rfl
    kbp_is_form_value_points := kbp_of (fun_of F_is_form) fun _ _ _ _ _ _ ws hw => match ws, hw with | [_, _], _ => rfl
    o_pAdd := faO_ok (c.fact 51 (f := faO "Ratio" "__add__" "__radd__") rfl) rfl rfl (by first | exact PySem.F.slot_int_add | exact slot_int_add) PySem.F.fills_int_add dec_add
    o_pSub := faO_ok (c.fact 52 (f := faO "Ratio" "__sub__" "__rsub__") rfl) rfl rfl (by first | exact PySem.F.slot_int_sub | exact slot_int_sub) PySem.F.fills_int_sub dec_sub
    o_pMul := faO_ok (c.fact 53 (f := faO "Ratio" "__mul__" "__rmul__") rfl) rfl rfl (by first | exact PySem.F.slot_int_mul | exact slot_int_mul) PySem.F.fills_int_mul dec_mul
    g_neg1 := (He.meth_ok (c.fact 54 (f := faA (.meth "Ratio" "__neg__")) rfl)).at_
    g_neg2 := (He.meth_ok (c.fact 54 (f := faA (.meth "Ratio" "__neg__")) rfl)).fn
    o_eq := (faE_ok (c.fact 55 (f := faE "Ratio") rfl)).1
    o_ne := (faE_ok (c.fact 55 (f := faE "Ratio") rfl)).2
    g_str1 := (He.meth_ok (c.fact 56 (f := faA (.meth "Ratio" "__str__")) rfl)).at_
    g_str2 := (He.meth_ok (c.fact 56 (f := faA (.meth "Ratio" "__str__")) rfl)).fn
    g_repr1 := (He.meth_ok (c.fact 57 (f := faA (.meth "Ratio" "__repr__")) rfl)).at_
    g_repr2 := (He.meth_ok (c.fact 57 (f := faA (.meth "Ratio" "__repr__")) rfl)).fn }
end K15
set_option linter.all false
namespace U
open Pm PySem
structure Cfg where
  k1 : Nat
  dr : List D → S → Res D
def Cfg.k (c : Cfg) : Nat := c.k1 + 1
end U
open U (Cfg)
set_option Elab.async false
set_option linter.all false
set_option maxRecDepth 100000
set_option maxHeartbeats 400000
namespace U
open Pm PySem
def b_is_integer (c : Cfg) : Pm.Env → S → Res Fl := (sRet (mAnd (mCall (bIs c.k) (aCons (mVar 0) (aCons (mC (.ty .int)) aNil))) (mNotV (mCall (bIs c.k) (aCons (mVar 0) (aCons (mC (.ty .bool)) aNil))))))
def m_is_integer (c : Cfg) : List D → S → Res D := runBody 1 1 (U.b_is_integer c)
def b_c0_init_ (c : Cfg) : Pm.Env → S → Res Fl := (sSeq (sIf (mNotT (mBt (mCallD (n := 1) [] (U.m_is_integer c) (aCons (mVar 1) aNil)))) sStuck sNext)
  (sSeq (sIf (mOrT (mNotT (mBt (mCallD (n := 1) [] (U.m_is_integer c) (aCons (mVar 2) aNil)))) (mB (m2 (eqP false) (mVar 2) (mC (.int 0))))) sStuck sNext)
  (sSeq (sSet 3 (mCall (bInt2 (fun _ _ => true) fun i j => .int (gcdI i j)) (aCons (mVar 1) (aCons (mVar 2) aNil))))
  (sSeq (sIf (mB (m2 ltI (mVar 2) (mC (.int 0)))) (sSet 3 (m1 negI (mVar 3))) sNext)
  (sSeq (sFld 0 0 (mVar 0) (m2 divI (mVar 1) (mVar 3)))
  (sFld 0 1 (mVar 0) (m2 divI (mVar 2) (mVar 3))))))))
def m_c0_init_ (c : Cfg) : List D → S → Res D := runBody 3 4 (U.b_c0_init_ c)
def b_c0_top (c : Cfg) : Pm.Env → S → Res Fl := (sRet (mFld 0 0 (mVar 0)))
def m_c0_top (c : Cfg) : List D → S → Res D := runBody 1 1 (U.b_c0_top c)
def b_c0_bottom (c : Cfg) : Pm.Env → S → Res Fl := (sRet (mFld 0 1 (mVar 0)))
def m_c0_bottom (c : Cfg) : List D → S → Res D := runBody 1 1 (U.b_c0_bottom c)
def b_c0_sign (c : Cfg) : Pm.Env → S → Res Fl := (sSeq (sIf (mB (m2 (eqP false) (mFld 0 0 (mVar 0)) (mC (.int 0)))) (sRet (mC (.int 0))) sNext)
  (sRet (mIf (mB (m2 gtI (mFld 0 0 (mVar 0)) (mC (.int 0)))) (mC (.int 1)) (m1 negI (mC (.int 1))))))
def m_c0_sign (c : Cfg) : List D → S → Res D := runBody 1 1 (U.b_c0_sign c)
def b_parts_of (c : Cfg) : Pm.Env → S → Res Fl := (sSeq (sIf (mBt (mCall (bIs c.k) (aCons (mVar 0) (aCons (mC (.cls 0)) aNil)))) (sRet (mTup (aCons (mProp 0 (U.m_c0_top c) (mVar 0)) (aCons (mProp 0 (U.m_c0_bottom c) (mVar 0)) aNil)))) sNext)
  (sSeq (sIf (mBt (mCallD (n := 1) [] (U.m_is_integer c) (aCons (mVar 0) aNil))) (sRet (mTup (aCons (mVar 0) (aCons (mC (.int 1)) aNil)))) sNext)
  sStuck))
def m_parts_of (c : Cfg) : List D → S → Res D := runBody 1 1 (U.b_parts_of c)
def b_c0_add_ (c : Cfg) : Pm.Env → S → Res Fl := (sSeq (sAsg (mCallD (n := 1) [] (U.m_parts_of c) (aCons (mVar 1) aNil)) (taTup 2 (taCons (aN (tName 2)) (taCons (aN (tName 3)) taNil))))
  (sRet (mMake 0 2 3 [] (U.m_c0_init_ c) (aCons (m2 addAll (m2 mulD (mFld 0 0 (mVar 0)) (mVar 3)) (m2 mulD (mVar 2) (mFld 0 1 (mVar 0)))) (aCons (m2 mulD (mFld 0 1 (mVar 0)) (mVar 3)) aNil)))))
def m_c0_add_ (c : Cfg) : List D → S → Res D := runBody 2 4 (U.b_c0_add_ c)
def b_c0_radd_ (c : Cfg) : Pm.Env → S → Res Fl := (sRet (m2 (opOwn 0 (U.m_c0_add_ c) fun _ _ => .stuck) (mVar 0) (mVar 1)))
def m_c0_radd_ (c : Cfg) : List D → S → Res D := runBody 2 2 (U.b_c0_radd_ c)
def b_c0_sub_ (c : Cfg) : Pm.Env → S → Res Fl := (sSeq (sAsg (mCallD (n := 1) [] (U.m_parts_of c) (aCons (mVar 1) aNil)) (taTup 2 (taCons (aN (tName 2)) (taCons (aN (tName 3)) taNil))))
  (sRet (mMake 0 2 3 [] (U.m_c0_init_ c) (aCons (m2 subI (m2 mulD (mFld 0 0 (mVar 0)) (mVar 3)) (m2 mulD (mVar 2) (mFld 0 1 (mVar 0)))) (aCons (m2 mulD (mFld 0 1 (mVar 0)) (mVar 3)) aNil)))))
def m_c0_sub_ (c : Cfg) : List D → S → Res D := runBody 2 4 (U.b_c0_sub_ c)
def b_c0_neg_ (c : Cfg) : Pm.Env → S → Res Fl := (sRet (mMake 0 2 3 [] (U.m_c0_init_ c) (aCons (m1 negI (mFld 0 0 (mVar 0))) (aCons (mFld 0 1 (mVar 0)) aNil))))
def m_c0_neg_ (c : Cfg) : List D → S → Res D := runBody 1 1 (U.b_c0_neg_ c)
def b_c0_rsub_ (c : Cfg) : Pm.Env → S → Res Fl := (sRet (m2 (opOwn 0 (U.m_c0_add_ c) fun _ _ => .stuck) (m1 (fun x s => match x with | .ins k fs => if k = 0 then (U.m_c0_neg_ c) [.ins k fs] s else .stuck | _ => .stuck) (mVar 0)) (mVar 1)))
def m_c0_rsub_ (c : Cfg) : List D → S → Res D := runBody 2 2 (U.b_c0_rsub_ c)
def b_c0_mul_ (c : Cfg) : Pm.Env → S → Res Fl := (sSeq (sAsg (mCallD (n := 1) [] (U.m_parts_of c) (aCons (mVar 1) aNil)) (taTup 2 (taCons (aN (tName 2)) (taCons (aN (tName 3)) taNil))))
  (sRet (mMake 0 2 3 [] (U.m_c0_init_ c) (aCons (m2 mulD (mFld 0 0 (mVar 0)) (mVar 2)) (aCons (m2 mulD (mFld 0 1 (mVar 0)) (mVar 3)) aNil)))))
def m_c0_mul_ (c : Cfg) : List D → S → Res D := runBody 2 4 (U.b_c0_mul_ c)
def b_c0_rmul_ (c : Cfg) : Pm.Env → S → Res Fl := (sRet (m2 (opOwn 0 (U.m_c0_mul_ c) fun _ _ => .stuck) (mVar 0) (mVar 1)))
def m_c0_rmul_ (c : Cfg) : List D → S → Res D := runBody 2 2 (U.b_c0_rmul_ c)
def b_c0_eq_ (c : Cfg) : Pm.Env → S → Res Fl := (sRet (mAnd (mCall (bIs c.k) (aCons (mVar 1) (aCons (mC (.cls 0)) aNil))) (mAnd (m2 (eqP false) (mFld 0 0 (mVar 0)) (mFld 0 0 (mVar 1))) (m2 (eqP false) (mFld 0 1 (mVar 0)) (mFld 0 1 (mVar 1))))))
def m_c0_eq_ (c : Cfg) : List D → S → Res D := runBody 2 2 (U.b_c0_eq_ c)
def b_c0_str_ (c : Cfg) : Pm.Env → S → Res Fl := (sSeq (sIf (mB (m2 (eqP false) (mFld 0 1 (mVar 0)) (mC (.int 1)))) (sRet (mCall bStrI (aCons (mFld 0 0 (mVar 0)) aNil))) sNext)
  (sRet (mJoin [(mFmt (mFld 0 0 (mVar 0))), (mC (.str "/")), (mFmt (mFld 0 1 (mVar 0)))])))
def b_c0_repr_ (c : Cfg) : Pm.Env → S → Res Fl := (sRet (mJoin [(mC (.str "Ratio(")), (mFmt (mFld 0 0 (mVar 0))), (mC (.str ", ")), (mFmt (mFld 0 1 (mVar 0))), (mC (.str ")"))]))
def m_c0_repr_ (c : Cfg) : List D → S → Res D := runBody 1 1 (U.b_c0_repr_ c)
def pAdd (c : Cfg) : D → D → S → Res D := fun x y s => (addAll x y s).or (opOwn 0 (U.m_c0_add_ c) (U.m_c0_radd_ c) x y s)
def pSub (c : Cfg) : D → D → S → Res D := fun x y s => (subI x y s).or (opOwn 0 (U.m_c0_sub_ c) (U.m_c0_rsub_ c) x y s)
def pMul (c : Cfg) : D → D → S → Res D := fun x y s => (mulD x y s).or (opOwn 0 (U.m_c0_mul_ c) (U.m_c0_rmul_ c) x y s)
def pNeg (c : Cfg) : D → S → Res D := fun x s => (negI x s).or (match x with
  | .ins k fs => if k = 0 then (U.m_c0_neg_ c) [.ins k fs] s else .stuck
  | _ => .stuck)
def pEq (c : Cfg) : D → D → S → Res D := fun x y s => ((eqP false x y s).or (eqOwn 0 (U.m_c0_eq_ c) x y s)).or ((eqI false x y s).or (eqT 0 (U.m_c0_eq_ c) false x y s))
def pNe (c : Cfg) : D → D → S → Res D := fun x y s => ((eqP true x y s).or (neOwn 0 (U.m_c0_eq_ c) x y s)).or ((eqI true x y s).or (eqT 0 (U.m_c0_eq_ c) true x y s))
def pNi (c : Cfg) : D → D → S → Res D := fun x y s => (inAll true x y s).or (niT 0 (U.m_c0_eq_ c) x y s)
def pRepr (c : Cfg) : List D → S → Res D := fun x s => (bReprN 0 (U.m_c0_repr_ c) x s).or (bReprS x s)
def b_is_list (c : Cfg) : Pm.Env → S → Res Fl := (sRet (mCall (bIs c.k) (aCons (mVar 0) (aCons (mTup (aCons (mC (.ty .list)) (aCons (mC (.ty .tuple)) aNil))) aNil))))
def m_is_list (c : Cfg) : List D → S → Res D := runBody 1 1 (U.b_is_list c)
def b_c0_total (c : Cfg) : Pm.Env → S → Res Fl := (sSeq (sIf (mNotT (mBt (mCallD (n := 1) [] (U.m_is_list c) (aCons (mVar 1) aNil)))) sStuck sNext)
  (sSeq (sSet 2 (mMakeL 0 0 2 3 [.int (1)] (U.m_c0_init_ c) (aCons (mC (.int 0)) aNil)))
  (sSeq (sFor (iLT (mVar 1)) (tName 3) (sSet 2 (m2 (U.pAdd c) (mVar 2) (mVar 3))))
  (sRet (mVar 2)))))
def m_c0_total (c : Cfg) : List D → S → Res D := runBody 2 4 (U.b_c0_total c)
def b_is_number (c : Cfg) : Pm.Env → S → Res Fl := (sRet (mOr (mCallD (n := 1) [] (U.m_is_integer c) (aCons (mVar 0) aNil)) (mCall (bIs c.k) (aCons (mVar 0) (aCons (mC (.cls 0)) aNil)))))
def m_is_number (c : Cfg) : List D → S → Res D := runBody 1 1 (U.b_is_number c)
def b_product_sum (c : Cfg) : Pm.Env → S → Res Fl := (sRet (mCm 0 2 (U.m_c0_total c) (mC (.cls 0)) (aCons (mCompF finL [2, 3] (iZipA (aCons (mVar 0) (aCons (mVar 1) aNil))) (tSeq 2 (tCons (tName 2) (tCons (tName 3) tNil))) mYes (m2 (U.pMul c) (mVar 2) (mVar 3))) aNil)))
def m_product_sum (c : Cfg) : List D → S → Res D := runBody 2 4 (U.b_product_sum c)
def b_without_common_part (c : Cfg) : Pm.Env → S → Res Fl := (sSeq (sSet 1 (mC (.int 0)))
  (sSeq (sFor (iLT (mVar 0)) (tName 2) (sSet 1 (mCall (bInt2 (fun _ _ => true) fun i j => .int (gcdI i j)) (aCons (mVar 1) (aCons (mVar 2) aNil)))))
  (sSeq (sIf (mB (m2 ltA (mVar 1) (mC (.int 2)))) (sRet (mCall bList (aCons (mVar 0) aNil))) sNext)
  (sRet (mCompF finL [2] (iLT (mVar 0)) (tName 2) mYes (m2 divI (mVar 2) (mVar 1)))))))
def m_without_common_part (c : Cfg) : List D → S → Res D := runBody 1 3 (U.b_without_common_part c)
def b_whole (c : Cfg) : Pm.Env → S → Res Fl := (sSeq (sSet 1 (mCompF finL [5] (iLT (mVar 0)) (tName 5) mYes (mCallD (n := 1) [] (U.m_parts_of c) (aCons (mVar 5) aNil))))
  (sSeq (sSet 2 (mC (.int 1)))
  (sSeq (sFor (iLT (mVar 1)) (tSeq 2 (tCons (tName 3) (tCons (tName 4) tNil))) (sSet 2 (mCall bLcm (aCons (mVar 2) (aCons (mVar 4) aNil)))))
  (sRet (mCallD (n := 1) [] (U.m_without_common_part c) (aCons (mCompF finL [6, 4] (iLT (mVar 1)) (tSeq 2 (tCons (tName 6) (tCons (tName 4) tNil))) mYes (m2 (U.pMul c) (mVar 6) (m2 divI (mVar 2) (mVar 4)))) aNil))))))
def m_whole (c : Cfg) : List D → S → Res D := runBody 1 7 (U.b_whole c)
def b_head_place (c : Cfg) : Pm.Env → S → Res Fl := (sRet (m2 ixDD (mCompF finL [1, 2] (iEnumM (aCons (mVar 0) aNil)) (tSeq 2 (tCons (tName 1) (tCons (tName 2) tNil))) (mB (m2 (U.pNe c) (mVar 2) (mC (.int 0)))) (mVar 1)) (mC (.int 0))))
def m_head_place (c : Cfg) : List D → S → Res D := runBody 1 3 (U.b_head_place c)
def b_over_head (c : Cfg) : Pm.Env → S → Res Fl := (sSeq (sSet 1 (m2 ixDD (mVar 0) (mCallD (n := 1) [] (U.m_head_place c) (aCons (mVar 0) aNil))))
  (sRet (mCompF finL [2] (iLT (mVar 0)) (tName 2) mYes (mMake 0 2 3 [] (U.m_c0_init_ c) (aCons (mVar 2) (aCons (mVar 1) aNil))))))
def m_over_head (c : Cfg) : List D → S → Res D := runBody 1 3 (U.b_over_head c)
def b_cleared (c : Cfg) : Pm.Env → S → Res Fl := (sRet (mCallD (n := 1) [] (U.m_without_common_part c) (aCons (mCompF finL [3, 4] (iZipA (aCons (mVar 0) (aCons (mVar 1) aNil))) (tSeq 2 (tCons (tName 3) (tCons (tName 4) tNil))) mYes (m2 (U.pSub c) (m2 (U.pMul c) (m2 ixDD (mVar 1) (mVar 2)) (mVar 3)) (m2 (U.pMul c) (m2 ixDD (mVar 0) (mVar 2)) (mVar 4)))) aNil)))
def m_cleared (c : Cfg) : List D → S → Res D := runBody 3 5 (U.b_cleared c)
def b_in_steps (c : Cfg) : Pm.Env → S → Res Fl := (sSeq (sSet 1 (mLst aNil))
  (sSeq (sSet 2 (mCompF finL [8] (iLT (mVar 0)) (tName 8) mYes (mCallD (n := 1) [] (U.m_whole c) (aCons (mVar 8) aNil))))
  (sSeq (sSet 3 (mIf (mBt (mVar 2)) (mCall bLenA (aCons (m2 ixDD (mVar 2) (mC (.int 0))) aNil)) (mC (.int 0))))
  (sSeq (sFor (iR1 (aCons (mVar 3) aNil)) (tName 4) (sSeq (sSet 5 (mCompF finL [8] (iLT (mVar 2)) (tName 8) (mB (m2 (U.pNe c) (m2 ixDD (mVar 8) (mVar 4)) (mC (.int 0)))) (mVar 8)))
  (sIf (mBt (mVar 5)) (sSeq (sSet 6 (m2 ixDD (mVar 5) (mC (.int 0))))
  (sSeq (sSet 7 (m2 (U.pAdd c) (mSlice (mVar 5) (oS (mC (.int 1))) oN) (mCompF finL [8] (iLT (mVar 2)) (tName 8) (mB (m2 (U.pEq c) (m2 ixDD (mVar 8) (mVar 4)) (mC (.int 0)))) (mVar 8))))
  (sSeq (sSet 2 (mCompF finL [8] (iLT (mVar 7)) (tName 8) mYes (mCallD (n := 3) [] (U.m_cleared c) (aCons (mVar 8) (aCons (mVar 6) (aCons (mVar 4) aNil))))))
  (sSet 1 (m2 (U.pAdd c) (mCompF finL [8] (iLT (mVar 1)) (tName 8) mYes (mCallD (n := 3) [] (U.m_cleared c) (aCons (mVar 8) (aCons (mVar 6) (aCons (mVar 4) aNil))))) (mLst (aCons (mVar 6) aNil))))))) sNext)))
  (sRet (mVar 1))))))
def m_in_steps (c : Cfg) : List D → S → Res D := runBody 1 9 (U.b_in_steps c)
def b_unit (c : Cfg) : Pm.Env → S → Res Fl := (sRet (mCompF finL [2] (iR1 (aCons (mVar 1) aNil)) (tName 2) mYes (mIf (mB (m2 (U.pEq c) (mVar 2) (mVar 0))) (mC (.int 1)) (mC (.int 0)))))
def m_unit (c : Cfg) : List D → S → Res D := runBody 2 3 (U.b_unit c)
def b_relations (c : Cfg) : Pm.Env → S → Res Fl := (sSeq (sSet 1 (mCall bLenA (aCons (m2 ixDD (mVar 0) (mC (.int 0))) aNil)))
  (sSeq (sSet 2 (mCompF finL [3, 4] (iEnumM (aCons (mVar 0) aNil)) (tSeq 2 (tCons (tName 3) (tCons (tName 4) tNil))) mYes (m2 (U.pAdd c) (mCall bList (aCons (mVar 4) aNil)) (mCallD (n := 2) [] (U.m_unit c) (aCons (mVar 3) (aCons (mCall bLenA (aCons (mVar 0) aNil)) aNil))))))
  (sRet (mCompF finL [4] (iLT (mCallD (n := 1) [] (U.m_in_steps c) (aCons (mVar 2) aNil))) (tName 4) (mB (m2 geI (mCallD (n := 1) [] (U.m_head_place c) (aCons (mVar 4) aNil)) (mVar 1))) (mSlice (mVar 4) (oS (mVar 1)) oN)))))
def m_relations (c : Cfg) : List D → S → Res D := runBody 1 5 (U.b_relations c)
def b_is_numbers (c : Cfg) : Pm.Env → S → Res Fl := (sRet (mAnd (mCallD (n := 1) [] (U.m_is_list c) (aCons (mVar 0) aNil)) (mAnd (m2 (U.pEq c) (mCall bLenA (aCons (mVar 0) aNil)) (mVar 1)) (mCall (bBools fun bs => bs.all id) (aCons (mCompF finL [2] (iLT (mVar 0)) (tName 2) mYes (mCallD (n := 1) [] (U.m_is_number c) (aCons (mVar 2) aNil))) aNil)))))
def m_is_numbers (c : Cfg) : List D → S → Res D := runBody 2 3 (U.b_is_numbers c)
def b_is_table (c : Cfg) : Pm.Env → S → Res Fl := (sSeq (sIf (mOrT (mNotT (mBt (mCallD (n := 1) [] (U.m_is_list c) (aCons (mVar 0) aNil)))) (mNotT (mB (mChain leI leI (mVar 1) (mCall bLenA (aCons (mVar 0) aNil)) (mVar 2))))) (sRet (mC (.bl false))) sNext)
  (sSeq (sIf (mOrT (mNotT (mBt (mCallD (n := 1) [] (U.m_is_list c) (aCons (m2 ixDD (mVar 0) (mC (.int 0))) aNil)))) (mNotT (mB (mChain leI leI (mC (.int 1)) (mCall bLenA (aCons (m2 ixDD (mVar 0) (mC (.int 0))) aNil)) (mVar 3))))) (sRet (mC (.bl false))) sNext)
  (sSeq (sSet 4 (mCall bLenA (aCons (m2 ixDD (mVar 0) (mC (.int 0))) aNil)))
  (sRet (mCall (bBools fun bs => bs.all id) (aCons (mCompF finL [5] (iLT (mVar 0)) (tName 5) mYes (mCallD (n := 2) [] (U.m_is_numbers c) (aCons (mVar 5) (aCons (mVar 4) aNil)))) aNil))))))
def m_is_table (c : Cfg) : List D → S → Res D := runBody 4 6 (U.b_is_table c)
def b_columns_of (c : Cfg) : Pm.Env → S → Res Fl := (sRet (mCompF finL [2] (iR1 (aCons (mVar 1) aNil)) (tName 2) mYes (mCompF finL [3] (iLT (mVar 0)) (tName 3) mYes (m2 ixDD (mVar 3) (mVar 2)))))
def m_columns_of (c : Cfg) : List D → S → Res D := runBody 2 4 (U.b_columns_of c)
def b_is_points (c : Cfg) : Pm.Env → S → Res Fl := (sRet (mCallD (n := 4) [] (U.m_is_table c) (aCons (mVar 0) (aCons (mC (.int 2)) (aCons (mC (.int 9)) (aCons (mC (.int 8)) aNil))))))
def m_is_points (c : Cfg) : List D → S → Res D := runBody 1 1 (U.b_is_points c)
def b_check_points (c : Cfg) : Pm.Env → S → Res Fl := (sIf (mNotT (mBt (mCallD (n := 1) [] (U.m_is_points c) (aCons (mVar 0) aNil)))) sStuck sNext)
def m_check_points (c : Cfg) : List D → S → Res D := runBody 1 1 (U.b_check_points c)
def b_with_ones (c : Cfg) : Pm.Env → S → Res Fl := (sRet (mCompF finL [1] (iLT (mVar 0)) (tName 1) mYes (mLst (aStar (mVar 1) (aCons (mC (.int 1)) aNil)))))
def m_with_ones (c : Cfg) : List D → S → Res D := runBody 1 2 (U.b_with_ones c)
def b_whole_sums (c : Cfg) : Pm.Env → S → Res Fl := (sRet (mCallD (n := 1) [] (U.m_relations c) (aCons (mCallD (n := 1) [] (U.m_with_ones c) (aCons (mVar 0) aNil)) aNil)))
def m_whole_sums (c : Cfg) : List D → S → Res D := runBody 1 1 (U.b_whole_sums c)
def b_size (c : Cfg) : Pm.Env → S → Res Fl := (sSeq (sExpr (mCallD (n := 1) [] (U.m_check_points c) (aCons (mVar 0) aNil)))
  (sRet (m2 (U.pSub c) (mCall bLenA (aCons (mCallD (n := 1) [] (U.m_in_steps c) (aCons (mCallD (n := 1) [] (U.m_with_ones c) (aCons (mVar 0) aNil)) aNil)) aNil)) (mC (.int 1)))))
def m_size (c : Cfg) : List D → S → Res D := runBody 1 1 (U.b_size c)
def b_excess (c : Cfg) : Pm.Env → S → Res Fl := (sSeq (sExpr (mCallD (n := 1) [] (U.m_check_points c) (aCons (mVar 0) aNil)))
  (sRet (mCall bLenA (aCons (mCallD (n := 1) [] (U.m_whole_sums c) (aCons (mVar 0) aNil)) aNil))))
def m_excess (c : Cfg) : List D → S → Res D := runBody 1 1 (U.b_excess c)
def b_told_sums (c : Cfg) : Pm.Env → S → Res Fl := (sSeq (sExpr (mCallD (n := 1) [] (U.m_check_points c) (aCons (mVar 0) aNil)))
  (sRet (mCompF finL [1] (iLT (mCallD (n := 1) [] (U.m_whole_sums c) (aCons (mVar 0) aNil))) (tName 1) mYes (mCallD (n := 1) [] (U.m_over_head c) (aCons (mVar 1) aNil)))))
def m_told_sums (c : Cfg) : List D → S → Res D := runBody 1 2 (U.b_told_sums c)
def b_spokes (c : Cfg) : Pm.Env → S → Res Fl := (sRet (mCallD (n := 2) [] (U.m_columns_of c) (aCons (mCallD (n := 1) [] (U.m_told_sums c) (aCons (mVar 0) aNil)) (aCons (mCall bLenA (aCons (mVar 0) aNil)) aNil))))
def m_spokes (c : Cfg) : List D → S → Res D := runBody 1 1 (U.b_spokes c)
def b_is_sum (c : Cfg) : Pm.Env → S → Res Fl := (sSeq (sExpr (mCallD (n := 1) [] (U.m_check_points c) (aCons (mVar 0) aNil)))
  (sSeq (sIf (mNotT (mBt (mCallD (n := 2) [] (U.m_is_numbers c) (aCons (mVar 1) (aCons (mCall bLenA (aCons (mVar 0) aNil)) aNil))))) (sRet (mC (.bl false))) sNext)
  (sSeq (sSet 2 (mCallD (n := 1) [] (U.m_with_ones c) (aCons (mVar 0) aNil)))
  (sRet (mCall (bBools fun bs => bs.all id) (aCons (mCompF finL [3] (iLT (mCallD (n := 2) [] (U.m_columns_of c) (aCons (mVar 2) (aCons (mCall bLenA (aCons (m2 ixDD (mVar 2) (mC (.int 0))) aNil)) aNil)))) (tName 3) mYes (m2 (U.pEq c) (mProp 0 (U.m_c0_sign c) (mCallD (n := 2) [] (U.m_product_sum c) (aCons (mVar 1) (aCons (mVar 3) aNil)))) (mC (.int 0)))) aNil))))))
def m_is_sum (c : Cfg) : List D → S → Res D := runBody 2 4 (U.b_is_sum c)
def b_is_form (c : Cfg) : Pm.Env → S → Res Fl := (sSeq (sExpr (mCallD (n := 1) [] (U.m_check_points c) (aCons (mVar 0) aNil)))
  (sSeq (sIf (mOrT (mNotT (mBt (mCall (bIs c.k) (aCons (mVar 1) (aCons (mC (.ty .tuple)) aNil))))) (mB (m2 (U.pNe c) (mCall bLenA (aCons (mVar 1) aNil)) (mC (.int 2))))) (sRet (mC (.bl false))) sNext)
  (sRet (mAnd (mCallD (n := 2) [] (U.m_is_numbers c) (aCons (m2 ixDD (mVar 1) (mC (.int 0))) (aCons (mCall bLenA (aCons (m2 ixDD (mVar 0) (mC (.int 0))) aNil)) aNil))) (mCallD (n := 1) [] (U.m_is_number c) (aCons (m2 ixDD (mVar 1) (mC (.int 1))) aNil))))))
def m_is_form (c : Cfg) : List D → S → Res D := runBody 2 2 (U.b_is_form c)
def b_heights (c : Cfg) : Pm.Env → S → Res Fl := (sSeq (sIf (mNotT (mBt (mCallD (n := 2) [] (U.m_is_form c) (aCons (mVar 0) (aCons (mVar 1) aNil))))) sStuck sNext)
  (sSeq (sAsg (mVar 1) (taTup 2 (taCons (aN (tName 2)) (taCons (aN (tName 3)) taNil))))
  (sRet (mCompF finL [4] (iLT (mVar 0)) (tName 4) mYes (m2 (U.pAdd c) (mCallD (n := 2) [] (U.m_product_sum c) (aCons (mVar 2) (aCons (mVar 4) aNil))) (mVar 3))))))
def m_heights (c : Cfg) : List D → S → Res D := runBody 2 5 (U.b_heights c)
def b_law_pot (c : Cfg) : Pm.Env → S → Res Fl := (sSeq (sSet 2 (m2 (U.pAdd c) (m2 (U.pMul c) (mC (.int 167)) (mVar 1)) (mC (.int 89))))
  (sSeq (sIf (mB (m2 ltA (mVar 1) (mCall bLenA (aCons (mVar 0) aNil)))) (sSet 2 (mCall (bInt1 fun i => .int (absI i)) (aCons (m2 ixDD (mVar 0) (mVar 1)) aNil))) sNext)
  (sRet (mCell (aCons (mCall (bInt2 (fun _ _ => true) fun i j => .int (maxI i j)) (aCons (mC (.int 0)) (aCons (m2 (U.pSub c) (mVar 2) (m2 powI (mC (.int 10)) (mC (.int 18)))) aNil))) (aCons (m2 (U.pAdd c) (m2 modI (m2 (U.pMul c) (mCall (bInt1 fun i => .int i) (aCons (m2 (U.pAdd c) (m2 modI (mCall (bInt1 fun i => .int i) (aCons (mVar 2) aNil)) (mC (.int 2147483549))) (mC (.int 89))) aNil)) (m2 powI (m2 (U.pAdd c) (m2 (U.pMul c) (mC (.int 2)) (mVar 1)) (mC (.int 3))) (mC (.int 3)))) (mC (.int 2147483477))) (mC (.int 1))) aNil))))))
def m_law_pot (c : Cfg) : List D → S → Res D := runBody 2 3 (U.b_law_pot c)
def b_law_pick (c : Cfg) : Pm.Env → S → Res Fl := (sRet (m2 ixDD (mVar 1) (mCallD (n := 2) [] c.dr (aCons (mVar 0) (aCons (mCall bLenA (aCons (mVar 1) aNil)) aNil)))))
def m_law_pick (c : Cfg) : List D → S → Res D := runBody 2 2 (U.b_law_pick c)
def b_law_low (c : Cfg) : Pm.Env → S → Res Fl := (sSeq (sPar 2 3 (aCons (mCall (bInt1 fun i => .int (absI i)) (aCons (mVar 0) aNil)) (aCons (mCall (bInt1 fun i => .int (absI i)) (aCons (mVar 1) aNil)) aNil)))
  (sSeq (whileL (mB (m2 gtI (mVar 3) (mC (.int 0)))) (sPar 2 3 (aCons (mVar 3) (aCons (m2 modI (mCall (bInt1 fun i => .int i) (aCons (mVar 2) aNil)) (mVar 3)) aNil))) 100000)
  (sSeq (sSet 2 (mIf (mB (m2 gtI (mVar 1) (mC (.int 0)))) (mVar 2) (m2 (U.pSub c) (mC (.int 0)) (mVar 2))))
  (sRet (mTup (aCons (m2 divI (mVar 0) (mVar 2)) (aCons (m2 divI (mVar 1) (mVar 2)) aNil)))))))
def m_law_low (c : Cfg) : List D → S → Res D := runBody 2 4 (U.b_law_low c)
def b_law_sum (c : Cfg) : Pm.Env → S → Res Fl := (sRet (mCallD (n := 2) [] (U.m_law_low c) (aCons (m2 (U.pAdd c) (m2 (U.pMul c) (m2 ixDD (mVar 0) (mC (.int 0))) (m2 ixDD (mVar 1) (mC (.int 1)))) (m2 (U.pMul c) (m2 ixDD (mVar 1) (mC (.int 0))) (m2 ixDD (mVar 0) (mC (.int 1))))) (aCons (m2 (U.pMul c) (m2 ixDD (mVar 0) (mC (.int 1))) (m2 ixDD (mVar 1) (mC (.int 1)))) aNil))))
def m_law_sum (c : Cfg) : List D → S → Res D := runBody 2 2 (U.b_law_sum c)
def b_law_by (c : Cfg) : Pm.Env → S → Res Fl := (sRet (mCallD (n := 2) [] (U.m_law_low c) (aCons (m2 (U.pMul c) (m2 ixDD (mVar 0) (mC (.int 0))) (m2 ixDD (mVar 1) (mC (.int 0)))) (aCons (m2 (U.pMul c) (m2 ixDD (mVar 0) (mC (.int 1))) (m2 ixDD (mVar 1) (mC (.int 1)))) aNil))))
def m_law_by (c : Cfg) : List D → S → Res D := runBody 2 2 (U.b_law_by c)
def b_law_total (c : Cfg) : Pm.Env → S → Res Fl := (sSeq (sSet 1 (mTup (aCons (mC (.int 0)) (aCons (mC (.int 1)) aNil))))
  (sSeq (sFor (iLst (mVar 0)) (tName 2) (sSet 1 (mCallD (n := 2) [] (U.m_law_sum c) (aCons (mVar 1) (aCons (mVar 2) aNil)))))
  (sRet (mVar 1))))
def m_law_total (c : Cfg) : List D → S → Res D := runBody 1 3 (U.b_law_total c)
def b_law_dot (c : Cfg) : Pm.Env → S → Res Fl := (sRet (mCallD (n := 1) [] (U.m_law_total c) (aCons (mCompF finL [2, 3] (iZipA (aCons (mVar 0) (aCons (mVar 1) aNil))) (tSeq 2 (tCons (tName 2) (tCons (tName 3) tNil))) mYes (mCallD (n := 2) [] (U.m_law_by c) (aCons (mVar 2) (aCons (mVar 3) aNil)))) aNil)))
def m_law_dot (c : Cfg) : List D → S → Res D := runBody 2 4 (U.b_law_dot c)
def b_law_passed (c : Cfg) : Pm.Env → S → Res Fl := (sSeq (sSet 2 (mAnd (m2 (U.pEq c) (m2 ixDD (mVar 1) (mC (.int 1))) (mC (.int 1))) (m2 ltA (mCall (bInt1 fun i => .int (absI i)) (aCons (m2 ixDD (mVar 1) (mC (.int 0))) aNil)) (m2 powI (mC (.int 10)) (mC (.int 6))))))
  (sRet (mIf (mAndT (mBt (mVar 2)) (mB (m2 (U.pEq c) (mCallD (n := 2) [] c.dr (aCons (mVar 0) (aCons (mC (.int 2)) aNil))) (mC (.int 0))))) (m2 ixDD (mVar 1) (mC (.int 0))) (mMake 0 2 3 [] (U.m_c0_init_ c) (aCons (m2 ixDD (mVar 1) (mC (.int 0))) (aCons (m2 ixDD (mVar 1) (mC (.int 1))) aNil))))))
def m_law_passed (c : Cfg) : List D → S → Res D := runBody 2 3 (U.b_law_passed c)
def b_law_given_row (c : Cfg) : Pm.Env → S → Res Fl := (sSeq (sSet 2 (mCompF finL [3] (iLst (mVar 1)) (tName 3) mYes (mCallD (n := 2) [] (U.m_law_passed c) (aCons (mVar 0) (aCons (mVar 3) aNil)))))
  (sRet (mIf (mB (m2 (U.pEq c) (mCallD (n := 2) [] c.dr (aCons (mVar 0) (aCons (mC (.int 3)) aNil))) (mC (.int 0)))) (mCall bTuple (aCons (mVar 2) aNil)) (mVar 2))))
def m_law_given_row (c : Cfg) : List D → S → Res D := runBody 2 4 (U.b_law_given_row c)
def b_law_given (c : Cfg) : Pm.Env → S → Res Fl := (sSeq (sSet 2 (mCompF finL [3] (iLst (mVar 1)) (tName 3) mYes (mCallD (n := 2) [] (U.m_law_given_row c) (aCons (mVar 0) (aCons (mVar 3) aNil)))))
  (sRet (mIf (mB (m2 (U.pEq c) (mCallD (n := 2) [] c.dr (aCons (mVar 0) (aCons (mC (.int 3)) aNil))) (mC (.int 0)))) (mCall bTuple (aCons (mVar 2) aNil)) (mVar 2))))
def m_law_given (c : Cfg) : List D → S → Res D := runBody 2 4 (U.b_law_given c)
def b_law_entry (c : Cfg) : Pm.Env → S → Res Fl := (sRet (mCallD (n := 2) [] (U.m_law_pick c) (aCons (mVar 0) (aCons (mLst (aCons (mTup (aCons (mC (.int 0)) (aCons (mC (.int 1)) aNil))) (aCons (mTup (aCons (mC (.int 0)) (aCons (mC (.int 1)) aNil))) (aCons (mTup (aCons (mC (.int 1)) (aCons (mC (.int 1)) aNil))) (aCons (mTup (aCons (m1 (U.pNeg c) (mC (.int 1))) (aCons (mC (.int 1)) aNil))) (aCons (mTup (aCons (mC (.int 2)) (aCons (mC (.int 1)) aNil))) (aCons (mTup (aCons (mC (.int 3)) (aCons (mC (.int 1)) aNil))) (aCons (mTup (aCons (m1 (U.pNeg c) (mC (.int 4))) (aCons (mC (.int 1)) aNil))) (aCons (mTup (aCons (mC (.int 1)) (aCons (mC (.int 2)) aNil))) (aCons (mTup (aCons (m1 (U.pNeg c) (mC (.int 5))) (aCons (mC (.int 3)) aNil))) (aCons (mTup (aCons (mC (.int 7)) (aCons (mC (.int 1)) aNil))) aNil))))))))))) aNil))))
def m_law_entry (c : Cfg) : List D → S → Res D := runBody 1 1 (U.b_law_entry c)
def b_law_points (c : Cfg) : Pm.Env → S → Res Fl := (sSeq (sAsg (mTup (aCons (m2 (U.pAdd c) (mC (.int 2)) (mCallD (n := 2) [] c.dr (aCons (mVar 0) (aCons (m2 (U.pSub c) (mVar 1) (mC (.int 1))) aNil)))) (aCons (m2 (U.pAdd c) (mC (.int 1)) (mCallD (n := 2) [] c.dr (aCons (mVar 0) (aCons (mVar 2) aNil)))) aNil))) (taTup 2 (taCons (aN (tName 3)) (taCons (aN (tName 4)) taNil))))
  (sSeq (sSet 5 (mCompF finC [8] (iR1 (aCons (mVar 3) aNil)) (tName 8) mYes (mCompF finL [11] (iR1 (aCons (mVar 4) aNil)) (tName 11) mYes (mCallD (n := 1) [] (U.m_law_entry c) (aCons (mVar 0) aNil)))))
  (sSeq (sIf (mAndT (mB (m2 gtI (mVar 3) (mC (.int 2)))) (mB (m2 (U.pEq c) (mCallD (n := 2) [] c.dr (aCons (mVar 0) (aCons (mC (.int 3)) aNil))) (mC (.int 0))))) (sSeq (sPar 6 7 (aCons (mCallD (n := 2) [] (U.m_law_pick c) (aCons (mVar 0) (aCons (mSlice (mVar 5) oN (oS (m1 (U.pNeg c) (mC (.int 1))))) aNil))) (aCons (mCallD (n := 2) [] (U.m_law_pick c) (aCons (mVar 0) (aCons (mSlice (mVar 5) oN (oS (m1 (U.pNeg c) (mC (.int 1))))) aNil))) aNil)))
  (sAsg (mCompF finL [9, 10] (iZipA (aCons (mVar 6) (aCons (mVar 7) aNil))) (tSeq 2 (tCons (tName 9) (tCons (tName 10) tNil))) mYes (mCallD (n := 2) [] (U.m_law_by c) (aCons (mCallD (n := 2) [] (U.m_law_sum c) (aCons (mVar 9) (aCons (mVar 10) aNil))) (aCons (mTup (aCons (mC (.int 1)) (aCons (mC (.int 2)) aNil))) aNil)))) (taSub (mVar 5) (m1 (U.pNeg c) (mC (.int 1)))))) sNext)
  (sSeq (sFrz 5 (sIf (mB (m2 (U.pEq c) (mCallD (n := 2) [] c.dr (aCons (mVar 0) (aCons (mC (.int 6)) aNil))) (mC (.int 0)))) (sAsg (mCall bList (aCons (m2 ixDD (mVar 5) (m1 (U.pNeg c) (mC (.int 1)))) aNil)) (taSub (mVar 5) (mC (.int 0)))) sNext))
  (sRet (mVar 5))))))
def m_law_points (c : Cfg) : List D → S → Res D := fun ds s => cutRes s.length (runBody 3 12 (U.b_law_points c) ds s)
def b_law_letters (c : Cfg) : Pm.Env → S → Res Fl := (sSeq (sSet 2 (mCompF finC [7] (iR1 (aCons (mVar 1) aNil)) (tName 7) mYes (mCompF finL [8] (iR1 (aCons (mVar 1) aNil)) (tName 8) mYes (mTup (aCons (mCall bIntA (aCons (m2 (U.pEq c) (mVar 7) (mVar 8)) aNil)) (aCons (mC (.int 1)) aNil))))))
  (sSeq (sFrz 2 (sFor (iR1 (aCons (mIf (mB (m2 gtI (mVar 1) (mC (.int 1)))) (mC (.int 3)) (mC (.int 0))) aNil)) (tName 3) (sSeq (sAsg (mTup (aCons (mCallD (n := 2) [] c.dr (aCons (mVar 0) (aCons (mVar 1) aNil))) (aCons (mCallD (n := 2) [] c.dr (aCons (mVar 0) (aCons (mVar 1) aNil))) (aCons (mTup (aCons (mCallD (n := 2) [] (U.m_law_pick c) (aCons (mVar 0) (aCons (mLst (aCons (mC (.int 1)) (aCons (m1 (U.pNeg c) (mC (.int 1))) (aCons (mC (.int 2)) aNil)))) aNil))) (aCons (mC (.int 1)) aNil))) aNil)))) (taTup 3 (taCons (aN (tName 4)) (taCons (aN (tName 5)) (taCons (aN (tName 6)) taNil)))))
  (sIf (mB (m2 (U.pNe c) (mVar 4) (mVar 5))) (sAsg (mCompF finL [7, 8] (iZipA (aCons (m2 ixDD (mVar 2) (mVar 4)) (aCons (m2 ixDD (mVar 2) (mVar 5)) aNil))) (tSeq 2 (tCons (tName 7) (tCons (tName 8) tNil))) mYes (mCallD (n := 2) [] (U.m_law_sum c) (aCons (mVar 7) (aCons (mCallD (n := 2) [] (U.m_law_by c) (aCons (mVar 6) (aCons (mVar 8) aNil))) aNil)))) (taSub (mVar 2) (mVar 4))) sNext))))
  (sRet (mVar 2))))
def m_law_letters (c : Cfg) : List D → S → Res D := fun ds s => cutRes s.length (runBody 2 9 (U.b_law_letters c) ds s)
def b_law_led (c : Cfg) : Pm.Env → S → Res Fl := (sSeq (sSet 2 (m2 (U.pMul c) (mLst (aCons (mTup (aCons (mC (.int 0)) (aCons (mC (.int 1)) aNil))) aNil)) (mCall bLenA (aCons (m2 ixDD (mVar 1) (mC (.int 0))) aNil))))
  (sSeq (sFor (iZipA (aCons (mVar 0) (aCons (mVar 1) aNil))) (tSeq 2 (tCons (tName 3) (tCons (tName 4) tNil))) (sSet 2 (mCompF finL [5, 6] (iZipA (aCons (mVar 2) (aCons (mVar 4) aNil))) (tSeq 2 (tCons (tName 5) (tCons (tName 6) tNil))) mYes (mCallD (n := 2) [] (U.m_law_sum c) (aCons (mVar 5) (aCons (mCallD (n := 2) [] (U.m_law_by c) (aCons (mVar 3) (aCons (mVar 6) aNil))) aNil))))))
  (sRet (mVar 2))))
def m_law_led (c : Cfg) : List D → S → Res D := runBody 2 7 (U.b_law_led c)
def b_law_letters_right (c : Cfg) : Pm.Env → S → Res Fl := (sSeq (sAsg (mTup (aCons (mCallD (n := 2) [] (U.m_law_letters c) (aCons (mVar 0) (aCons (mCall bLenA (aCons (m2 ixDD (mVar 1) (mC (.int 0))) aNil)) aNil))) (aCons (mCallD (n := 2) [] (U.m_law_given c) (aCons (mVar 0) (aCons (mVar 1) aNil))) aNil))) (taTup 2 (taCons (aN (tName 2)) (taCons (aN (tName 3)) taNil))))
  (sSeq (sFor (iR1 (aCons (mCallD (n := 2) [] c.dr (aCons (mVar 0) (aCons (mC (.int 3)) aNil))) aNil)) (tName 4) (sSeq (sAsg (mTup (aCons (mCallD (n := 2) [] c.dr (aCons (mVar 0) (aCons (mCall bLenA (aCons (m2 ixDD (mVar 2) (mC (.int 0))) aNil)) aNil))) (aCons (mCallD (n := 1) [] (U.m_law_entry c) (aCons (mVar 0) aNil)) aNil))) (taTup 2 (taCons (aN (tName 5)) (taCons (aN (tName 6)) taNil))))
  (sSet 2 (mCompF finL [11] (iLst (mVar 2)) (tName 11) mYes (m2 (U.pAdd c) (mVar 11) (mLst (aCons (mCallD (n := 2) [] (U.m_law_by c) (aCons (mVar 6) (aCons (m2 ixDD (mVar 11) (mVar 5)) aNil))) aNil)))))))
  (sSeq (sSet 7 (mCallD (n := 2) [] (U.m_law_given c) (aCons (mVar 0) (aCons (mCompF finL [12] (iLst (mVar 1)) (tName 12) mYes (mCallD (n := 2) [] (U.m_law_led c) (aCons (mVar 12) (aCons (mVar 2) aNil)))) aNil))))
  (sSeq (sIf (mOrT (mB (m2 (U.pNe c) (mLst (aCons (mCallD (n := 1) [] (U.m_size c) (aCons (mVar 7) aNil)) (aCons (mCallD (n := 1) [] (U.m_excess c) (aCons (mVar 7) aNil)) aNil))) (mLst (aCons (mCallD (n := 1) [] (U.m_size c) (aCons (mVar 3) aNil)) (aCons (mCallD (n := 1) [] (U.m_excess c) (aCons (mVar 3) aNil)) aNil))))) (mB (m2 (U.pNe c) (mCallD (n := 1) [] (U.m_told_sums c) (aCons (mVar 7) aNil)) (mCallD (n := 1) [] (U.m_told_sums c) (aCons (mVar 3) aNil))))) (sRet (mC (.bl false))) sNext)
  (sSeq (sIf (mB (m2 (U.pNe c) (mCallD (n := 1) [] (U.m_spokes c) (aCons (mVar 7) aNil)) (mCallD (n := 1) [] (U.m_spokes c) (aCons (mVar 3) aNil)))) (sRet (mC (.bl false))) sNext)
  (sSeq (sAsg (mTup (aCons (mCompF finL [13] (iLst (m2 ixDD (mVar 2) (mC (.int 0)))) (tName 13) mYes (mCallD (n := 1) [] (U.m_law_entry c) (aCons (mVar 0) aNil))) (aCons (mCallD (n := 1) [] (U.m_law_entry c) (aCons (mVar 0) aNil)) aNil))) (taTup 2 (taCons (aN (tName 8)) (taCons (aN (tName 6)) taNil))))
  (sSeq (sSet 9 (mCompF finL [11] (iLst (mVar 2)) (tName 11) mYes (mCallD (n := 2) [] (U.m_law_dot c) (aCons (mVar 11) (aCons (mVar 8) aNil)))))
  (sSeq (sSet 10 (mCallD (n := 2) [] (U.m_heights c) (aCons (mVar 7) (aCons (mTup (aCons (mCallD (n := 2) [] (U.m_law_given_row c) (aCons (mVar 0) (aCons (mVar 8) aNil))) (aCons (mCallD (n := 2) [] (U.m_law_passed c) (aCons (mVar 0) (aCons (mVar 6) aNil))) aNil))) aNil))))
  (sRet (m2 (U.pEq c) (mVar 10) (mCallD (n := 2) [] (U.m_heights c) (aCons (mVar 3) (aCons (mTup (aCons (mCallD (n := 2) [] (U.m_law_given_row c) (aCons (mVar 0) (aCons (mVar 9) aNil))) (aCons (mCallD (n := 2) [] (U.m_law_passed c) (aCons (mVar 0) (aCons (mVar 6) aNil))) aNil))) aNil)))))))))))))
def m_law_letters_right (c : Cfg) : List D → S → Res D := runBody 2 14 (U.b_law_letters_right c)
def b_law_again_right (c : Cfg) : Pm.Env → S → Res Fl := (sSeq (sAsg (mTup (aCons (mCallD (n := 2) [] (U.m_law_given c) (aCons (mVar 0) (aCons (mVar 1) aNil))) (aCons (mCallD (n := 2) [] c.dr (aCons (mVar 0) (aCons (mCall bLenA (aCons (mVar 1) aNil)) aNil))) aNil))) (taTup 2 (taCons (aN (tName 2)) (taCons (aN (tName 3)) taNil))))
  (sSeq (sSet 4 (mCallD (n := 2) [] (U.m_law_given c) (aCons (mVar 0) (aCons (m2 (U.pAdd c) (mVar 1) (mLst (aCons (m2 ixDD (mVar 1) (mVar 3)) aNil))) aNil))))
  (sSeq (sIf (mB (m2 (U.pNe c) (mLst (aCons (mCallD (n := 1) [] (U.m_size c) (aCons (mVar 4) aNil)) (aCons (mCallD (n := 1) [] (U.m_excess c) (aCons (mVar 4) aNil)) aNil))) (mLst (aCons (mCallD (n := 1) [] (U.m_size c) (aCons (mVar 2) aNil)) (aCons (m2 (U.pAdd c) (mCallD (n := 1) [] (U.m_excess c) (aCons (mVar 2) aNil)) (mC (.int 1))) aNil))))) (sRet (mC (.bl false))) sNext)
  (sSeq (sSet 5 (mCompF finL [7] (iR1 (aCons (m2 (U.pAdd c) (mCall bLenA (aCons (mVar 1) aNil)) (mC (.int 1))) aNil)) (tName 7) mYes (m2 (U.pSub c) (mCall bIntA (aCons (m2 (U.pEq c) (mVar 7) (mVar 3)) aNil)) (mCall bIntA (aCons (m2 (U.pEq c) (mVar 7) (mCall bLenA (aCons (mVar 1) aNil))) aNil)))))
  (sSeq (sIf (mOrT (mB (m2 (isD true) (mCallD (n := 2) [] (U.m_is_sum c) (aCons (mVar 4) (aCons (mVar 5) aNil))) (mC (.bl true)))) (mNotT (mBt (mCall (bBools fun bs => bs.all id) (aCons (mCompF finL [8] (iLst (mCallD (n := 1) [] (U.m_told_sums c) (aCons (mVar 2) aNil))) (tName 8) mYes (mCallD (n := 2) [] (U.m_is_sum c) (aCons (mVar 4) (aCons (m2 (U.pAdd c) (mVar 8) (mLst (aCons (mC (.int 0)) aNil))) aNil)))) aNil))))) (sRet (mC (.bl false))) sNext)
  (sSeq (sIf (mB (m2 ltA (mCall bLenA (aCons (mVar 1) aNil)) (mC (.int 3)))) (sRet (mC (.bl true))) sNext)
  (sSeq (sSet 6 (mCallD (n := 2) [] (U.m_law_given c) (aCons (mVar 0) (aCons (m2 (U.pAdd c) (mSlice (mVar 1) oN (oS (mVar 3))) (mSlice (mVar 1) (oS (m2 (U.pAdd c) (mVar 3) (mC (.int 1)))) oN)) aNil))))
  (sSeq (sIf (mB (m2 (U.pNi c) (mLst (aCons (mCallD (n := 1) [] (U.m_size c) (aCons (mVar 6) aNil)) (aCons (mCallD (n := 1) [] (U.m_excess c) (aCons (mVar 6) aNil)) aNil))) (mLst (aCons (mLst (aCons (m2 (U.pSub c) (mCallD (n := 1) [] (U.m_size c) (aCons (mVar 2) aNil)) (mC (.int 1))) (aCons (mCallD (n := 1) [] (U.m_excess c) (aCons (mVar 2) aNil)) aNil))) (aCons (mLst (aCons (mCallD (n := 1) [] (U.m_size c) (aCons (mVar 2) aNil)) (aCons (m2 (U.pSub c) (mCallD (n := 1) [] (U.m_excess c) (aCons (mVar 2) aNil)) (mC (.int 1))) aNil))) aNil))))) (sRet (mC (.bl false))) sNext)
  (sRet (mCall (bBools fun bs => bs.all id) (aCons (mCompF finL [8] (iLst (mCallD (n := 1) [] (U.m_told_sums c) (aCons (mVar 6) aNil))) (tName 8) mYes (mCallD (n := 2) [] (U.m_is_sum c) (aCons (mVar 2) (aCons (m2 (U.pAdd c) (m2 (U.pAdd c) (mSlice (mVar 8) oN (oS (mVar 3))) (mLst (aCons (mC (.int 0)) aNil))) (mSlice (mVar 8) (oS (mVar 3)) oN)) aNil)))) aNil)))))))))))
def m_law_again_right (c : Cfg) : List D → S → Res D := runBody 2 9 (U.b_law_again_right c)
def b_law_bent_right (c : Cfg) : Pm.Env → S → Res Fl := (sSeq (sPar 1 2 (aCons (m2 (U.pAdd c) (mC (.int 1)) (mCallD (n := 2) [] c.dr (aCons (mVar 0) (aCons (mC (.int 3)) aNil)))) (aCons (m2 (U.pAdd c) (mC (.int 2)) (mCallD (n := 2) [] c.dr (aCons (mVar 0) (aCons (mC (.int 5)) aNil)))) aNil)))
  (sSeq (sSet 3 (mCell aNil))
  (sSeq (sFrz 3 (sFor (iR1 (aCons (mVar 2) aNil)) (tName 4) (sSeq (sSet 5 (mCell (aCons (m2 (U.pSub c) (mVar 4) (mC (.int 2))) aNil)))
  (sSeq (sFrz 5 (sFor (iR1 (aCons (m2 (U.pSub c) (mVar 1) (mC (.int 1))) aNil)) (tName 6) (sExpr (mtCell appF (mVar 5) (aCons (m2 (U.pMul c) (m2 ixDD (mVar 5) (m1 (U.pNeg c) (mC (.int 1)))) (m2 (U.pSub c) (mVar 4) (mC (.int 2)))) aNil)))))
  (sExpr (mtCell appF (mVar 3) (aCons (mVar 5) aNil)))))))
  (sSeq (sSet 7 (mCall (bInt2 (fun _ _ => true) fun i j => .int (minI i j)) (aCons (mVar 1) (aCons (m2 (U.pSub c) (mVar 2) (mC (.int 1))) aNil))))
  (sSeq (sIf (mB (m2 (U.pNe c) (mLst (aCons (mCallD (n := 1) [] (U.m_size c) (aCons (mVar 3) aNil)) (aCons (mCallD (n := 1) [] (U.m_excess c) (aCons (mVar 3) aNil)) aNil))) (mLst (aCons (mVar 7) (aCons (m2 (U.pSub c) (m2 (U.pSub c) (mVar 2) (mC (.int 1))) (mVar 7)) aNil))))) (sRet (mC (.bl false))) sNext)
  (sRet (mOr (m2 leI (mVar 2) (m2 (U.pAdd c) (mVar 1) (mC (.int 1)))) (m2 (U.pNi c) (mMake 0 2 3 [.int (1)] (U.m_c0_init_ c) (aCons (mC (.int 0)) aNil)) (mCompF finL [8] (iLst (mCallD (n := 1) [] (U.m_spokes c) (aCons (mSlice (mVar 3) oN (oS (m2 (U.pAdd c) (mVar 1) (mC (.int 2))))) aNil))) (tName 8) mYes (m2 ixDD (mVar 8) (mC (.int 0))))))))))))
def m_law_bent_right (c : Cfg) : List D → S → Res D := fun ds s => cutRes s.length (runBody 1 9 (U.b_law_bent_right c) ds s)
def b_law_right (c : Cfg) : Pm.Env → S → Res Fl := (sSeq (sSet 1 (mCallD (n := 3) [] (U.m_law_points c) (aCons (mVar 0) (aCons (mC (.int 6)) (aCons (mC (.int 3)) aNil)))))
  (sRet (mAnd (mCallD (n := 2) [] (U.m_law_letters_right c) (aCons (mVar 0) (aCons (mVar 1) aNil))) (mAnd (mCallD (n := 2) [] (U.m_law_again_right c) (aCons (mVar 0) (aCons (mVar 1) aNil))) (mCallD (n := 1) [] (U.m_law_bent_right c) (aCons (mVar 0) aNil))))))
def m_law_right (c : Cfg) : List D → S → Res D := runBody 1 2 (U.b_law_right c)
def b_law (c : Cfg) : Pm.Env → S → Res Fl := (sRet (mCallD (n := 1) [] (U.m_law_right c) (aCons (mCallD (n := 2) [] (U.m_law_pot c) (aCons (mVar 0) (aCons (mC (.int 0)) aNil))) aNil)))
def m_law (c : Cfg) : List D → S → Res D := runBody 1 1 (U.b_law c)
end U
set_option Elab.async false
set_option linter.all false
set_option maxRecDepth 100000
set_option maxHeartbeats 400000
set_option exponentiation.threshold 5000
namespace Pm
open PySem
structure NumsOk (n : Nums) : Prop where
  m : n.M.natAbs < 2 ^ 200
  p1 : 0 < n.P1 ∧ n.P1 < 2 ^ 32
  p2 : 0 < n.P2
  b : n.B ≠ 0 ∧ n.B.natAbs.log2 < 9000
end Pm
set_option Elab.async false
set_option linter.all false
set_option maxRecDepth 100000
set_option maxHeartbeats 400000
namespace Pm
open PySem
section
variable {e : Pm.Env} {s s1 s2 : S} {a b : Pm.Env → S → Res D} {x y d : D}
theorem varP {i : Nat} (h : e[i]? = some (some x)) : mVar i e s = .ok x s := by
  unfold mVar
  rw [h]
theorem conP : mC x e s = .ok x s := rfl
theorem m2P {f : D → D → S → Res D} (ha : a e s = .ok x s1) (hb : b e s1 = .ok y s2) : m2 f a b e s = f x y s2 := by
  unfold m2
  rw [ha]
  simp only [Res.bind_ok]
  rw [hb]
  rfl
theorem andP {b2 : Bool} (ha : a e s = .ok (.bl b2) s1) : mAnd a b e s = if b2 = true then b e s1 else .ok (.bl false) s1 := by
  unfold mAnd
  rw [ha]
  cases b2 <;> rfl
theorem andT (ha : a e s = .ok (.bl true) s1) : mAnd a b e s = b e s1 := by
  unfold mAnd
  rw [ha]
  rfl
theorem nilP : aNil e s = .ok [] s := rfl
theorem consP {m : Pm.Env → S → Res (List D)} {xs : List D} (ha : a e s = .ok x s1) (hb : m e s1 = .ok xs s2) : aCons a m e s = .ok (x :: xs) s2 := by
  unfold aCons
  rw [ha]
  simp only [Res.bind_ok]
  rw [hb]
  rfl
theorem callDP {n : Nat} {f : List D → S → Res D} {m : Pm.Env → S → Res (List D)} {xs : List D} (hm : m e s = .ok xs s1) (hn : xs.length = n) : mCallD (n := n) [] f m e s = f xs s1 := by
  unfold mCallD
  rw [hm]
  simp only [Res.bind_ok, List.length_nil, Nat.add_zero, if_pos hn, List.append_nil]
theorem callP {f : List D → S → Res D} {m : Pm.Env → S → Res (List D)} {xs : List D} (hm : m e s = .ok xs s1) : mCall f m e s = f xs s1 := by
  unfold mCall
  rw [hm]
  rfl
end
end Pm
set_option Elab.async false
set_option linter.all false
set_option maxRecDepth 100000
set_option maxHeartbeats 1000000
set_option exponentiation.threshold 20000
namespace U
open Pm PySem
def pq (q : Rat) : D := .tup [.int q.num, .int q.den]
def rq (q : Rat) : D := .ins 0 [.int q.num, .int q.den]
def Bq (n : Nat) (q : Rat) : Prop := q.num.natAbs < 2 ^ n ∧ q.den < 2 ^ n
theorem pow_le {m n : Nat} (h : m ≤ n) : 2 ^ m ≤ 2 ^ n := Nat.pow_le_pow_right (by decide) h
theorem Bq.mono {m n : Nat} {q : Rat} (h : Bq m q) (l : m ≤ n) : Bq n q := ⟨Nat.lt_of_lt_of_le h.1 (pow_le l), Nat.lt_of_lt_of_le h.2 (pow_le l)⟩
theorem bq_mk {n d : Int} {k : Nat} (hd : d ≠ 0) (h1 : n.natAbs < 2 ^ k) (h2 : d.natAbs < 2 ^ k) : Bq k (Rat.divInt n d) := by
  have hg : 0 < d.gcd n := Nat.pos_of_ne_zero fun z => hd (Int.gcd_eq_zero_iff.mp z).1
  constructor
  · rw [Rat.num_divInt]
    refine Nat.lt_of_le_of_lt ?_ h1
    rw [Int.natAbs_ediv_of_dvd (Int.dvd_trans (Int.gcd_dvd_right d n) (Int.dvd_mul_left _ _)), Int.natAbs_mul, Int.natAbs_sign_of_ne_zero hd, Nat.one_mul]
    exact Nat.div_le_self _ _
  · rw [Rat.den_divInt, if_neg hd]
    exact Nat.lt_of_le_of_lt (Nat.div_le_self _ _) h2
theorem Bq.add {m n : Nat} {p q : Rat} (hp : Bq m p) (hq : Bq n q) : Bq (m + n + 1) (p + q) := by
  have e : p + q = Rat.divInt (p.num * q.den + q.num * p.den) ((p.den * q.den : Nat) : Int) := by rw [Rat.divInt_ofNat, Rat.add_def']
  have hd : ((p.den * q.den : Nat) : Int) ≠ 0 := by
    have := Nat.mul_pos p.den_pos q.den_pos
    omega
  have b1 : p.num.natAbs * q.den < 2 ^ (m + n) := by rw [Nat.pow_add]; exact Nat.mul_lt_mul'' hp.1 hq.2
  have b2 : q.num.natAbs * p.den < 2 ^ (m + n) := by rw [Nat.add_comm, Nat.pow_add]; exact Nat.mul_lt_mul'' hq.1 hp.2
  have b3 : p.den * q.den < 2 ^ (m + n) := by rw [Nat.pow_add]; exact Nat.mul_lt_mul'' hp.2 hq.2
  rw [e]
  refine bq_mk hd ?_ ?_
  · have h1 := Int.natAbs_add_le (p.num * q.den) (q.num * p.den)
    rw [Int.natAbs_mul, Int.natAbs_mul, Int.natAbs_natCast, Int.natAbs_natCast] at h1
    rw [Nat.pow_succ]
    omega
  · rw [Int.natAbs_natCast, Nat.pow_succ]
    omega
theorem Bq.neg {n : Nat} {q : Rat} (h : Bq n q) : Bq n (-q) := ⟨by simpa using h.1, by simpa using h.2⟩
theorem Bq.sub {m n : Nat} {p q : Rat} (hp : Bq m p) (hq : Bq n q) : Bq (m + n + 1) (p - q) := by
  rw [Rat.sub_eq_add_neg]
  exact hp.add hq.neg
theorem Bq.mul {m n : Nat} {p q : Rat} (hp : Bq m p) (hq : Bq n q) : Bq (m + n) (p * q) := by
  have e : p * q = Rat.divInt (p.num * q.num) ((p.den * q.den : Nat) : Int) := by rw [Rat.divInt_ofNat, Rat.mul_def']
  have hd : ((p.den * q.den : Nat) : Int) ≠ 0 := by
    have := Nat.mul_pos p.den_pos q.den_pos
    omega
  rw [e]
  refine bq_mk hd ?_ ?_
  · rw [Int.natAbs_mul, Nat.pow_add]
    exact Nat.mul_lt_mul'' hp.1 hq.1
  · rw [Int.natAbs_natCast, Nat.pow_add]
    exact Nat.mul_lt_mul'' hp.2 hq.2
end U
set_option Elab.async false
set_option linter.all false
set_option maxRecDepth 100000
set_option maxHeartbeats 1000000
set_option exponentiation.threshold 20000
namespace U
open Pm PySem
variable {c : Cfg} {s : S}
theorem con0 {e : Pm.Env} {a : Pm.Env → S → Res D} {m : Pm.Env → S → Res (List D)} {x : D} {xs : List D} (ha : a e s = .ok x s) (hb : m e s = .ok xs s) : aCons a m e s = .ok (x :: xs) s := consP ha hb
theorem nil0 {e : Pm.Env} : aNil e s = .ok [] s := rfl
abbrev Si (i : Int) : Prop := i.natAbs < 2 ^ 4000
theorem sub_ii (i j : Int) : pSub c (.int i) (.int j) s = .ok (.int (i - j)) s := rfl
theorem add_ii (i j : Int) : pAdd c (.int i) (.int j) s = .ok (.int (i + j)) s := rfl
theorem mul_ii {i j : Int} (hi : Si i) (hj : Si j) : pMul c (.int i) (.int j) s = .ok (.int (i * j)) s := by
  unfold pMul
  rw [mulP i j s hi hj]
  rfl
theorem eq_ii (i j : Int) : pEq c (.int i) (.int j) s = .ok (.bl (decide (i = j))) s := rfl
theorem ne_ii (i j : Int) : pNe c (.int i) (.int j) s = .ok (.bl (!decide (i = j))) s := rfl
def euc : Nat → Nat → Nat → Option Nat
  | 0, _, _ => none
  | n + 1, a, b => if 0 < b then euc n b (a % b) else some a
theorem euc_gcd : ∀ (n a b : Nat), b < 2 ^ n → euc (2 * n + 1) a b = some (Nat.gcd a b) := by
  intro n
  induction n with
  | zero =>
    intro a b h
    have e : b = 0 := by omega
    subst e
    simp [euc]
  | succ n ih =>
    intro a b h
    have gr : Nat.gcd a b = Nat.gcd b (a % b) := by rw [Nat.gcd_comm a b, Nat.gcd_rec b a, Nat.gcd_comm]
    rcases Nat.eq_zero_or_pos b with rfl | hb
    · simp [euc]
    · show (if 0 < b then euc (2 * n + 2) b (a % b) else some a) = _
      rw [if_pos hb, gr]
      rcases Nat.eq_zero_or_pos (a % b) with z | hr
      · rw [z]
        simp [euc]
      · show (if 0 < a % b then euc (2 * n + 1) (a % b) (b % (a % b)) else some b) = _
        rw [if_pos hr]
        have l1 : a % b < b := Nat.mod_lt _ hb
        have l2 : b % (a % b) < a % b := Nat.mod_lt _ hr
        have p2 : 2 ^ (n + 1) = 2 * 2 ^ n := by rw [Nat.pow_succ]; omega
        have half : b % (a % b) < 2 ^ n := by
          by_cases q : 2 * (a % b) ≤ b
          · omega
          · have e : b % (a % b) = b - a % b := by rw [Nat.mod_eq_sub_mod (Nat.le_of_lt l1), Nat.mod_eq_of_lt (by omega)]
            omega
        rw [ih _ _ half, Nat.gcd_comm b (a % b), Nat.gcd_rec (a % b) b, Nat.gcd_comm]
theorem euc_more : ∀ (n a b r : Nat), euc n a b = some r → ∀ m, n ≤ m → euc m a b = some r := by
  intro n
  induction n with
  | zero => intro a b r h; simp [euc] at h
  | succ n ih =>
    intro a b r h m hm
    obtain ⟨m, rfl⟩ : ∃ k, m = k + 1 := ⟨m - 1, by omega⟩
    unfold euc at h ⊢
    split
    · rename_i hb
      rw [if_pos hb] at h
      exact ih _ _ _ h m (by omega)
    · rename_i hb
      rwa [if_neg hb] at h
def eT : Pm.Env → S → Res Bool := mB (m2 gtI (mVar 3) (mC (D.int 0)))
def eB : Pm.Env → S → Res Fl := sPar 2 3 (aCons (mVar 3) (aCons (m2 modI (mCall (bInt1 fun i => D.int i) (aCons (mVar 2) aNil)) (mVar 3)) aNil))
theorem e_loop : ∀ (n : Nat) (t b : Option D) (a o r : Nat) (s : S), euc n a o = some r → whileL eT eB n [t, b, some (.int a), some (.int o)] s = .ok (.nx [t, b, some (.int r), some (.int 0)]) s := by
  intro n
  induction n with
  | zero => intro t b a o r s h; simp [euc] at h
  | succ n ih =>
    intro t b a o r s h
    unfold euc at h
    by_cases ho : 0 < o
    · rw [if_pos ho] at h
      have hm : ((a : Int).fmod (o : Int)) = ((a % o : Nat) : Int) := by
        rw [Int.fmod_eq_emod_of_nonneg _ (by omega)]
        rfl
      have hp : (0 : Int) < (o : Int) := by omega
      have hz : ((o : Int)) ≠ 0 := by omega
      simp only [whileL, eT, eB, mB, m2, mVar, mC, gtI, intOp, sPar, aCons, aNil, mCall, bInt1, modI, cMod, Res.bind, List.getElem?_cons_succ, List.getElem?_cons_zero, List.set, hm, hp, hz, decide_true, if_true, ne_eq, not_false_eq_true]
      exact ih t b o (a % o) r s h
    · rw [if_neg ho] at h
      cases h
      have e : o = 0 := by omega
      subst e
      rfl
theorem abs_eq (i : Int) : absI i = (i.natAbs : Int) := by
  unfold absI
  split <;> omega
def sg (t b : Int) : Int := if 0 < b then gcdI t b else - gcdI t b
theorem gcd_ne {t b : Int} (hb : b ≠ 0) : gcdI t b ≠ 0 := by
  unfold gcdI
  intro q
  have := Nat.gcd_eq_zero_iff.mp (by omega : Nat.gcd t.natAbs b.natAbs = 0)
  omega
theorem gcd_le {t b : Int} (hb : b ≠ 0) : (gcdI t b).natAbs ≤ b.natAbs := by
  unfold gcdI
  have := Nat.gcd_le_right t.natAbs (n := b.natAbs) (by omega)
  simpa using this
theorem lg_of {n k : Nat} (h : n < 2 ^ k) (hk : 0 < k) : n.log2 < k := lgP h hk
theorem gcd_lg {t b : Int} (hb : b ≠ 0) (h : Si b) : (gcdI t b).natAbs.log2 < 9000 := Nat.lt_trans (lg_of (Nat.lt_of_le_of_lt (gcd_le hb) h) (by decide)) (by decide)
theorem low_raw (t b : Int) (hb : b ≠ 0) (h : Si b) : m_law_low c [.int t, .int b] s = .ok (.tup [.int (t.fdiv (sg t b)), .int (b.fdiv (sg t b))]) s := by
  have e1 : euc 100000 t.natAbs b.natAbs = some (Nat.gcd t.natAbs b.natAbs) := euc_more _ _ _ _ (euc_gcd 4000 t.natAbs b.natAbs h) 100000 (by decide)
  have L := e_loop 100000 (some (.int t)) (some (.int b)) t.natAbs b.natAbs _ s e1
  unfold eT eB at L
  have hz : gcdI t b ≠ 0 := gcd_ne hb
  have hg := gcd_lg (t := t) hb h
  have hgd : ((Nat.gcd t.natAbs b.natAbs : Nat) : Int) = gcdI t b := rfl
  refine runP2 ?_
  unfold b_law_low
  simp only [List.cons_append, List.nil_append, List.replicate, sSeq, sPar, aCons, aNil, mCall, bInt1, mVar, abs_eq, Res.bind, List.getElem?_cons_succ, List.getElem?_cons_zero, List.set]
  rw [L]
  by_cases hp : 0 < b
  · simp [sSet, mIf, mB, m2, mVar, mC, gtI, intOp, hp, sRet, mTup, aCons, aNil, divI, cDiv, newT, line, sg, hgd, hz, hg]
  · simp [sSet, mIf, mB, m2, mVar, mC, gtI, intOp, hp, sRet, mTup, aCons, aNil, divI, cDiv, newT, line, sg, hgd, hz, hg, sub_ii]
theorem low_eq (t b : Int) (hb : b ≠ 0) : t.fdiv (sg t b) = (Rat.divInt t b).num ∧ b.fdiv (sg t b) = ((Rat.divInt t b).den : Int) := by
  have gI : gcdI t b = ((Nat.gcd t.natAbs b.natAbs : Nat) : Int) := rfl
  have g0 : 0 < Nat.gcd t.natAbs b.natAbs := Nat.gcd_pos_of_pos_right _ (by omega)
  have ab : (sg t b).natAbs = Nat.gcd t.natAbs b.natAbs := by unfold sg; rw [gI]; split <;> omega
  have d1 : sg t b ∣ t := by rw [← Int.natAbs_dvd_natAbs, ab]; exact Nat.gcd_dvd_left _ _
  have d2 : sg t b ∣ b := by rw [← Int.natAbs_dvd_natAbs, ab]; exact Nat.gcd_dvd_right _ _
  obtain ⟨t', ht⟩ := d1
  obtain ⟨b', hb'⟩ := d2
  have hs : sg t b ≠ 0 := by omega
  have f1 : t.fdiv (sg t b) = t' := by
    conv => lhs; arg 1; rw [ht]
    exact Int.mul_fdiv_cancel_left _ hs
  have f2 : b.fdiv (sg t b) = b' := by
    conv => lhs; arg 1; rw [hb']
    exact Int.mul_fdiv_cancel_left _ hs
  have nt : t.natAbs = Nat.gcd t.natAbs b.natAbs * t'.natAbs := by rw [← ab, ← Int.natAbs_mul, ← ht]
  have nb : b.natAbs = Nat.gcd t.natAbs b.natAbs * b'.natAbs := by rw [← ab, ← Int.natAbs_mul, ← hb']
  have hpos : 0 < b' := by
    unfold sg at hb'
    by_cases hp : 0 < b
    · rw [if_pos hp, gI] at hb'
      have : 0 < ((Nat.gcd t.natAbs b.natAbs : Nat) : Int) * b' := by omega
      exact Int.pos_of_mul_pos_right this (by omega)
    · rw [if_neg hp, gI] at hb'
      have h1 : 0 < ((Nat.gcd t.natAbs b.natAbs : Nat) : Int) * b' := by
        have : -((Nat.gcd t.natAbs b.natAbs : Nat) : Int) * b' = -(((Nat.gcd t.natAbs b.natAbs : Nat) : Int) * b') := Int.neg_mul _ _
        omega
      exact Int.pos_of_mul_pos_right h1 (by omega)
  have cop : Nat.gcd t'.natAbs b'.natAbs = 1 := by
    have h : Nat.gcd t.natAbs b.natAbs * Nat.gcd t'.natAbs b'.natAbs = Nat.gcd t.natAbs b.natAbs * 1 := by rw [← Nat.gcd_mul_left, ← nt, ← nb, Nat.mul_one]
    exact Nat.eq_of_mul_eq_mul_left g0 h
  have e : Rat.divInt t b = ⟨t', b'.toNat, by omega, by
      show Nat.gcd t'.natAbs b'.toNat = 1
      rw [show b'.toNat = b'.natAbs by omega]
      exact cop⟩ := by
    rw [Rat.mk_eq_divInt, show ((b'.toNat : Nat) : Int) = b' by omega]
    have z : Rat.divInt t b = Rat.divInt (sg t b * t') (sg t b * b') := by rw [← ht, ← hb']
    rw [z]
    exact Rat.divInt_mul_left hs
  rw [f1, f2, e]
  exact ⟨rfl, by show b' = ((b'.toNat : Nat) : Int); omega⟩
theorem low_ok (t b : Int) (hb : b ≠ 0) (h : Si b) : m_law_low c [.int t, .int b] s = .ok (pq (Rat.divInt t b)) s := by
  rw [low_raw t b hb h, (low_eq t b hb).1, (low_eq t b hb).2]
  rfl
theorem ix_p0 (q : Rat) : ixDD (pq q) (.int 0) s = .ok (.int q.num) s := rfl
theorem ix_p1 (q : Rat) : ixDD (pq q) (.int 1) s = .ok (.int q.den) s := rfl
theorem den_ne (q : Rat) : (q.den : Int) ≠ 0 := by have := q.den_pos; omega
theorem Bq.n {k : Nat} {q : Rat} (h : Bq k q) (hk : k ≤ 2000) : q.num.natAbs < 2 ^ 2000 := Nat.lt_of_lt_of_le h.1 (pow_le hk)
theorem Bq.d {k : Nat} {q : Rat} (h : Bq k q) (hk : k ≤ 2000) : (q.den : Int).natAbs < 2 ^ 2000 := by rw [Int.natAbs_natCast]; exact Nat.lt_of_lt_of_le h.2 (pow_le hk)
theorem si2 {i : Int} (h : i.natAbs < 2 ^ 2000) : Si i := Nat.lt_of_lt_of_le h (pow_le (by decide))
theorem si_mul {i j : Int} (hi : i.natAbs < 2 ^ 2000) (hj : j.natAbs < 2 ^ 2000) : Si (i * j) := by
  show (i * j).natAbs < 2 ^ (2000 + 2000)
  rw [Int.natAbs_mul, Nat.pow_add]
  exact Nat.mul_lt_mul'' hi hj
abbrev Sq (q : Rat) : Prop := Bq 2000 q
theorem sum_eq (p q : Rat) : Rat.divInt (p.num * q.den + q.num * p.den) (p.den * q.den) = p + q := by
  rw [show ((p.den : Int) * (q.den : Int)) = ((p.den * q.den : Nat) : Int) by simp, Rat.divInt_ofNat, ← Rat.add_def']
theorem by_eq (p q : Rat) : Rat.divInt (p.num * q.num) (p.den * q.den) = p * q := by
  rw [show ((p.den : Int) * (q.den : Int)) = ((p.den * q.den : Nat) : Int) by simp, Rat.divInt_ofNat, ← Rat.mul_def']
theorem lsum_ok {p q : Rat} (hp : Sq p) (hq : Sq q) : m_law_sum c [pq p, pq q] s = .ok (pq (p + q)) s := by
  refine runP2 (retP ((callDP (con0 ?_ (con0 ?_ nil0)) rfl).trans ((low_ok _ _ (Int.mul_ne_zero (den_ne p) (den_ne q)) (si_mul (hp.d (Nat.le_refl _)) (hq.d (Nat.le_refl _)))).trans (by rw [sum_eq]))))
  · simp [m2, mVar, mC, ix_p0, ix_p1, mul_ii (si2 hp.1) (si2 (hq.d (Nat.le_refl _))), mul_ii (si2 hq.1) (si2 (hp.d (Nat.le_refl _))), add_ii]
  · simp [m2, mVar, mC, ix_p1, mul_ii (si2 (hp.d (Nat.le_refl _))) (si2 (hq.d (Nat.le_refl _)))]
theorem lby_ok {p q : Rat} (hp : Sq p) (hq : Sq q) : m_law_by c [pq p, pq q] s = .ok (pq (p * q)) s := by
  refine runP2 (retP ((callDP (con0 ?_ (con0 ?_ nil0)) rfl).trans ((low_ok _ _ (Int.mul_ne_zero (den_ne p) (den_ne q)) (si_mul (hp.d (Nat.le_refl _)) (hq.d (Nat.le_refl _)))).trans (by rw [by_eq]))))
  · simp [m2, mVar, mC, ix_p0, mul_ii (si2 hp.1) (si2 hq.1)]
  · simp [m2, mVar, mC, ix_p1, mul_ii (si2 (hp.d (Nat.le_refl _))) (si2 (hq.d (Nat.le_refl _)))]
end U
set_option Elab.async false
set_option linter.all false
set_option maxRecDepth 100000
set_option maxHeartbeats 1000000
set_option exponentiation.threshold 20000
namespace U
open Pm PySem
variable {c : Cfg} {s : S}
inductive All2 {α β : Type} (R : α → β → Prop) : List α → List β → Prop
  | nil : All2 R [] []
  | cons {a b l m} (h : R a b) (t : All2 R l m) : All2 R (a :: l) (b :: m)
theorem All2.len {α β : Type} {R : α → β → Prop} {l : List α} {m : List β} (h : All2 R l m) : l.length = m.length := by
  induction h with
  | nil => rfl
  | cons _ _ ih => simp [ih]
theorem All2.get {α β : Type} {R : α → β → Prop} {l : List α} {m : List β} (h : All2 R l m) {i : Nat} {b : β} (e : m[i]? = some b) : ∃ a, l[i]? = some a ∧ R a b := by
  induction h generalizing i with
  | nil => simp at e
  | cons h t ih =>
    cases i with
    | zero => simp at e; subst e; exact ⟨_, by simp, h⟩
    | succ i => obtain ⟨a, h1, h2⟩ := ih (by simpa using e); exact ⟨a, by simpa using h1, h2⟩
theorem All2.get1 {α β : Type} {R : α → β → Prop} {l : List α} {m : List β} (h : All2 R l m) {i : Nat} {a : α} (e : l[i]? = some a) : ∃ b, m[i]? = some b ∧ R a b := by
  induction h generalizing i with
  | nil => simp at e
  | cons h t ih =>
    cases i with
    | zero => simp at e; subst e; exact ⟨_, by simp, h⟩
    | succ i => obtain ⟨a, h1, h2⟩ := ih (by simpa using e); exact ⟨a, by simpa using h1, h2⟩
theorem All2.mem1 {α β : Type} {R : α → β → Prop} {l : List α} {m : List β} (h : All2 R l m) {a : α} (e : a ∈ l) : ∃ b ∈ m, R a b := by
  obtain ⟨i, hi⟩ := List.mem_iff_getElem?.mp e
  obtain ⟨b, h1, h2⟩ := h.get1 hi
  exact ⟨b, List.mem_of_getElem? h1, h2⟩
theorem All2.imp {α β : Type} {R Q : α → β → Prop} {l : List α} {m : List β} (h : All2 R l m) (i : ∀ a b, R a b → Q a b) : All2 Q l m := by
  induction h with
  | nil => exact .nil
  | cons h t ih => exact .cons (i _ _ h) ih
theorem All2.app {α β : Type} {R : α → β → Prop} {l l' : List α} {m m' : List β} (h : All2 R l m) (k : All2 R l' m') : All2 R (l ++ l') (m ++ m') := by
  induction h with
  | nil => simpa using k
  | cons h t ih => exact .cons h ih
theorem All2.refl_map {α β : Type} {R : α → β → Prop} {f : β → α} (m : List β) (h : ∀ b ∈ m, R (f b) b) : All2 R (m.map f) m := by
  induction m with
  | nil => exact .nil
  | cons b m ih => exact .cons (h b (by simp)) (ih fun x hx => h x (by simp [hx]))
inductive Nm : D → Rat → Prop
  | int (i : Int) : Nm (.int i) i
  | rat (q : Rat) : Nm (rq q) q
theorem is_integer_i (i : Int) : m_is_integer c [.int i] s = .ok (.bl true) s := rfl
theorem parts_ok {d : D} {q : Rat} (h : Nm d q) : m_parts_of c [d] s = .ok (pq q) s := by
  cases h
  · rfl
  · rfl
theorem is_number_ok {d : D} {q : Rat} (h : Nm d q) : m_is_number c [d] s = .ok (.bl true) s := by
  cases h
  · rfl
  · rfl
theorem init_ok (t b : Int) (hb : b ≠ 0) (h : Si b) : m_c0_init_ c [.cell s.length, .int t, .int b] (s ++ [.ins 0 []]) = .ok .non (s ++ [.ins 0 [.int (Rat.divInt t b).num, .int (Rat.divInt t b).den]]) := by
  have hg : gcdI t b ≠ 0 := gcd_ne hb
  have hl := gcd_lg (t := t) hb h
  have e1 := (low_eq t b hb).1
  have e2 := (low_eq t b hb).2
  unfold sg at e1 e2
  by_cases hneg : b < 0
  · have hp : ¬ 0 < b := by omega
    rw [if_neg hp] at e1 e2
    simp [← e1, ← e2, m_c0_init_, runBody, b_c0_init_, sSeq, sIf, mNotT, mBt, truD, mB, mCallD, aCons, aNil, mVar, is_integer_i, sNext, mOrT, m2, eqPi, mC, hb, sSet, mCall, bInt2, ltI, intOp, hneg, m1, negI, sFld, divI, cDiv, hg, hl]
  · have hp : 0 < b := by omega
    rw [if_pos hp] at e1 e2
    simp [← e1, ← e2, m_c0_init_, runBody, b_c0_init_, sSeq, sIf, mNotT, mBt, truD, mB, mCallD, aCons, aNil, mVar, is_integer_i, sNext, mOrT, m2, eqPi, mC, hb, sSet, mCall, bInt2, ltI, intOp, hneg, m1, negI, sFld, divI, cDiv, hg, hl]
theorem make_ok {mr : Pm.Env → S → Res (List D)} {env : Pm.Env} {s1 : S} (t b : Int) (e : mr env s = .ok [.int t, .int b] s1) (f : cutOk s1 = true) (hb : b ≠ 0) (h : Si b) : mMake 0 2 3 [] (m_c0_init_ c) mr env s = .ok (rq (Rat.divInt t b)) s1 := by
  simp [mMake, e, made, init_ok t b hb h, List.take_append, pureL, pureD, f, rq]
theorem make1_ok {mr : Pm.Env → S → Res (List D)} {env : Pm.Env} {s1 : S} (t : Int) (e : mr env s = .ok [.int t] s1) (f : cutOk s1 = true) : mMake 0 2 3 [.int 1] (m_c0_init_ c) mr env s = .ok (rq t) s1 := by
  have z : Rat.divInt t 1 = (t : Rat) := by
    have := Rat.num_divInt_den (t : Rat)
    simpa using this
  rw [← z]
  simp [mMake, e, made, init_ok t 1 (by decide) (show (1 : Nat) < 2 ^ 4000 from Nat.one_lt_two_pow (by decide)), List.take_append, pureL, pureD, f, rq]
theorem fld_0 {q : Rat} {x : List (Option D)} : mFld 0 0 (mVar 0) (some (rq q) :: x) s = .ok (.int q.num) s := rfl
theorem fld_1 {q : Rat} {x : List (Option D)} : mFld 0 1 (mVar 0) (some (rq q) :: x) s = .ok (.int q.den) s := rfl
theorem sparts {d : D} {q : Rat} (h : Nm d q) (x y z : Option D) : sAsg (mCallD (n := 1) [] (m_parts_of c) (aCons (mVar 1) aNil)) (taTup 2 (taCons (aN (tName 2)) (taCons (aN (tName 3)) taNil))) [x, some d, y, z] s = .ok (.nx [x, some d, some (.int q.num), some (.int q.den)]) s := by
  simp [sAsg, mCallD, aCons, aNil, mVar, parts_ok h, pq, taTup, taCons, taNil, aN, tName]
theorem mulDi {i j : Int} (hi : i.natAbs < 2 ^ 2000) (hj : j.natAbs < 2 ^ 2000) : mulD (.int i) (.int j) s = .ok (.int (i * j)) s := mulP i j s (si2 hi) (si2 hj)
theorem Sq.d {q : Rat} (h : Sq q) : (q.den : Int).natAbs < 2 ^ 2000 := by rw [Int.natAbs_natCast]; exact h.2
theorem radd_ok {p q : Rat} {d : D} (hq : Nm d q) (f : cutOk s = true) (h1 : Sq p) (h2 : Sq q) : m_c0_add_ c [rq p, d] s = .ok (rq (p + q)) s := by
  rw [← sum_eq]
  refine runP2 ((seqP (sparts hq _ _ _)).trans (retP (make_ok _ _ (con0 ?_ (con0 ?_ nil0)) f (Int.mul_ne_zero (den_ne p) (den_ne q)) (si_mul h1.d h2.d))))
  · simp [m2, fld_0, fld_1, mVar, mulDi h1.1 h2.d, mulDi h2.1 h1.d, addP]
  · simp [m2, fld_1, mVar, mulDi h1.d h2.d]
theorem rmul_ok {p q : Rat} {d : D} (hq : Nm d q) (f : cutOk s = true) (h1 : Sq p) (h2 : Sq q) : m_c0_mul_ c [rq p, d] s = .ok (rq (p * q)) s := by
  rw [← by_eq]
  refine runP2 ((seqP (sparts hq _ _ _)).trans (retP (make_ok _ _ (con0 ?_ (con0 ?_ nil0)) f (Int.mul_ne_zero (den_ne p) (den_ne q)) (si_mul h1.d h2.d))))
  · simp [m2, fld_0, fld_1, mVar, mulDi h1.1 h2.1]
  · simp [m2, fld_1, mVar, mulDi h1.d h2.d]
theorem add_stuck {q : Rat} {d : D} : addAll (rq q) d s = .stuck := by cases d <;> rfl
theorem add_rat {p q : Rat} {d : D} (hq : Nm d q) (f : cutOk s = true) (h1 : Sq p) (h2 : Sq q) : pAdd c (rq p) d s = .ok (rq (p + q)) s := by
  have h := radd_ok (c := c) hq f h1 h2
  unfold pAdd
  rw [add_stuck]
  cases hq <;> exact h
theorem mul_rat {p q : Rat} {d : D} (hq : Nm d q) (f : cutOk s = true) (h1 : Sq p) (h2 : Sq q) : pMul c (rq p) d s = .ok (rq (p * q)) s := by
  have h := rmul_ok (c := c) hq f h1 h2
  unfold pMul
  cases hq with
  | int i => rw [show mulD (rq p) (.int i) s = .stuck from rfl]; exact h
  | rat q => rw [show mulD (rq p) (rq q) s = .stuck from rfl]; exact h
theorem mul_nm {p q : Rat} {d e : D} (hp : Nm d p) (hq : Nm e q) (f : cutOk s = true) (h1 : Sq p) (h2 : Sq q) : ∃ r, pMul c d e s = .ok r s ∧ Nm r (p * q) := by
  cases hp with
  | rat p => exact ⟨_, mul_rat hq f h1 h2, .rat _⟩
  | int i =>
    cases hq with
    | int j =>
      refine ⟨_, mul_ii (si2 (by simpa using h1.1)) (si2 (by simpa using h2.1)), ?_⟩
      rw [← Rat.intCast_mul]
      exact .int _
    | rat q =>
      refine ⟨rq (i * q), ?_, .rat _⟩
      have h := rmul_ok (c := c) (s := s) (Nm.int i) f h2 h1
      have e1 : mulD (.int i) (rq q) s = .stuck := rfl
      have h3 : m_c0_rmul_ c [rq q, .int i] s = .ok (rq (i * q)) s := by
        refine runP2 (retP ?_)
        rw [Rat.mul_comm] at h
        simpa [m2, mVar, opOwn, rq] using h
      unfold pMul
      rw [e1]
      exact h3
def tot (l : List Rat) : Rat := l.foldl (· + ·) 0
def SumOk (a : Rat) : List Rat → Prop
  | [] => Sq a
  | q :: l => Sq a ∧ Sq q ∧ SumOk (a + q) l
theorem SumOk.sq {a : Rat} : ∀ {l : List Rat}, SumOk a l → Sq a
  | [], h => h
  | _ :: _, h => h.1
theorem sFor_run {mi : Pm.Env → S → Res (List D)} {mt : D → Pm.Env → Option Pm.Env} {b : Pm.Env → S → Res Fl} {e : Pm.Env} {ds : List D} (h : mi e s = .ok ds s) : sFor mi mt b e s = forL mt b ds e s := by simp [sFor, h]
theorem total_loop (f : cutOk s = true) (x y : Option D) : ∀ {ds : List D} {qs : List Rat} {a : Rat} {z : Option D}, All2 Nm ds qs → SumOk a qs → ∃ z', forL (tName 3) (sSet 2 (m2 (pAdd c) (mVar 2) (mVar 3))) ds [x, y, some (rq a), z] s = .ok (.nx [x, y, some (rq (qs.foldl (· + ·) a)), z']) s
  | _, _, a, z, .nil, _ => ⟨z, rfl⟩
  | _, _, a, z, .cons (a := d) (b := q) h t, k => by
    obtain ⟨z', e⟩ := total_loop f x y (z := some d) t k.2.2
    refine ⟨z', ?_⟩
    have e1 := add_rat (c := c) h f k.1 k.2.1
    simpa [forL, tName, sSet, m2, mVar, e1] using e
theorem total_ok (f : cutOk s = true) {ds : List D} {qs : List Rat} (h : All2 Nm ds qs) (k : SumOk 0 qs) : m_c0_total c [.cls 0, .lst ds] s = .ok (rq (tot qs)) s := by
  obtain ⟨z, e⟩ := total_loop (c := c) f (some (.cls 0)) (some (.lst ds)) (z := none) h k
  refine runP2 ?_
  unfold b_c0_total
  have z0 : ((0 : Int) : Rat) = 0 := rfl
  have m := make1_ok (c := c) (s := s) (env := [some (.cls 0), some (.lst ds), none, none]) (mr := aCons (mC (.int 0)) aNil) 0 rfl f
  rw [z0] at m
  have l1 : m_is_list c [.lst ds] s = .ok (.bl true) s := rfl
  have i1 : iLT (mVar 1) [some (D.cls 0), some (.lst ds), some (rq 0), none] s = .ok ds s := rfl
  have s2 : sFor (iLT (mVar 1)) (tName 3) (sSet 2 (m2 (pAdd c) (mVar 2) (mVar 3))) [some (D.cls 0), some (.lst ds), some (rq 0), none] s = .ok (.nx [some (.cls 0), some (.lst ds), some (rq (tot qs)), z]) s := (sFor_run i1).trans e
  simp only [List.cons_append, List.nil_append, List.replicate]
  refine (seqP (e1 := [some (D.cls 0), some (.lst ds), none, none]) (s1 := s) (by simp [sIf, mNotT, mBt, mCallD, aCons, aNil, mVar, l1, truD, sNext])).trans ((seqP (e1 := [some (D.cls 0), some (.lst ds), some (rq 0), none]) (s1 := s) (by simp [sSet, mMakeL, m])).trans ((seqP s2).trans (retP rfl)))
end U
set_option Elab.async false
set_option linter.all false
set_option maxRecDepth 100000
set_option maxHeartbeats 1000000
set_option exponentiation.threshold 20000
namespace U
open Pm PySem
variable {c : Cfg} {s : S}
inductive Sq2 : D → List D → Prop
  | lst (ds : List D) : Sq2 (.lst ds) ds
  | tup (ds : List D) : Sq2 (.tup ds) ds
def Row (d : D) (qs : List Rat) : Prop := ∃ ds, Sq2 d ds ∧ All2 Nm ds qs
def Tab (d : D) (M : List (List Rat)) : Prop := ∃ ds, Sq2 d ds ∧ All2 Row ds M
section
variable {own : List Nat} {mi : Pm.Env → S → Res (List D)} {mt : D → Pm.Env → Option Pm.Env} {tt : Pm.Env → S → Res Bool} {me : Pm.Env → S → Res D} {env : Pm.Env}
theorem compR {α β : Type} {R : D → α → Prop} {C : D → β → Prop} {f : α → β} : ∀ {ds : List D} {as : List α}, All2 R ds as → (∀ d a, d ∈ ds → a ∈ as → R d a → ∃ e1 r, mt d (wipeE env own) = some e1 ∧ me e1 s = .ok r s ∧ C r (f a)) → ∃ rs, compL own mt mYes me ds env s = .ok rs s ∧ All2 C rs (as.map f)
  | _, _, .nil, _ => ⟨[], rfl, .nil⟩
  | _, _, .cons (a := d) (b := a) h t, H => by
    obtain ⟨e1, r, h1, h2, h3⟩ := H d a (by simp) (by simp) h
    obtain ⟨rs, h4, h5⟩ := compR t fun x y hx hy => H x y (by simp [hx]) (by simp [hy])
    exact ⟨r :: rs, by simp [compL, h1, mYes, noexn, h2, h4], .cons h3 h5⟩
theorem compE {α : Type} {R : D → α → Prop} {f : α → D} : ∀ {ds : List D} {as : List α}, All2 R ds as → (∀ d a, d ∈ ds → a ∈ as → R d a → ∃ e1, mt d (wipeE env own) = some e1 ∧ me e1 s = .ok (f a) s) → compL own mt mYes me ds env s = .ok (as.map f) s
  | _, _, .nil, _ => rfl
  | _, _, .cons (a := d) (b := a) h t, H => by
    obtain ⟨e1, h1, h2⟩ := H d a (by simp) (by simp) h
    have h4 := compE t fun x y hx hy => H x y (by simp [hx]) (by simp [hy])
    simp [compL, h1, mYes, noexn, h2, h4]
theorem compD {ds rs : List D} {s1 : S} (hi : mi env s = .ok ds s) (hl : ds.length ≤ 1000000) (h : compL own mt tt me ds env s = .ok rs s1) : mCompF finL own mi mt tt me env s = .ok (.lst rs) s1 := by
  have hl' : ds.length ≤ line := by unfold line; omega
  simp only [mCompF, hi, Res.bind_ok, if_pos hl', h, finL]
end
theorem sq_len {d : D} {ds : List D} (h : Sq2 d ds) : bLenA [d] s = .ok (.int ds.length) s := by cases h <;> rfl
theorem sq_iLT {d : D} {ds : List D} (h : Sq2 d ds) {m : Pm.Env → S → Res D} {e : Pm.Env} (hm : m e s = .ok d s) : iLT m e s = .ok ds s := by
  cases h <;> simp [iLT, iLst, iT, iTupS, hm, iSeq, Res.or]
theorem sq_ix {d x : D} {ds : List D} (h : Sq2 d ds) {i : Nat} (e : ds[i]? = some x) : ixDD d (.int (i : Int)) s = .ok x s := by
  have z := at_P e
  cases h
  · simp [ixDD, ixD, ixL, seqOf, z, Res.or]
  · simp [ixDD, ixD, ixL, ixT, seqOf, z, Res.or]
theorem sq_isl {d : D} {ds : List D} (h : Sq2 d ds) : m_is_list c [d] s = .ok (.bl true) s := by cases h <;> rfl
theorem sq_zip {d e : D} {ds es : List D} (h : Sq2 d ds) (k : Sq2 e es) {mr : Pm.Env → S → Res (List D)} {env : Pm.Env} (hm : mr env s = .ok [d, e] s) : iZipA mr env s = .ok (zipD ds es) s := by
  cases h <;> cases k <;> simp [iZipA, iZipM, iZipX, hm, zipF, zipX, sqK, Res.or]
def Two {α β : Type} (R : D → α → Prop) (Q : D → β → Prop) (d : D) (p : α × β) : Prop := ∃ x y, d = .tup [x, y] ∧ R x p.1 ∧ Q y p.2
theorem zip2 {α β : Type} {R : D → α → Prop} {Q : D → β → Prop} : ∀ {ds es : List D} {as : List α} {bs : List β}, All2 R ds as → All2 Q es bs → All2 (Two R Q) (zipD ds es) (as.zip bs)
  | _, _, _, _, .nil, k => by cases k <;> exact .nil
  | _, _, _, _, .cons h t, .nil => .nil
  | _, _, _, _, .cons h t, .cons h' t' => .cons ⟨_, _, rfl, h, h'⟩ (zip2 t t')
theorem zipD_len2 (ds es : List D) : (zipD ds es).length ≤ ds.length := by
  induction ds generalizing es with
  | nil => cases es <;> simp [zipD]
  | cons d ds ih =>
    cases es with
    | nil => simp [zipD]
    | cons e es => simp only [zipD, List.length_cons]; have := ih es; omega
def dot (p q : List Rat) : Rat := tot ((p.zip q).map fun x => x.1 * x.2)
def DotOk (p q : List Rat) : Prop := (∀ x ∈ p, Sq x) ∧ (∀ x ∈ q, Sq x) ∧ SumOk 0 ((p.zip q).map fun x => x.1 * x.2)
theorem psum_ok (f : cutOk s = true) {d e : D} {p q : List Rat} (hp : Row d p) (hq : Row e q) (hl : p.length ≤ 1000) (k : DotOk p q) : m_product_sum c [d, e] s = .ok (rq (dot p q)) s := by
  obtain ⟨ds, h1, a1⟩ := hp
  obtain ⟨es, h2, a2⟩ := hq
  have hz := zip2 a1 a2
  obtain ⟨rs, hr, ha⟩ := compR (s := s) (own := [2, 3]) (env := [some d, some e, none, none]) (mt := tSeq 2 (tCons (tName 2) (tCons (tName 3) tNil))) (me := m2 (pMul c) (mVar 2) (mVar 3)) (C := Nm) (f := fun x => x.1 * x.2) hz (by
    rintro d' ⟨a, b⟩ hd hab ⟨x, y, rfl, hx, hy⟩
    have m := List.of_mem_zip hab
    obtain ⟨r, r1, r2⟩ := mul_nm (c := c) hx hy f (k.1 a m.1) (k.2.1 b m.2)
    exact ⟨[some d, some e, some x, some y], r, rfl, by simpa [m2, mVar] using r1, r2⟩)
  refine runP2 (retP ?_)
  have hc : mCompF finL [2, 3] (iZipA (aCons (mVar 0) (aCons (mVar 1) aNil))) (tSeq 2 (tCons (tName 2) (tCons (tName 3) tNil))) mYes (m2 (pMul c) (mVar 2) (mVar 3)) [some d, some e, none, none] s = .ok (.lst rs) s :=
    compD (sq_zip h1 h2 rfl) (Nat.le_trans (zipD_len2 _ _) (by rw [a1.len]; omega)) hr
  have t := total_ok (c := c) f ha k.2.2
  simp only [List.cons_append, List.nil_append, List.replicate]
  simp [mCm, mC, aCons, aNil, hc, t, dot]
theorem bools_true : ∀ {ds : List D}, (∀ d ∈ ds, d = .bl true) → boolsOf ds = some (ds.map fun _ => true)
  | [], _ => rfl
  | d :: ds, h => by
    rw [h d (by simp)]
    simp [boolsOf, bools_true (ds := ds) fun x hx => h x (List.mem_cons_of_mem _ hx)]
theorem all_true {ds : List D} (h : ∀ d ∈ ds, d = .bl true) : bBools (fun bs => bs.all id) [.lst ds] s = .ok (.bl true) s := by
  simp [bBools, isTupD, seqOf, bools_true h]
theorem comp_true {α : Type} {R : D → α → Prop} {own : List Nat} {mi : Pm.Env → S → Res (List D)} {mt : D → Pm.Env → Option Pm.Env} {me : Pm.Env → S → Res D} {env : Pm.Env} {ds : List D} {as : List α} (h : All2 R ds as) (hl : as.length ≤ 1000000) (hi : mi env s = .ok ds s)
    (H : ∀ d a, d ∈ ds → a ∈ as → R d a → ∃ e1, mt d (wipeE env own) = some e1 ∧ me e1 s = .ok (.bl true) s) : mCall (bBools fun bs => bs.all id) (aCons (mCompF finL own mi mt mYes me) aNil) env s = .ok (.bl true) s := by
  have e := compE (s := s) (own := own) (env := env) (mt := mt) (me := me) (f := fun _ => D.bl true) h H
  have e2 := compD (mi := mi) hi (by rw [h.len]; exact hl) e
  simp only [mCall, aCons, aNil, e2, Res.bind_ok]
  exact all_true fun d hd => by
    obtain ⟨_, _, rfl⟩ := List.mem_map.mp hd
    rfl
section
variable {e : Pm.Env} {t u : Pm.Env → S → Res Bool} {a b : Pm.Env → S → Res Fl} {m : Pm.Env → S → Res D}
theorem if_f (h : t e s = .ok false s) : sIf t a b e s = b e s := by simp [sIf, h]
theorem if_t (h : t e s = .ok true s) : sIf t a b e s = a e s := by simp [sIf, h]
theorem or_f (h : t e s = .ok false s) (k : u e s = .ok false s) : mOrT t u e s = .ok false s := by simp [mOrT, h, k]
theorem not_t (h : t e s = .ok true s) : mNotT t e s = .ok false s := by simp [mNotT, h]
theorem not_f (h : t e s = .ok false s) : mNotT t e s = .ok true s := by simp [mNotT, h]
theorem bt_of {x : Bool} (h : m e s = .ok (.bl x) s) : mBt m e s = .ok x s := by simp [mBt, h, truD]
theorem r1_ok' {n : Nat} (h : m e s = .ok (.int n) s) (hn : n ≤ 1000000) : iR1 (aCons m aNil) e s = .ok (rangeD 0 n) s := by
  have : (-rLim ≤ (n : Int) ∧ (n : Int) ≤ rLim) := by unfold rLim; omega
  simp [iR1, aCons, aNil, h, this]
theorem b_of {x : Bool} (h : m e s = .ok (.bl x) s) : mB m e s = .ok x s := by simp [mB, h]
theorem if_no {t : Pm.Env → S → Res Bool} {a : Pm.Env → S → Res Fl} (h : t e s = .ok false s) : sIf t a sNext e s = .ok (.nx e) s := (if_f h).trans rfl
theorem call1 {f : List D → S → Res D} {i : Nat} {x : D} (h : e[i]? = some (some x)) : mCallD (n := 1) [] f (aCons (mVar i) aNil) e s = f [x] s := callDP (consP (varP h) nilP) rfl
theorem bcall1 {f : List D → S → Res D} {i : Nat} {x : D} (h : e[i]? = some (some x)) : mCall f (aCons (mVar i) aNil) e s = f [x] s := callP (consP (varP h) nilP)
theorem chain_le {m1 m2' m3 : Pm.Env → S → Res D} {i j k : Int} (h1 : m1 e s = .ok (.int i) s) (h2 : m2' e s = .ok (.int j) s) (h3 : m3 e s = .ok (.int k) s) (l1 : i ≤ j) (l2 : j ≤ k) : mB (mChain leI leI m1 m2' m3) e s = .ok true s := by
  simp [mB, mChain, h1, h2, h3, leI, intOp, l1, l2]
end
theorem row_numbers {d : D} {q : List Rat} (h : Row d q) (hl : q.length ≤ 1000) : m_is_numbers c [d, .int q.length] s = .ok (.bl true) s := by
  obtain ⟨ds, h1, a⟩ := h
  refine runP2 (retP ?_)
  have e2 := sq_len (s := s) h1
  rw [a.len] at e2
  have e3 := comp_true (s := s) (own := [2]) (mi := iLT (mVar 0)) (mt := tName 2) (me := mCallD (n := 1) [] (m_is_number c) (aCons (mVar 2) aNil)) (env := [some d, some (.int q.length), none]) a (by omega) (sq_iLT h1 rfl) (fun x y hx hy hn => ⟨[some d, some (.int q.length), some x], rfl, (call1 rfl).trans (is_number_ok hn)⟩)
  refine (andT ((call1 rfl).trans (sq_isl h1))).trans ((andT ((m2P ((bcall1 rfl).trans e2) (varP rfl)).trans ?_)).trans e3)
  rw [eq_ii]
  simp
theorem tab_points {d : D} {M : List (List Rat)} (h : Tab d M) {w : Nat} (h1 : 2 ≤ M.length ∧ M.length ≤ 9) (h2 : 1 ≤ w ∧ w ≤ 8) (hw : ∀ r ∈ M, r.length = w) : m_is_points c [d] s = .ok (.bl true) s := by
  obtain ⟨ds, k, a⟩ := h
  obtain ⟨r0, M', rfl⟩ : ∃ r0 M', M = r0 :: M' := by
    cases M with
    | nil => simp at h1
    | cons r M => exact ⟨r, M, rfl⟩
  have hr0 := hw r0 (by simp)
  obtain ⟨d0, g0, k0⟩ := a.get (i := 0) (b := r0) rfl
  obtain ⟨es, q1, q2⟩ := k0
  have x0 := sq_ix (s := s) k g0
  simp only [Int.natCast_zero] at x0
  have l0 := sq_len (s := s) q1
  rw [q2.len, hr0] at l0
  have e2 := sq_len (s := s) k
  rw [a.len] at e2
  refine runP1 (retP ((callDP (consP (varP rfl) (consP conP (consP conP (consP conP nilP)))) rfl).trans ?_))
  have E0 : ∀ y z : Option D, m2 ixDD (mVar 0) (mC (.int 0)) [some d, some (.int 2), some (.int 9), some (.int 8), y, z] s = .ok d0 s := fun y z => (m2P (varP rfl) conP).trans x0
  have L0 : ∀ y z : Option D, mCall bLenA (aCons (m2 ixDD (mVar 0) (mC (.int 0))) aNil) [some d, some (.int 2), some (.int 9), some (.int 8), y, z] s = .ok (.int w) s := fun y z => (callP (consP (E0 y z) nilP)).trans l0
  have t3 := comp_true (s := s) (own := [5]) (mi := iLT (mVar 0)) (mt := tName 5) (me := mCallD (n := 2) [] (m_is_numbers c) (aCons (mVar 5) (aCons (mVar 4) aNil))) (env := [some d, some (.int 2), some (.int 9), some (.int 8), some (.int w), none]) a (by omega) (sq_iLT k rfl) (fun x y hx hy hn => ⟨[some d, some (.int 2), some (.int 9), some (.int 8), some (.int w), some x], rfl, (callDP (consP (varP rfl) (consP (varP rfl) nilP)) rfl).trans (by
    have := row_numbers (c := c) (s := s) hn (by rw [hw y hy]; omega)
    rwa [hw y hy] at this)⟩)
  refine (show m_is_table c [d, .int 2, .int 9, .int 8] s = .ok (.bl true) s from ?_)
  have st : b_is_table c [some d, some (.int 2), some (.int 9), some (.int 8), none, none] s = .ok (.rt (.bl true)) s := by
    refine (seqP (if_no (or_f (not_t (bt_of ((call1 rfl).trans (sq_isl k)))) (not_t (chain_le (varP rfl) ((bcall1 rfl).trans e2) (varP rfl) (by omega) (by omega)))))).trans ?_
    refine (seqP (if_no (or_f (not_t (bt_of ((callDP (consP (E0 _ _) nilP) rfl).trans (sq_isl q1)))) (not_t (chain_le conP (L0 _ _) (varP rfl) (by omega) (by omega)))))).trans ?_
    exact (seqP (setP (L0 _ _))).trans (retP t3)
  show runBody 4 6 (b_is_table c) _ s = _
  simp [runBody, st]
theorem check_ok {d : D} {M : List (List Rat)} (h : Tab d M) {w : Nat} (h1 : 2 ≤ M.length ∧ M.length ≤ 9) (h2 : 1 ≤ w ∧ w ≤ 8) (hw : ∀ r ∈ M, r.length = w) : m_check_points c [d] s = .ok .non s := by
  have e := tab_points (c := c) (s := s) h h1 h2 hw
  have st : b_check_points c [some d] s = .ok (.nx [some d]) s := if_no (not_t (bt_of ((call1 rfl).trans e)))
  simp [m_check_points, runBody, st]
end U
set_option Elab.async false
set_option linter.all false
set_option maxHeartbeats 400000
namespace Th
abbrev Vc := Nat → Rat
inductive Sp (B : List Vc) : Vc → Prop
  | zero : Sp B (fun _ => 0)
  | step (a : Rat) (b : Vc) (v : Vc) (hb : b ∈ B) (h : Sp B v) : Sp B (fun i => a * b i + v i)
variable {B C : List Vc} {u v w : Vc}
theorem Sp.smul (a : Rat) (h : Sp B v) : Sp B (fun i => a * v i) := by
  induction h with
  | zero =>
    have : (fun _ : Nat => a * (0 : Rat)) = fun _ => 0 := by funext i; grind
    rw [this]; exact .zero
  | step b r v hb _ ih =>
    have : (fun i => a * (b * r i + v i)) = fun i => (a * b) * r i + a * v i := by funext i; grind
    rw [this]; exact .step _ _ _ hb ih
theorem Sp.add (h : Sp B u) (k : Sp B v) : Sp B (fun i => u i + v i) := by
  induction h with
  | zero =>
    have : (fun i => (0 : Rat) + v i) = v := by funext i; grind
    rw [this]; exact k
  | step b r w hb _ ih =>
    have : (fun i => b * r i + w i + v i) = fun i => b * r i + (w i + v i) := by funext i; grind
    rw [this]; exact .step _ _ _ hb ih
theorem Sp.mem (h : v ∈ B) : Sp B v := by
  have : v = fun i => 1 * v i + 0 := by funext i; grind
  rw [this]; exact .step 1 v _ h .zero
theorem Sp.sub (h : Sp B u) (k : Sp B v) : Sp B (fun i => u i - v i) := by
  have : (fun i => u i - v i) = fun i => u i + (-1) * v i := by funext i; grind
  rw [this]; exact h.add (k.smul (-1))
theorem Sp.of (hB : ∀ b ∈ B, Sp C b) (h : Sp B v) : Sp C v := by
  induction h with
  | zero => exact .zero
  | step a b v hb _ ih => exact ((hB b hb).smul a).add ih
theorem Sp.sub_of (hB : ∀ b ∈ B, b ∈ C) (h : Sp B v) : Sp C v := h.of fun b hb => .mem (hB b hb)
theorem Sp.all {P : Vc → Prop} (h0 : P fun _ => 0) (hs : ∀ a b v, b ∈ B → P b → P v → P fun i => a * b i + v i) (hB : ∀ b ∈ B, P b) (h : Sp B v) : P v := by
  induction h with
  | zero => exact h0
  | step a b v hb _ ih => exact hs a b v hb (hB b hb) ih
def Eqv (B C : List Vc) : Prop := (∀ b ∈ B, Sp C b) ∧ ∀ c ∈ C, Sp B c
theorem Eqv.rfl' : Eqv B B := ⟨fun _ h => .mem h, fun _ h => .mem h⟩
theorem Eqv.symm (h : Eqv B C) : Eqv C B := ⟨h.2, h.1⟩
theorem Eqv.trans {D : List Vc} (h : Eqv B C) (k : Eqv C D) : Eqv B D := ⟨fun b hb => (h.1 b hb).of k.1, fun d hd => (k.2 d hd).of h.2⟩
def Hd (p : Nat × Vc) : Prop := p.2 p.1 = 1 ∧ ∀ i, i < p.1 → p.2 i = 0
inductive Ech : List (Nat × Vc) → Prop
  | nil : Ech []
  | cons (p : Nat × Vc) (l : List (Nat × Vc)) (hp : Hd p) (h : ∀ q ∈ l, p.1 < q.1 ∧ p.2 q.1 = 0 ∧ q.2 p.1 = 0) (hl : Ech l) : Ech (p :: l)
theorem Ech.hd {l : List (Nat × Vc)} (h : Ech l) : ∀ p ∈ l, Hd p := by
  induction h with
  | nil => intro p hp; simp at hp
  | cons p l hp _ _ ih => intro q hq; rcases List.mem_cons.mp hq with rfl | hq; exact hp; exact ih q hq
def rows (l : List (Nat × Vc)) : List Vc := l.map Prod.snd
def cmb (l : List (Nat × Vc)) (v : Vc) : Vc := fun i => l.foldr (fun p a => v p.1 * p.2 i + a) 0
theorem cmb_cons (p : Nat × Vc) (l : List (Nat × Vc)) (v : Vc) (i : Nat) : cmb (p :: l) v i = v p.1 * p.2 i + cmb l v i := rfl
theorem cmb_lin (l : List (Nat × Vc)) (a : Rat) (u v : Vc) (i : Nat) : cmb l (fun j => a * u j + v j) i = a * cmb l u i + cmb l v i := by
  induction l with
  | nil => simp [cmb]; grind
  | cons p l ih => rw [cmb_cons, cmb_cons, cmb_cons, ih]; grind
theorem cmb_zero (l : List (Nat × Vc)) (v : Vc) (h : ∀ p ∈ l, v p.1 = 0) (i : Nat) : cmb l v i = 0 := by
  induction l with
  | nil => rfl
  | cons p l ih => rw [cmb_cons, ih fun q hq => h q (by simp [hq]), h p (by simp)]; grind
theorem Ech.fst {l : List (Nat × Vc)} (h : Ech l) : (l.map Prod.fst).Pairwise (· < ·) := by
  induction h with
  | nil => exact List.Pairwise.nil
  | cons p l _ hl _ ih =>
    refine List.Pairwise.cons (fun x hx => ?_) ih
    obtain ⟨q, hq, rfl⟩ := List.mem_map.mp hx
    exact (hl q hq).1
theorem Ech.at {l : List (Nat × Vc)} (h : Ech l) : ∀ p ∈ l, ∀ q ∈ l, p.2 q.1 = if p.1 = q.1 then 1 else 0 := by
  induction h with
  | nil => intro p hp; simp at hp
  | cons r l hr hl _ ih =>
    intro p hp q hq
    rcases List.mem_cons.mp hp with e1 | p1 <;> rcases List.mem_cons.mp hq with e2 | q1
    · rw [e1, e2, if_pos rfl]; exact hr.1
    · have := hl q q1
      rw [e1, if_neg (by omega)]; exact this.2.1
    · have := hl p p1
      rw [e2, if_neg (by omega)]; exact this.2.2
    · exact ih p p1 q q1
end Th
set_option Elab.async false
set_option linter.all false
set_option maxHeartbeats 400000
namespace Th
def Clr (head : Vc) (c : Nat) (r r' : Vc) : Prop := ∃ g a b : Rat, g ≠ 0 ∧ a ≠ 0 ∧ (∀ i, g * r' i = a * r i - b * head i) ∧ a * r c = b * head c
structure Swp (orig : List Vc) (c : Nat) (done : List (Nat × Vc)) (left : List Vc) : Prop where
  lz : ∀ r ∈ left, ∀ j, j < c → r j = 0
  nz : ∀ p ∈ done, p.2 p.1 ≠ 0 ∧ ∀ i, i < p.1 → p.2 i = 0
  pw : done.Pairwise fun p q => p.1 < q.1 ∧ p.2 q.1 = 0 ∧ q.2 p.1 = 0
  lt : ∀ p ∈ done, p.1 < c
  eq : Eqv (rows done ++ left) orig
theorem Swp.start {orig left : List Vc} (h : Eqv left orig) : Swp orig 0 [] left where
  lz := fun _ _ j hj => absurd hj (Nat.not_lt_zero _)
  nz := fun p hp => by simp at hp
  pw := List.Pairwise.nil
  lt := fun p hp => by simp at hp
  eq := h
theorem Swp.skip {orig left : List Vc} {c : Nat} {done : List (Nat × Vc)} (S : Swp orig c done left) (h : ∀ r ∈ left, r c = 0) : Swp orig (c + 1) done left where
  lz := fun r hr j hj => by
    rcases Nat.lt_or_ge j c with k | k
    · exact S.lz r hr j k
    · rw [show j = c by omega]; exact h r hr
  nz := S.nz
  pw := S.pw
  lt := fun p hp => Nat.lt_succ_of_lt (S.lt p hp)
  eq := S.eq
theorem clr_zero {head r r' : Vc} {c j : Nat} (h : Clr head c r r') (h1 : r j = 0) (h2 : head j = 0) : r' j = 0 := by
  obtain ⟨g, a, b, hg, _, e, _⟩ := h
  have := e j
  rw [h1, h2] at this
  have z : g * r' j = 0 := by grind
  exact (Rat.mul_eq_zero.mp z).resolve_left hg
theorem clr_at {head r r' : Vc} {c : Nat} (h : Clr head c r r') : r' c = 0 := by
  obtain ⟨g, a, b, hg, _, e, e2⟩ := h
  have := e c
  have z : g * r' c = 0 := by grind
  exact (Rat.mul_eq_zero.mp z).resolve_left hg
theorem clr_ne {head r r' : Vc} {c j : Nat} (h : Clr head c r r') (h1 : r j ≠ 0) (h2 : head j = 0) : r' j ≠ 0 := fun z => by
  obtain ⟨g, a, b, hg, ha, e, _⟩ := h
  have := e j
  rw [z, h2] at this
  have z : a * r j = 0 := by grind
  exact (Rat.mul_eq_zero.mp z).elim ha h1
theorem clr_sp {head r r' : Vc} {c : Nat} {B : List Vc} (h : Clr head c r r') (h1 : Sp B r) (h2 : Sp B head) : Sp B r' := by
  obtain ⟨g, a, b, hg, ha, e, _⟩ := h
  have : r' = fun i => (a / g) * r i - (b / g) * head i := by
    funext i
    have := e i
    grind
  rw [this]
  exact (h1.smul _).sub (h2.smul _)
theorem clr_sp' {head r r' : Vc} {c : Nat} {B : List Vc} (h : Clr head c r r') (h1 : Sp B r') (h2 : Sp B head) : Sp B r := by
  obtain ⟨g, a, b, hg, ha, e, _⟩ := h
  have : r = fun i => (g / a) * r' i + (b / a) * head i := by
    funext i
    have := e i
    grind
  rw [this]
  exact (h1.smul _).add (h2.smul _)
theorem Swp.step {α β : Type} {orig left : List Vc} {c : Nat} {D : List α} {hd : α → Nat} {v v' : α → Vc} {L : List β} {w w' : β → Vc} {head head' : Vc} {k : Rat} (S : Swp orig c (D.map fun x => (hd x, v x)) left) (hl : ∀ r, r ∈ left ↔ r = head ∨ r ∈ L.map w) (h0 : head c ≠ 0)
    (hk : k ≠ 0) (hh : head' = fun i => k * head i) (cd : ∀ x ∈ D, Clr head c (v x) (v' x)) (cl : ∀ y ∈ L, Clr head c (w y) (w' y)) : Swp orig (c + 1) ((D.map fun x => (hd x, v' x)) ++ [(c, head')]) (L.map w') := by
  have hz : ∀ j, j < c → head j = 0 := fun j hj => S.lz head ((hl head).mpr (.inl rfl)) j hj
  have hlt : ∀ x ∈ D, hd x < c := fun x hx => S.lt (hd x, v x) (List.mem_map.mpr ⟨x, hx, rfl⟩)
  have hnz : ∀ x ∈ D, v x (hd x) ≠ 0 ∧ ∀ i, i < hd x → v x i = 0 := fun x hx => S.nz (hd x, v x) (List.mem_map.mpr ⟨x, hx, rfl⟩)
  have hz' : ∀ j, j < c → head' j = 0 := fun j hj => by rw [hh]; show k * head j = 0; rw [hz j hj]; grind
  refine ⟨fun r hr j hj => ?_, fun p hp => ?_, ?_, fun p hp => ?_, ?_⟩
  · obtain ⟨y, hy, rfl⟩ := List.mem_map.mp hr
    rcases Nat.lt_or_ge j c with q | q
    · exact clr_zero (cl y hy) (S.lz _ ((hl _).mpr (.inr (List.mem_map.mpr ⟨y, hy, rfl⟩))) j q) (hz j q)
    · rw [show j = c by omega]; exact clr_at (cl y hy)
  · rcases List.mem_append.mp hp with hp | hp
    · obtain ⟨x, hx, rfl⟩ := List.mem_map.mp hp
      exact ⟨clr_ne (cd x hx) (hnz x hx).1 (hz _ (hlt x hx)), fun i hi => clr_zero (cd x hx) ((hnz x hx).2 i hi) (hz i (Nat.lt_trans hi (hlt x hx)))⟩
    · obtain rfl : p = (c, head') := by simpa using hp
      refine ⟨?_, fun i hi => hz' i hi⟩
      rw [hh]
      exact fun z => (Rat.mul_eq_zero.mp z).elim hk h0
  · refine List.pairwise_append.mpr ⟨?_, by simp, fun p hp q hq => ?_⟩
    · have pw := S.pw
      rw [List.pairwise_map] at pw ⊢
      refine pw.imp_of_mem fun {x y} hx hy h => ?_
      exact ⟨h.1, clr_zero (cd x hx) h.2.1 (hz _ (hlt y hy)), clr_zero (cd y hy) h.2.2 (hz _ (hlt x hx))⟩
    · obtain ⟨x, hx, rfl⟩ := List.mem_map.mp hp
      obtain rfl : q = (c, head') := by simpa using hq
      exact ⟨hlt x hx, clr_at (cd x hx), hz' _ (hlt x hx)⟩
  · rcases List.mem_append.mp hp with hp | hp
    · obtain ⟨x, hx, rfl⟩ := List.mem_map.mp hp
      exact Nat.lt_succ_of_lt (hlt x hx)
    · obtain rfl : p = (c, head') := by simpa using hp
      exact Nat.lt_succ_self _
  · refine Eqv.trans ⟨fun b hb => ?_, fun b hb => ?_⟩ S.eq
    · have sh : Sp (rows (D.map fun x => (hd x, v x)) ++ left) head := .mem (List.mem_append_right _ ((hl head).mpr (.inl rfl)))
      simp only [rows, List.map_append, List.map_map, List.mem_append, List.mem_map, Function.comp, List.map_cons, List.map_nil, List.mem_cons, List.not_mem_nil, or_false] at hb
      rcases hb with (⟨x, hx, rfl⟩ | rfl) | ⟨y, hy, rfl⟩
      · exact clr_sp (cd x hx) (.mem (List.mem_append_left _ (List.mem_map.mpr ⟨(hd x, v x), List.mem_map.mpr ⟨x, hx, rfl⟩, rfl⟩))) sh
      · rw [hh]; exact sh.smul k
      · exact clr_sp (cl y hy) (.mem (List.mem_append_right _ ((hl _).mpr (.inr (List.mem_map.mpr ⟨y, hy, rfl⟩))))) sh
    · have sh' : Sp (rows ((D.map fun x => (hd x, v' x)) ++ [(c, head')]) ++ L.map w') head' := .mem (List.mem_append_left _ (by simp [rows]))
      have sh : Sp (rows ((D.map fun x => (hd x, v' x)) ++ [(c, head')]) ++ L.map w') head := by
        have : head = fun i => (1 / k) * head' i := by
          funext i
          rw [hh]
          grind
        rw [this]
        exact sh'.smul _
      simp only [rows, List.map_map, List.mem_append, List.mem_map, Function.comp] at hb
      rcases hb with ⟨x, hx, rfl⟩ | hb
      · exact clr_sp' (cd x hx) (.mem (List.mem_append_left _ (by
          simp only [rows, List.map_append, List.map_map, List.mem_append, List.mem_map, Function.comp]
          exact .inl ⟨x, hx, rfl⟩))) sh
      · rcases (hl b).mp hb with rfl | hb
        · exact sh
        · obtain ⟨y, hy, rfl⟩ := List.mem_map.mp hb
          exact clr_sp' (cl y hy) (.mem (List.mem_append_right _ (List.mem_map.mpr ⟨y, hy, rfl⟩))) sh
def nrm (p : Nat × Vc) : Nat × Vc := (p.1, fun i => p.2 i / p.2 p.1)
theorem Swp.fin {orig left : List Vc} {c : Nat} {done : List (Nat × Vc)} (S : Swp orig c done left) (hz : ∀ r ∈ left, ∀ i, r i = 0) : Ech (done.map nrm) ∧ Eqv (rows (done.map nrm)) orig := by
  constructor
  · have nz := S.nz
    have pw := S.pw
    clear S hz
    induction done with
    | nil => exact .nil
    | cons p l ih =>
      rw [List.pairwise_cons] at pw
      have n0 := nz p (by simp)
      refine .cons _ _ ⟨?_, fun i hi => ?_⟩ (fun q hq => ?_) (ih (fun q hq => nz q (by simp [hq])) pw.2)
      · show p.2 p.1 / p.2 p.1 = 1
        have := n0.1
        grind
      · show p.2 i / p.2 p.1 = 0
        rw [n0.2 i hi]
        grind
      · obtain ⟨r, hr, rfl⟩ := List.mem_map.mp hq
        have h := pw.1 r hr
        refine ⟨h.1, ?_, ?_⟩
        · show p.2 r.1 / p.2 p.1 = 0
          rw [h.2.1]
          grind
        · show r.2 p.1 / r.2 r.1 = 0
          rw [h.2.2]
          grind
  · refine Eqv.trans ⟨fun b hb => ?_, fun b hb => ?_⟩ S.eq
    · obtain ⟨q, hq, rfl⟩ := List.mem_map.mp hb
      obtain ⟨p, hp, rfl⟩ := List.mem_map.mp hq
      have : (nrm p).2 = fun i => (1 / p.2 p.1) * p.2 i := by
        funext i
        show p.2 i / p.2 p.1 = (1 / p.2 p.1) * p.2 i
        grind
      rw [this]
      exact (Sp.mem (List.mem_append_left _ (List.mem_map.mpr ⟨p, hp, rfl⟩))).smul _
    · rcases List.mem_append.mp hb with hb | hb
      · obtain ⟨p, hp, rfl⟩ := List.mem_map.mp hb
        have n0 := (S.nz p hp).1
        have : p.2 = fun i => p.2 p.1 * (nrm p).2 i := by
          funext i
          show p.2 i = p.2 p.1 * (p.2 i / p.2 p.1)
          grind
        rw [this]
        exact (Sp.mem (List.mem_map.mpr ⟨nrm p, List.mem_map.mpr ⟨p, hp, rfl⟩, rfl⟩)).smul _
      · have : b = fun _ => 0 := by funext i; exact hz b hb i
        rw [this]
        exact .zero
end Th
set_option Elab.async false
set_option linter.all false
set_option maxHeartbeats 400000
namespace Th
def Dual (l : List (Nat × Vc)) : Prop := (∀ p ∈ l, p.2 p.1 = 1) ∧ l.Pairwise fun p q => p.2 q.1 = 0 ∧ q.2 p.1 = 0
theorem Ech.dual {l : List (Nat × Vc)} (h : Ech l) : Dual l := by
  refine ⟨fun p hp => (h.hd p hp).1, ?_⟩
  induction h with
  | nil => exact List.Pairwise.nil
  | cons p l _ hl _ ih => exact List.Pairwise.cons (fun q hq => (hl q hq).2) ih
theorem sp_cons {b : Vc} {B : List Vc} {v : Vc} (h : Sp (b :: B) v) : ∃ a u, Sp B u ∧ v = fun i => a * b i + u i := by
  induction h with
  | zero => exact ⟨0, _, .zero, by funext i; grind⟩
  | step a r v hr _ ih =>
    obtain ⟨x, u, hu, rfl⟩ := ih
    rcases List.mem_cons.mp hr with rfl | hr
    · exact ⟨a + x, u, hu, by funext i; grind⟩
    · exact ⟨x, _, .step a r u hr hu, by funext i; grind⟩
theorem sp_nil {v : Vc} (h : Sp [] v) : v = fun _ => 0 := by
  cases h with
  | zero => rfl
  | step a b v hb _ => simp at hb
theorem dual_le : ∀ (B : List Vc) (l : List (Nat × Vc)), Dual l → (∀ p ∈ l, Sp B p.2) → l.length ≤ B.length
  | [], l, h, hs => by
    cases l with
    | nil => exact Nat.le_refl _
    | cons p l =>
      have z := sp_nil (hs p (by simp))
      have o := h.1 p (by simp)
      rw [z] at o
      have o' : (0 : Rat) = 1 := o
      exact absurd o' (by decide)
  | b :: B, l, h, hs => by
    by_cases hall : ∀ p ∈ l, Sp B p.2
    · exact Nat.le_succ_of_le (dual_le B l h hall)
    · obtain ⟨p0, hp⟩ := Classical.not_forall.mp hall
      obtain ⟨hp0, hn⟩ := Classical.not_imp.mp hp
      obtain ⟨l1, l2, rfl⟩ := List.append_of_mem hp0
      obtain ⟨a0, u0, hu0, e0⟩ := sp_cons (hs p0 hp0)
      have ha0 : a0 ≠ 0 := fun z => hn (by
        have : p0.2 = u0 := by rw [e0, z]; funext i; grind
        rw [this]; exact hu0)
      -- b is made of p0 and B
      have key : ∀ p ∈ l1 ++ l2, ∃ k : Rat, Sp B fun i => p.2 i - k * p0.2 i := fun p hp => by
        obtain ⟨a, u, hu, e⟩ := sp_cons (hs p (by simp only [List.mem_append, List.mem_cons] at hp ⊢; rcases hp with q | q; exact .inl q; exact .inr (.inr q)))
        refine ⟨a / a0, ?_⟩
        have : (fun i => p.2 i - a / a0 * p0.2 i) = fun i => u i - (a / a0) * u0 i := by
          funext i
          rw [e, e0]
          grind
        rw [this]
        exact hu.sub (hu0.smul _)
      have pw := List.pairwise_append.mp h.2
      have pw2 := List.pairwise_cons.mp pw.2.1
      -- the others less their share
      let f : Nat × Vc → Nat × Vc := fun p => (p.1, fun i => p.2 i - (Classical.epsilon fun k : Rat => Sp B fun i => p.2 i - k * p0.2 i) * p0.2 i)
      have fs : ∀ p ∈ l1 ++ l2, Sp B (f p).2 := fun p hp => Classical.epsilon_spec (key p hp)
      have z1 : ∀ p ∈ l1 ++ l2, p0.2 p.1 = 0 := fun p hp => by
        rcases List.mem_append.mp hp with q | q
        · exact (pw.2.2 p q p0 (by simp)).2
        · exact (pw2.1 p q).1
      have hd : Dual ((l1 ++ l2).map f) := by
        refine ⟨fun p hp => ?_, ?_⟩
        · obtain ⟨q, hq, rfl⟩ := List.mem_map.mp hp
          show q.2 q.1 - _ * p0.2 q.1 = 1
          rw [z1 q hq, h.1 q (by simp only [List.mem_append, List.mem_cons] at hq ⊢; rcases hq with x | x; exact .inl x; exact .inr (.inr x))]
          grind
        · rw [List.pairwise_map]
          have : (l1 ++ l2).Pairwise fun p q => p.2 q.1 = 0 ∧ q.2 p.1 = 0 := List.pairwise_append.mpr ⟨pw.1, pw2.2, fun p hp q hq => pw.2.2 p hp q (by simp [hq])⟩
          refine this.imp_of_mem fun {p q} hp hq h => ⟨?_, ?_⟩
          · show p.2 q.1 - _ * p0.2 q.1 = 0
            rw [h.1, z1 q hq]
            grind
          · show q.2 p.1 - _ * p0.2 p.1 = 0
            rw [h.2, z1 p hp]
            grind
      have := dual_le B ((l1 ++ l2).map f) hd fun p hp => by
        obtain ⟨q, hq, rfl⟩ := List.mem_map.mp hp
        exact fs q hq
      simp only [List.length_map, List.length_append, List.length_cons] at this ⊢
      omega
def sm : Nat → (Nat → Rat) → Rat
  | 0, _ => 0
  | n + 1, f => sm n f + f n
theorem Ech.sub {l : List (Nat × Vc)} (h : Ech l) (q : Nat × Vc → Bool) : Ech (l.filter q) := by
  induction h with
  | nil => exact .nil
  | cons p l hp hl _ ih =>
    rw [List.filter_cons]
    split
    · exact .cons _ _ hp (fun r hr => hl r (List.mem_filter.mp hr).1) ih
    · exact ih
def Wide (n w : Nat) (A : Nat → Vc) : Prop := ∀ i, i < n → ∀ j, w ≤ j → A i j = 0
def lst (n : Nat) (A : Nat → Vc) : List Vc := (List.range n).map A
end Th
set_option Elab.async false
set_option linter.all false
set_option maxRecDepth 100000
set_option maxHeartbeats 1000000
set_option exponentiation.threshold 20000
namespace U
open Pm PySem
variable {c : Cfg} {s : S}
def gcdL (ns : List Int) : Int := ns.foldl gcdI 0
def wcpR (ns : List Int) : List Int := if gcdL ns < 2 then ns else ns.map fun n => n.fdiv (gcdL ns)
theorem list_of {d : D} {ds : List D} (h : Sq2 d ds) (hl : ds.length ≤ 1000000) : bList [d] s = .ok (.lst ds) s := by
  have hl' : ds.length ≤ line := by unfold line; omega
  cases h <;> simp [bList, seqOf, newL, hl']
def vi (r : List Int) : Th.Vc := fun i => ((r.getD i 0 : Int) : Rat)
def vq (r : List Rat) : Th.Vc := fun i => r.getD i 0
end U
set_option Elab.async false
set_option linter.all false
set_option maxRecDepth 100000
set_option maxHeartbeats 1000000
set_option exponentiation.threshold 20000
namespace U
open Pm PySem
variable {c : Cfg} {s : S}
def Fr (d k : Nat) (q : Rat) : Prop := ∃ z : Int, q * (d : Rat) = z ∧ z.natAbs < 2 ^ k
theorem Fr.mono {d k m : Nat} {q : Rat} (h : Fr d k q) (l : k ≤ m) : Fr d m q := by
  obtain ⟨z, e, b⟩ := h
  exact ⟨z, e, Nat.lt_of_lt_of_le b (pow_le l)⟩
theorem Fr.add {d k m : Nat} {p q : Rat} (hp : Fr d k p) (hq : Fr d m q) : Fr d (max k m + 1) (p + q) := by
  obtain ⟨y, e1, b1⟩ := hp
  obtain ⟨z, e2, b2⟩ := hq
  refine ⟨y + z, by rw [Rat.intCast_add, ← e1, ← e2]; grind, ?_⟩
  have := Int.natAbs_add_le y z
  have c1 := Nat.lt_of_lt_of_le b1 (pow_le (Nat.le_max_left k m))
  have c2 := Nat.lt_of_lt_of_le b2 (pow_le (Nat.le_max_right k m))
  rw [Nat.pow_succ]
  omega
theorem Fr.neg {d k : Nat} {p : Rat} (hp : Fr d k p) : Fr d k (-p) := by
  obtain ⟨y, e1, b1⟩ := hp
  exact ⟨-y, by rw [Rat.intCast_neg, ← e1]; grind, by simpa using b1⟩
theorem Fr.mul {d e k m : Nat} {p q : Rat} (hp : Fr d k p) (hq : Fr e m q) : Fr (d * e) (k + m) (p * q) := by
  obtain ⟨y, e1, b1⟩ := hp
  obtain ⟨z, e2, b2⟩ := hq
  refine ⟨y * z, ?_, ?_⟩
  · rw [Rat.intCast_mul, ← e1, ← e2, Rat.natCast_mul]
    grind
  · rw [Int.natAbs_mul, Nat.pow_add]
    exact Nat.mul_lt_mul'' b1 b2
theorem Fr.int {k : Nat} {i : Int} (h : i.natAbs < 2 ^ k) : Fr 1 k (i : Rat) := ⟨i, by grind, h⟩
theorem Fr.more {d k e m : Nat} {q : Rat} (h : Fr d k q) (he : e < 2 ^ m) : Fr (d * e) (k + m) q := by
  have := h.mul (q := 1) (e := e) (m := m) ⟨e, by rw [Rat.one_mul]; rfl, by simpa using he⟩
  simpa using this
theorem Fr.zero (d k : Nat) : Fr d k 0 := ⟨0, by grind, by simpa using Nat.two_pow_pos k⟩
theorem fr_cross {d : Nat} {q : Rat} {z : Int} (h : q * (d : Rat) = z) : q.num * d = z * q.den := by
  have e : (q.num : Rat) = q * q.den := by
    have h1 := Rat.num_divInt_den q
    rw [Rat.divInt_eq_div] at h1
    have h0 : ((q.den : Int) : Rat) ≠ 0 := fun z => den_ne q ((Rat.intCast_inj (b := 0)).mp z)
    have h2 : ((q.den : Int) : Rat) = (q.den : Rat) := rfl
    rw [h2] at h1 h0
    grind
  have : ((q.num * d : Int) : Rat) = ((z * q.den : Int) : Rat) := by
    rw [Rat.intCast_mul, Rat.intCast_mul, e, ← h]
    show q * (q.den : Rat) * (d : Rat) = q * (d : Rat) * (q.den : Rat)
    grind
  exact Rat.intCast_inj.mp this
theorem Fr.den {d k : Nat} {q : Rat} (h : Fr d k q) : q.den ∣ d := by
  obtain ⟨z, e, _⟩ := h
  have x := fr_cross e
  have y : q.den ∣ q.num.natAbs * d := by
    have : (q.num * d).natAbs = (z * q.den).natAbs := by rw [x]
    rw [Int.natAbs_mul, Int.natAbs_mul, Int.natAbs_natCast, Int.natAbs_natCast] at this
    exact ⟨z.natAbs, by rw [this, Nat.mul_comm]⟩
  exact Nat.Coprime.dvd_of_dvd_mul_left (Nat.Coprime.symm q.reduced) y
theorem Fr.bq {d k : Nat} {q : Rat} (h : Fr d k q) (hd : 0 < d) (hk : d < 2 ^ k) : Bq k q := by
  have hden := Nat.le_of_dvd hd h.den
  obtain ⟨z, e, b⟩ := h
  have x := fr_cross e
  refine ⟨?_, Nat.lt_of_le_of_lt hden hk⟩
  have : q.num.natAbs * d = z.natAbs * q.den := by
    have := congrArg Int.natAbs x
    rwa [Int.natAbs_mul, Int.natAbs_mul, Int.natAbs_natCast, Int.natAbs_natCast] at this
  have h1 : q.num.natAbs * d ≤ z.natAbs * d := by rw [this]; exact Nat.mul_le_mul_left _ hden
  exact Nat.lt_of_le_of_lt (Nat.le_of_mul_le_mul_right h1 hd) b
def lcmL (qs : List Rat) : Nat := qs.foldl (fun a q => Nat.lcm a q.den) 1
def wholeF (qs : List Rat) : List Int := wcpR (qs.map fun q => q.num * ((lcmL qs : Int).fdiv q.den))
end U
set_option Elab.async false
set_option linter.all false
set_option maxRecDepth 100000
set_option maxHeartbeats 1000000
set_option exponentiation.threshold 20000
namespace U
open Pm PySem
variable {c : Cfg} {s : S}
abbrev Rws := List (List Int)
theorem cat_ll {a b : List D} (h : a.length + b.length ≤ 1000000) : pAdd c (.lst a) (.lst b) s = .ok (.lst (a ++ b)) s := by
  have hl : (a ++ b).length ≤ line := by rw [List.length_append]; unfold line; omega
  have e0 : catL (.lst a) (.lst b) s = .ok (.lst (a ++ b)) s := if_pos hl
  have e : addAll (.lst a) (.lst b) s = .ok (.lst (a ++ b)) s := by simp [addAll, addD, addI, intOp, e0, Res.or]
  unfold pAdd
  rw [e]
  rfl
def bits (k t : Nat) : Nat := 2 ^ t * (k + 1)
structure Inv (O : List Th.Vc) (w n k col : Nat) (P : List (Nat × List Int)) (lf : Rws) : Prop where
  len : ∀ p ∈ P, p.2.length = w
  lfl : ∀ r ∈ lf, r.length = w
  bd : ∀ p ∈ P, ∀ x ∈ p.2, x.natAbs < 2 ^ (bits k P.length - 1)
  lbd : ∀ r ∈ lf, ∀ x ∈ r, x.natAbs < 2 ^ (bits k P.length - 1)
  cnt : P.length + lf.length = n
  swp : Th.Swp O col (P.map fun p => (p.1, vi p.2)) (lf.map vi)
theorem pow_mul_le {k t n : Nat} (h : t ≤ n) : bits k t ≤ bits k n := Nat.mul_le_mul_right _ (pow_le h)
theorem bits_succ (k t : Nat) : bits k (t + 1) = 2 * bits k t := by unfold bits; rw [Nat.pow_succ, Nat.mul_comm (2 ^ t) 2, Nat.mul_assoc]
theorem bits_pos (k t : Nat) : 1 ≤ bits k t := Nat.mul_pos (Nat.two_pow_pos t) (Nat.succ_pos k)
end U
set_option Elab.async false
set_option linter.all false
set_option maxRecDepth 100000
set_option maxHeartbeats 1000000
set_option exponentiation.threshold 20000
set_option Elab.async false
set_option linter.all false
set_option maxRecDepth 100000
set_option maxHeartbeats 1000000
set_option exponentiation.threshold 20000
namespace U
open Pm PySem
variable {c : Cfg} {s : S}
abbrev rowR (r : List Rat) : D := .lst (r.map rq)
end U
set_option Elab.async false
set_option linter.all false
set_option maxRecDepth 100000
set_option maxHeartbeats 1000000
set_option exponentiation.threshold 20000
namespace U
open Pm PySem
variable {c : Cfg} {s : S}
structure Fine (M : List (List Rat)) (m k w n : Nat) : Prop where
  row : ∀ r ∈ M, r.length = w
  num : ∀ r ∈ M, ∀ q ∈ r, Fr m k q
  cnt : M.length = n
  n0 : 0 < n
  n1 : n ≤ 100
  w1 : w ≤ 100
  m0 : 0 < m
  m64 : m < 18446744073709551616
  mk2 : m < 2 ^ k
  kb : bits k n ≤ 9000
theorem Fine.k8 {M : List (List Rat)} {m k w n : Nat} (F : Fine M m k w n) : k ≤ 4499 := by
  have h := F.kb
  have : bits k 1 ≤ bits k n := pow_mul_le F.n0
  unfold bits at this h
  omega
end U
set_option Elab.async false
set_option linter.all false
set_option maxRecDepth 100000
set_option maxHeartbeats 1000000
set_option exponentiation.threshold 20000
namespace U
open Pm PySem
variable {c : Cfg} {s : S}
abbrev w1s (M : List (List Rat)) : List (List Rat) := M.map fun r => r ++ [1]
structure Pok (d : D) (M : List (List Rat)) (m k w n : Nat) : Prop where
  tab : Tab d M
  row : ∀ r ∈ M, r.length = w
  n2 : 2 ≤ n ∧ n ≤ 9
  w2 : 1 ≤ w ∧ w ≤ 8
  fine : Fine (w1s M) m k (w + 1) n
theorem Pok.cnt {d : D} {M : List (List Rat)} {m k w n : Nat} (h : Pok d M m k w n) : M.length = n := by simpa using h.fine.cnt
theorem Pok.check {d : D} {M : List (List Rat)} {m k w n : Nat} (h : Pok d M m k w n) : m_check_points c [d] s = .ok .non s := check_ok h.tab (by rw [h.cnt]; exact h.n2) h.w2 h.row
end U
set_option Elab.async false
set_option linter.all false
set_option maxRecDepth 100000
set_option maxHeartbeats 1000000
set_option exponentiation.threshold 20000
namespace U
open Pm PySem
variable {c : Cfg} {s : S}
theorem toPys_none : ∀ {ds : List D} {d : D}, d ∈ ds → toPy d = none → toPys ds = none
  | e :: ds, d, h, k => by
    rcases List.mem_cons.mp h with rfl | h
    · simp only [toPys, k]
    · simp only [toPys, toPys_none h k]
      split <;> simp_all
theorem eqP_none {x y : D} {neg : Bool} (h : toPy x = none) : eqP neg x y s = .stuck := by
  simp only [eqP, h]
theorem own_eq (q : Rat) (s : S) : m_c0_eq_ c [rq q, rq q] s = .ok (.bl true) s := by
  have e1 : pEq c (.int q.num) (.int q.num) s = .ok (.bl true) s := by rw [eq_ii]; simp
  have e2 : eqP false (.int q.num) (.int q.num) s = .ok (.bl true) s := by
    show Res.ok (D.bl (decide (q.num = q.num))) s = _
    simp
  have e3 : eqP false (.int q.den) (.int q.den) s = .ok (.bl true) s := by
    show Res.ok (D.bl (decide ((q.den : Int) = q.den))) s = _
    simp
  refine runP2 (retP ?_)
  have b1 : mCall (bIs c.k) (aCons (mVar 1) (aCons (mC (.cls 0)) aNil)) [some (rq q), some (rq q)] s = .ok (.bl true) s := rfl
  refine (andT b1).trans ((andT ((m2P (f := eqP false) (x := .int q.num) (y := .int q.num) rfl rfl).trans e2)).trans ?_)
  exact (m2P (f := eqP false) (x := .int q.den) (y := .int q.den) rfl rfl).trans e3
theorem same_rq (q : Rat) (n : Nat) : sameT 0 (m_c0_eq_ c) (n + 1) (rq q) (rq q) = true := by
  unfold sameT
  simp only [rq]
  rw [show (m_c0_eq_ c) [.ins 0 [.int q.num, .int q.den], .ins 0 [.int q.num, .int q.den]] [] = .ok (.bl true) [] from own_eq q []]
  simp [isT]
theorem zip_all {α : Type} {p : α × α → Bool} (h : ∀ x, p (x, x) = true) : ∀ l : List α, (l.zip l).all p = true
  | [] => rfl
  | x :: l => by simp [h x, zip_all h l]
theorem pure_row : ∀ r : List Rat, pureL (r.map rq) = true
  | [] => rfl
  | q :: r => by simp [pureL, pureD, rq, pure_row r]
theorem toPy_row {q : Rat} {r : List Rat} : toPy (rowR (q :: r)) = none := by
  show (toPys ((q :: r).map rq)).map PyData.list = none
  rw [toPys_none (d := rq q) (by simp) rfl]
  rfl
theorem sameF_rq (q : Rat) (n : Nat) : sameF n (rq q) (rq q) = false := by cases n <;> rfl
theorem cmp_row (neg : Bool) (q : Rat) (r : List Rat) : ((eqP neg (rowR (q :: r)) (rowR (q :: r)) s).or (if neg then neOwn 0 (m_c0_eq_ c) (rowR (q :: r)) (rowR (q :: r)) s else eqOwn 0 (m_c0_eq_ c) (rowR (q :: r)) (rowR (q :: r)) s)).or ((eqI neg (rowR (q :: r)) (rowR (q :: r)) s).or (eqT 0 (m_c0_eq_ c) neg (rowR (q :: r)) (rowR (q :: r)) s)) = .ok (.bl (!neg)) s := by
  have e1 : eqP neg (rowR (q :: r)) (rowR (q :: r)) s = .stuck := eqP_none toPy_row
  have e2 : (if neg then neOwn 0 (m_c0_eq_ c) (rowR (q :: r)) (rowR (q :: r)) s else eqOwn 0 (m_c0_eq_ c) (rowR (q :: r)) (rowR (q :: r)) s) = .stuck := by cases neg <;> rfl
  have e3 : eqI neg (rowR (q :: r)) (rowR (q :: r)) s = .stuck := by
    simp [eqI, seqK, sameF_rq]
  have e4 : eqT 0 (m_c0_eq_ c) neg (rowR (q :: r)) (rowR (q :: r)) s = .ok (.bl (!neg)) s := by
    have : (((q :: r).map rq).zip ((q :: r).map rq)).all (fun p => sameT 0 (m_c0_eq_ c) 7 p.1 p.2) = true := by
      rw [List.zip_map, List.all_map]
      exact zip_all (fun q => same_rq q 6) (q :: r)
    have pu := pure_row (q :: r)
    have hc : ((pureL ((q :: r).map rq) && pureL ((q :: r).map rq)) && (decide (((q :: r).map rq).length = ((q :: r).map rq).length) && (((q :: r).map rq).zip ((q :: r).map rq)).all fun p => sameT 0 (m_c0_eq_ c) 7 p.1 p.2)) = true := by rw [pu, this]; simp
    exact if_pos hc
  rw [e1, e2, e3, e4]
  rfl
end U
set_option Elab.async false
set_option linter.all false
set_option maxRecDepth 100000
set_option maxHeartbeats 1000000
set_option exponentiation.threshold 20000
namespace U
open Pm PySem
variable {c : Cfg} {s : S}
structure PS (s : S) : Prop where
  pot : PotP s 0
  cut : cutOk s = true
abbrev Nx (s s' : S) : Prop := NxP s s' 0
theorem PS.next {s' : S} (h : PS s) (n : Nx s s') : PS s' := by
  obtain ⟨⟨x, rfl⟩, p⟩ := n
  refine ⟨p, cut_set ?_ 0 h.cut⟩
  obtain ⟨a, b, e, _⟩ := p
  have hl : 0 < s.length := by simpa using (List.getElem?_eq_some_iff.mp e).1
  rw [List.getElem?_set_self hl] at e
  cases e
  rfl
theorem PS.refl (h : PS s) : Nx s s := NxP.refl h.pot
theorem draw (hd : DrawOk c.dr) (h : PS s) {n : Int} (h0 : 0 < n) (h1 : n < 1000000) : ∃ (r : Nat) (s' : S), c.dr [.cell 0, .int n] s = .ok (.int r) s' ∧ (r : Int) < n ∧ Nx s s' := by
  obtain ⟨r, s', e, a, b, nx⟩ := hd s 0 n h.pot h0 (by omega)
  obtain ⟨r, rfl⟩ : ∃ k : Nat, r = (k : Int) := ⟨r.toNat, by omega⟩
  exact ⟨r, s', e, b, nx⟩
theorem drawE (hd : DrawOk c.dr) (h : PS s) {e : Pm.Env} (he : e[0]? = some (some (.cell 0))) {m : Pm.Env → S → Res D} {n : Int} (hm : m e s = .ok (.int n) s) (h0 : 0 < n) (h1 : n < 1000000) :
    ∃ (r : Nat) (s' : S), mCallD (n := 2) [] c.dr (aCons (mVar 0) (aCons m aNil)) e s = .ok (.int r) s' ∧ (r : Int) < n ∧ Nx s s' := by
  obtain ⟨r, s', k, a, b⟩ := draw hd h h0 h1
  exact ⟨r, s', (callDP (consP (varP he) (consP hm nilP)) rfl).trans k, a, b⟩
theorem drawC' (hd : DrawOk c.dr) (h : PS s) {e : Pm.Env} (he : e[0]? = some (some (.cell 0))) (n : Int) (h0 : 0 < n) (h1 : n < 1000000) :
    ∃ (r : Nat) (s' : S), mCallD (n := 2) [] c.dr (aCons (mVar 0) (aCons (mC (.int n)) aNil)) e s = .ok (.int r) s' ∧ (r : Int) < n ∧ Nx s s' := drawE hd h he rfl h0 h1
theorem draw0 (hd : DrawOk c.dr) (h : PS s) {e : Pm.Env} (he : e[0]? = some (some (.cell 0))) (n : Int) (h0 : 0 < n) (h1 : n < 1000000) :
    ∃ (b : Bool) (s' : S), mB (m2 (pEq c) (mCallD (n := 2) [] c.dr (aCons (mVar 0) (aCons (mC (.int n)) aNil))) (mC (.int 0))) e s = .ok b s' ∧ Nx s s' := by
  obtain ⟨r, s', k, a, b⟩ := drawC' hd h he n h0 h1
  refine ⟨decide ((r : Int) = 0), s', ?_, b⟩
  have z : m2 (pEq c) (mCallD (n := 2) [] c.dr (aCons (mVar 0) (aCons (mC (.int n)) aNil))) (mC (.int 0)) e s = .ok (.bl (decide ((r : Int) = 0))) s' := (m2P k conP).trans (eq_ii _ _)
  simp [mB, z]
theorem pick (hd : DrawOk c.dr) (h : PS s) {xs : List D} (h0 : 0 < xs.length) (h1 : xs.length < 1000000) : ∃ (x : D) (s' : S), m_law_pick c [.cell 0, .lst xs] s = .ok x s' ∧ x ∈ xs ∧ Nx s s' := by
  have l : ∀ s, bLenA [.lst xs] s = .ok (.int xs.length) s := fun s => sq_len (.lst xs)
  obtain ⟨r, s', k, a, b⟩ := drawE (c := c) hd h (e := [some (.cell 0), some (.lst xs)]) rfl (m := mCall bLenA (aCons (mVar 1) aNil)) (n := (xs.length : Int)) ((bcall1 rfl).trans (l s)) (by omega) (by omega)
  have hr : r < xs.length := by omega
  exact ⟨xs[r], s', runP2 (retP ((m2P (varP rfl) k).trans (sq_ix (.lst xs) (List.getElem?_eq_getElem hr)))), List.getElem_mem hr, b⟩
theorem pow6 : powI (.int 10) (.int 6) s = .ok (.int 1000000) s := rfl
theorem lt_ii (i j : Int) : ltA (.int i) (.int j) s = .ok (.bl (decide (i < j))) s := rfl
theorem passed (hd : DrawOk c.dr) (h : PS s) {q : Rat} (hq : Sq q) : ∃ (r : D) (s' : S), m_law_passed c [.cell 0, pq q] s = .ok r s' ∧ Nm r q ∧ Nx s s' := by
  have hp : ∀ (e : Pm.Env) (s : S), e[1]? = some (some (pq q)) → m2 ixDD (mVar 1) (mC (.int 0)) e s = .ok (.int q.num) s := fun e s he => (m2P (varP he) conP).trans (ix_p0 q)
  have hp1 : ∀ (e : Pm.Env) (s : S), e[1]? = some (some (pq q)) → m2 ixDD (mVar 1) (mC (.int 1)) e s = .ok (.int q.den) s := fun e s he => (m2P (varP he) conP).trans (ix_p1 q)
  obtain ⟨b, hb, hb1⟩ : ∃ b : Bool, mAnd (m2 (pEq c) (m2 ixDD (mVar 1) (mC (.int 1))) (mC (.int 1))) (m2 ltA (mCall (bInt1 fun i => .int (absI i)) (aCons (m2 ixDD (mVar 1) (mC (.int 0))) aNil)) (m2 powI (mC (.int 10)) (mC (.int 6)))) [some (.cell 0), some (pq q), none] s = .ok (.bl b) s ∧ (b = true → q.den = 1) := by
    have e1 : m2 (pEq c) (m2 ixDD (mVar 1) (mC (.int 1))) (mC (.int 1)) [some (.cell 0), some (pq q), none] s = .ok (.bl (decide ((q.den : Int) = 1))) s := (m2P (hp1 _ _ rfl) conP).trans (eq_ii _ _)
    by_cases z : (q.den : Int) = 1
    · rw [decide_eq_true z] at e1
      refine ⟨_, (andT e1).trans ((m2P ((callP (consP (hp _ _ rfl) nilP)).trans rfl) ((m2P conP conP).trans pow6)).trans (lt_ii _ _)), fun _ => by omega⟩
    · rw [decide_eq_false z] at e1
      exact ⟨false, (andP e1).trans rfl, fun k => by cases k⟩
  have mk : ∀ (s' : S), PS s' → mMake 0 2 3 [] (m_c0_init_ c) (aCons (m2 ixDD (mVar 1) (mC (.int 0))) (aCons (m2 ixDD (mVar 1) (mC (.int 1))) aNil)) [some (.cell 0), some (pq q), some (.bl b)] s' = .ok (rq q) s' := fun s' hs => by
    have m := make_ok (c := c) (s := s') (mr := aCons (m2 ixDD (mVar 1) (mC (.int 0))) (aCons (m2 ixDD (mVar 1) (mC (.int 1))) aNil)) (env := [some (.cell 0), some (pq q), some (.bl b)]) q.num q.den (consP (hp _ _ rfl) (consP (hp1 _ _ rfl) nilP)) hs.cut (den_ne q) (si2 hq.d)
    rwa [Rat.num_divInt_den] at m
  have go : ∀ {r : D} {s' : S}, mIf (mAndT (mBt (mVar 2)) (mB (m2 (pEq c) (mCallD (n := 2) [] c.dr (aCons (mVar 0) (aCons (mC (.int 2)) aNil))) (mC (.int 0))))) (m2 ixDD (mVar 1) (mC (.int 0))) (mMake 0 2 3 [] (m_c0_init_ c) (aCons (m2 ixDD (mVar 1) (mC (.int 0))) (aCons (m2 ixDD (mVar 1) (mC (.int 1))) aNil))) [some (.cell 0), some (pq q), some (.bl b)] s = .ok r s' → m_law_passed c [.cell 0, pq q] s = .ok r s' := fun k => runP2 ((seqP (setP hb)).trans (retP k))
  cases b with
  | false =>
    refine ⟨_, s, go ?_, .rat q, h.refl⟩
    have t : mAndT (mBt (mVar 2)) (mB (m2 (pEq c) (mCallD (n := 2) [] c.dr (aCons (mVar 0) (aCons (mC (.int 2)) aNil))) (mC (.int 0)))) [some (.cell 0), some (pq q), some (.bl false)] s = .ok false s := by
      have : mBt (mVar 2) [some (.cell 0), some (pq q), some (.bl false)] s = .ok false s := rfl
      simp [mAndT, this]
    simp only [mIf, t, Res.bind_ok, Bool.false_eq_true, if_false]
    exact mk s h
  | true =>
    obtain ⟨b', s', k, nx⟩ := draw0 (c := c) hd h (e := [some (.cell 0), some (pq q), some (.bl true)]) rfl 2 (by decide) (by decide)
    have t : mAndT (mBt (mVar 2)) (mB (m2 (pEq c) (mCallD (n := 2) [] c.dr (aCons (mVar 0) (aCons (mC (.int 2)) aNil))) (mC (.int 0)))) [some (.cell 0), some (pq q), some (.bl true)] s = .ok b' s' := by
      have : mBt (mVar 2) [some (.cell 0), some (pq q), some (.bl true)] s = .ok true s := rfl
      simp [mAndT, this, k]
    cases b' with
    | false =>
      refine ⟨_, s', go ?_, .rat q, nx⟩
      simp only [mIf, t, Res.bind_ok, Bool.false_eq_true, if_false]
      exact mk s' (h.next nx)
    | true =>
      refine ⟨.int q.num, s', go ?_, ?_, nx⟩
      · simp only [mIf, t, Res.bind_ok, if_true]
        exact hp _ _ rfl
      · have z : q = (q.num : Rat) := Rat.ext rfl (by rw [hb1 rfl]; rfl)
        have := Nm.int q.num
        rwa [← z] at this
theorem compW {α : Type} {own : List Nat} {mt : D → Pm.Env → Option Pm.Env} {me : Pm.Env → S → Res D} {env : Pm.Env} {f : α → D} {C : D → α → Prop} : ∀ (as : List α) (s : S), PS s → (∀ a ∈ as, ∀ s, PS s → ∃ e1 x s', mt (f a) (wipeE env own) = some e1 ∧ me e1 s = .ok x s' ∧ C x a ∧ Nx s s') →
    ∃ xs s', compL own mt mYes me (as.map f) env s = .ok xs s' ∧ All2 C xs as ∧ Nx s s'
  | [], s, h, _ => ⟨[], s, rfl, .nil, h.refl⟩
  | a :: as, s, h, H => by
    obtain ⟨e1, x, s1, h1, h2, h3, n1⟩ := H a (by simp) s h
    obtain ⟨xs, s2, h4, h5, n2⟩ := compW as s1 (h.next n1) fun b hb => H b (by simp [hb])
    exact ⟨x :: xs, s2, by simp [compL, h1, mYes, noexn, h2, h4], .cons h3 h5, n1.trans n2⟩
theorem tup_or (hd : DrawOk c.dr) (h : PS s) {xs : List D} {x1 : D} (hl : xs.length ≤ 1000000) : ∃ (d : D) (s' : S), mIf (mB (m2 (pEq c) (mCallD (n := 2) [] c.dr (aCons (mVar 0) (aCons (mC (.int 3)) aNil))) (mC (.int 0)))) (mCall bTuple (aCons (mVar 2) aNil)) (mVar 2) [some (.cell 0), some x1, some (.lst xs), none] s = .ok d s' ∧ Sq2 d xs ∧ Nx s s' := by
  obtain ⟨b, s', k, nx⟩ := draw0 (c := c) hd h (e := [some (.cell 0), some x1, some (.lst xs), none]) rfl 3 (by decide) (by decide)
  cases b with
  | false => exact ⟨.lst xs, s', by simp only [mIf, k, Res.bind_ok, Bool.false_eq_true, if_false]; rfl, .lst xs, nx⟩
  | true =>
    have hl : xs.length ≤ line := by unfold line; omega
    refine ⟨.tup xs, s', ?_, .tup xs, nx⟩
    simp only [mIf, k, Res.bind_ok, if_true]
    refine (bcall1 rfl).trans ?_
    simp [bTuple, seqOf, isTupD, newT, hl]
theorem given_row (hd : DrawOk c.dr) (h : PS s) {qs : List Rat} (hq : ∀ q ∈ qs, Sq q) (hl : qs.length ≤ 1000) : ∃ (d : D) (s' : S), m_law_given_row c [.cell 0, .lst (qs.map pq)] s = .ok d s' ∧ Row d qs ∧ Nx s s' := by
  obtain ⟨xs, s1, h1, h2, n1⟩ := compW (own := [3]) (mt := tName 3) (me := mCallD (n := 2) [] (m_law_passed c) (aCons (mVar 0) (aCons (mVar 3) aNil))) (env := [some (.cell 0), some (.lst (qs.map pq)), none, none]) (f := pq) (C := Nm) qs s h (fun q hq' s hs => by
    obtain ⟨r, s', k1, k2, k3⟩ := passed (c := c) hd hs (hq q hq')
    exact ⟨[some (.cell 0), some (.lst (qs.map pq)), none, some (pq q)], r, s', rfl, (callDP (consP (varP rfl) (consP (varP rfl) nilP)) rfl).trans k1, k2, k3⟩)
  obtain ⟨d, s2, k1, k2, n2⟩ := tup_or (c := c) (xs := xs) (x1 := .lst (qs.map pq)) hd (h.next n1) (by rw [h2.len]; omega)
  exact ⟨d, s2, runP2 ((seqP (setP (compD rfl (by rw [List.length_map]; omega) h1))).trans (retP k1)), ⟨xs, k2, h2⟩, n1.trans n2⟩
theorem given (hd : DrawOk c.dr) (h : PS s) {M : List (List Rat)} (hq : ∀ r ∈ M, r.length ≤ 1000 ∧ ∀ q ∈ r, Sq q) (hl : M.length ≤ 1000) : ∃ (d : D) (s' : S), m_law_given c [.cell 0, .lst (M.map fun r => .lst (r.map pq))] s = .ok d s' ∧ Tab d M ∧ Nx s s' := by
  obtain ⟨xs, s1, h1, h2, n1⟩ := compW (own := [3]) (mt := tName 3) (me := mCallD (n := 2) [] (m_law_given_row c) (aCons (mVar 0) (aCons (mVar 3) aNil))) (env := [some (.cell 0), some (.lst (M.map fun r => .lst (r.map pq))), none, none]) (f := fun (r : List Rat) => .lst (r.map pq)) (C := Row) M s h (fun r hr s hs => by
    obtain ⟨x, s', k1, k2, k3⟩ := given_row (c := c) hd hs (hq r hr).2 (hq r hr).1
    exact ⟨[some (.cell 0), some (.lst (M.map fun r => .lst (r.map pq))), none, some (.lst (r.map pq))], x, s', rfl, (callDP (consP (varP rfl) (consP (varP rfl) nilP)) rfl).trans k1, k2, k3⟩)
  obtain ⟨d, s2, k1, k2, n2⟩ := tup_or (c := c) (xs := xs) (x1 := .lst (M.map fun r => .lst (r.map pq))) hd (h.next n1) (by rw [h2.len]; omega)
  exact ⟨d, s2, runP2 ((seqP (setP (compD rfl (by rw [List.length_map]; omega) h1))).trans (retP k1)), ⟨xs, k2, h2⟩, n1.trans n2⟩
def ents : List Rat := [0, 0, 1, -1, 2, 3, -4, Rat.divInt 1 2, Rat.divInt (-5) 3, 7]
theorem ents_fin : (ents.all fun q => decide (q.num.natAbs < 2 ^ 4 ∧ q.den < 2 ^ 4)) = true := by decide +kernel
theorem ents_ok : ∀ q ∈ ents, Bq 4 q := fun q hq => by simpa [Bq] using List.all_eq_true.mp ents_fin q hq
theorem entry (hd : DrawOk c.dr) (h : PS s) : ∃ (q : Rat) (s' : S), m_law_entry c [.cell 0] s = .ok (pq q) s' ∧ q ∈ ents ∧ Nx s s' := by
  obtain ⟨x, s', k1, k2, k3⟩ := pick (c := c) hd h (xs := ents.map pq) (by decide) (by decide)
  obtain ⟨q, hq, rfl⟩ := List.mem_map.mp k2
  refine ⟨q, s', runP1 (retP ?_), hq, k3⟩
  have e : ∀ (e : Pm.Env) (s : S), mLst (aCons (mTup (aCons (mC (.int 0)) (aCons (mC (.int 1)) aNil))) (aCons (mTup (aCons (mC (.int 0)) (aCons (mC (.int 1)) aNil))) (aCons (mTup (aCons (mC (.int 1)) (aCons (mC (.int 1)) aNil))) (aCons (mTup (aCons (m1 (pNeg c) (mC (.int 1))) (aCons (mC (.int 1)) aNil))) (aCons (mTup (aCons (mC (.int 2)) (aCons (mC (.int 1)) aNil))) (aCons (mTup (aCons (mC (.int 3)) (aCons (mC (.int 1)) aNil))) (aCons (mTup (aCons (m1 (pNeg c) (mC (.int 4))) (aCons (mC (.int 1)) aNil))) (aCons (mTup (aCons (mC (.int 1)) (aCons (mC (.int 2)) aNil))) (aCons (mTup (aCons (m1 (pNeg c) (mC (.int 5))) (aCons (mC (.int 3)) aNil))) (aCons (mTup (aCons (mC (.int 7)) (aCons (mC (.int 1)) aNil))) aNil)))))))))) e s = .ok (.lst (ents.map pq)) s := fun e s => by
    have z : ents.map pq = [.tup [.int 0, .int 1], .tup [.int 0, .int 1], .tup [.int 1, .int 1], .tup [.int (-1), .int 1], .tup [.int 2, .int 1], .tup [.int 3, .int 1], .tup [.int (-4), .int 1], .tup [.int 1, .int 2], .tup [.int (-5), .int 3], .tup [.int 7, .int 1]] := by rfl
    rw [z]
    rfl
  exact (callDP (consP (varP rfl) (consP (e _ _) nilP)) rfl).trans k1
end U
set_option Elab.async false
set_option linter.all false
set_option maxRecDepth 100000
set_option maxHeartbeats 1000000
set_option exponentiation.threshold 20000
namespace U
open Pm PySem
variable {c : Cfg} {s : S}
abbrev rowP (r : List Rat) : D := .lst (r.map pq)
abbrev matP (M : List (List Rat)) : D := .lst (M.map rowP)
theorem all_ex {α β γ : Type} {f : γ → α} {P : γ → Prop} : ∀ {xs : List α} {bs : List β}, All2 (fun x _ => ∃ q, x = f q ∧ P q) xs bs → ∃ qs : List γ, xs = qs.map f ∧ qs.length = bs.length ∧ ∀ q ∈ qs, P q
  | _, _, .nil => ⟨[], rfl, rfl, fun q h => by simp at h⟩
  | _, _, .cons h t => by
    obtain ⟨q, rfl, hq⟩ := h
    obtain ⟨qs, rfl, h2, h3⟩ := all_ex t
    exact ⟨q :: qs, rfl, by simp [h2], fun x hx => (List.mem_cons.mp hx).elim (fun e => e ▸ hq) (h3 x)⟩
theorem r1_ok {m : Pm.Env → S → Res D} {e : Pm.Env} {n : Nat} (h : m e s = .ok (.int n) s) (hn : n ≤ 1000000) : iR1 (aCons m aNil) e s = .ok (rangeD 0 n) s := by
  have : (-rLim ≤ (n : Int) ∧ (n : Int) ≤ rLim) := by unfold rLim; omega
  simp [iR1, aCons, aNil, h, this]
theorem range_len (a : Int) (n : Nat) : (rangeD a n).length = n := by simp [rangeD]
theorem name_at (i : Nat) (d : D) (e : Pm.Env) : tName i d e = some (e.set i (some d)) := rfl
theorem entries (hd : DrawOk c.dr) (h : PS s) {i : Nat} {mi : Pm.Env → S → Res (List D)} {env : Pm.Env} {ds : List D} (hi : mi env s = .ok ds s) (hl : ds.length ≤ 1000) (he : env[0]? = some (some (.cell 0))) (h0 : i ≠ 0) :
    ∃ (r : List Rat) (s' : S), mCompF finL [i] mi (tName i) mYes (mCallD (n := 1) [] (m_law_entry c) (aCons (mVar 0) aNil)) env s = .ok (rowP r) s' ∧ r.length = ds.length ∧ (∀ q ∈ r, q ∈ ents) ∧ Nx s s' := by
  obtain ⟨xs, s1, h1, h2, n1⟩ := compW (own := [i]) (mt := tName i) (me := mCallD (n := 1) [] (m_law_entry c) (aCons (mVar 0) aNil)) (env := env) (f := id) (C := fun x (_ : D) => ∃ q, x = pq q ∧ q ∈ ents) ds s h (fun d hd' s hs => by
    obtain ⟨q, s', k1, k2, k3⟩ := entry (c := c) hd hs
    refine ⟨_, pq q, s', name_at _ _ _, (call1 (x := .cell 0) ?_).trans k1, ⟨q, rfl, k2⟩, k3⟩
    simp only [wipeE]
    rw [List.getElem?_set_ne h0, List.getElem?_set_ne h0]
    exact he)
  rw [List.map_id] at h1
  obtain ⟨qs, rfl, h3, h4⟩ := all_ex h2
  exact ⟨qs, s1, compD hi (by omega) h1, h3, h4, n1⟩
theorem nx_app {x : Cell} {s s' : S} (h0 : 0 < s.length) (n : Nx (s ++ [x]) s') : ∃ s1, s' = s1 ++ [x] ∧ Nx s s1 := by
  obtain ⟨⟨y, rfl⟩, p⟩ := n
  refine ⟨s.set 0 y, by rw [List.set_append_left _ _ h0], ⟨⟨y, rfl⟩, ?_⟩⟩
  obtain ⟨a, b, e, r⟩ := p
  rw [List.set_append_left _ _ h0, List.getElem?_append_left (by simpa using h0)] at e
  exact ⟨a, b, e, r⟩
theorem PS.len {s : S} (h : PS s) : 0 < s.length := by
  obtain ⟨⟨a, b, e, _⟩, _⟩ := h
  exact (List.getElem?_eq_some_iff.mp e).1
theorem PS.app {x : Cell} {s : S} (h : PS s) (hx : cutOk [x] = true) : PS (s ++ [x]) := by
  refine ⟨?_, cut_app hx h.cut⟩
  obtain ⟨a, b, e, r⟩ := h.pot
  exact ⟨a, b, by rw [List.getElem?_append_left h.len]; exact e, r⟩
theorem pureRows (M : List (List Rat)) : cutPure [.lst (M.map rowP)] = true := by
  have r1 : ∀ r : List Rat, pureL (r.map pq) = true := fun r => by
    induction r with
    | nil => rfl
    | cons q r ih => simp [pureL, pureD, pq, ih]
  have r2 : pureL (M.map rowP) = true := by
    induction M with
    | nil => rfl
    | cons r M ih => simp [pureL, pureD, r1, ih]
  simp [cutPure, r2]
theorem pure_rows (M : List (List Rat)) : cutOk [.lst (M.map rowP)] = true := cut_pure (pureRows M)
def Q12 (q : Rat) : Prop := ∃ z : Int, q * 12 = z ∧ z.natAbs < 2 ^ 7
def q12B (q : Rat) : Bool := decide ((q * 12).den = 1) && decide ((q * 12).num.natAbs < 2 ^ 7)
theorem q12_of {q : Rat} (h : q12B q = true) : Q12 q := by
  obtain ⟨h1, h2⟩ := Bool.and_eq_true_iff.mp h
  have h1 := of_decide_eq_true h1
  exact ⟨(q * 12).num, Rat.ext (by simp) (by rw [h1]; simp), of_decide_eq_true h2⟩
structure Pts (mm mw : Nat) (M : List (List Rat)) (w : Nat) : Prop where
  many : 2 ≤ M.length ∧ M.length ≤ mm
  wide : 1 ≤ w ∧ w ≤ mw
  row : ∀ r ∈ M, r.length = w
  num : ∀ r ∈ M, ∀ q ∈ r, Q12 q
def midR (a b : List Rat) : List Rat := (a.zip b).map fun p => (p.1 + p.2) * Rat.divInt 1 2
theorem half_pq : (.tup [.int 1, .int 2] : D) = pq (Rat.divInt 1 2) := by rfl
theorem half_bq : Bq 2 (Rat.divInt 1 2) := by constructor <;> decide +kernel
theorem one_mid {a b : Rat} {s : S} (ha : Bq 4 a) (hb : Bq 4 b) {e : Pm.Env} (e9 : e[9]? = some (some (pq a))) (e10 : e[10]? = some (some (pq b))) :
    mCallD (n := 2) [] (m_law_by c) (aCons (mCallD (n := 2) [] (m_law_sum c) (aCons (mVar 9) (aCons (mVar 10) aNil))) (aCons (mTup (aCons (mC (.int 1)) (aCons (mC (.int 2)) aNil))) aNil)) e s = .ok (pq ((a + b) * Rat.divInt 1 2)) s := by
  have h1 : mCallD (n := 2) [] (m_law_sum c) (aCons (mVar 9) (aCons (mVar 10) aNil)) e s = .ok (pq (a + b)) s := (callDP (consP (varP e9) (consP (varP e10) nilP)) rfl).trans (lsum_ok (ha.mono (by decide)) (hb.mono (by decide)))
  have h2 : mTup (aCons (mC (.int 1)) (aCons (mC (.int 2)) aNil)) e s = .ok (pq (Rat.divInt 1 2)) s := by rw [← half_pq]; rfl
  exact (callDP (consP h1 (consP h2 nilP)) rfl).trans (lby_ok ((ha.add hb).mono (by decide)) (half_bq.mono (by decide)))
theorem mid_comp {a b : List Rat} {s : S} (ha : ∀ q ∈ a, Bq 4 q) (hb : ∀ q ∈ b, Bq 4 q) (hl : a.length ≤ 1000) {x0 x1 x2 x3 x4 x5 x8 x9 x10 x11 : Option D} :
    mCompF finL [9, 10] (iZipA (aCons (mVar 6) (aCons (mVar 7) aNil))) (tSeq 2 (tCons (tName 9) (tCons (tName 10) tNil))) mYes (mCallD (n := 2) [] (m_law_by c) (aCons (mCallD (n := 2) [] (m_law_sum c) (aCons (mVar 9) (aCons (mVar 10) aNil))) (aCons (mTup (aCons (mC (.int 1)) (aCons (mC (.int 2)) aNil))) aNil))) [x0, x1, x2, x3, x4, x5, some (rowP a), some (rowP b), x8, x9, x10, x11] s = .ok (rowP (midR a b)) s := by
  have hz := zip2 (All2.refl_map (R := fun d q => d = pq q) (f := pq) a fun _ _ => rfl) (All2.refl_map (R := fun d q => d = pq q) (f := pq) b fun _ _ => rfl)
  have hr := compE (s := s) (own := [9, 10]) (env := [x0, x1, x2, x3, x4, x5, some (rowP a), some (rowP b), x8, x9, x10, x11]) (mt := tSeq 2 (tCons (tName 9) (tCons (tName 10) tNil))) (me := mCallD (n := 2) [] (m_law_by c) (aCons (mCallD (n := 2) [] (m_law_sum c) (aCons (mVar 9) (aCons (mVar 10) aNil))) (aCons (mTup (aCons (mC (.int 1)) (aCons (mC (.int 2)) aNil))) aNil))) (f := fun p => pq ((p.1 + p.2) * Rat.divInt 1 2)) hz (by
    rintro d ⟨x, y⟩ h1 h2 ⟨_, _, rfl, rfl, rfl⟩
    have m := List.of_mem_zip h2
    exact ⟨[x0, x1, x2, x3, x4, x5, some (rowP a), some (rowP b), x8, some (pq x), some (pq y), x11], rfl, one_mid (ha x m.1) (hb y m.2) rfl rfl⟩)
  have e := compD (s := s) (mi := iZipA (aCons (mVar 6) (aCons (mVar 7) aNil))) (sq_zip (.lst _) (.lst _) rfl) (Nat.le_trans (zipD_len2 _ _) (by rw [List.length_map]; omega)) hr
  rw [e]
  simp [midR]
theorem slice_init {xs : List D} {k : Nat} {s : S} {e : Pm.Env} (he : e[5]? = some (some (.cell k))) (hk : s[k]? = some (.lst xs)) (h0 : 0 < xs.length) (h1 : xs.length ≤ 1000) : mSlice (mVar 5) oN (oS (m1 (pNeg c) (mC (.int 1)))) e s = .ok (.lst (xs.take (xs.length - 1))) s := by
  have e1 : oS (m1 (pNeg c) (mC (.int 1))) e s = .ok (some (-1)) s := rfl
  have e2 : cutD xs none (some (-1)) = xs.take (xs.length - 1) := by
    have z : sxD xs.length xs.length (some (-1)) = xs.length - 1 := by
      unfold sxD
      simp
      omega
    unfold cutD
    rw [z, show sxD xs.length 0 none = 0 from rfl]
    simp
  have hl : (xs.take (xs.length - 1)).length ≤ line := by rw [List.length_take]; unfold line; omega
  have e0 : mVar 5 e s = .ok (.cell k) s := varP he
  simp only [mSlice, e0, Res.bind_ok, oN, e1, lisOf, hk, newL, e2, if_pos hl]
theorem ixN_last (n : Nat) (h : 0 < n) : L2.ixN n (-1) = some (n - 1) := by
  unfold L2.ixN
  rw [if_neg (by omega), if_pos (by omega)]
  congr 1
  omega
theorem set_last {xs : List D} {d : D} {k : Nat} {s : S} {e : Pm.Env} (he : e[5]? = some (some (.cell k))) (hk : s[k]? = some (.lst xs)) (h0 : 0 < xs.length) : taSub (mVar 5) (m1 (pNeg c) (mC (.int 1))) d e s = .ok e (s.set k (.lst (xs.set (xs.length - 1) d))) := by
  have e0 : mVar 5 e s = .ok (.cell k) s := varP he
  have e1 : m1 (pNeg c) (mC (.int 1)) e s = .ok (.int (-1)) s := rfl
  simp only [taSub, e0, e1, Res.bind_ok, hk, ixN_last _ h0]
theorem set_first {xs : List D} {d : D} {k : Nat} {s : S} {e : Pm.Env} (he : e[5]? = some (some (.cell k))) (hk : s[k]? = some (.lst xs)) (h0 : 0 < xs.length) : taSub (mVar 5) (mC (.int 0)) d e s = .ok e (s.set k (.lst (xs.set 0 d))) := by
  have e0 : mVar 5 e s = .ok (.cell k) s := varP he
  have e2 : L2.ixN xs.length 0 = some 0 := by unfold L2.ixN; simp [h0]
  simp only [taSub, e0, mC, Res.bind_ok, hk, e2]
theorem set_app {s : S} {x y : Cell} : (s ++ [x]).set s.length y = s ++ [y] := by simp
theorem map_set {α β : Type} (f : α → β) (l : List α) (i : Nat) (a : α) : (l.map f).set i (f a) = (l.set i a).map f := by simp
theorem mem_take {α : Type} {l : List α} {n : Nat} {x : α} (h : x ∈ l.take n) : x ∈ l := List.mem_of_mem_take h
structure Raw (M : List (List Rat)) (n w : Nat) : Prop where
  many : M.length = n
  row : ∀ r ∈ M, r.length = w
  num : ∀ r ∈ M, ∀ q ∈ r, q ∈ ents
theorem raw (hd : DrawOk c.dr) (h : PS s) {n w : Nat} (hn : n ≤ 1000) (hw : w ≤ 1000) {x1 x2 : Option D} : ∃ (M : List (List Rat)) (s' : S), Raw M n w ∧ Nx s s' ∧
    mCompF finC [8] (iR1 (aCons (mVar 3) aNil)) (tName 8) mYes (mCompF finL [11] (iR1 (aCons (mVar 4) aNil)) (tName 11) mYes (mCallD (n := 1) [] (m_law_entry c) (aCons (mVar 0) aNil))) [some (.cell 0), x1, x2, some (.int n), some (.int w), none, none, none, none, none, none, none] s = .ok (.cell s'.length) (s' ++ [.lst (M.map rowP)]) := by
  obtain ⟨xs, s1, h1, h2, n1⟩ := compW (own := [8]) (mt := tName 8) (me := mCompF finL [11] (iR1 (aCons (mVar 4) aNil)) (tName 11) mYes (mCallD (n := 1) [] (m_law_entry c) (aCons (mVar 0) aNil))) (env := [some (.cell 0), x1, x2, some (.int n), some (.int w), none, none, none, none, none, none, none]) (f := id) (C := fun x (_ : D) => ∃ r, x = rowP r ∧ (r.length = w ∧ ∀ q ∈ r, q ∈ ents)) (rangeD 0 n) s h (fun d hd' s hs => by
    obtain ⟨r, s', k1, k2, k3, k4⟩ := entries (c := c) (i := 11) (mi := iR1 (aCons (mVar 4) aNil)) (env := [some (.cell 0), x1, x2, some (.int n), some (.int w), none, none, none, some d, none, none, none]) hd hs (r1_ok (n := w) (varP rfl) (by omega)) (by rw [range_len]; omega) rfl (by decide)
    exact ⟨[some (.cell 0), x1, x2, some (.int n), some (.int w), none, none, none, some d, none, none, none], rowP r, s', rfl, k1, ⟨r, rfl, by rw [k2, range_len], k3⟩, k4⟩)
  rw [List.map_id] at h1
  obtain ⟨M, rfl, h3, h4⟩ := all_ex h2
  refine ⟨M, s1, ⟨by rw [h3, range_len], fun r hr => (h4 r hr).1, fun r hr => (h4 r hr).2⟩, n1, ?_⟩
  have hl : (rangeD 0 n).length ≤ line := by rw [range_len]; unfold line; omega
  have hi : iR1 (aCons (mVar 3) aNil) [some (.cell 0), x1, x2, some (.int n), some (.int w), none, none, none, none, none, none, none] s = .ok (rangeD 0 n) s := r1_ok (varP rfl) (by omega)
  simp only [mCompF, hi, Res.bind_ok, if_pos hl, h1, finC]
theorem ents_12 : (ents.all q12B) = true := by decide +kernel
theorem mids_12 : (ents.all fun x => ents.all fun y => q12B ((x + y) * Rat.divInt 1 2)) = true := by decide +kernel
theorem ents_bq {q : Rat} (h : q ∈ ents) : Q12 q := q12_of (List.all_eq_true.mp ents_12 q h)
theorem mid_ok {a b : List Rat} {w : Nat} (ha : a.length = w ∧ ∀ q ∈ a, q ∈ ents) (hb : b.length = w ∧ ∀ q ∈ b, q ∈ ents) : (midR a b).length = w ∧ ∀ q ∈ midR a b, Q12 q := by
  refine ⟨by simp [midR, ha.1, hb.1], fun q hq => ?_⟩
  obtain ⟨⟨x, y⟩, hm, rfl⟩ := List.mem_map.mp hq
  have m := List.of_mem_zip hm
  exact q12_of (List.all_eq_true.mp (List.all_eq_true.mp mids_12 x (ha.2 x m.1)) y (hb.2 y m.2))
theorem pts_set {M : List (List Rat)} {mm mw w i : Nat} {r : List Rat} (h : Pts mm mw M w) (hr : r.length = w ∧ ∀ q ∈ r, Q12 q) : Pts mm mw (M.set i r) w where
  many := by rw [List.length_set]; exact h.many
  wide := h.wide
  row := fun x hx => (List.mem_or_eq_of_mem_set hx).elim (h.row x) fun e => e ▸ hr.1
  num := fun x hx => (List.mem_or_eq_of_mem_set hx).elim (h.num x) fun e => e ▸ hr.2
def ptM (c : Cfg) : Pm.Env → S → Res Fl := (sSeq (sPar 6 7 (aCons (mCallD (n := 2) [] (m_law_pick c) (aCons (mVar 0) (aCons (mSlice (mVar 5) oN (oS (m1 (pNeg c) (mC (.int 1))))) aNil))) (aCons (mCallD (n := 2) [] (m_law_pick c) (aCons (mVar 0) (aCons (mSlice (mVar 5) oN (oS (m1 (pNeg c) (mC (.int 1))))) aNil))) aNil)))
  (sAsg (mCompF finL [9, 10] (iZipA (aCons (mVar 6) (aCons (mVar 7) aNil))) (tSeq 2 (tCons (tName 9) (tCons (tName 10) tNil))) mYes (mCallD (n := 2) [] (m_law_by c) (aCons (mCallD (n := 2) [] (m_law_sum c) (aCons (mVar 9) (aCons (mVar 10) aNil))) (aCons (mTup (aCons (mC (.int 1)) (aCons (mC (.int 2)) aNil))) aNil)))) (taSub (mVar 5) (m1 (pNeg c) (mC (.int 1))))))
abbrev EP (n w : Nat) (x1 x2 : Option D) (k : Nat) (a b : Option D) : Pm.Env := [some (.cell 0), x1, x2, some (.int n), some (.int w), some (.cell k), a, b, none, none, none, none]
theorem pick_row (hd : DrawOk c.dr) (h : PS s) {M : List (List Rat)} {n w : Nat} (hM : Raw M n w) (hn : 2 ≤ n ∧ n ≤ 1000) {x1 x2 a b : Option D} : ∃ (r : List Rat) (s' : S), mCallD (n := 2) [] (m_law_pick c) (aCons (mVar 0) (aCons (mSlice (mVar 5) oN (oS (m1 (pNeg c) (mC (.int 1))))) aNil)) (EP n w x1 x2 s.length a b) (s ++ [.lst (M.map rowP)]) = .ok (rowP r) (s' ++ [.lst (M.map rowP)]) ∧ (r.length = w ∧ ∀ q ∈ r, q ∈ ents) ∧ Nx s s' := by
  have hl : (M.map rowP).length = n := by rw [List.length_map, hM.many]
  have hs := slice_init (c := c) (xs := M.map rowP) (k := s.length) (s := s ++ [.lst (M.map rowP)]) (e := EP n w x1 x2 s.length a b) rfl (by simp) (by omega) (by omega)
  obtain ⟨x, s1, k1, k2, k3⟩ := pick (c := c) hd (h.app (pure_rows M)) (xs := (M.map rowP).take ((M.map rowP).length - 1)) (by rw [List.length_take, hl]; omega) (by rw [List.length_take, hl]; omega)
  obtain ⟨s', rfl, n2⟩ := nx_app h.len k3
  obtain ⟨r, hr, rfl⟩ := List.mem_map.mp (mem_take k2)
  exact ⟨r, s', (callDP (consP (varP rfl) (consP hs nilP)) rfl).trans k1, ⟨hM.row r hr, hM.num r hr⟩, n2⟩
theorem ptM_ok (hd : DrawOk c.dr) (h : PS s) {M : List (List Rat)} {n w : Nat} (hM : Raw M n w) (hn : 2 ≤ n ∧ n ≤ 1000) (hw : w ≤ 1000) {x1 x2 : Option D} : ∃ (r : List Rat) (a b : Option D) (s' : S), ptM c (EP n w x1 x2 s.length none none) (s ++ [.lst (M.map rowP)]) = .ok (.nx (EP n w x1 x2 s.length a b)) (s' ++ [.lst ((M.set (n - 1) r).map rowP)]) ∧ (r.length = w ∧ ∀ q ∈ r, Q12 q) ∧ Nx s s' := by
  obtain ⟨a, s1, k1, k2, n1⟩ := pick_row (c := c) hd h hM hn (x1 := x1) (x2 := x2) (a := none) (b := none)
  have l1 : s1.length = s.length := by obtain ⟨⟨y, rfl⟩, _⟩ := n1; simp
  obtain ⟨b, s2, k3, k4, n2⟩ := pick_row (c := c) hd (h.next n1) hM hn (x1 := x1) (x2 := x2) (a := none) (b := none)
  have l2 : s2.length = s1.length := by obtain ⟨⟨y, rfl⟩, _⟩ := n2; simp
  rw [l1] at k3
  have hl : (M.map rowP).length = n := by rw [List.length_map, hM.many]
  refine ⟨midR a b, some (rowP a), some (rowP b), s2, ?_, mid_ok k2 k4, n1.trans n2⟩
  have hp : sPar 6 7 (aCons (mCallD (n := 2) [] (m_law_pick c) (aCons (mVar 0) (aCons (mSlice (mVar 5) oN (oS (m1 (pNeg c) (mC (.int 1))))) aNil))) (aCons (mCallD (n := 2) [] (m_law_pick c) (aCons (mVar 0) (aCons (mSlice (mVar 5) oN (oS (m1 (pNeg c) (mC (.int 1))))) aNil))) aNil)) (EP n w x1 x2 s.length none none) (s ++ [.lst (M.map rowP)]) = .ok (.nx (EP n w x1 x2 s.length (some (rowP a)) (some (rowP b)))) (s2 ++ [.lst (M.map rowP)]) := by
    unfold sPar
    rw [consP k1 (consP k3 nilP)]
    rfl
  refine (seqP hp).trans ?_
  have hm := mid_comp (c := c) (a := a) (b := b) (s := s2 ++ [.lst (M.map rowP)]) (fun q hq => ents_ok q (k2.2 q hq)) (fun q hq => ents_ok q (k4.2 q hq)) (by omega) (x0 := some (.cell 0)) (x1 := x1) (x2 := x2) (x3 := some (.int n)) (x4 := some (.int w)) (x5 := some (.cell s.length)) (x8 := none) (x9 := none) (x10 := none) (x11 := none)
  have ht := set_last (c := c) (xs := M.map rowP) (d := rowP (midR a b)) (k := s.length) (s := s2 ++ [.lst (M.map rowP)]) (e := EP n w x1 x2 s.length (some (rowP a)) (some (rowP b))) rfl (by rw [← l1, ← l2]; simp) (by omega)
  have e3 : (s2 ++ [Cell.lst (M.map rowP)]).set s.length (.lst ((M.map rowP).set ((M.map rowP).length - 1) (rowP (midR a b)))) = s2 ++ [Cell.lst ((M.set (n - 1) (midR a b)).map rowP)] := by
    rw [← l1, ← l2, set_app, hl, map_set]
  rw [e3] at ht
  simp only [sAsg, hm, Res.bind_ok, ht]
end U
set_option Elab.async false
set_option linter.all false
set_option maxRecDepth 100000
set_option maxHeartbeats 1000000
set_option exponentiation.threshold 20000
namespace U
open Pm PySem
variable {c : Cfg} {s : S}
theorem nx_len {s s' : S} (n : Nx s s') : s'.length = s.length := by obtain ⟨⟨y, rfl⟩, _⟩ := n; simp
def ptA (c : Cfg) : Pm.Env → S → Res Fl := (sAsg (mTup (aCons (m2 (pAdd c) (mC (.int 2)) (mCallD (n := 2) [] c.dr (aCons (mVar 0) (aCons (m2 (pSub c) (mVar 1) (mC (.int 1))) aNil)))) (aCons (m2 (pAdd c) (mC (.int 1)) (mCallD (n := 2) [] c.dr (aCons (mVar 0) (aCons (mVar 2) aNil)))) aNil))) (taTup 2 (taCons (aN (tName 3)) (taCons (aN (tName 4)) taNil))))
def ptI (c : Cfg) : Pm.Env → S → Res Fl := sIf (mAndT (mB (m2 gtI (mVar 3) (mC (.int 2)))) (mB (m2 (pEq c) (mCallD (n := 2) [] c.dr (aCons (mVar 0) (aCons (mC (.int 3)) aNil))) (mC (.int 0))))) (ptM c) sNext
def ptF (c : Cfg) : Pm.Env → S → Res Fl := (sFrz 5 (sIf (mB (m2 (pEq c) (mCallD (n := 2) [] c.dr (aCons (mVar 0) (aCons (mC (.int 6)) aNil))) (mC (.int 0)))) (sAsg (mCall bList (aCons (m2 ixDD (mVar 5) (m1 (pNeg c) (mC (.int 1)))) aNil)) (taSub (mVar 5) (mC (.int 0)))) sNext))
theorem ptA_ok (hd : DrawOk c.dr) (h : PS s) {mm mw : Nat} (hm : 2 ≤ mm ∧ mm ≤ 1000) (hw : 1 ≤ mw ∧ mw ≤ 1000) : ∃ (n w : Nat) (s' : S), ptA c [some (.cell 0), some (.int mm), some (.int mw), none, none, none, none, none, none, none, none, none] s = .ok (.nx [some (.cell 0), some (.int mm), some (.int mw), some (.int n), some (.int w), none, none, none, none, none, none, none]) s' ∧ (2 ≤ n ∧ n ≤ mm) ∧ (1 ≤ w ∧ w ≤ mw) ∧ Nx s s' := by
  obtain ⟨r, s1, k1, k2, n1⟩ := drawE (c := c) hd h (e := [some (.cell 0), some (.int mm), some (.int mw), none, none, none, none, none, none, none, none, none]) rfl (m := m2 (pSub c) (mVar 1) (mC (.int 1))) (n := (mm : Int) - 1) ((m2P (varP rfl) conP).trans (sub_ii _ _)) (by omega) (by omega)
  obtain ⟨q, s2, k3, k4, n2⟩ := drawE (c := c) hd (h.next n1) (e := [some (.cell 0), some (.int mm), some (.int mw), none, none, none, none, none, none, none, none, none]) rfl (m := mVar 2) (n := (mw : Int)) (varP rfl) (by omega) (by omega)
  refine ⟨2 + r, 1 + q, s2, ?_, by omega, by omega, n1.trans n2⟩
  have e1 := (m2P (f := pAdd c) (conP (x := .int 2)) k1).trans (add_ii _ _)
  have e2 := (m2P (f := pAdd c) (conP (x := .int 1)) k3).trans (add_ii _ _)
  simp only [ptA, sAsg, mTup, consP e1 (consP e2 nilP), Res.bind_ok]
  rfl
theorem ptI_ok (hd : DrawOk c.dr) (h : PS s) {M : List (List Rat)} {n w mm mw : Nat} (hM : Raw M n w) (hn : 2 ≤ n ∧ n ≤ mm) (hw : 1 ≤ w ∧ w ≤ mw) (hmm : mm ≤ 1000) (hmw : mw ≤ 1000) {x1 x2 : Option D} : ∃ (M' : List (List Rat)) (a b : Option D) (s' : S), ptI c (EP n w x1 x2 s.length none none) (s ++ [.lst (M.map rowP)]) = .ok (.nx (EP n w x1 x2 s.length a b)) (s' ++ [.lst (M'.map rowP)]) ∧ Pts mm mw M' w ∧ Nx s s' := by
  have P : Pts mm mw M w := ⟨by rw [hM.many]; omega, by omega, hM.row, fun r hr q hq => ents_bq (hM.num r hr q hq)⟩
  have g : mB (m2 gtI (mVar 3) (mC (.int 2))) (EP n w x1 x2 s.length none none) (s ++ [.lst (M.map rowP)]) = .ok (decide ((2 : Int) < n)) (s ++ [.lst (M.map rowP)]) := rfl
  by_cases h2 : (2 : Int) < n
  · rw [decide_eq_true h2] at g
    obtain ⟨b, s0, k, n0⟩ := draw0 (c := c) hd (h.app (pure_rows M)) (e := EP n w x1 x2 s.length none none) rfl 3 (by decide) (by decide)
    obtain ⟨s1, rfl, n1⟩ := nx_app h.len n0
    have t : mAndT (mB (m2 gtI (mVar 3) (mC (.int 2)))) (mB (m2 (pEq c) (mCallD (n := 2) [] c.dr (aCons (mVar 0) (aCons (mC (.int 3)) aNil))) (mC (.int 0)))) (EP n w x1 x2 s.length none none) (s ++ [.lst (M.map rowP)]) = .ok b (s1 ++ [.lst (M.map rowP)]) := by
      simp only [mAndT, g, Res.bind_ok, if_true, k]
    cases b with
    | false => exact ⟨M, none, none, s1, by simp only [ptI, sIf, t, Res.bind_ok]; rfl, P, n1⟩
    | true =>
      obtain ⟨r, a, b, s2, k1, k2, n2⟩ := ptM_ok (c := c) hd (h.next n1) hM ⟨hn.1, by omega⟩ (by omega) (x1 := x1) (x2 := x2)
      rw [nx_len n1] at k1
      refine ⟨M.set (n - 1) r, a, b, s2, ?_, pts_set P k2, n1.trans n2⟩
      simp only [ptI, sIf, t, Res.bind_ok, if_true, k1]
  · rw [decide_eq_false h2] at g
    have t : mAndT (mB (m2 gtI (mVar 3) (mC (.int 2)))) (mB (m2 (pEq c) (mCallD (n := 2) [] c.dr (aCons (mVar 0) (aCons (mC (.int 3)) aNil))) (mC (.int 0)))) (EP n w x1 x2 s.length none none) (s ++ [.lst (M.map rowP)]) = .ok false (s ++ [.lst (M.map rowP)]) := by
      simp only [mAndT, g, Res.bind_ok]
      rfl
    exact ⟨M, none, none, s, by simp only [ptI, sIf, t, Res.bind_ok]; rfl, P, h.refl⟩
theorem ix_last {xs : List D} {d : D} {k : Nat} {s : S} {e : Pm.Env} (he : e[5]? = some (some (.cell k))) (hk : s[k]? = some (.lst xs)) (h0 : 0 < xs.length) (hx : xs[xs.length - 1]? = some d) : m2 ixDD (mVar 5) (m1 (pNeg c) (mC (.int 1))) e s = .ok d s := by
  have e0 : mVar 5 e s = .ok (.cell k) s := varP he
  have e1 : m1 (pNeg c) (mC (.int 1)) e s = .ok (.int (-1)) s := rfl
  have e2 : L2.atI xs (-1) = some d := by
    unfold L2.atI
    rw [ixN_last _ h0]
    exact hx
  refine (m2P e0 e1).trans ?_
  simp [ixDD, ixD, ixL, hk, e2, Res.or]
theorem ptF_ok (hd : DrawOk c.dr) (h : PS s) {M : List (List Rat)} {n w mm mw : Nat} (P : Pts mm mw M w) (hm : mm ≤ 1000) (hw : mw ≤ 1000) {x1 x2 a b : Option D} : ∃ (M' : List (List Rat)) (s' : S), ptF c (EP n w x1 x2 s.length a b) (s ++ [.lst (M.map rowP)]) = .ok (.nx [some (.cell 0), x1, x2, some (.int n), some (.int w), some (matP M'), a, b, none, none, none, none]) (s' ++ [.dead]) ∧ Pts mm mw M' w ∧ Nx s s' := by
  obtain ⟨t, s0, k, n0⟩ := draw0 (c := c) hd (h.app (pure_rows M)) (e := EP n w x1 x2 s.length a b) rfl 6 (by decide) (by decide)
  obtain ⟨s1, rfl, n1⟩ := nx_app h.len n0
  have frz : ∀ M' : List (List Rat), sIf (mB (m2 (pEq c) (mCallD (n := 2) [] c.dr (aCons (mVar 0) (aCons (mC (.int 6)) aNil))) (mC (.int 0)))) (sAsg (mCall bList (aCons (m2 ixDD (mVar 5) (m1 (pNeg c) (mC (.int 1)))) aNil)) (taSub (mVar 5) (mC (.int 0)))) sNext (EP n w x1 x2 s.length a b) (s ++ [.lst (M.map rowP)]) = .ok (.nx (EP n w x1 x2 s.length a b)) (s1 ++ [.lst (M'.map rowP)]) → ptF c (EP n w x1 x2 s.length a b) (s ++ [.lst (M.map rowP)]) = .ok (.nx [some (.cell 0), x1, x2, some (.int n), some (.int w), some (matP M'), a, b, none, none, none, none]) (s1 ++ [.dead]) := fun M' e => by
    have e5 : (EP n w x1 x2 s.length a b)[5]? = some (some (.cell s.length)) := rfl
    have es : (s1 ++ [Cell.lst (M'.map rowP)])[s.length]? = some (.lst (M'.map rowP)) := by rw [← nx_len n1]; simp
    have ed : (s1 ++ [Cell.lst (M'.map rowP)]).set s.length .dead = s1 ++ [Cell.dead] := by rw [← nx_len n1]; exact set_app
    simp only [ptF, sFrz, e, Res.bind_ok, e5, es, ed]
    rfl
  cases t with
  | false => exact ⟨M, s1, frz M (by simp only [sIf, k, Res.bind_ok]; rfl), P, n1⟩
  | true =>
    have hl : (M.map rowP).length = M.length := List.length_map ..
    have hm1 : M.length - 1 < M.length := by have := P.many; omega
    have hx : (M.map rowP)[(M.map rowP).length - 1]? = some (rowP M[M.length - 1]) := by rw [hl, List.getElem?_map, List.getElem?_eq_getElem hm1]; rfl
    have hk : (s1 ++ [Cell.lst (M.map rowP)])[s.length]? = some (.lst (M.map rowP)) := by rw [← nx_len n1]; simp
    have r := P.row _ (List.getElem_mem hm1)
    have e1 : mCall bList (aCons (m2 ixDD (mVar 5) (m1 (pNeg c) (mC (.int 1)))) aNil) (EP n w x1 x2 s.length a b) (s1 ++ [.lst (M.map rowP)]) = .ok (rowP M[M.length - 1]) (s1 ++ [.lst (M.map rowP)]) := by
      refine (callP (consP (ix_last (c := c) (e := EP n w x1 x2 s.length a b) rfl hk (by have := P.many; omega) hx) nilP)).trans ?_
      have : (M[M.length - 1].map pq).length ≤ line := by rw [List.length_map, r]; have := P.wide; unfold line; omega
      simp only [bList, rowP, seqOf, newL, if_pos this]
    have e2 := set_first (xs := M.map rowP) (d := rowP M[M.length - 1]) (k := s.length) (s := s1 ++ [.lst (M.map rowP)]) (e := EP n w x1 x2 s.length a b) rfl hk (by have := P.many; omega)
    have e3 : (s1 ++ [Cell.lst (M.map rowP)]).set s.length (.lst ((M.map rowP).set 0 (rowP M[M.length - 1]))) = s1 ++ [Cell.lst ((M.set 0 M[M.length - 1]).map rowP)] := by rw [← nx_len n1, set_app, map_set]
    rw [e3] at e2
    refine ⟨M.set 0 M[M.length - 1], s1, frz _ ?_, pts_set P ⟨r, P.num _ (List.getElem_mem hm1)⟩, n1⟩
    simp only [sIf, k, Res.bind_ok, if_true, sAsg, e1, e2]
theorem points (hd : DrawOk c.dr) (h : PS s) {mm mw : Nat} (hm : 2 ≤ mm ∧ mm ≤ 1000) (hw : 1 ≤ mw ∧ mw ≤ 1000) : ∃ (M : List (List Rat)) (w : Nat) (s' : S), m_law_points c [.cell 0, .int mm, .int mw] s = .ok (matP M) s' ∧ Pts mm mw M w ∧ Nx s s' := by
  obtain ⟨n, w, s1, k1, a1, a2, n1⟩ := ptA_ok (c := c) hd h hm hw
  obtain ⟨M, s2, hM, n2, k2⟩ := raw (c := c) hd (h.next n1) (n := n) (w := w) (by omega) (by omega) (x1 := some (.int mm)) (x2 := some (.int mw))
  obtain ⟨M1, a, b, s3, k3, P1, n3⟩ := ptI_ok (c := c) hd ((h.next n1).next n2) hM a1 a2 hm.2 hw.2 (x1 := some (.int mm)) (x2 := some (.int mw))
  obtain ⟨M2, s4, k4, P2, n4⟩ := ptF_ok (c := c) hd (((h.next n1).next n2).next n3) (n := n) P1 hm.2 hw.2 (x1 := some (.int mm)) (x2 := some (.int mw)) (a := a) (b := b)
  rw [nx_len n3] at k4
  have N := ((n1.trans n2).trans n3).trans n4
  refine ⟨M2, w, s4, ?_, P2, N⟩
  have body : b_law_points c [some (.cell 0), some (.int mm), some (.int mw), none, none, none, none, none, none, none, none, none] s = .ok (.rt (matP M2)) (s4 ++ [.dead]) :=
    (seqP (show ptA c _ s = _ from k1)).trans ((seqP (setP (i := 5) k2)).trans ((seqP (show ptI c _ _ = _ from k3)).trans ((seqP (show ptF c _ _ = _ from k4)).trans (retP rfl))))
  have pm : pureD (matP M2) = true := by
    have := pureRows M2
    simpa [cutPure, pureD] using this
  have tk : (s4 ++ [Cell.dead]).take s.length = s4 := by rw [← nx_len N]; simp
  have hb : runBody 3 12 (b_law_points c) [.cell 0, .int mm, .int mw] s = .ok (matP M2) (s4 ++ [.dead]) := runP3 body
  simp only [m_law_points, cutRes, hb, Res.bind_ok, tk, pm, (h.next N).cut, Bool.and_self, if_true]
end U
set_option Elab.async false
set_option linter.all false
set_option maxRecDepth 100000
set_option maxHeartbeats 1000000
set_option exponentiation.threshold 20000
namespace U
open Pm PySem
variable {c : Cfg} {s : S}
theorem sumOk_fr {d b : Nat} (hd : 0 < d) (hd2 : d < 2 ^ 2000) : ∀ {l : List Rat} {a : Rat} {k : Nat}, b ≤ k → Fr d k a → (∀ q ∈ l, Fr d b q) → k + l.length ≤ 2000 → SumOk a l
  | [], a, k, _, ha, _, hl => (ha.mono (by simpa using hl)).bq hd hd2
  | q :: l, a, k, hb, ha, h, hl => by
    simp only [List.length_cons] at hl
    refine ⟨(ha.mono (by omega)).bq hd hd2, ((h q (by simp)).mono (by omega)).bq hd hd2, ?_⟩
    have z := (ha.add (h q (by simp))).mono (show max k b + 1 ≤ k + 1 by omega)
    exact sumOk_fr hd hd2 (by omega) z (fun x hx => h x (by simp [hx])) (by omega)
theorem prods_fr {d e b k : Nat} {p q : List Rat} (hp : ∀ x ∈ p, Fr d b x) (hq : ∀ x ∈ q, Fr e k x) : ∀ x ∈ (p.zip q).map fun x => x.1 * x.2, Fr (d * e) (b + k) x := by
  intro x hx
  obtain ⟨⟨a, b'⟩, hab, rfl⟩ := List.mem_map.mp hx
  have m := List.of_mem_zip hab
  exact (hp a m.1).mul (hq b' m.2)
theorem dot_okF {d e b k : Nat} {p q : List Rat} (hp : ∀ x ∈ p, Fr d b x) (hq : ∀ x ∈ q, Fr e k x) (hd : 0 < d) (he : 0 < e) (hdl : d < 2 ^ b) (hel : e < 2 ^ k) (hl : b + k + p.length ≤ 2000) : DotOk p q := by
  have h1 : d * e < 2 ^ 2000 := Nat.lt_of_lt_of_le (Nat.mul_lt_mul'' hdl hel) (by rw [← Nat.pow_add]; exact pow_le (by omega))
  have l1 : ((p.zip q).map fun x => x.1 * x.2).length ≤ p.length := by simp; omega
  refine ⟨fun x hx => ((hp x hx).mono (show b ≤ 2000 by omega)).bq hd (Nat.lt_of_lt_of_le hdl (pow_le (by omega))), fun x hx => ((hq x hx).mono (show k ≤ 2000 by omega)).bq he (Nat.lt_of_lt_of_le hel (pow_le (by omega))), ?_⟩
  exact sumOk_fr (Nat.mul_pos hd he) h1 (Nat.le_refl (b + k)) (Fr.zero _ _) (prods_fr hp hq) (by omega)
theorem fold_fr {d b : Nat} : ∀ {l : List Rat} {a : Rat} {k : Nat}, b ≤ k → Fr d k a → (∀ q ∈ l, Fr d b q) → Fr d (k + l.length) (l.foldl (· + ·) a)
  | [], a, k, _, ha, _ => by simpa using ha
  | q :: l, a, k, hb, ha, h => by
    have z := (ha.add (h q (by simp))).mono (show max k b + 1 ≤ k + 1 by omega)
    have := fold_fr (b := b) (k := k + 1) (l := l) (by omega) z fun x hx => h x (by simp [hx])
    rw [List.foldl_cons, List.length_cons]
    exact this.mono (by omega)
theorem dot_fr {d e b k : Nat} {p q : List Rat} (hp : ∀ x ∈ p, Fr d b x) (hq : ∀ x ∈ q, Fr e k x) : Fr (d * e) (b + k + p.length) (dot p q) := by
  have l1 : ((p.zip q).map fun x => x.1 * x.2).length ≤ p.length := by simp; omega
  exact (fold_fr (Nat.le_refl (b + k)) (Fr.zero _ _) (prods_fr hp hq)).mono (by omega)
end U
set_option Elab.async false
set_option linter.all false
set_option maxRecDepth 100000
set_option maxHeartbeats 1000000
set_option exponentiation.threshold 20000
namespace U
open Pm PySem
variable {c : Cfg} {s : S}
theorem ex_check {d : D} {M : List (List Rat)} {m k w n : Nat} (h : Pok d M m k w n) (e : List (Option D)) : sExpr (mCallD (n := 1) [] (m_check_points c) (aCons (mVar 0) aNil)) (some d :: e) s = .ok (.nx (some d :: e)) s := by
  have := (call1 (f := m_check_points c) (e := some d :: e) (i := 0) rfl).trans (h.check (c := c) (s := s))
  simp only [sExpr, this, Res.bind_ok]
theorem Pok.len {d : D} {M : List (List Rat)} {m k w n : Nat} (h : Pok d M m k w n) : bLenA [d] s = .ok (.int n) s := by
  obtain ⟨ds, t1, t2⟩ := id h.tab
  have l := sq_len (s := s) t1
  rwa [t2.len, h.cnt] at l
theorem heights_run (f : cutOk s = true) {d e z : D} {M : List (List Rat)} {m k w n : Nat} (h : Pok d M m k w n) {q : List Rat} {a : Rat} (hq : Row e q) (ha : Nm z a) (hl : q.length = w) (ha2 : Sq a) (hd : ∀ r ∈ M, DotOk q r ∧ Sq (dot q r)) : m_heights c [d, .tup [e, z]] s = .ok (rowR (M.map fun r => dot q r + a)) s := by
  obtain ⟨ds, t1, t2⟩ := id h.tab
  have n9 := h.n2
  have w8 := h.w2
  obtain ⟨d0, g0, es0, q1, q2⟩ : ∃ d0, ds[0]? = some d0 ∧ ∃ es, Sq2 d0 es ∧ es.length = w := by
    obtain ⟨r0, e0⟩ : ∃ r0, M[0]? = some r0 := ⟨_, List.getElem?_eq_getElem (by rw [h.cnt]; omega)⟩
    obtain ⟨d0, a1, a2⟩ := t2.get e0
    obtain ⟨es, b1, b2⟩ := a2
    exact ⟨d0, a1, es, b1, by rw [b2.len]; exact h.row r0 (List.mem_of_getElem? e0)⟩
  have nm := row_numbers (c := c) (s := s) hq (by omega)
  rw [hl] at nm
  have F1 : m_is_form c [d, .tup [e, z]] s = .ok (.bl true) s := by
    have b1 : mCall (bIs c.k) (aCons (mVar 1) (aCons (mC (.ty .tuple)) aNil)) [some d, some (.tup [e, z])] s = .ok (.bl true) s := rfl
    have b2 : mB (m2 (pNe c) (mCall bLenA (aCons (mVar 1) aNil)) (mC (.int 2))) [some d, some (.tup [e, z])] s = .ok false s := b_of ((m2P (x := .int 2) (y := .int 2) rfl conP).trans (ne_ii 2 2))
    have L0 : mCall bLenA (aCons (m2 ixDD (mVar 0) (mC (.int 0))) aNil) [some d, some (.tup [e, z])] s = .ok (.int w) s := by
      have := sq_len (s := s) q1
      rw [q2] at this
      exact (callP (consP ((m2P (varP rfl) conP).trans (sq_ix (i := 0) t1 g0)) nilP)).trans this
    have i0 : m2 ixDD (mVar 1) (mC (.int 0)) [some d, some (.tup [e, z])] s = .ok e s := rfl
    have i1 : m2 ixDD (mVar 1) (mC (.int 1)) [some d, some (.tup [e, z])] s = .ok z s := rfl
    have a1 := (andT (b := mCallD (n := 1) [] (m_is_number c) (aCons (m2 ixDD (mVar 1) (mC (.int 1))) aNil)) ((callDP (con0 i0 (con0 L0 nil0)) rfl).trans nm)).trans ((callDP (con0 i1 nil0) rfl).trans (is_number_ok (c := c) ha))
    exact runP2 ((seqP (ex_check h _)).trans ((seqP (if_no (or_f (not_t (bt_of b1)) b2))).trans (retP a1)))
  have hr := compE (s := s) (own := [4]) (env := [some d, some (.tup [e, z]), some e, some z, none]) (mt := tName 4) (me := m2 (pAdd c) (mCallD (n := 2) [] (m_product_sum c) (aCons (mVar 2) (aCons (mVar 4) aNil))) (mVar 3)) (f := fun r => rq (dot q r + a)) t2 (fun x r hx hr' kr => by
    obtain ⟨dk, ds'⟩ := hd r hr'
    have ps := psum_ok (c := c) (s := s) f hq kr (by omega) dk
    exact ⟨[some d, some (.tup [e, z]), some e, some z, some x], rfl, (m2P ((callDP (con0 (varP rfl) (con0 (varP rfl) nil0)) rfl).trans ps) (varP rfl)).trans (add_rat ha f ds' ha2)⟩)
  have hc := compD (mi := iLT (mVar 0)) (sq_iLT t1 rfl) (by rw [t2.len, h.cnt]; omega) hr
  have T : mNotT (mBt (mCallD (n := 2) [] (m_is_form c) (aCons (mVar 0) (aCons (mVar 1) aNil)))) [some d, some (.tup [e, z]), none, none, none] s = .ok false s := not_t (bt_of ((callDP (con0 (varP rfl) (con0 (varP rfl) nil0)) rfl).trans F1))
  have A : sAsg (mVar 1) (taTup 2 (taCons (aN (tName 2)) (taCons (aN (tName 3)) taNil))) [some d, some (.tup [e, z]), none, none, none] s = .ok (.nx [some d, some (.tup [e, z]), some e, some z, none]) s := rfl
  refine runP2 ((seqP (if_no T)).trans ((seqP A).trans (retP (hc.trans ?_))))
  rw [rowR, List.map_map]
  rfl
end U
set_option Elab.async false
set_option linter.all false
set_option maxRecDepth 100000
set_option maxHeartbeats 1000000
set_option exponentiation.threshold 20000
namespace U
open Pm PySem
variable {c : Cfg} {s : S}
def Inj (L : List (List Rat)) (w v : Nat) : Prop := ∀ x : Nat → Rat, (∀ j, j < v → Th.sm w (fun i => x i * vq (L.getD i []) j) = 0) → ∀ i, i < w → x i = 0
def In3 (t : Nat) (q : Rat) : Prop := ∃ z : Int, q = z ∧ z.natAbs ≤ 3 ^ t
structure Lt (L : List (List Rat)) (w t : Nat) : Prop where
  cnt : L.length = w
  row : ∀ r ∈ L, r.length = w
  num : ∀ r ∈ L, ∀ q ∈ r, In3 t q
  inj : Inj L w w
theorem In3.mono {t u : Nat} {q : Rat} (h : In3 t q) (l : t ≤ u) : In3 u q := by
  obtain ⟨z, h1, h2⟩ := h
  exact ⟨z, h1, Nat.le_trans h2 (Nat.pow_le_pow_right (by decide) l)⟩
theorem In3.fr {q : Rat} (h : In3 3 q) : Fr 1 5 q := by
  obtain ⟨z, rfl, h2⟩ := h
  exact Fr.int (Nat.lt_of_le_of_lt h2 (by decide))
theorem In3.sq {t : Nat} {q : Rat} (h : In3 t q) (ht : t ≤ 3) : Sq q := ((h.mono ht).fr.mono (show 5 ≤ 2000 by decide)).bq (by decide) (by decide +kernel)
theorem vq_oob {r : List Rat} {j : Nat} (h : r.length ≤ j) : vq r j = 0 := by simp [vq, List.getD_eq_getElem?_getD, List.getElem?_eq_none h]
end U
set_option Elab.async false
set_option linter.all false
set_option maxRecDepth 100000
set_option maxHeartbeats 1000000
set_option exponentiation.threshold 20000
set_option Elab.async false
set_option linter.all false
set_option maxRecDepth 100000
set_option maxHeartbeats 1000000
set_option exponentiation.threshold 20000
set_option linter.all false
namespace Th
theorem rank_more {B C : List (Nat × Vc)} {v : Vc} (hB : Ech B) (hC : Ech C) (h : ∀ p ∈ C, Sp (v :: rows B) p.2) : C.length ≤ B.length + 1 := by
  have := dual_le (v :: rows B) C hC.dual h
  simpa [rows] using this
end Th
set_option Elab.async false
set_option linter.all false
set_option maxRecDepth 100000
set_option maxHeartbeats 1000000
set_option exponentiation.threshold 20000
namespace U
open Pm PySem
variable {c : Cfg} {s : S}
theorem Q12.fr {q : Rat} (h : Q12 q) : Fr 12 7 q := h
theorem ents_fr {q : Rat} (h : q ∈ ents) : Fr 12 7 q := (ents_bq h).fr
end U
set_option Elab.async false
set_option linter.all false
set_option maxRecDepth 100000
set_option maxHeartbeats 1000000
set_option exponentiation.threshold 20000
namespace U
open Pm PySem
variable {c : Cfg} {s : S}
def Sml (d : Nat) : Prop := d < 2 ^ 2000
theorem sml {d k : Nat} (h : d < 2 ^ k) (hk : k ≤ 2000) : Sml d := Nat.lt_of_lt_of_le h (pow_le hk)
theorem sml2 {d e b g : Nat} (h : d < 2 ^ b) (h' : e < 2 ^ g) (hk : b + g ≤ 2000) : Sml (d * e) := sml (k := b + g) (by rw [Nat.pow_add]; exact Nat.mul_lt_mul'' h h') hk
theorem fr_sq {d k : Nat} {q : Rat} (h : Fr d k q) (hd : 0 < d) (hk : Sml d) (h2 : k ≤ 2000) : Sq q := (h.mono h2).bq hd hk
theorem rep_one (v : Nat) (x : D) : repD v [x] = List.replicate v x := by simp [repD]
theorem q1 {v : Nat} (hv : v ≤ 1000) (x : D) : decide (-1000000 ≤ (v : Int) ∧ (v : Int) < 1000000 ∧ [x].length * (v : Int).toNat ≤ line) = true := by
  have : ([x].length * (v : Int).toNat) = v := by simp
  rw [this]
  exact decide_eq_true ⟨by omega, by omega, by unfold line; omega⟩
theorem q2 {v : Nat} (hv : v ≤ 1000) (x : D) : (repD (v : Int).toNat [x]).length ≤ line := by
  rw [rep_one, List.length_replicate, Int.toNat_natCast]
  unfold line
  omega
theorem q3 {v : Nat} (hv : v ≤ 1000) (x : D) : mulL (.lst [x]) (.int v) s = .ok (.lst (List.replicate v x)) s := by
  have e := rep_one v x
  unfold mulL
  refine (if_pos (q1 hv x)).trans ?_
  unfold newL
  refine (if_pos (q2 hv x)).trans ?_
  rw [Int.toNat_natCast, e]
theorem q4 {v : Nat} (x : D) : mulI (.lst [x]) (.int v) s = .stuck := rfl
end U
set_option Elab.async false
set_option linter.all false
set_option maxRecDepth 100000
set_option maxHeartbeats 1000000
set_option exponentiation.threshold 20000
namespace U
open Pm PySem
variable {c : Cfg} {s : S}
theorem w1_vq {r : List Rat} {w j : Nat} (h : r.length = w) : vq (r ++ [1]) j = if j < w then vq r j else if j = w then 1 else 0 := by
  simp only [vq, List.getD_eq_getElem?_getD]
  by_cases hj : j < w
  · rw [if_pos hj, List.getElem?_append_left (by omega)]
  · rw [if_neg hj, List.getElem?_append_right (by omega)]
    by_cases e : j = w
    · subst e; simp [h]
    · rw [if_neg e, List.getElem?_eq_none (by simp; omega)]; rfl
theorem get_mem {M : List (List Rat)} {i : Nat} (h : i < M.length) : M.getD i [] ∈ M := by
  rw [List.getD_eq_getElem?_getD, List.getElem?_eq_getElem h]
  exact List.getElem_mem h
theorem pok_of {d : D} {M : List (List Rat)} {m k w n : Nat} (t : Tab d M) (hr : ∀ r ∈ M, r.length = w) (hn : M.length = n) (h2 : 2 ≤ n ∧ n ≤ 9) (hw : 1 ≤ w ∧ w ≤ 8) (hq : ∀ r ∈ M, ∀ q ∈ r, Fr m k q) (m0 : 0 < m) (m64 : m < 18446744073709551616) (mk2 : m < 2 ^ k) (kb : bits k n ≤ 9000) : Pok d M m k w n where
  tab := t
  row := hr
  n2 := h2
  w2 := hw
  fine := {
    row := fun r h => by
      obtain ⟨p, hp, rfl⟩ := List.mem_map.mp h
      simp [hr p hp]
    num := fun r h q hq' => by
      obtain ⟨p, hp, rfl⟩ := List.mem_map.mp h
      rcases List.mem_append.mp hq' with e | e
      · exact hq p hp q e
      · rw [show q = 1 by simpa using e]
        exact ⟨m, by rw [Rat.one_mul]; rfl, by simpa using mk2⟩
    cnt := by simpa using hn
    n0 := by omega
    n1 := by omega
    w1 := by omega
    m0 := m0
    m64 := m64
    mk2 := mk2
    kb := kb }
theorem mat_len0 {L : List (List Rat)} {v : Nat} (h0 : 0 < L.length) (hv : ∀ r ∈ L, r.length = v) {e : Pm.Env} {i : Nat} (he : e[i]? = some (some (matP L))) : mCall bLenA (aCons (m2 ixDD (mVar i) (mC (.int 0))) aNil) e s = .ok (.int v) s := by
  obtain ⟨r0, e0⟩ : ∃ r0, L[0]? = some r0 := ⟨_, List.getElem?_eq_getElem h0⟩
  have l0 : r0.length = v := hv r0 (List.mem_of_getElem? e0)
  have g0 : (L.map rowP)[0]? = some (rowP r0) := by rw [List.getElem?_map, e0]; rfl
  have := sq_len (s := s) (.lst (r0.map pq))
  rw [List.length_map, l0] at this
  exact (callP (consP ((m2P (varP he) conP).trans (sq_ix (i := 0) (.lst _) g0)) nilP)).trans this
theorem pq_ix {r : List Rat} {i : Nat} (h : i < r.length) : ixDD (rowP r) (.int (i : Int)) s = .ok (pq (r.getD i 0)) s := by
  refine sq_ix (.lst _) ?_
  rw [List.getElem?_map, List.getElem?_eq_getElem h]
  simp [List.getD_eq_getElem?_getD, List.getElem?_eq_getElem h]
end U
set_option Elab.async false
set_option linter.all false
set_option maxRecDepth 100000
set_option maxHeartbeats 2000000
set_option exponentiation.threshold 20000
namespace U
open Pm PySem
variable {c : Cfg} {s : S}
theorem mlst2 {m : Pm.Env → S → Res (List D)} {e : Pm.Env} {x y : D} (h : m e s = .ok [x, y] s) : mLst m e s = .ok (.lst [x, y]) s := by
  simp only [mLst, h, Res.bind_ok]
  rfl
theorem mtup2 {m : Pm.Env → S → Res (List D)} {e : Pm.Env} {x y : D} {s' : S} (h : m e s = .ok [x, y] s') : mTup m e s = .ok (.tup [x, y]) s' := by
  simp only [mTup, h, Res.bind_ok]
  rfl
theorem mlst1 {m : Pm.Env → S → Res (List D)} {e : Pm.Env} {x : D} (h : m e s = .ok [x] s) : mLst m e s = .ok (.lst [x]) s := by
  simp only [mLst, h, Res.bind_ok]
  rfl
theorem bl_or {a b : Pm.Env → S → Res Bool} {e : Pm.Env} (h : a e s = .ok false s) (k : b e s = .ok false s) : mOrT a b e s = .ok false s := or_f h k
end U
set_option Elab.async false
set_option linter.all false
set_option maxRecDepth 100000
set_option maxHeartbeats 2000000
set_option exponentiation.threshold 20000
namespace U
open Pm PySem
variable {c : Cfg} {s : S}
structure Rk (M : List (List Rat)) (R : List (Nat × Th.Vc)) : Prop where
  ech : Th.Ech R
  eqv : Th.Eqv (Th.rows R) ((w1s M).map vq)
theorem slice_gen {m : Pm.Env → S → Res D} {lo hi : Pm.Env → S → Res (Option Int)} {e : Pm.Env} {xs : List D} {a b : Option Int} (h : m e s = .ok (.lst xs) s) (h1 : lo e s = .ok a s) (h2 : hi e s = .ok b s) (hl : xs.length ≤ 100000) : mSlice m lo hi e s = .ok (.lst (cutD xs a b)) s := by
  have hl' : (cutD xs a b).length ≤ line := by have := cutD_le xs a b; unfold line; omega
  simp only [mSlice, h, h1, h2, Res.bind_ok, lisOf, newL, if_pos hl']
theorem cut_take {xs : List D} {k : Nat} (h : k ≤ xs.length) : cutD xs none (some (k : Int)) = xs.take k := by
  have z : sxD xs.length xs.length (some (k : Int)) = k := by
    unfold sxD
    simp only
    rw [if_neg (by omega)]
    simp
    omega
  unfold cutD
  rw [z, show sxD xs.length 0 none = 0 from rfl]
  simp
theorem cut_drop {xs : List D} {k : Nat} (h : k ≤ xs.length) : cutD xs (some (k : Int)) none = xs.drop k := by
  have z : sxD xs.length 0 (some (k : Int)) = k := by
    unfold sxD
    simp only
    rw [if_neg (by omega)]
    simp
    omega
  unfold cutD
  rw [z, show sxD xs.length xs.length none = xs.length from rfl]
  exact List.take_of_length_le (by simp)
theorem oS_var {e : Pm.Env} {i : Nat} {k : Int} (h : e[i]? = some (some (.int k))) : oS (mVar i) e s = .ok (some k) s := by simp [oS, mVar, h]
end U
set_option Elab.async false
set_option linter.all false
set_option maxRecDepth 100000
set_option maxHeartbeats 2000000
set_option exponentiation.threshold 20000
namespace U
open Pm PySem
variable {c : Cfg} {s : S}
theorem mat_ix {M : List (List Rat)} {k : Nat} (h : k < M.length) {e : Pm.Env} {i j : Nat} (hi : e[i]? = some (some (matP M))) (hj : e[j]? = some (some (.int k))) : m2 ixDD (mVar i) (mVar j) e s = .ok (rowP (M.getD k [])) s := by
  refine (m2P (varP hi) (varP hj)).trans (sq_ix (.lst _) ?_)
  rw [List.getElem?_map, List.getD_eq_getElem?_getD, List.getElem?_eq_getElem h]
  rfl
theorem seqRt {a b : Pm.Env → S → Res Fl} {e : Pm.Env} {d : D} {s' : S} (h : a e s = .ok (.rt d) s') : sSeq a b e s = .ok (.rt d) s' := by simp [sSeq, h]
end U
set_option Elab.async false
set_option linter.all false
set_option maxRecDepth 100000
set_option maxHeartbeats 2000000
set_option exponentiation.threshold 20000
namespace U
open Pm PySem
variable {c : Cfg} {s : S}
theorem cat_rr (A B : List (List Rat)) (h : A.length + B.length ≤ 1000000) : pAdd c (matP A) (matP B) s = .ok (matP (A ++ B)) s := by
  refine (cat_ll (by simpa using h)).trans ?_
  rw [← List.map_append]
end U
open U (Cfg)
set_option Elab.async false
set_option linter.all false
set_option maxRecDepth 100000
set_option maxHeartbeats 400000
namespace W12
open Pm PySem
def b_law_pot (c : Cfg) : Pm.Env → S → Res Fl := (sSeq (sSet 2 (m2 (U.pAdd c) (m2 (U.pMul c) (mC (.int 131)) (mVar 1)) (mC (.int 53))))
  (sSeq (sIf (mB (m2 ltA (mVar 1) (mCall bLenA (aCons (mVar 0) aNil)))) (sSet 2 (mCall (bInt1 fun i => .int (absI i)) (aCons (m2 ixDD (mVar 0) (mVar 1)) aNil))) sNext)
  (sRet (mCell (aCons (mCall (bInt2 (fun _ _ => true) fun i j => .int (maxI i j)) (aCons (mC (.int 0)) (aCons (m2 (U.pSub c) (mVar 2) (m2 powI (mC (.int 10)) (mC (.int 18)))) aNil))) (aCons (m2 (U.pAdd c) (m2 modI (m2 (U.pMul c) (mCall (bInt1 fun i => .int i) (aCons (m2 (U.pAdd c) (m2 modI (mCall (bInt1 fun i => .int i) (aCons (mVar 2) aNil)) (mC (.int 2147483549))) (mC (.int 53))) aNil)) (m2 powI (m2 (U.pAdd c) (m2 (U.pMul c) (mC (.int 2)) (mVar 1)) (mC (.int 3))) (mC (.int 3)))) (mC (.int 2147483477))) (mC (.int 1))) aNil))))))
def m_law_pot (c : Cfg) : List D → S → Res D := runBody 2 3 (W12.b_law_pot c)
def b_law_less (c : Cfg) : Pm.Env → S → Res Fl := (sRet (mCallD (n := 2) [] (U.m_law_sum c) (aCons (mVar 0) (aCons (mTup (aCons (m2 (U.pSub c) (mC (.int 0)) (m2 ixDD (mVar 1) (mC (.int 0)))) (aCons (m2 ixDD (mVar 1) (mC (.int 1))) aNil))) aNil))))
def m_law_less (c : Cfg) : List D → S → Res D := runBody 2 2 (W12.b_law_less c)
def b_law_over (c : Cfg) : Pm.Env → S → Res Fl := (sRet (mCallD (n := 2) [] (U.m_law_low c) (aCons (m2 (U.pMul c) (m2 ixDD (mVar 0) (mC (.int 0))) (m2 ixDD (mVar 1) (mC (.int 1)))) (aCons (m2 (U.pMul c) (m2 ixDD (mVar 0) (mC (.int 1))) (m2 ixDD (mVar 1) (mC (.int 0)))) aNil))))
def m_law_over (c : Cfg) : List D → S → Res D := runBody 2 2 (W12.b_law_over c)
def b_law_lowered (c : Cfg) : Pm.Env → S → Res Fl := (sSeq (sSet 3 (m2 ixDD (mVar 0) (mVar 2)))
  (sRet (mIf (mB (m2 (U.pEq c) (m2 ixDD (mVar 3) (mC (.int 0))) (mC (.int 0)))) (mVar 0) (mCompF finL [4, 5] (iZipA (aCons (mVar 0) (aCons (mVar 1) aNil))) (tSeq 2 (tCons (tName 4) (tCons (tName 5) tNil))) mYes (mCallD (n := 2) [] (W12.m_law_less c) (aCons (mVar 4) (aCons (mCallD (n := 2) [] (U.m_law_by c) (aCons (mVar 3) (aCons (mVar 5) aNil))) aNil)))))))
def m_law_lowered (c : Cfg) : List D → S → Res D := runBody 3 6 (W12.b_law_lowered c)
def b_law_steps (c : Cfg) : Pm.Env → S → Res Fl := (sSeq (sPar 1 2 (aCons (mCompF finC [6] (iLst (mVar 0)) (tName 6) mYes (mCall bList (aCons (mVar 6) aNil))) (aCons (mLst aNil) aNil)))
  (sSeq (sFor (iR1 (aCons (mIf (mB (m2 (U.pNe c) (mVar 0) (mLst aNil))) (mCall bLenA (aCons (m2 ixDD (mVar 0) (mC (.int 0))) aNil)) (mC (.int 0))) aNil)) (tName 3) (sSeq (sSet 4 (mCompK finL [6] (mVar 1) (tName 6) (mB (m2 (U.pNe c) (m2 ixDD (m2 ixDD (mVar 6) (mVar 3)) (mC (.int 0))) (mC (.int 0)))) (mVar 6)))
  (sIf (mB (m2 (U.pNe c) (mVar 4) (mLst aNil))) (sSeq (sSet 5 (mCompF finL [7] (iLst (m2 ixDD (mVar 4) (mC (.int 0)))) (tName 7) mYes (mCallD (n := 2) [] (W12.m_law_over c) (aCons (mVar 7) (aCons (m2 ixDD (m2 ixDD (mVar 4) (mC (.int 0))) (mVar 3)) aNil)))))
  (sSeq (sExpr (mtCell remF (mVar 1) (aCons (m2 ixDD (mVar 4) (mC (.int 0))) aNil)))
  (sSeq (sSet 1 (mCompK finC [6] (mVar 1) (tName 6) mYes (mCallD (n := 3) [] (W12.m_law_lowered c) (aCons (mVar 6) (aCons (mVar 5) (aCons (mVar 3) aNil))))))
  (sSet 2 (m2 (U.pAdd c) (mCompF finL [6] (iLst (mVar 2)) (tName 6) mYes (mCallD (n := 3) [] (W12.m_law_lowered c) (aCons (mVar 6) (aCons (mVar 5) (aCons (mVar 3) aNil))))) (mLst (aCons (mVar 5) aNil))))))) sNext)))
  (sRet (mVar 2))))
def m_law_steps (c : Cfg) : List D → S → Res D := fun ds s => cutRes s.length (runBody 1 8 (W12.b_law_steps c) ds s)
def b_law_rows_of (c : Cfg) : Pm.Env → S → Res Fl := (sSeq (sSet 1 (mCompF finL [2] (iLst (mVar 0)) (tName 2) mYes (mTup (aCons (mC (.int 1)) (aCons (mC (.int 1)) aNil)))))
  (sRet (m2 (U.pAdd c) (mLst (aCons (mVar 1) aNil)) (mCompF finL [3] (iR1 (aCons (mCall bLenA (aCons (m2 ixDD (mVar 0) (mC (.int 0))) aNil)) aNil)) (tName 3) mYes (mCompF finL [2] (iLst (mVar 0)) (tName 2) mYes (m2 ixDD (mVar 2) (mVar 3)))))))
def m_law_rows_of (c : Cfg) : List D → S → Res D := runBody 1 4 (W12.b_law_rows_of c)
def b_law_size (c : Cfg) : Pm.Env → S → Res Fl := (sRet (m2 (U.pSub c) (mCall bLenA (aCons (mCallD (n := 1) [] (W12.m_law_steps c) (aCons (mCallD (n := 1) [] (W12.m_law_rows_of c) (aCons (mVar 0) aNil)) aNil)) aNil)) (mC (.int 1))))
def m_law_size (c : Cfg) : List D → S → Res D := runBody 1 1 (W12.b_law_size c)
def b_law_shuffled (c : Cfg) : Pm.Env → S → Res Fl := (sSeq (sPar 2 3 (aCons (mCall bListC (aCons (mVar 1) aNil)) (aCons (mCell aNil) aNil)))
  (sSeq (sFrz 2 (sFrz 3 (whileL (mB (m2 neE (mVar 2) (mLst aNil))) (sExpr (mtCell appF (mVar 3) (aCons (mPop (mVar 2) (aCons (mCallD (n := 2) [] c.dr (aCons (mVar 0) (aCons (mCall bLenA (aCons (mVar 2) aNil)) aNil))) aNil)) aNil))) 1000)))
  (sRet (mVar 3))))
def m_law_shuffled (c : Cfg) : List D → S → Res D := fun ds s => cutRes s.length (runBody 2 4 (W12.b_law_shuffled c) ds s)
def b_law_free (c : Cfg) : Pm.Env → S → Res Fl := (sSeq (sSet 2 (m2 (U.pAdd c) (mSlice (mVar 0) oN (oS (mVar 1))) (mSlice (mVar 0) (oS (m2 (U.pAdd c) (mVar 1) (mC (.int 1)))) oN)))
  (sRet (mCall bLenA (aCons (mCallD (n := 1) [] (W12.m_law_steps c) (aCons (mCompF finL [3] (iLst (mVar 2)) (tName 3) mYes (mCompF finL [4, 5] (iZipA (aCons (mVar 3) (aCons (m2 ixDD (mVar 0) (mVar 1)) aNil))) (tSeq 2 (tCons (tName 4) (tCons (tName 5) tNil))) mYes (mCallD (n := 2) [] (W12.m_law_less c) (aCons (mVar 4) (aCons (mVar 5) aNil))))) aNil)) aNil))))
def m_law_free (c : Cfg) : List D → S → Res D := runBody 2 6 (W12.b_law_free c)
def b_law_one_right (c : Cfg) : Pm.Env → S → Res Fl := (sSeq (sPar 2 3 (aCons (mCallD (n := 2) [] (U.m_law_given c) (aCons (mVar 0) (aCons (mVar 1) aNil))) (aCons (mCallD (n := 2) [] (W12.m_law_free c) (aCons (mVar 1) (aCons (mCallD (n := 2) [] c.dr (aCons (mVar 0) (aCons (mCall bLenA (aCons (mVar 1) aNil)) aNil))) aNil))) aNil)))
  (sSeq (sPar 4 5 (aCons (mCall (U.pRepr c) (aCons (mVar 2) aNil)) (aCons (mLst (aCons (mCallD (n := 1) [] (U.m_size c) (aCons (mVar 2) aNil)) (aCons (mCallD (n := 1) [] (U.m_excess c) (aCons (mVar 2) aNil)) (aCons (mKw 0 1 (U.m_size c) aNil (aCons (mVar 2) aNil)) (aCons (mKw 0 1 (U.m_excess c) aNil (aCons (mVar 2) aNil)) aNil))))) aNil)))
  (sSeq (sIf (mOrT (mB (m2 (U.pNe c) (mCall (U.pRepr c) (aCons (mVar 5) aNil)) (mCall (U.pRepr c) (aCons (m2 (U.pMul c) (mLst (aCons (mVar 3) (aCons (m2 (U.pSub c) (m2 (U.pSub c) (mCall bLenA (aCons (mVar 1) aNil)) (mC (.int 1))) (mVar 3)) aNil))) (mC (.int 2))) aNil)))) (mB (m2 (U.pNe c) (mCall (U.pRepr c) (aCons (mVar 2) aNil)) (mVar 4)))) (sRet (mC (.bl false))) sNext)
  (sSeq (sSet 6 (mCompF finL [10] (iLst (m2 ixDD (mVar 1) (mC (.int 0)))) (tName 10) mYes (mCallD (n := 1) [] (U.m_law_entry c) (aCons (mVar 0) aNil))))
  (sSeq (sSet 7 (mCallD (n := 2) [] (W12.m_law_shuffled c) (aCons (mVar 0) (aCons (mCompF finL [11] (iLst (mVar 1)) (tName 11) mYes (mCompF finL [12, 13] (iZipA (aCons (mVar 11) (aCons (mVar 6) aNil))) (tSeq 2 (tCons (tName 12) (tCons (tName 13) tNil))) mYes (mCallD (n := 2) [] (U.m_law_sum c) (aCons (mVar 12) (aCons (mVar 13) aNil))))) aNil))))
  (sSeq (sSet 8 (mCallD (n := 1) [] (U.m_law_entry c) (aCons (mVar 0) aNil)))
  (sSeq (sIf (mB (m2 ltA (mCall bLenA (aCons (m2 ixDD (mVar 1) (mC (.int 0))) aNil)) (mC (.int 8)))) (sSet 7 (mCompF finL [11] (iLst (mVar 7)) (tName 11) mYes (m2 (U.pAdd c) (mVar 11) (mLst (aCons (mCallD (n := 2) [] (U.m_law_sum c) (aCons (mCallD (n := 2) [] (U.m_law_by c) (aCons (mVar 8) (aCons (m2 ixDD (mVar 11) (mC (.int 0))) aNil))) (aCons (m2 ixDD (mVar 11) (m1 (U.pNeg c) (mC (.int 1)))) aNil))) aNil))))) sNext)
  (sSeq (sIf (mOrT (mB (m2 (U.pNe c) (mCallD (n := 1) [] (U.m_size c) (aCons (mCallD (n := 2) [] (U.m_law_given c) (aCons (mVar 0) (aCons (mVar 7) aNil))) aNil)) (mVar 3))) (mB (m2 (U.pNe c) (mCallD (n := 1) [] (U.m_excess c) (aCons (mCallD (n := 2) [] (U.m_law_given c) (aCons (mVar 0) (aCons (mVar 7) aNil))) aNil)) (m2 (U.pSub c) (m2 (U.pSub c) (mCall bLenA (aCons (mVar 1) aNil)) (mC (.int 1))) (mVar 3))))) (sRet (mC (.bl false))) sNext)
  (sSeq (sIf (mB (m2 (U.pEq c) (mCall bLenA (aCons (mVar 1) aNil)) (mC (.int 9)))) (sRet (mC (.bl true))) sNext)
  (sSeq (sSet 9 (m2 (U.pAdd c) (mVar 1) (mLst (aCons (mCompF finL [10] (iLst (m2 ixDD (mVar 1) (mC (.int 0)))) (tName 10) mYes (mCallD (n := 1) [] (U.m_law_entry c) (aCons (mVar 0) aNil))) aNil))))
  (sSeq (sSet 5 (mLst (aCons (mCallD (n := 1) [] (U.m_size c) (aCons (mCallD (n := 2) [] (U.m_law_given c) (aCons (mVar 0) (aCons (mVar 9) aNil))) aNil)) (aCons (mCallD (n := 1) [] (U.m_excess c) (aCons (mCallD (n := 2) [] (U.m_law_given c) (aCons (mVar 0) (aCons (mVar 9) aNil))) aNil)) aNil))))
  (sRet (mAnd (m2 (inAll false) (mVar 5) (mLst (aCons (mLst (aCons (m2 (U.pAdd c) (mVar 3) (mC (.int 1))) (aCons (m2 (U.pSub c) (m2 (U.pSub c) (mCall bLenA (aCons (mVar 1) aNil)) (mC (.int 1))) (mVar 3)) aNil))) (aCons (mLst (aCons (mVar 3) (aCons (m2 (U.pSub c) (mCall bLenA (aCons (mVar 1) aNil)) (mVar 3)) aNil))) aNil)))) (m2 (U.pEq c) (m2 ixDD (mVar 5) (mC (.int 0))) (mCallD (n := 1) [] (W12.m_law_size c) (aCons (mVar 9) aNil))))))))))))))))
def m_law_one_right (c : Cfg) : List D → S → Res D := runBody 2 14 (W12.b_law_one_right c)
def b_law_right (c : Cfg) : Pm.Env → S → Res Fl := (sSeq (sIf (mNotT (mBt (mCallD (n := 2) [] (W12.m_law_one_right c) (aCons (mVar 0) (aCons (mCallD (n := 3) [] (U.m_law_points c) (aCons (mVar 0) (aCons (mC (.int 7)) (aCons (mC (.int 4)) aNil)))) aNil))))) (sRet (mC (.bl false))) sNext)
  (sSeq (sPar 1 2 (aCons (mCompF finL [7] (iR1 (aCons (mC (.int 3)) aNil)) (tName 7) mYes (mCallD (n := 1) [] (U.m_law_entry c) (aCons (mVar 0) aNil))) (aCons (mCompF finL [7] (iR1 (aCons (mC (.int 3)) aNil)) (tName 7) mYes (mCallD (n := 1) [] (U.m_law_entry c) (aCons (mVar 0) aNil))) aNil)))
  (sSeq (sSet 3 (mCell aNil))
  (sSeq (sFrz 3 (sFor (iR1 (aCons (m2 (U.pAdd c) (mC (.int 2)) (mCallD (n := 2) [] c.dr (aCons (mVar 0) (aCons (mC (.int 5)) aNil)))) aNil)) (tName 4) (sSeq (sSet 5 (mTup (aCons (mCallD (n := 2) [] c.dr (aCons (mVar 0) (aCons (mC (.int 4)) aNil))) (aCons (mC (.int 1)) aNil))))
  (sExpr (mtCell appF (mVar 3) (aCons (mCompF finL [8, 9] (iZipA (aCons (mVar 1) (aCons (mVar 2) aNil))) (tSeq 2 (tCons (tName 8) (tCons (tName 9) tNil))) mYes (mCallD (n := 2) [] (U.m_law_sum c) (aCons (mVar 8) (aCons (mCallD (n := 2) [] (U.m_law_by c) (aCons (mVar 5) (aCons (mVar 9) aNil))) aNil)))) aNil))))))
  (sSeq (sIf (mOrT (mNotT (mBt (mCallD (n := 2) [] (W12.m_law_one_right c) (aCons (mVar 0) (aCons (mVar 3) aNil))))) (mB (m2 gtI (mCallD (n := 1) [] (U.m_size c) (aCons (mCallD (n := 2) [] (U.m_law_given c) (aCons (mVar 0) (aCons (mVar 3) aNil))) aNil)) (mC (.int 1))))) (sRet (mC (.bl false))) sNext)
  (sSeq (sSet 6 (mCompF finL [4] (iR1 (aCons (mC (.int 8)) aNil)) (tName 4) mYes (mCompF finL [7] (iR1 (aCons (mC (.int 8)) aNil)) (tName 7) mYes (mCall bIntA (aCons (m2 (U.pEq c) (mVar 7) (mVar 4)) aNil)))))
  (sRet (m2 (U.pEq c) (mLst (aCons (mCallD (n := 1) [] (U.m_size c) (aCons (m2 (U.pAdd c) (mVar 6) (mLst (aCons (m2 (U.pMul c) (mLst (aCons (mC (.int 0)) aNil)) (mC (.int 8))) aNil))) aNil)) (aCons (mCallD (n := 1) [] (U.m_excess c) (aCons (mVar 6) aNil)) (aCons (mCallD (n := 1) [] (U.m_size c) (aCons (mLst (aCons (mLst (aCons (mC (.int 3)) aNil)) (aCons (mLst (aCons (mC (.int 3)) aNil)) aNil))) aNil)) (aCons (mCallD (n := 1) [] (U.m_excess c) (aCons (m2 (U.pMul c) (mLst (aCons (mLst (aCons (mC (.int 3)) aNil)) aNil)) (mC (.int 9))) aNil)) aNil))))) (mLst (aCons (mC (.int 8)) (aCons (mC (.int 0)) (aCons (mC (.int 0)) (aCons (mC (.int 8)) aNil)))))))))))))
def m_law_right (c : Cfg) : List D → S → Res D := fun ds s => cutRes s.length (runBody 1 10 (W12.b_law_right c) ds s)
def b_law (c : Cfg) : Pm.Env → S → Res Fl := (sRet (mCallD (n := 1) [] (W12.m_law_right c) (aCons (mCallD (n := 2) [] (W12.m_law_pot c) (aCons (mVar 0) (aCons (mC (.int 0)) aNil))) aNil)))
def m_law (c : Cfg) : List D → S → Res D := runBody 1 1 (W12.b_law c)
end W12
set_option Elab.async false
set_option linter.all false
set_option maxRecDepth 100000
set_option maxHeartbeats 1000000
set_option exponentiation.threshold 20000
namespace W12
open Pm PySem U
variable {c : Cfg} {s : S}
theorem pq_neg (q : Rat) : (.tup [.int (0 - q.num), .int q.den] : D) = pq (-q) := by
  simp [pq]
theorem less_ok {p q : Rat} (hp : Sq p) (hq : Sq q) : m_law_less c [pq p, pq q] s = .ok (pq (p - q)) s := by
  have t : mTup (aCons (m2 (U.pSub c) (mC (.int 0)) (m2 ixDD (mVar 1) (mC (.int 0)))) (aCons (m2 ixDD (mVar 1) (mC (.int 1))) aNil)) [some (pq p), some (pq q)] s = .ok (pq (-q)) s := by
    have := con0 (e := [some (pq p), some (pq q)]) ((m2P (f := U.pSub c) (x := .int 0) (y := .int q.num) conP ((m2P (varP (i := 1) rfl) conP).trans (ix_p0 q))).trans (sub_ii _ _)) (con0 ((m2P (varP (i := 1) rfl) conP).trans (ix_p1 (s := s) q)) nil0)
    rw [← pq_neg]
    exact mtup2 this
  refine runP2 (retP ((callDP (con0 (varP rfl) (con0 t nil0)) rfl).trans ?_))
  rw [Rat.sub_eq_add_neg]
  exact lsum_ok hp hq.neg
theorem over_ok {p q : Rat} (hp : Sq p) (hq : Sq q) (h0 : q ≠ 0) : m_law_over c [pq p, pq q] s = .ok (pq (p / q)) s := by
  have qn : q.num ≠ 0 := fun z => h0 (Rat.num_eq_zero.mp z)
  have b0 : (p.den : Int) * q.num ≠ 0 := Int.mul_ne_zero (den_ne p) qn
  have e : Rat.divInt (p.num * q.den) (p.den * q.num) = p / q := by
    rw [Rat.div_def, Rat.inv_def, ← Rat.divInt_mul_divInt, Rat.num_divInt_den]
  refine runP2 (retP ((callDP (con0 ?_ (con0 ?_ nil0)) rfl).trans ((low_ok _ _ b0 (si_mul hp.d hq.1)).trans (by rw [e]))))
  · simp [m2, mVar, mC, ix_p0, ix_p1, mul_ii (si2 hp.1) (si2 hq.d)]
  · simp [m2, mVar, mC, ix_p0, ix_p1, mul_ii (si2 hp.d) (si2 hq.1)]
def PR (k : Nat) (r : List Rat) : Prop := ∃ d, 0 < d ∧ d < 2 ^ k ∧ ∀ q ∈ r, Fr d k q
theorem PR.sq {k : Nat} {r : List Rat} (h : PR k r) (hk : k ≤ 2000) : ∀ q ∈ r, Sq q := by
  obtain ⟨d, h1, h2, h3⟩ := h
  exact fun q hq => fr_sq (h3 q hq) h1 (sml h2 hk) hk
theorem PR.mono {k m : Nat} {r : List Rat} (h : PR k r) (l : k ≤ m) : PR m r := by
  obtain ⟨d, h1, h2, h3⟩ := h
  exact ⟨d, h1, Nat.lt_of_lt_of_le h2 (pow_le l), fun q hq => (h3 q hq).mono l⟩
def stpR (h : List Rat) (p : Nat) : List Rat := h.map fun q => q / h.getD p 0
theorem stp_pr {k p : Nat} {h : List Rat} (H : PR k h) (h0 : h.getD p 0 ≠ 0) : PR k (stpR h p) := by
  obtain ⟨d, d0, d1, dq⟩ := H
  have hp : h.getD p 0 ∈ h := by
    rw [List.getD_eq_getElem?_getD] at h0 ⊢
    cases e : h[p]? with
    | none => rw [e] at h0; exact absurd rfl h0
    | some x => exact List.mem_of_getElem? e
  obtain ⟨z, e, b⟩ := dq _ hp
  have z0 : z ≠ 0 := fun zz => by
    subst zz
    have d0' : (d : Rat) ≠ 0 := by
      intro q
      have : (d : Rat) = ((d : Int) : Rat) := rfl
      rw [this] at q
      have := (Rat.intCast_inj (a := (d : Int)) (b := 0)).mp q
      omega
    have : h.getD p 0 * (d : Rat) = 0 := by rw [e]; rfl
    rcases Rat.mul_eq_zero.mp this with q | q
    · exact h0 q
    · exact d0' q
  have d0' : (d : Rat) ≠ 0 := by
    intro q
    have : (d : Rat) = ((d : Int) : Rat) := rfl
    rw [this] at q
    have := (Rat.intCast_inj (a := (d : Int)) (b := 0)).mp q
    omega
  refine ⟨z.natAbs, by omega, b, fun q hq => ?_⟩
  obtain ⟨x, hx, rfl⟩ := List.mem_map.mp hq
  obtain ⟨y, ey, by'⟩ := dq x hx
  rcases Int.natAbs_eq z with q | q
  · refine ⟨y, ?_, by'⟩
    have e' : ((z.natAbs : Nat) : Rat) = ((z : Int) : Rat) := by
      conv => rhs; rw [q]
      rfl
    rw [e', ← e, ← ey]
    grind
  · refine ⟨-y, ?_, by simpa using by'⟩
    have e' : ((z.natAbs : Nat) : Rat) = -((z : Int) : Rat) := by
      conv => rhs; rw [q]
      rw [Rat.intCast_neg]
      show ((z.natAbs : Nat) : Rat) = - -((z.natAbs : Nat) : Rat)
      grind
    rw [e', ← e, Rat.intCast_neg, ← ey]
    grind
def lowR (r h : List Rat) (p : Nat) : List Rat := (r.zip h).map fun x => x.1 - r.getD p 0 * x.2
theorem low_len (r h : List Rat) (p : Nat) : (lowR r h p).length = min r.length h.length := by simp [lowR]
theorem low_zero {r h : List Rat} {p : Nat} (hl : r.length = h.length) (h0 : r.getD p 0 = 0) : lowR r h p = r := by
  refine List.ext_getElem (by rw [low_len]; omega) fun i h1 h2 => ?_
  simp only [lowR, List.getElem_map, List.getElem_zip, h0]
  grind
theorem low_pr {k p : Nat} {r h : List Rat} (H : PR k h) (R : PR k r) : PR (2 * k + 1) (lowR r h p) := by
  obtain ⟨d, d0, d1, dq⟩ := R
  obtain ⟨e, e0, e1, eq⟩ := H
  refine ⟨d * e, Nat.mul_pos d0 e0, ?_, fun q hq => ?_⟩
  · have := Nat.mul_lt_mul'' d1 e1
    rw [← Nat.pow_add] at this
    exact Nat.lt_of_lt_of_le this (pow_le (by omega))
  · obtain ⟨⟨x, y⟩, hm, rfl⟩ := List.mem_map.mp hq
    have m := List.of_mem_zip hm
    have a1 := (dq x m.1).more e1
    have rp : Fr d k (r.getD p 0) := by
      rw [List.getD_eq_getElem?_getD]
      cases z : r[p]? with
      | none => exact Fr.zero _ _
      | some x => exact dq x (List.mem_of_getElem? z)
    have a2 := rp.mul (eq y m.2)
    have := a1.add a2.neg
    rw [← Rat.sub_eq_add_neg] at this
    exact this.mono (by omega)
theorem low_vq {r h : List Rat} {p : Nat} (hl : r.length = h.length) (i : Nat) : vq (lowR r h p) i = vq r i - vq r p * vq h i := by
  by_cases hi : i < r.length
  · simp [vq, lowR, List.getD_eq_getElem?_getD, List.getElem?_eq_getElem hi, List.getElem?_eq_getElem (show i < h.length by omega), List.zip, List.getElem?_zipWith]
  · rw [vq_oob (r := lowR r h p) (by rw [low_len]; omega), vq_oob (r := r) (j := i) (by omega), vq_oob (r := h) (by omega)]
    grind
theorem stp_vq (h : List Rat) (p i : Nat) : vq (stpR h p) i = vq h i / vq h p := by
  simp only [vq, stpR, List.getD_eq_getElem?_getD, List.getElem?_map]
  cases h[i]? with
  | none => show (0 : Rat) = 0 / _; grind
  | some x => rfl
theorem num0 (q : Rat) : (q.num = 0) ↔ q = 0 := Rat.num_eq_zero
theorem lowered_ok {r h : List Rat} {p k : Nat} (hl : r.length = h.length) (hp : p < r.length) (hll : r.length ≤ 1000) (R : PR k r) (H : PR k h) (hk : 2 * k ≤ 2000) : m_law_lowered c [rowP r, rowP h, .int p] s = .ok (rowP (lowR r h p)) s := by
  have i3 : m2 ixDD (mVar 0) (mVar 2) [some (rowP r), some (rowP h), some (.int p), none, none, none] s = .ok (pq (r.getD p 0)) s := (m2P (varP rfl) (varP rfl)).trans (pq_ix hp)
  have t : mB (m2 (U.pEq c) (m2 ixDD (mVar 3) (mC (.int 0))) (mC (.int 0))) [some (rowP r), some (rowP h), some (.int p), some (pq (r.getD p 0)), none, none] s = .ok (decide ((r.getD p 0).num = 0)) s := b_of ((m2P ((m2P (varP (i := 3) rfl) conP).trans (ix_p0 _)) conP).trans (eq_ii _ _))
  refine runP3 ((seqP (setP i3)).trans (retP ?_))
  by_cases z : (r.getD p 0).num = 0
  · rw [decide_eq_true z] at t
    rw [low_zero hl ((num0 _).mp z)]
    simp only [mIf]
    show (mB (m2 (U.pEq c) (m2 ixDD (mVar 3) (mC (.int 0))) (mC (.int 0))) [some (rowP r), some (rowP h), some (.int p), some (pq (r.getD p 0)), none, none] s).bind _ = _
    rw [t]
    rfl
  · rw [decide_eq_false z] at t
    have rs := R.sq (by omega)
    have hs := H.sq (by omega)
    obtain ⟨d, d0, d1, dq⟩ := R
    obtain ⟨e, e0, e1, eq⟩ := H
    have rp : Fr d k (r.getD p 0) := by
      rw [List.getD_eq_getElem?_getD, List.getElem?_eq_getElem hp]
      exact dq _ (List.getElem_mem hp)
    have rps : Sq (r.getD p 0) := fr_sq rp d0 (sml d1 (by omega)) (by omega)
    have hz := zip2 (All2.refl_map (R := fun x (a : Rat) => x = pq a) (f := pq) r fun _ _ => rfl) (All2.refl_map (R := fun x (a : Rat) => x = pq a) (f := pq) h fun _ _ => rfl)
    have hc := compE (s := s) (own := [4, 5]) (env := [some (rowP r), some (rowP h), some (.int p), some (pq (r.getD p 0)), none, none]) (mt := tSeq 2 (tCons (tName 4) (tCons (tName 5) tNil))) (me := mCallD (n := 2) [] (W12.m_law_less c) (aCons (mVar 4) (aCons (mCallD (n := 2) [] (U.m_law_by c) (aCons (mVar 3) (aCons (mVar 5) aNil))) aNil))) (f := fun x : Rat × Rat => pq (x.1 - r.getD p 0 * x.2)) hz (by
      rintro d' ⟨u, v⟩ hd huv ⟨a, b, rfl, rfl, rfl⟩
      have m := List.of_mem_zip huv
      exact ⟨[some (rowP r), some (rowP h), some (.int p), some (pq (r.getD p 0)), some (pq u), some (pq v)], rfl, (callDP (con0 (varP rfl) (con0 ((callDP (con0 (varP rfl) (con0 (varP rfl) nil0)) rfl).trans (lby_ok rps (hs v m.2))) nil0)) rfl).trans (less_ok (rs u m.1) (fr_sq (rp.mul (eq v m.2)) (Nat.mul_pos d0 e0) (sml2 d1 e1 (by omega)) (by omega)))⟩)
    have hd := compD (mi := iZipA (aCons (mVar 0) (aCons (mVar 1) aNil))) (sq_zip (.lst _) (.lst _) (con0 (varP rfl) (con0 (varP rfl) nil0))) (Nat.le_trans (zipD_len2 _ _) (by rw [List.length_map]; omega)) hc
    have e1 : (r.zip h).map (fun x : Rat × Rat => pq (x.1 - r.getD p 0 * x.2)) = (lowR r h p).map pq := by rw [lowR, List.map_map]; rfl
    rw [e1] at hd
    show (mB (m2 (U.pEq c) (m2 ixDD (mVar 3) (mC (.int 0))) (mC (.int 0))) [some (rowP r), some (rowP h), some (.int p), some (pq (r.getD p 0)), none, none] s).bind _ = _
    rw [t]
    exact hd
end W12
set_option Elab.async false
set_option linter.all false
set_option maxRecDepth 100000
set_option maxHeartbeats 1000000
set_option exponentiation.threshold 20000
namespace W12
open Pm hiding rowP
open PySem U
variable {c : Cfg} {s : S}
def pyQ (q : Rat) : PyData := .tuple [.int q.num, .int q.den]
def pyR (r : List Rat) : PyData := .list (r.map pyQ)
theorem py_row : ∀ r : List Rat, toPys (r.map pq) = some (r.map pyQ)
  | [] => rfl
  | q :: r => by
    have e : toPy (pq q) = some (pyQ q) := rfl
    simp only [List.map_cons, toPys, e, py_row r]
theorem py_rowP (r : List Rat) : toPy (rowP r) = some (pyR r) := by
  show (toPys (r.map pq)).map PyData.list = _
  rw [py_row]
  rfl
theorem py_rows : ∀ M : List (List Rat), toPys (M.map rowP) = some (M.map pyR)
  | [] => rfl
  | r :: M => by simp only [List.map_cons, toPys, py_rowP, py_rows M]
theorem eqv_q (p q : Rat) : PyData.eqv (pyQ p) (pyQ q) = decide (p = q) := by
  have : PyData.eqv (pyQ p) (pyQ q) = (decide (p.num = q.num) && decide ((p.den : Int) = q.den)) := by
    simp [pyQ, PyData.eqv, PyData.eqvAll]
    rfl
  rw [this]
  by_cases h : p = q
  · subst h; simp
  · rw [decide_eq_false h]
    by_cases hn : p.num = q.num
    · have : ¬ (p.den : Int) = q.den := fun z => h (Rat.ext hn (by omega))
      rw [decide_eq_false this, Bool.and_false]
    · rw [decide_eq_false hn, Bool.false_and]
theorem eqvAll_q : ∀ p q : List Rat, PyData.eqvAll (p.map pyQ) (q.map pyQ) = decide (p = q)
  | [], [] => by simp [PyData.eqvAll]
  | [], _ :: _ => by simp [PyData.eqvAll]
  | _ :: _, [] => by simp [PyData.eqvAll]
  | x :: p, y :: q => by
    rw [List.map_cons, List.map_cons, PyData.eqvAll, eqv_q, eqvAll_q p q]
    by_cases h1 : x = y
    · by_cases h2 : p = q <;> simp [h1, h2]
    · simp [h1]
theorem eqv_r (p q : List Rat) : PyData.eqv (pyR p) (pyR q) = decide (p = q) := by
  have : PyData.eqv (pyR p) (pyR q) = PyData.eqvAll (p.map pyQ) (q.map pyQ) := by simp [pyR, PyData.eqv]
  rw [this, eqvAll_q]
theorem lay_q : ∀ r : List Rat, PyData.canLayAll0 (r.map pyQ) = true ∧ PyData.depthAll (r.map pyQ) ≤ 1
  | [] => ⟨rfl, by simp [PyData.depthAll]⟩
  | q :: r => by
    obtain ⟨h1, h2⟩ := lay_q r
    constructor
    · simp [PyData.canLayAll0, PyData.canLay0, pyQ, h1]
    · simp only [List.map_cons, PyData.depthAll, pyQ, PyData.depth]
      omega
theorem lay_r : ∀ M : List (List Rat), PyData.canLayAll0 (M.map pyR) = true ∧ PyData.depthAll (M.map pyR) ≤ 2
  | [] => ⟨rfl, by simp [PyData.depthAll]⟩
  | r :: M => by
    obtain ⟨h1, h2⟩ := lay_r M
    obtain ⟨k1, k2⟩ := lay_q r
    constructor
    · simp only [List.map_cons, PyData.canLayAll0, pyR, PyData.canLay0, k1, h1, Bool.and_self]
    · simp only [List.map_cons, PyData.depthAll, pyR, PyData.depth]
      omega
theorem shaped_r (r : List Rat) : SeqAt.shaped (pyR r) = true := by
  obtain ⟨k1, k2⟩ := lay_q r
  have h1 : (pyR r).canLay0 = true := k1
  have h2 : (pyR r).depth ≤ 64 := by
    show PyData.depthAll (r.map pyQ) + 1 ≤ 64
    omega
  simp [SeqAt.shaped, h1, h2]
theorem shaped_m (M : List (List Rat)) : SeqAt.shaped (.list (M.map pyR)) = true := by
  obtain ⟨k1, k2⟩ := lay_r M
  have h1 : (PyData.list (M.map pyR)).canLay0 = true := k1
  have h2 : (PyData.list (M.map pyR)).depth ≤ 64 := by
    show PyData.depthAll (M.map pyR) + 1 ≤ 64
    omega
  simp [SeqAt.shaped, h1, h2]
theorem find_row (h : List Rat) : ∀ M : List (List Rat), h ∈ M → ∃ j, (M.map pyR).findIdx? (fun z => PyData.eqv z (pyR h)) = some j ∧ M.eraseIdx j = M.erase h
  | r :: M, hm => by
    by_cases e : r = h
    · subst e
      refine ⟨0, ?_, by simp⟩
      simp [List.findIdx?_cons, eqv_r]
    · have hm' : h ∈ M := (List.mem_cons.mp hm).resolve_left fun z => e z.symm
      obtain ⟨j, h1, h2⟩ := find_row h M hm'
      refine ⟨j + 1, ?_, ?_⟩
      · rw [List.map_cons, List.findIdx?_cons, eqv_r, decide_eq_false e, h1]
        rfl
      · rw [List.eraseIdx_cons_succ, h2, List.erase_cons_tail (by simpa using e)]
theorem map_eraseIdx2 {α β : Type} (f : α → β) : ∀ (l : List α) (j : Nat), (l.map f).eraseIdx j = (l.eraseIdx j).map f
  | [], _ => rfl
  | _ :: _, 0 => rfl
  | a :: l, j + 1 => by simp [map_eraseIdx2 f l j]
theorem rem_row {h : List Rat} {M : List (List Rat)} (hm : h ∈ M) : remF (M.map rowP) [rowP h] = some ((M.erase h).map rowP) := by
  obtain ⟨j, h1, h2⟩ := find_row h M hm
  have hc : (SeqAt.shaped (pyR h) && SeqAt.shaped (.list (M.map pyR))) = true := by rw [shaped_r, shaped_m]; rfl
  show (match toPys (M.map rowP), toPy (rowP h) with
    | some ps, some p => if (SeqAt.shaped p && SeqAt.shaped (.list ps)) = true then (ps.findIdx? fun z => PyData.eqv z p).map fun j => (M.map rowP).eraseIdx j else none
    | _, _ => none) = _
  rw [py_rows, py_rowP]
  show (if (SeqAt.shaped (pyR h) && SeqAt.shaped (.list (M.map pyR))) = true then _ else _) = _
  rw [if_pos hc, h1]
  show some ((M.map rowP).eraseIdx j) = _
  rw [map_eraseIdx2, h2]
end W12
set_option Elab.async false
set_option linter.all false
set_option maxRecDepth 100000
set_option maxHeartbeats 1000000
set_option exponentiation.threshold 20000
namespace W12
open Pm hiding rowP
open PySem U
variable {c : Cfg} {s : S}
theorem compKQ {α : Type} {own : List Nat} {mt : D → Pm.Env → Option Pm.Env} {tt : Pm.Env → S → Res Bool} {me : Pm.Env → S → Res D} {env : Pm.Env} {g f : α → D} {q : α → Bool} {T : S} {k : Nat} (as : List α) (hT : T[k]? = some (.lst (as.map g))) (H : ∀ a ∈ as, ∃ e1, mt (g a) (wipeE env own) = some e1 ∧ tt e1 T = .ok (q a) T ∧ (q a = true → me e1 T = .ok (f a) T)) :
    ∀ (n i : Nat), as.length < i + n → i ≤ as.length → compLC own mt tt me k n i env T = .ok (((as.drop i).filter q).map f) T
  | 0, i, h1, h2 => by omega
  | n + 1, i, h1, h2 => by
    simp only [compLC, hT]
    rcases Nat.lt_or_ge i as.length with hi | hi
    · have e : (as.map g)[i]? = some (g as[i]) := by rw [List.getElem?_map, List.getElem?_eq_getElem hi]; rfl
      obtain ⟨e1, a1, a2, a3⟩ := H as[i] (List.getElem_mem hi)
      have ih := compKQ as hT H n (i + 1) (by omega) (by omega)
      rw [e]
      simp only [a1, a2, noexn, Res.bind_ok]
      rw [List.drop_eq_getElem_cons hi, List.filter_cons]
      cases hq : q as[i] with
      | true => simp only [if_true, a3 hq, noexn, Res.bind_ok, ih, List.map_cons]
      | false => simp only [if_false, ih, Bool.false_eq_true]
    · have e : (as.map g)[i]? = none := List.getElem?_eq_none (by rw [List.length_map]; exact hi)
      rw [e, List.drop_eq_nil_of_le hi]
      rfl
theorem compKL {fin : List D → S → Res D} {α : Type} {own : List Nat} {mt : D → Pm.Env → Option Pm.Env} {tt : Pm.Env → S → Res Bool} {me : Pm.Env → S → Res D} {env : Pm.Env} {g f : α → D} {q : α → Bool} {T : S} {k v : Nat} (as : List α) (he : env[v]? = some (some (.cell k))) (hT : T[k]? = some (.lst (as.map g))) (hl : as.length ≤ 1000) (H : ∀ a ∈ as, ∃ e1, mt (g a) (wipeE env own) = some e1 ∧ tt e1 T = .ok (q a) T ∧ (q a = true → me e1 T = .ok (f a) T)) : mCompK fin own (mVar v) mt tt me env T = fin ((as.filter q).map f) T := by
  have e0 : mVar v env T = .ok (.cell k) T := varP he
  have h := compKQ as hT H 1001 0 (by omega) (Nat.zero_le _)
  rw [List.drop_zero] at h
  simp only [mCompK, e0, Res.bind_ok, hT, h]
theorem ne_empty (X : List (List Rat)) : pNe c (.lst (X.map rowP)) (.lst []) s = .ok (.bl (!X.isEmpty)) s := by
  have e1 : toPy (.lst (X.map rowP)) = some (.list (X.map pyR)) := by
    show (toPys (X.map rowP)).map PyData.list = _
    rw [py_rows]
    rfl
  have e : eqP true (.lst (X.map rowP)) (.lst []) s = .ok (.bl (!X.isEmpty)) s := by
    have e2 : toPy (.lst []) = some (.list []) := rfl
    have hc : (SeqAt.shaped (.list (X.map pyR)) && SeqAt.shaped (.list [])) = true := by rw [shaped_m]; rfl
    have hq : PyData.eqv (.list (X.map pyR)) (.list []) = X.isEmpty := by
      cases X with
      | nil => simp [PyData.eqv, PyData.eqvAll]
      | cons r X => simp [PyData.eqv, PyData.eqvAll]
    simp only [eqP, e1, e2, if_pos hc, if_true, hq]
  show ((eqP true _ _ s).or _).or _ = _
  rw [e]
  rfl
structure SI (s T : S) (ki : Nat) (lf : List (List Rat)) : Prop where
  at_ : T[ki]? = some (.lst (lf.map rowP))
  lo : s.length ≤ ki
  pre : T.take s.length = s
structure Inw (O : List Th.Vc) (w n k col : Nat) (P : List (Nat × List Rat)) (lf : List (List Rat)) : Prop where
  len : ∀ p ∈ P, p.2.length = w
  lfl : ∀ r ∈ lf, r.length = w
  bd : ∀ p ∈ P, PR (bits k P.length - 1) p.2
  lbd : ∀ r ∈ lf, PR (bits k P.length - 1) r
  cnt : P.length + lf.length ≤ n
  one : ∀ p ∈ P, vq p.2 p.1 = 1
  swp : Th.Swp O col (P.map fun p => (p.1, vq p.2)) (lf.map vq)
abbrev fndD (P : List (Nat × List Rat)) : D := .lst (P.map fun p => rowP p.2)
abbrev EW (x0 : Option D) (ki : Nat) (P : List (Nat × List Rat)) (x3 x4 x5 : Option D) : Pm.Env := [x0, some (.cell ki), some (fndD P), x3, x4, x5, none, none]
def swB (c : Cfg) : Pm.Env → S → Res Fl := (sSeq (sSet 4 (mCompK finL [6] (mVar 1) (tName 6) (mB (m2 (U.pNe c) (m2 ixDD (m2 ixDD (mVar 6) (mVar 3)) (mC (.int 0))) (mC (.int 0)))) (mVar 6)))
  (sIf (mB (m2 (U.pNe c) (mVar 4) (mLst aNil))) (sSeq (sSet 5 (mCompF finL [7] (iLst (m2 ixDD (mVar 4) (mC (.int 0)))) (tName 7) mYes (mCallD (n := 2) [] (W12.m_law_over c) (aCons (mVar 7) (aCons (m2 ixDD (m2 ixDD (mVar 4) (mC (.int 0))) (mVar 3)) aNil)))))
  (sSeq (sExpr (mtCell remF (mVar 1) (aCons (m2 ixDD (mVar 4) (mC (.int 0))) aNil)))
  (sSeq (sSet 1 (mCompK finC [6] (mVar 1) (tName 6) mYes (mCallD (n := 3) [] (W12.m_law_lowered c) (aCons (mVar 6) (aCons (mVar 5) (aCons (mVar 3) aNil))))))
  (sSet 2 (m2 (U.pAdd c) (mCompF finL [6] (iLst (mVar 2)) (tName 6) mYes (mCallD (n := 3) [] (W12.m_law_lowered c) (aCons (mVar 6) (aCons (mVar 5) (aCons (mVar 3) aNil))))) (mLst (aCons (mVar 5) aNil))))))) sNext))
theorem st_step {T : S} {ki : Nat} {O : List Th.Vc} {w n k col : Nat} {P : List (Nat × List Rat)} {lf : List (List Rat)} (I : Inw O w n k col P lf) (G : SI s T ki lf) (hc : col < w) (hw : w ≤ 1000) (hn : n ≤ 1000) (hb : bits k n ≤ 1000) {x0 x4 x5 : Option D} :
    ∃ (P' : List (Nat × List Rat)) (lf' : List (List Rat)) (y4 y5 : Option D) (ki' : Nat) (T' : S), swB c (EW x0 ki P (some (.int col)) x4 x5) T = .ok (.nx (EW x0 ki' P' (some (.int col)) y4 y5)) T' ∧ Inw O w n k (col + 1) P' lf' ∧ SI s T' ki' lf' := by
  have hll : lf.length ≤ 1000 := by have := I.cnt; omega
  have hpl : P.length ≤ 1000 := by have := I.cnt; omega
  have q1 : mCompK finL [6] (mVar 1) (tName 6) (mB (m2 (U.pNe c) (m2 ixDD (m2 ixDD (mVar 6) (mVar 3)) (mC (.int 0))) (mC (.int 0)))) (mVar 6) (EW x0 ki P (some (.int col)) x4 x5) T = .ok (.lst ((lf.filter fun r => !decide ((r.getD col 0).num = 0)).map rowP)) T := compKL (f := rowP) lf rfl G.at_ hll (fun r hr => by
    have lr := I.lfl r hr
    refine ⟨[x0, some (.cell ki), some (fndD P), some (.int col), x4, x5, some (rowP r), none], rfl, ?_, fun _ => rfl⟩
    have e1 : m2 ixDD (m2 ixDD (mVar 6) (mVar 3)) (mC (.int 0)) [x0, some (.cell ki), some (fndD P), some (.int col), x4, x5, some (rowP r), none] T = .ok (.int (r.getD col 0).num) T := (m2P ((m2P (varP (i := 6) rfl) (varP (i := 3) rfl)).trans (pq_ix (by omega))) conP).trans (ix_p0 _)
    exact b_of ((m2P e1 conP).trans (ne_ii _ _)))
  cases hf : lf.filter (fun r => !decide ((r.getD col 0).num = 0)) with
  | nil =>
    rw [hf] at q1
    refine ⟨P, lf, some (.lst []), x5, ki, T, (seqP (setP q1)).trans (if_f (b_of ((m2P (varP (i := 4) rfl) (y := .lst []) rfl).trans (ne_empty [])))), { I with swp := I.swp.skip fun r hr => ?_ }, G⟩
    obtain ⟨r', hr', rfl⟩ := List.mem_map.mp hr
    refine Classical.byContradiction fun hz => ?_
    have : r' ∈ lf.filter (fun r => !decide ((r.getD col 0).num = 0)) := List.mem_filter.mpr ⟨hr', by
      have : ¬ (r'.getD col 0).num = 0 := fun z => hz ((num0 _).mp z)
      simpa using this⟩
    rw [hf] at this
    simp at this
  | cons h fs =>
    rw [hf] at q1
    have hm : h ∈ lf ∧ h.getD col 0 ≠ 0 := by
      have : h ∈ lf.filter (fun r => !decide ((r.getD col 0).num = 0)) := by rw [hf]; simp
      obtain ⟨a, b⟩ := List.mem_filter.mp this
      exact ⟨a, fun z => by rw [z] at b; exact absurd b (by decide)⟩
    have hl := I.lfl h hm.1
    have b0 := bits_pos k P.length
    have b1 := bits_succ k P.length
    have b2 : 2 * (bits k P.length - 1) + 1 ≤ 1000 := by
      have : P.length + 1 ≤ n := by
        have := I.cnt
        have := List.length_pos_of_mem hm.1
        omega
      have := pow_mul_le (k := k) this
      omega
    have hpr := I.lbd h hm.1
    have hsq := hpr.sq (by omega)
    let st := stpR h col
    have stl : st.length = w := by simp [st, stpR, hl]
    have stp := stp_pr hpr hm.2
    let E4 := EW x0 ki P (some (.int col)) (some (.lst ((h :: fs).map rowP))) x5
    have i40 : ∀ (e : Pm.Env) (T : S), e[4]? = some (some (.lst ((h :: fs).map rowP))) → m2 ixDD (mVar 4) (mC (.int 0)) e T = .ok (rowP h) T := fun e T he => (m2P (varP he) conP).trans (sq_ix (i := 0) (.lst _) rfl)
    have c5 := compE (s := T) (own := [7]) (env := E4) (mt := tName 7) (me := mCallD (n := 2) [] (W12.m_law_over c) (aCons (mVar 7) (aCons (m2 ixDD (m2 ixDD (mVar 4) (mC (.int 0))) (mVar 3)) aNil))) (R := fun x (a : Rat) => x = pq a) (f := fun a => pq (a / h.getD col 0)) (All2.refl_map (f := pq) h fun _ _ => rfl) (fun x a hx ha ex => by
      subst ex
      let E' : Pm.Env := [x0, some (.cell ki), some (fndD P), some (.int col), some (.lst ((h :: fs).map rowP)), x5, none, some (pq a)]
      refine ⟨E', rfl, (callDP (con0 (varP (i := 7) rfl) (con0 ((m2P (i40 E' T rfl) (varP (i := 3) rfl)).trans (pq_ix (by omega))) nil0)) rfl).trans (over_ok (hsq a ha) (hsq _ ?_) hm.2)⟩
      rw [List.getD_eq_getElem?_getD, List.getElem?_eq_getElem (show col < h.length by omega)]
      exact List.getElem_mem _)
    have il4 : iLst (m2 ixDD (mVar 4) (mC (.int 0))) E4 T = .ok (h.map pq) T := by
      simp only [iLst, i40 E4 T rfl, Res.bind_ok]
      rfl
    have c5' := compD il4 (by rw [List.length_map]; omega) c5
    have e5 : (h.map fun a => pq (a / h.getD col 0)) = st.map pq := by simp only [st, stpR, List.map_map]; rfl
    rw [e5] at c5'
    -- taken out
    let E5 := EW x0 ki P (some (.int col)) (some (.lst ((h :: fs).map rowP))) (some (rowP st))
    let lf1 := lf.erase h
    let T1 := T.set ki (.lst (lf1.map rowP))
    have hki : ki < T.length := (List.getElem?_eq_some_iff.mp G.at_).1
    have t1k : T1[ki]? = some (.lst (lf1.map rowP)) := List.getElem?_set_self hki
    have rm : sExpr (mtCell remF (mVar 1) (aCons (m2 ixDD (mVar 4) (mC (.int 0))) aNil)) E5 T = .ok (.nx E5) T1 := by
      have e0 : mVar 1 E5 T = .ok (.cell ki) T := varP rfl
      have e1 : aCons (m2 ixDD (mVar 4) (mC (.int 0))) aNil E5 T = .ok [rowP h] T := con0 (i40 E5 T rfl) nil0
      have e2 : mtCell remF (mVar 1) (aCons (m2 ixDD (mVar 4) (mC (.int 0))) aNil) E5 T = .ok .non T1 := by
        simp only [mtCell, e0, Res.bind_ok, G.at_, e1, rem_row hm.1]
        rfl
      simp only [sExpr, e2, Res.bind_ok]
    have sub : ∀ r ∈ lf1, r ∈ lf := fun r hr => List.mem_of_mem_erase hr
    have lowr : ∀ (r : List Rat) (T : S) (e : Pm.Env), r.length = w → PR (bits k P.length - 1) r → e[6]? = some (some (rowP r)) → e[5]? = some (some (rowP st)) → e[3]? = some (some (.int (col : Int))) → mCallD (n := 3) [] (W12.m_law_lowered c) (aCons (mVar 6) (aCons (mVar 5) (aCons (mVar 3) aNil))) e T = .ok (rowP (lowR r st col)) T := fun r T e h1 h2 h6 h5 h3 =>
      (callDP (con0 (varP h6) (con0 (varP h5) (con0 (varP h3) nil0))) rfl).trans (lowered_ok (by omega) (by omega) (by omega) h2 stp (by omega))
    have l1 : lf1.length + 1 = lf.length := by
      have := List.length_erase_of_mem hm.1
      have := List.length_pos_of_mem hm.1
      show (lf.erase h).length + 1 = _
      omega
    let lf2 := lf1.map fun r => lowR r st col
    have c1' : mCompK finC [6] (mVar 1) (tName 6) mYes (mCallD (n := 3) [] (W12.m_law_lowered c) (aCons (mVar 6) (aCons (mVar 5) (aCons (mVar 3) aNil)))) E5 T1 = .ok (.cell T1.length) (T1 ++ [.lst (lf2.map rowP)]) := by
      refine (compKL (v := 1) (q := fun _ => true) (f := fun r => rowP (lowR r st col)) lf1 rfl t1k (by omega) (fun r hr => ⟨[x0, some (.cell ki), some (fndD P), some (.int col), some (.lst ((h :: fs).map rowP)), some (rowP st), some (rowP r), none], rfl, rfl, fun _ => lowr r T1 _ (I.lfl r (sub r hr)) (I.lbd r (sub r hr)) rfl rfl rfl⟩)).trans ?_
      have ft : lf1.filter (fun _ => true) = lf1 := List.filter_eq_self.mpr fun _ _ => rfl
      rw [ft]
      simp only [finC, lf2, List.map_map]
      rfl
    let T2 := T1 ++ [Cell.lst (lf2.map rowP)]
    let E6 := EW x0 T1.length P (some (.int col)) (some (.lst ((h :: fs).map rowP))) (some (rowP st))
    have c2 := compE (s := T2) (own := [6]) (env := E6) (mt := tName 6) (me := mCallD (n := 3) [] (W12.m_law_lowered c) (aCons (mVar 6) (aCons (mVar 5) (aCons (mVar 3) aNil)))) (R := fun x (p : Nat × List Rat) => x = rowP p.2) (f := fun p => rowP (lowR p.2 st col)) (All2.refl_map (f := fun p : Nat × List Rat => rowP p.2) P fun _ _ => rfl) (fun x p hx hp ex => by
      subst ex
      exact ⟨[x0, some (.cell T1.length), some (fndD P), some (.int col), some (.lst ((h :: fs).map rowP)), some (rowP st), some (rowP p.2), none], rfl, lowr p.2 T2 _ (I.len p hp) (I.bd p hp) rfl rfl rfl⟩)
    have c2' := compD (mi := iLst (mVar 2)) (show iLst (mVar 2) E6 T2 = .ok (P.map fun p => rowP p.2) T2 from rfl) (by rw [List.length_map]; omega) c2
    let P' := (P.map fun p => (p.1, lowR p.2 st col)) ++ [(col, st)]
    have fin : m2 (U.pAdd c) (mCompF finL [6] (iLst (mVar 2)) (tName 6) mYes (mCallD (n := 3) [] (W12.m_law_lowered c) (aCons (mVar 6) (aCons (mVar 5) (aCons (mVar 3) aNil))))) (mLst (aCons (mVar 5) aNil)) E6 T2 = .ok (fndD P') T2 := by
      have z : mLst (aCons (mVar 5) aNil) E6 T2 = .ok (.lst [rowP st]) T2 := mlst1 (con0 (varP (i := 5) rfl) nil0)
      refine (m2P c2' z).trans ((cat_ll (by rw [List.length_map]; simp; omega)).trans ?_)
      simp [P', fndD, Function.comp]
    have tl : T1.length = T.length := List.length_set ..
    have hz : ∀ j, j < col → vq h j = 0 := fun j hj => I.swp.lz _ (List.mem_map.mpr ⟨h, hm.1, rfl⟩) j hj
    have hcn : vq h col ≠ 0 := hm.2
    have stv : vq st = fun i => (1 / vq h col) * vq h i := by
      funext i
      rw [stp_vq]
      grind
    have clr : ∀ r : List Rat, r.length = w → Th.Clr (vq h) col (vq r) (vq (lowR r st col)) := fun r hr => by
      refine ⟨1, 1, vq r col / vq h col, by decide, by decide, fun i => ?_, by grind⟩
      rw [low_vq (by omega), stp_vq]
      grind
    refine ⟨P', lf2, some (.lst ((h :: fs).map rowP)), some (rowP st), T1.length, T2, ?_, ?_, ?_⟩
    · refine (seqP (setP q1)).trans ((if_t (b_of ((m2P (varP (i := 4) rfl) (y := .lst []) rfl).trans (ne_empty (h :: fs))))).trans ?_)
      exact (seqP (setP c5')).trans ((seqP rm).trans ((seqP (setP c1')).trans (setP fin)))
    · have pl : P'.length = P.length + 1 := by simp [P']
      have nb : bits k P'.length - 1 = 2 * (bits k P.length - 1) + 1 := by rw [pl, b1]; omega
      have lt : ∀ p ∈ P, p.1 < col := fun p hp => I.swp.lt (p.1, vq p.2) (List.mem_map.mpr ⟨p, hp, rfl⟩)
      refine ⟨fun p hp => ?_, fun r hr => ?_, fun p hp => ?_, fun r hr => ?_, ?_, fun p hp => ?_, ?_⟩
      · rcases List.mem_append.mp hp with hp | hp
        · obtain ⟨q, hq, rfl⟩ := List.mem_map.mp hp
          show (lowR q.2 st col).length = w
          rw [low_len, I.len q hq, stl]
          omega
        · rw [List.mem_singleton.mp hp]; exact stl
      · obtain ⟨q, hq, rfl⟩ := List.mem_map.mp hr
        rw [low_len, I.lfl q (sub q hq), stl]
        omega
      · rw [nb]
        rcases List.mem_append.mp hp with hp | hp
        · obtain ⟨q, hq, rfl⟩ := List.mem_map.mp hp
          exact low_pr stp (I.bd q hq)
        · rw [List.mem_singleton.mp hp]; exact stp.mono (by omega)
      · rw [nb]
        obtain ⟨q, hq, rfl⟩ := List.mem_map.mp hr
        exact low_pr stp (I.lbd q (sub q hq))
      · rw [pl]
        have := I.cnt
        simp only [lf2, List.length_map]
        omega
      · rcases List.mem_append.mp hp with hp | hp
        · obtain ⟨q, hq, rfl⟩ := List.mem_map.mp hp
          show vq (lowR q.2 st col) q.1 = 1
          rw [low_vq (by rw [I.len q hq, stl]), I.one q hq, stp_vq, hz _ (lt q hq)]
          grind
        · rw [List.mem_singleton.mp hp]
          show vq st col = 1
          rw [stp_vq]
          grind
      · have z := I.swp.step (D := P) (hd := Prod.fst) (v := fun p => vq p.2) (v' := fun p => vq (lowR p.2 st col)) (L := lf1) (w := vq) (w' := fun r => vq (lowR r st col)) (head := vq h) (head' := vq st) (k := 1 / vq h col) (fun r => ?_) hcn (by grind) stv (fun p hp => clr _ (I.len p hp)) (fun r hr => clr _ (I.lfl r (sub r hr)))
        · simp only [P', lf2, List.map_append, List.map_map, List.map_cons, List.map_nil] at z ⊢
          exact z
        · constructor
          · intro hr
            obtain ⟨r', hr', rfl⟩ := List.mem_map.mp hr
            by_cases e : r' = h
            · exact .inl (by rw [e])
            · exact .inr (List.mem_map.mpr ⟨r', (List.mem_erase_of_ne e).mpr hr', rfl⟩)
          · rintro (rfl | hr)
            · exact List.mem_map.mpr ⟨h, hm.1, rfl⟩
            · obtain ⟨r', hr', rfl⟩ := List.mem_map.mp hr
              exact List.mem_map.mpr ⟨r', sub r' hr', rfl⟩
    · refine ⟨by simp [T2], by rw [tl]; have := G.lo; omega, ?_⟩
      have l1' : s.length ≤ T1.length := by rw [tl]; have := G.lo; omega
      show (T1 ++ [_]).take s.length = s
      rw [List.take_append_of_le_length l1']
      show (T.set ki _).take s.length = s
      rw [List.take_set_of_le G.lo]
      exact G.pre
end W12
set_option Elab.async false
set_option linter.all false
set_option maxRecDepth 100000
set_option maxHeartbeats 1000000
set_option exponentiation.threshold 20000
namespace W12
open Pm hiding rowP
open PySem U
variable {c : Cfg} {s : S}
theorem compC {own : List Nat} {mi : Pm.Env → S → Res (List D)} {mt : D → Pm.Env → Option Pm.Env} {tt : Pm.Env → S → Res Bool} {me : Pm.Env → S → Res D} {env : Pm.Env} {ds rs : List D} {s1 : S} (hi : mi env s = .ok ds s) (hl : ds.length ≤ 1000000) (h : compL own mt tt me ds env s = .ok rs s1) : mCompF finC own mi mt tt me env s = .ok (.cell s1.length) (s1 ++ [.lst rs]) := by
  have hl' : ds.length ≤ line := by unfold line; omega
  simp only [mCompF, hi, Res.bind_ok, if_pos hl', h, finC]
theorem forL_rangeS {b : Pm.Env → S → Res Fl} {v : Nat} {I : Nat → Pm.Env → S → Prop} : ∀ (m a : Nat) (e : Pm.Env) (s : S), (∀ i e s, a ≤ i → i < a + m → I i e s → ∃ e1 e2 s2, tName v (.int i) e = some e1 ∧ b e1 s = .ok (.nx e2) s2 ∧ I (i + 1) e2 s2) → I a e s →
    ∃ e2 s2, forL (tName v) b (rangeD a m) e s = .ok (.nx e2) s2 ∧ I (a + m) e2 s2
  | 0, a, e, s, _, h => ⟨e, s, rfl, h⟩
  | m + 1, a, e, s, H, h => by
    obtain ⟨e1, e2, s2, h1, h2, h3⟩ := H a e s (Nat.le_refl _) (by omega) h
    obtain ⟨e3, s3, h4, h5⟩ := forL_rangeS m (a + 1) e2 s2 (fun i e s hi hj => H i e s (by omega) (by omega)) h3
    refine ⟨e3, s3, ?_, by rw [show a + (m + 1) = a + 1 + m by omega]; exact h5⟩
    have er : rangeD (a : Int) (m + 1) = .int (a : Int) :: rangeD ((a + 1 : Nat) : Int) m := by
      unfold rangeD
      rw [List.range_succ_eq_map, List.map_cons, List.map_map]
      congr 1
      refine List.map_congr_left fun i _ => ?_
      show D.int ((a : Int) + ((i + 1 : Nat) : Int)) = D.int (((a + 1 : Nat) : Int) + (i : Int))
      congr 1
      omega
    rw [er]
    simp only [forL, h1, h2, Res.bind_ok]
    exact h4
structure Lst (O : List Th.Vc) (w n k : Nat) (P : List (Nat × List Rat)) : Prop where
  len : ∀ p ∈ P, p.2.length = w ∧ p.1 < w
  bd : ∀ p ∈ P, PR (bits k n - 1) p.2
  cnt : P.length ≤ n
  ech : Th.Ech (P.map fun p => (p.1, vq p.2))
  eqv : Th.Eqv (Th.rows (P.map fun p => (p.1, vq p.2))) O
theorem inw_fin {O : List Th.Vc} {w n k : Nat} {P : List (Nat × List Rat)} {lf : List (List Rat)} (I : Inw O w n k w P lf) : Lst O w n k P := by
  have f := I.swp.fin fun r hr i => by
    obtain ⟨r', hr', rfl⟩ := List.mem_map.mp hr
    rcases Nat.lt_or_ge i w with h | h
    · exact I.swp.lz _ hr i h
    · exact vq_oob (by rw [I.lfl r' hr']; exact h)
  have e : (P.map fun p => (p.1, vq p.2)).map Th.nrm = P.map fun p => (p.1, vq p.2) := by
    rw [List.map_map]
    refine List.map_congr_left fun p hp => ?_
    simp only [Function.comp, Th.nrm]
    congr 1
    funext i
    rw [I.one p hp]
    grind
  rw [e] at f
  have hb : bits k P.length ≤ bits k n := pow_mul_le (by have := I.cnt; omega)
  exact ⟨fun p hp => ⟨I.len p hp, I.swp.lt (p.1, vq p.2) (List.mem_map.mpr ⟨p, hp, rfl⟩)⟩, fun p hp => (I.bd p hp).mono (by omega), by have := I.cnt; omega, f.1, f.2⟩
theorem pure_row' (r : List Rat) : pureD (rowP r) = true := by
  have := pureRows [r]
  simpa [cutPure, pureD, pureL] using this
theorem steps_ok (hcut : cutOk s = true) {M : List (List Rat)} {w n k : Nat} (hw : ∀ r ∈ M, r.length = w) (hn : M.length = n) (h0 : 0 < n) (hn1 : n ≤ 1000) (hw1 : w ≤ 1000) (hp : ∀ r ∈ M, PR k r) (hb : bits k n ≤ 1000) :
    ∃ P : List (Nat × List Rat), m_law_steps c [matP M] s = .ok (fndD P) s ∧ Lst (M.map vq) w n k P := by
  let E0 : Pm.Env := [some (matP M), none, none, none, none, none, none, none]
  have c0 := compE (s := s) (own := [6]) (env := E0) (mt := tName 6) (me := mCall bList (aCons (mVar 6) aNil)) (R := fun x (r : List Rat) => x = rowP r) (f := rowP) (All2.refl_map (f := rowP) M fun _ _ => rfl) (fun x r hx hr ex => by
    subst ex
    exact ⟨[some (matP M), none, none, none, none, none, some (rowP r), none], rfl, (callP (consP (varP (i := 6) rfl) nilP)).trans (list_of (.lst _) (by rw [List.length_map, hw r hr]; omega))⟩)
  have c0' := compC (mi := iLst (mVar 0)) (show iLst (mVar 0) E0 s = .ok (M.map rowP) s from rfl) (by rw [List.length_map]; omega) c0
  let T0 := s ++ [Cell.lst (M.map rowP)]
  have p0 : sPar 1 2 (aCons (mCompF finC [6] (iLst (mVar 0)) (tName 6) mYes (mCall bList (aCons (mVar 6) aNil))) (aCons (mLst aNil) aNil)) E0 s = .ok (.nx (EW (some (matP M)) s.length [] none none none)) T0 := by
    have := consP c0' (consP (a := mLst aNil) (x := .lst []) rfl nilP)
    simp only [sPar, this, Res.bind_ok]
    rfl
  have ge : mIf (mB (m2 (U.pNe c) (mVar 0) (mLst aNil))) (mCall bLenA (aCons (m2 ixDD (mVar 0) (mC (.int 0))) aNil)) (mC (.int 0)) (EW (some (matP M)) s.length [] none none none) T0 = .ok (.int w) T0 := by
    have t : mB (m2 (U.pNe c) (mVar 0) (mLst aNil)) (EW (some (matP M)) s.length [] none none none) T0 = .ok (!M.isEmpty) T0 := b_of ((m2P (varP (i := 0) rfl) (y := .lst []) rfl).trans (ne_empty M))
    have he : (!M.isEmpty) = true := by
      cases M with
      | nil => simp at hn; omega
      | cons r M => rfl
    rw [he] at t
    simp only [mIf, t, Res.bind_ok, if_true]
    exact mat_len0 (by omega) hw rfl
  obtain ⟨e2, T2, f1, f2⟩ := forL_rangeS (b := swB c) (v := 3) (I := fun i e T => ∃ (P : List (Nat × List Rat)) (lf : List (List Rat)) (ki : Nat) (x3 x4 x5 : Option D), e = EW (some (matP M)) ki P x3 x4 x5 ∧ Inw (M.map vq) w n k i P lf ∧ SI s T ki lf) w 0 (EW (some (matP M)) s.length [] none none none) T0 (fun i e T hi hj ⟨P, lf, ki, x3, x4, x5, he, hI, hS⟩ => by
    subst he
    obtain ⟨P', lf', y4, y5, ki', T', r1, r2, r3⟩ := st_step (c := c) hI hS (by omega) hw1 hn1 hb (x0 := some (matP M)) (x4 := x4) (x5 := x5)
    exact ⟨EW (some (matP M)) ki P (some (.int i)) x4 x5, _, T', rfl, r1, P', lf', ki', some (.int i), y4, y5, rfl, r2, r3⟩) ⟨[], M, s.length, none, none, none, rfl, ⟨fun p hp => by simp at hp, hw, fun p hp => by simp at hp, fun r hr => (hp r hr).mono (by simp [bits]), by simp [hn], fun p hp => by simp at hp, Th.Swp.start Th.Eqv.rfl'⟩, ⟨by simp [T0], Nat.le_refl _, by simp [T0]⟩⟩
  obtain ⟨P, lf, ki, x3, x4, x5, rfl, hI, hS⟩ := f2
  rw [Nat.zero_add] at hI
  have lst := inw_fin hI
  refine ⟨P, ?_, lst⟩
  have ir := r1_ok ge (by omega)
  have body : b_law_steps c E0 s = .ok (.rt (fndD P)) T2 := (seqP p0).trans ((seqP ((sFor_run ir).trans f1)).trans (retP rfl))
  have hbd : runBody 1 8 (b_law_steps c) [matP M] s = .ok (fndD P) T2 := runP1 body
  have pd : pureD (fndD P) = true := by
    show pureL (P.map fun p => rowP p.2) = true
    clear body hbd lst hI f1
    induction P with
    | nil => rfl
    | cons p P ih => simp only [List.map_cons, pureL, pure_row', ih, Bool.and_self]
  simp only [m_law_steps, cutRes, hbd, Res.bind_ok, hS.pre, pd, hcut, Bool.and_self, if_true]
end W12
set_option linter.all false
namespace Th
variable {l m : List (Nat × Vc)} {n : Nat}
theorem cmb_off {v : Vc} {i : Nat} : ∀ {L : List (Nat × Vc)}, (∀ r ∈ L, r.2 i = 0) → cmb L v i = 0
  | [], _ => rfl
  | p :: L, h => by
    rw [cmb_cons, h p (by simp), cmb_off fun r hr => h r (by simp [hr])]
    grind
theorem cmb_at_aux {v : Vc} : ∀ {L : List (Nat × Vc)}, (L.map Prod.fst).Pairwise (· < ·) → (∀ p ∈ L, ∀ r ∈ L, p.2 r.1 = if p.1 = r.1 then 1 else 0) → ∀ q ∈ L, cmb L v q.1 = v q.1
  | p :: L, h1, h2, q, hq => by
    rw [List.map_cons, List.pairwise_cons] at h1
    rw [cmb_cons]
    rcases List.mem_cons.mp hq with rfl | hq'
    · rw [h2 q (by simp) q (by simp), if_pos rfl, cmb_off fun r hr => by
        have := h1.1 r.1 (List.mem_map.mpr ⟨r, hr, rfl⟩)
        rw [h2 r (by simp [hr]) q (by simp), if_neg (by omega)]]
      grind
    · have := h1.1 q.1 (List.mem_map.mpr ⟨q, hq', rfl⟩)
      rw [h2 p (by simp) q (by simp [hq']), if_neg (by omega), cmb_at_aux h1.2 (fun a ha b hb => h2 a (by simp [ha]) b (by simp [hb])) q hq']
      grind
theorem cmb_at (h : Ech l) {v : Vc} : ∀ q ∈ l, cmb l v q.1 = v q.1 := cmb_at_aux h.fst h.at
theorem cmb_in (l : List (Nat × Vc)) (v : Vc) : Sp (rows l) (cmb l v) := by
  have : ∀ L : List (Nat × Vc), (∀ p ∈ L, p ∈ l) → Sp (rows l) (cmb L v) := fun L => by
    induction L with
    | nil => intro _; exact (Sp.zero : Sp (rows l) fun _ => 0)
    | cons p L ih =>
      intro h
      have h1 := (Sp.mem (B := rows l) (v := p.2) (List.mem_map.mpr ⟨p, h p (by simp), rfl⟩)).smul (v p.1)
      exact h1.add (ih fun q hq => h q (by simp [hq]))
  exact this l fun _ h => h
theorem ones_rank {R : List (Nat × Vc)} {A B : List Vc} {b : Vc} {w : Nat} (hR : Ech R) (eR : Eqv (rows R) A) (h : Ech l) (e : Eqv (rows l) B) (hb : b ∈ A) (h1 : b w = 1) (hB : ∀ d ∈ B, ∃ a ∈ A, d = fun i => a i - b i) (hA : ∀ a ∈ A, a = b ∨ (fun i => a i - b i) ∈ B) (hw : ∀ p ∈ l, p.2 w = 0) : R.length = l.length + 1 := by
  have le : R.length ≤ l.length + 1 := rank_more (v := b) h hR fun p hp => by
    have := eR.1 p.2 (List.mem_map.mpr ⟨p, hp, rfl⟩)
    refine this.of fun a ha => ?_
    rcases hA a ha with rfl | hd
    · exact .mem (by simp)
    · have h2 := (e.2 _ hd).sub_of (C := b :: rows l) fun x hx => by simp [hx]
      have h3 : Sp (b :: rows l) b := .mem (by simp)
      have := h2.add h3
      have ea : (fun i => (a i - b i) + b i) = a := by funext i; grind
      rwa [ea] at this
  have b0 : Sp (rows R) b := eR.2 b hb
  have lR : ∀ p ∈ l, Sp (rows R) p.2 := fun p hp => by
    have := e.1 p.2 (List.mem_map.mpr ⟨p, hp, rfl⟩)
    refine this.of fun d hd => ?_
    obtain ⟨a, ha, rfl⟩ := hB d hd
    exact (eR.2 a ha).sub b0
  have ge : (l ++ [(w, fun i => b i - cmb l b i)]).length ≤ (rows R).length := by
    refine dual_le (rows R) _ ⟨fun p hp => ?_, ?_⟩ fun p hp => ?_
    · rcases List.mem_append.mp hp with hp | hp
      · exact h.dual.1 p hp
      · rw [List.mem_singleton.mp hp]
        show b w - cmb l b w = 1
        rw [cmb_off hw, h1]
        grind
    · rw [List.pairwise_append]
      refine ⟨h.dual.2, by simp, fun p hp q hq => ?_⟩
      rw [List.mem_singleton.mp hq]
      refine ⟨hw p hp, ?_⟩
      show b p.1 - cmb l b p.1 = 0
      rw [cmb_at h p hp]
      grind
    · rcases List.mem_append.mp hp with hp | hp
      · exact lR p hp
      · rw [List.mem_singleton.mp hp]
        refine b0.sub ((cmb_in l b).of fun x hx => ?_)
        obtain ⟨p, hp, rfl⟩ := List.mem_map.mp hx
        exact lR p hp
  simp [rows] at ge
  omega
end Th
set_option Elab.async false
set_option linter.all false
set_option maxRecDepth 100000
set_option maxHeartbeats 1000000
set_option exponentiation.threshold 20000
namespace W12
open Pm hiding rowP
open PySem U
variable {c : Cfg} {s : S}
def difR (r q : List Rat) : List Rat := (r.zip q).map fun x => x.1 - x.2
theorem dif_len (r q : List Rat) : (difR r q).length = min r.length q.length := by simp [difR]
theorem dif_vq {r q : List Rat} {w : Nat} (hr : r.length = w) (hq : q.length = w) (i : Nat) : vq (difR r q) i = vq (r ++ [1]) i - vq (q ++ [1]) i := by
  rw [w1_vq hr, w1_vq hq]
  by_cases hi : i < w
  · rw [if_pos hi, if_pos hi]
    simp [vq, difR, List.getD_eq_getElem?_getD, List.getElem?_eq_getElem (show i < r.length by omega), List.getElem?_eq_getElem (show i < q.length by omega), List.zip, List.getElem?_zipWith]
  · rw [if_neg hi, if_neg hi, vq_oob (by rw [dif_len]; omega)]
    split <;> grind
theorem dif_pr {r q : List Rat} {k : Nat} (hr : ∀ x ∈ r, Fr 12 k x) (hq : ∀ x ∈ q, Fr 12 k x) (hk : 4 ≤ k) : PR (k + 1) (difR r q) := by
  refine ⟨12, by decide, Nat.lt_of_lt_of_le (show 12 < 2 ^ 4 by decide) (pow_le (by omega)), fun x hx => ?_⟩
  obtain ⟨⟨a, b⟩, hm, rfl⟩ := List.mem_map.mp hx
  have m := List.of_mem_zip hm
  have := (hr a m.1).add (hq b m.2).neg
  rw [← Rat.sub_eq_add_neg] at this
  exact this.mono (by omega)
theorem fr12_sq {k : Nat} {q : Rat} (h : Fr 12 k q) (hk : k ≤ 100) : Sq q := fr_sq h (by decide) (sml (k := 4) (by decide) (by decide)) (by omega)
theorem fnd_len (P : List (Nat × List Rat)) : bLenA [fndD P] s = .ok (.int P.length) s := by
  have := sq_len (s := s) (.lst (P.map fun p => rowP p.2))
  rwa [List.length_map] at this
theorem left_mem {M : List (List Rat)} {k : Nat} (hk : k < M.length) : ∀ r ∈ M, r = M.getD k [] ∨ r ∈ M.take k ++ M.drop (k + 1) := fun r hr => by
  obtain ⟨i, hi, rfl⟩ := List.mem_iff_getElem.mp hr
  by_cases e : i = k
  · subst e
    left
    rw [List.getD_eq_getElem?_getD, List.getElem?_eq_getElem hi]
    rfl
  · right
    by_cases hlt : i < k
    · exact List.mem_append_left _ (List.mem_iff_getElem.mpr ⟨i, by rw [List.length_take]; omega, by simp⟩)
    · exact List.mem_append_right _ (List.mem_of_getElem? (i := i - (k + 1)) (by rw [List.getElem?_drop, show k + 1 + (i - (k + 1)) = i by omega, List.getElem?_eq_getElem hi]))
theorem left_sub {M : List (List Rat)} {k : Nat} : ∀ r ∈ M.take k ++ M.drop (k + 1), r ∈ M := fun r hr => by
  rcases List.mem_append.mp hr with hr | hr
  · exact List.mem_of_mem_take hr
  · exact List.mem_of_mem_drop hr
theorem free_ok (hcut : cutOk s = true) {M : List (List Rat)} {w n k0 k : Nat} (hr : ∀ r ∈ M, r.length = w) (hn : M.length = n) (h2 : 2 ≤ n ∧ n ≤ 9) (hw : 1 ≤ w ∧ w ≤ 8) (hq : ∀ r ∈ M, ∀ q ∈ r, Fr 12 k0 q) (h4 : 4 ≤ k0 ∧ k0 ≤ 100) (hk : k < n) (hb : bits (k0 + 1) (n - 1) ≤ 1000) {R : List (Nat × Th.Vc)} (hR : Rk M R) :
    ∃ l : Nat, m_law_free c [matP M, .int k] s = .ok (.int l) s ∧ R.length = l + 1 := by
  let q := M.getD k []
  have qm : q ∈ M := get_mem (by omega)
  let M3 := M.take k ++ M.drop (k + 1)
  have M3len : M3.length = n - 1 := by simp [M3, hn]; omega
  let E0 : Pm.Env := [some (matP M), some (.int k), none, none, none, none]
  have ml : (M.map rowP).length = n := by rw [List.length_map, hn]
  have b1 : mSlice (mVar 0) oN (oS (mVar 1)) E0 s = .ok (matP (M.take k)) s := by
    refine (slice_gen (a := none) (b := some (k : Int)) (varP (i := 0) rfl) rfl (oS_var rfl) (by omega)).trans ?_
    rw [cut_take (by omega), ← List.map_take]
  have b2 : mSlice (mVar 0) (oS (m2 (U.pAdd c) (mVar 1) (mC (.int 1)))) oN E0 s = .ok (matP (M.drop (k + 1))) s := by
    have z : m2 (U.pAdd c) (mVar 1) (mC (.int 1)) E0 s = .ok (.int ((k : Int) + 1)) s := (m2P (varP (i := 1) rfl) conP).trans (add_ii _ _)
    have o : oS (m2 (U.pAdd c) (mVar 1) (mC (.int 1))) E0 s = .ok (some ((k + 1 : Nat) : Int)) s := by simp [oS, z]
    refine (slice_gen (a := some ((k + 1 : Nat) : Int)) (b := none) (varP (i := 0) rfl) o rfl (by omega)).trans ?_
    rw [cut_drop (by omega), ← List.map_drop]
  have b3 : m2 (U.pAdd c) (mSlice (mVar 0) oN (oS (mVar 1))) (mSlice (mVar 0) (oS (m2 (U.pAdd c) (mVar 1) (mC (.int 1)))) oN) E0 s = .ok (matP M3) s := (m2P b1 b2).trans (cat_rr _ _ (by simp; omega))
  let E1 : Pm.Env := [some (matP M), some (.int k), some (matP M3), none, none, none]
  let D := M3.map fun r => difR r q
  have hc := compE (s := s) (own := [3]) (env := E1) (mt := tName 3) (me := mCompF finL [4, 5] (iZipA (aCons (mVar 3) (aCons (m2 ixDD (mVar 0) (mVar 1)) aNil))) (tSeq 2 (tCons (tName 4) (tCons (tName 5) tNil))) mYes (mCallD (n := 2) [] (W12.m_law_less c) (aCons (mVar 4) (aCons (mVar 5) aNil)))) (R := fun x (r : List Rat) => x = rowP r) (f := fun r => rowP (difR r q)) (All2.refl_map (f := rowP) M3 fun _ _ => rfl) (fun x r hx hr' ex => by
    subst ex
    let E' : Pm.Env := [some (matP M), some (.int k), some (matP M3), some (rowP r), none, none]
    refine ⟨E', rfl, ?_⟩
    have rm := left_sub r hr'
    have hz := zip2 (All2.refl_map (R := fun x (a : Rat) => x = pq a) (f := pq) r fun _ _ => rfl) (All2.refl_map (R := fun x (a : Rat) => x = pq a) (f := pq) q fun _ _ => rfl)
    have hc := compE (s := s) (own := [4, 5]) (env := E') (mt := tSeq 2 (tCons (tName 4) (tCons (tName 5) tNil))) (me := mCallD (n := 2) [] (W12.m_law_less c) (aCons (mVar 4) (aCons (mVar 5) aNil))) (f := fun x : Rat × Rat => pq (x.1 - x.2)) hz (by
      rintro d' ⟨u, v⟩ hd huv ⟨a, b, rfl, rfl, rfl⟩
      have m := List.of_mem_zip huv
      exact ⟨[some (matP M), some (.int k), some (matP M3), some (rowP r), some (pq u), some (pq v)], rfl, (callDP (con0 (varP rfl) (con0 (varP rfl) nil0)) rfl).trans (less_ok (fr12_sq (hq r rm u m.1) h4.2) (fr12_sq (hq q qm v m.2) h4.2))⟩)
    have hd := compD (mi := iZipA (aCons (mVar 3) (aCons (m2 ixDD (mVar 0) (mVar 1)) aNil))) (sq_zip (.lst _) (.lst _) (con0 (varP (i := 3) rfl) (con0 (mat_ix (by omega) rfl rfl) nil0))) (Nat.le_trans (zipD_len2 _ _) (by rw [List.length_map, hr r rm]; omega)) hc
    have e1 : (r.zip q).map (fun x : Rat × Rat => pq (x.1 - x.2)) = (difR r q).map pq := by rw [difR, List.map_map]; rfl
    rw [e1] at hd
    exact hd)
  have hc2 := compD (mi := iLst (mVar 2)) (show iLst (mVar 2) E1 s = .ok (M3.map rowP) s from rfl) (by rw [List.length_map]; omega) hc
  have eD : (M3.map fun r => rowP (difR r q)) = D.map rowP := by simp only [D, List.map_map]; rfl
  rw [eD] at hc2
  have Drow : ∀ r ∈ D, r.length = w := fun r h => by
    obtain ⟨x, hx, rfl⟩ := List.mem_map.mp h
    rw [dif_len, hr x (left_sub x hx), hr q qm]
    omega
  have Dpr : ∀ r ∈ D, PR (k0 + 1) r := fun r h => by
    obtain ⟨x, hx, rfl⟩ := List.mem_map.mp h
    exact dif_pr (hq x (left_sub x hx)) (hq q qm) h4.1
  obtain ⟨P, p1, p2⟩ := steps_ok (c := c) (s := s) hcut Drow (by simp only [D, List.length_map]; exact M3len) (by omega) (by omega) (by omega) Dpr hb
  refine ⟨P.length, runP2 ((seqP (setP (i := 2) b3)).trans (retP ((callP (consP ((callDP (con0 hc2 nil0) rfl).trans p1) nilP)).trans (fnd_len P)))), ?_⟩
  have z := Th.ones_rank (w := w) (b := vq (q ++ [1])) hR.ech hR.eqv p2.ech p2.eqv (List.mem_map.mpr ⟨_, List.mem_map.mpr ⟨q, qm, rfl⟩, rfl⟩) (by rw [w1_vq (hr q qm), if_neg (by omega), if_pos rfl]) (fun d hd => ?_) (fun a ha => ?_) (fun p hp => ?_)
  · rwa [List.length_map] at z
  · obtain ⟨x, hx, rfl⟩ := List.mem_map.mp hd
    obtain ⟨r, hr', rfl⟩ := List.mem_map.mp hx
    exact ⟨vq (r ++ [1]), List.mem_map.mpr ⟨_, List.mem_map.mpr ⟨r, left_sub r hr', rfl⟩, rfl⟩, by funext i; exact dif_vq (hr r (left_sub r hr')) (hr q qm) i⟩
  · obtain ⟨x, hx, rfl⟩ := List.mem_map.mp ha
    obtain ⟨r, hr', rfl⟩ := List.mem_map.mp hx
    rcases left_mem (k := k) (by omega) r hr' with e | e
    · exact .inl (by rw [e])
    · refine .inr (List.mem_map.mpr ⟨difR r q, List.mem_map.mpr ⟨r, e, rfl⟩, ?_⟩)
      funext i
      exact dif_vq (hr r hr') (hr q qm) i
  · obtain ⟨p', hp', rfl⟩ := List.mem_map.mp hp
    exact vq_oob (by rw [(p2.len p' hp').1]; omega)
end W12
set_option Elab.async false
set_option linter.all false
set_option maxRecDepth 100000
set_option maxHeartbeats 1000000
set_option exponentiation.threshold 20000
namespace W12
open Pm hiding rowP
open PySem U
variable {c : Cfg} {s : S}
abbrev T2 (s : S) (L F : List (List Rat)) : S := (s ++ [.lst (L.map rowP)]) ++ [.lst (F.map rowP)]
end W12
set_option Elab.async false
set_option linter.all false
set_option maxRecDepth 100000
set_option maxHeartbeats 1000000
set_option exponentiation.threshold 20000
namespace W12
open Pm hiding rowP
open PySem U
variable {c : Cfg} {s : S}
theorem nm_rp {x : D} {q : Rat} (h : Nm x q) (h1 : q.num.natAbs < 2 ^ 490) (h2 : q.den < 2 ^ 490) : smD 0 ratOk x = true ∧ okN x = true ∧ ht x = 0 ∧ wt x ≤ 1000 := by
  cases h with
  | int i =>
    have : i.natAbs < 2 ^ 490 := by simpa using h1
    exact ⟨by simp only [smD]; exact decide_eq_true this, rfl, rfl, Nat.le_refl _⟩
  | rat q =>
    have : ((q.den : Int)).natAbs < 2 ^ 490 := by rw [Int.natAbs_natCast]; exact h2
    refine ⟨?_, rfl, rfl, Nat.le_refl _⟩
    simp only [rq, smD, ratOk]
    rw [decide_eq_true h1, decide_eq_true this]
    rfl
theorem row_rp : ∀ {ds : List D} {qs : List Rat}, All2 Nm ds qs → (∀ q ∈ qs, q.num.natAbs < 2 ^ 490 ∧ q.den < 2 ^ 490) → smL 0 ratOk ds = true ∧ okNs ds = true ∧ htL ds = 0 ∧ wtL ds ≤ 1002 * qs.length
  | _, _, .nil, _ => ⟨rfl, rfl, rfl, Nat.le_refl _⟩
  | _, _, .cons (a := x) (b := q) h t, hq => by
    obtain ⟨a1, a2, a3, a4⟩ := nm_rp h (hq q (by simp)).1 (hq q (by simp)).2
    obtain ⟨b1, b2, b3, b4⟩ := row_rp t fun q hq' => hq q (by simp [hq'])
    refine ⟨by simp only [smL, a1, b1, Bool.and_self], by simp only [okNs, a2, b2, Bool.and_self], by simp only [htL, a3, b3, Nat.max_self], ?_⟩
    simp only [wtL, List.length_cons]
    omega
theorem row_rp' {d : D} {qs : List Rat} (h : Row d qs) (hq : ∀ q ∈ qs, q.num.natAbs < 2 ^ 490 ∧ q.den < 2 ^ 490) : smD 0 ratOk d = true ∧ okN d = true ∧ ht d = 1 ∧ wt d ≤ 1002 * qs.length + 4 := by
  obtain ⟨ds, k, a⟩ := h
  obtain ⟨b1, b2, b3, b4⟩ := row_rp a hq
  cases k with
  | lst => exact ⟨by simp only [smD, b1], by simp only [okN, b2], by simp only [ht, b3], by simp only [wt]; omega⟩
  | tup => exact ⟨by simp only [smD, b1], by simp only [okN, b2], by simp only [ht, b3], by simp only [wt]; omega⟩
theorem rows_rp {w : Nat} : ∀ {ds : List D} {M : List (List Rat)}, All2 Row ds M → (∀ r ∈ M, r.length ≤ w ∧ ∀ q ∈ r, q.num.natAbs < 2 ^ 490 ∧ q.den < 2 ^ 490) → smL 0 ratOk ds = true ∧ okNs ds = true ∧ htL ds ≤ 1 ∧ wtL ds ≤ (1002 * w + 6) * M.length
  | _, _, .nil, _ => ⟨rfl, rfl, Nat.zero_le _, Nat.zero_le _⟩
  | _, _, .cons (a := x) (b := r) h t, hq => by
    obtain ⟨a1, a2, a3, a4⟩ := row_rp' h (hq r (by simp)).2
    obtain ⟨b1, b2, b3, b4⟩ := rows_rp t fun q hq' => hq q (by simp [hq'])
    refine ⟨by simp only [smL, a1, b1, Bool.and_self], by simp only [okNs, a2, b2, Bool.and_self], by simp only [htL, a3]; omega, ?_⟩
    have hl := (hq r (by simp)).1
    simp only [wtL, List.length_cons, Nat.mul_succ]
    have : 1002 * r.length ≤ 1002 * w := Nat.mul_le_mul_left _ hl
    omega
theorem repr_of {d : D} (h1 : smD 0 ratOk d = true) (h2 : okN d = true) (h3 : ht d ≤ 8) (h4 : wt d ≤ 16000000) : ∃ t, PyData.strOk t = true ∧ ∀ s, pRepr c [d] s = .ok (.str t) s := by
  obtain ⟨t, o, e⟩ := reprN_ok rat_hff h1 h2 h3 h4
  refine ⟨t, o, fun s => ?_⟩
  have : bReprN 0 (m_c0_repr_ c) [d] s = .ok (.str t) s := e s
  simp only [pRepr, this, Res.or]
theorem ne_str {t : Str} (h : PyData.strOk t = true) : pNe c (.str t) (.str t) s = .ok (.bl false) s := by
  have hs : SeqAt.shaped (.str t) = true := by
    have h1 : (PyData.str t).canLay0 = true := h
    have h2 : (PyData.str t).depth ≤ 64 := Nat.zero_le _
    simp [SeqAt.shaped, h1, h2]
  have hq : PyData.eqv (.str t) (.str t) = true := by simp [PyData.eqv]
  have e : eqP true (.str t) (.str t) s = .ok (.bl (!PyData.eqv (.str t) (.str t))) s := by
    show (if (SeqAt.shaped (.str t) && SeqAt.shaped (.str t)) = true then Res.ok (D.bl (if true = true then !PyData.eqv (.str t) (.str t) else PyData.eqv (.str t) (.str t))) s else .stuck) = _
    rw [hs]
    rfl
  rw [hq] at e
  show ((eqP true _ _ s).or _).or _ = _
  rw [e]
  rfl
theorem fr12_small {k : Nat} {q : Rat} (h : Fr 12 k q) (h4 : 4 ≤ k) (hk : k ≤ 100) : q.num.natAbs < 2 ^ 490 ∧ q.den < 2 ^ 490 := by
  have := (h.mono (show k ≤ 490 by omega)).bq (by decide) (Nat.lt_of_lt_of_le (show 12 < 2 ^ 4 by decide) (pow_le (by decide)))
  exact this
end W12
set_option Elab.async false
set_option linter.all false
set_option maxRecDepth 100000
set_option maxHeartbeats 2000000
set_option exponentiation.threshold 20000
namespace W12
open Pm hiding rowP
open PySem U
variable {c : Cfg} {s : S}
theorem b_ofS {m : Pm.Env → S → Res D} {e : Pm.Env} {x : Bool} {s1 : S} (h : m e s = .ok (.bl x) s1) : mB m e s = .ok x s1 := by simp [mB, h]
theorem kw1 {f : List D → S → Res D} {e : Pm.Env} {i : Nat} {x : D} (h : e[i]? = some (some x)) : mKw 0 1 f aNil (aCons (mVar i) aNil) e s = f [x] s := by
  have e0 : aCons (mVar i) aNil e s = .ok [x] s := con0 (varP h) nil0
  simp only [mKw, nil0, Res.bind_ok, e0]
  rfl
theorem row0 {M : List (List Rat)} (h : 0 < M.length) {e : Pm.Env} (he : e[1]? = some (some (matP M))) : iLst (m2 ixDD (mVar 1) (mC (.int 0))) e s = .ok ((M.getD 0 []).map pq) s := by
  have g0 : (M.map rowP)[0]? = some (rowP (M.getD 0 [])) := by
    rw [List.getElem?_map, List.getD_eq_getElem?_getD, List.getElem?_eq_getElem h]
    rfl
  have : m2 ixDD (mVar 1) (mC (.int 0)) e s = .ok (rowP (M.getD 0 [])) s := (m2P (varP he) conP).trans (sq_ix (i := 0) (.lst _) g0)
  simp only [iLst, this, Res.bind_ok]
  rfl
end W12
set_option Elab.async false
set_option linter.all false
set_option maxRecDepth 100000
set_option maxHeartbeats 2000000
set_option exponentiation.threshold 20000
open U (Cfg)
set_option Elab.async false
set_option linter.all false
set_option maxRecDepth 100000
set_option maxHeartbeats 400000
namespace W17
open Pm PySem
def pNeX (c : Cfg) : D → D → S → Res D := eqX 0 (U.m_c0_eq_ c) true
def b_heights_C1 (c : Cfg) : Pm.Env → S → Res Fl := (sSeq (sIf (mNotT (mBt (mCallD (n := 2) [] (U.m_is_form c) (aCons (mVar 0) (aCons (mVar 1) aNil))))) sStuck sNext)
  (sSeq (sAsg (mVar 1) (taTup 2 (taCons (aN (tName 2)) (taCons (aN (tName 3)) taNil))))
  (sRet (mCompF finC [4] (iLT (mVar 0)) (tName 4) mYes (m2 (U.pAdd c) (mCallD (n := 2) [] (U.m_product_sum c) (aCons (mVar 2) (aCons (mVar 4) aNil))) (mVar 3))))))
def m_heights_C1 (c : Cfg) : List D → S → Res D := runBody 2 5 (W17.b_heights_C1 c)
def b_law_pot (c : Cfg) : Pm.Env → S → Res Fl := (sSeq (sSet 2 (m2 (U.pAdd c) (m2 (U.pMul c) (mC (.int 157)) (mVar 1)) (mC (.int 79))))
  (sSeq (sIf (mB (m2 ltA (mVar 1) (mCall bLenA (aCons (mVar 0) aNil)))) (sSet 2 (mCall (bInt1 fun i => .int (absI i)) (aCons (m2 ixDD (mVar 0) (mVar 1)) aNil))) sNext)
  (sRet (mCell (aCons (mCall (bInt2 (fun _ _ => true) fun i j => .int (maxI i j)) (aCons (mC (.int 0)) (aCons (m2 (U.pSub c) (mVar 2) (m2 powI (mC (.int 10)) (mC (.int 18)))) aNil))) (aCons (m2 (U.pAdd c) (m2 modI (m2 (U.pMul c) (mCall (bInt1 fun i => .int i) (aCons (m2 (U.pAdd c) (m2 modI (mCall (bInt1 fun i => .int i) (aCons (mVar 2) aNil)) (mC (.int 2147483549))) (mC (.int 79))) aNil)) (m2 powI (m2 (U.pAdd c) (m2 (U.pMul c) (mC (.int 2)) (mVar 1)) (mC (.int 3))) (mC (.int 3)))) (mC (.int 2147483477))) (mC (.int 1))) aNil))))))
def m_law_pot (c : Cfg) : List D → S → Res D := runBody 2 3 (W17.b_law_pot c)
def b_law_pair (c : Cfg) : Pm.Env → S → Res Fl := (sRet (mIf (mBt (mCall (bIs c.k) (aCons (mVar 0) (aCons (mC (.cls 0)) aNil)))) (mTup (aCons (mProp 0 (U.m_c0_top c) (mVar 0)) (aCons (mProp 0 (U.m_c0_bottom c) (mVar 0)) aNil))) (mC .non)))
def m_law_pair (c : Cfg) : List D → S → Res D := runBody 1 1 (W17.b_law_pair c)
def b_law_pairs (c : Cfg) : Pm.Env → S → Res Fl := (sRet (mIf (mBt (mCall (bIs c.k) (aCons (mVar 0) (aCons (mC (.ty .list)) aNil)))) (mCompD finL [1] (iL1 (mVar 0)) (tName 1) mYes (mCallD (n := 1) [] (W17.m_law_pair c) (aCons (mVar 1) aNil))) (mC .non)))
def m_law_pairs (c : Cfg) : List D → S → Res D := runBody 1 2 (W17.b_law_pairs c)
def b_law_heights (c : Cfg) : Pm.Env → S → Res Fl := (sRet (mCompF finL [3] (iLst (mVar 0)) (tName 3) mYes (mCallD (n := 2) [] (U.m_law_sum c) (aCons (mCallD (n := 2) [] (U.m_law_dot c) (aCons (mVar 1) (aCons (mVar 3) aNil))) (aCons (mVar 2) aNil)))))
def m_law_heights (c : Cfg) : List D → S → Res D := runBody 3 4 (W17.b_law_heights c)
def b_law_form (c : Cfg) : Pm.Env → S → Res Fl := (sRet (mTup (aCons (mCompF finL [2] (iR1 (aCons (mVar 1) aNil)) (tName 2) mYes (mCallD (n := 1) [] (U.m_law_entry c) (aCons (mVar 0) aNil))) (aCons (mCallD (n := 1) [] (U.m_law_entry c) (aCons (mVar 0) aNil)) aNil))))
def m_law_form (c : Cfg) : List D → S → Res D := runBody 2 3 (W17.b_law_form c)
def b_law_given_form (c : Cfg) : Pm.Env → S → Res Fl := (sRet (mTup (aCons (mCallD (n := 2) [] (U.m_law_given_row c) (aCons (mVar 0) (aCons (m2 ixDD (mVar 1) (mC (.int 0))) aNil))) (aCons (mCallD (n := 2) [] (U.m_law_passed c) (aCons (mVar 0) (aCons (m2 ixDD (mVar 1) (mC (.int 1))) aNil))) aNil))))
def m_law_given_form (c : Cfg) : List D → S → Res D := runBody 2 2 (W17.b_law_given_form c)
def b_law_one_right (c : Cfg) : Pm.Env → S → Res Fl := (sSeq (sPar 2 3 (aCons (mCallD (n := 2) [] (U.m_law_given c) (aCons (mVar 0) (aCons (mVar 1) aNil))) (aCons (mCallD (n := 2) [] (W17.m_law_form c) (aCons (mVar 0) (aCons (mCall bLenA (aCons (m2 ixDD (mVar 1) (mC (.int 0))) aNil)) aNil))) aNil)))
  (sSeq (sPar 4 5 (aCons (mCallD (n := 2) [] (W17.m_law_given_form c) (aCons (mVar 0) (aCons (mVar 3) aNil))) (aCons (mCallD (n := 3) [] (W17.m_law_heights c) (aCons (mVar 1) (aCons (m2 ixDD (mVar 3) (mC (.int 0))) (aCons (m2 ixDD (mVar 3) (mC (.int 1))) aNil)))) aNil)))
  (sSeq (sPar 6 7 (aCons (mCall (U.pRepr c) (aCons (mLst (aCons (mVar 2) (aCons (mVar 4) aNil))) aNil)) (aCons (mCallD (n := 2) [] (W17.m_heights_C1 c) (aCons (mVar 2) (aCons (mVar 4) aNil))) aNil)))
  (sSeq (sIf (mOrT (mB (m2 (U.pNe c) (mCallD (n := 1) [] (W17.m_law_pairs c) (aCons (mVar 7) aNil)) (mVar 5))) (mOrT (mB (m2 (U.pNe c) (mCallD (n := 1) [] (W17.m_law_pairs c) (aCons (mKwP [1, 0] 2 2 (U.m_heights c) (aCons (mVar 4) (aCons (mVar 2) aNil))) aNil)) (mVar 5))) (mB (m2 (U.pNe c) (mCall (U.pRepr c) (aCons (mLst (aCons (mVar 2) (aCons (mVar 4) aNil))) aNil)) (mVar 6))))) (sRet (mC (.bl false))) sNext)
  (sSeq (sFor (iLst (mCallD (n := 1) [] (U.m_told_sums c) (aCons (mVar 2) aNil))) (tName 8) (sIf (mB (m2 (U.pNe c) (mCallD (n := 2) [] (U.m_law_dot c) (aCons (mCallD (n := 1) [] (W17.m_law_pairs c) (aCons (mVar 8) aNil)) (aCons (mVar 5) aNil))) (mTup (aCons (mC (.int 0)) (aCons (mC (.int 1)) aNil))))) (sRet (mC (.bl false))) sNext))
  (sSeq (sAsg (mTup (aCons (mCallD (n := 2) [] (W17.m_law_form c) (aCons (mVar 0) (aCons (mCall bLenA (aCons (m2 ixDD (mVar 1) (mC (.int 0))) aNil)) aNil))) (aCons (mCallD (n := 1) [] (U.m_law_entry c) (aCons (mVar 0) aNil)) aNil))) (taTup 2 (taCons (aN (tName 9)) (taCons (aN (tName 10)) taNil))))
  (sSeq (sSet 11 (mCompF finL [16, 17] (iZipA (aCons (m2 ixDD (mVar 3) (mC (.int 0))) (aCons (m2 ixDD (mVar 9) (mC (.int 0))) aNil))) (tSeq 2 (tCons (tName 16) (tCons (tName 17) tNil))) mYes (mCallD (n := 2) [] (U.m_law_sum c) (aCons (mVar 16) (aCons (mCallD (n := 2) [] (U.m_law_by c) (aCons (mVar 10) (aCons (mVar 17) aNil))) aNil)))))
  (sSeq (sSet 12 (mCallD (n := 2) [] (U.m_law_sum c) (aCons (m2 ixDD (mVar 3) (mC (.int 1))) (aCons (mCallD (n := 2) [] (U.m_law_by c) (aCons (mVar 10) (aCons (m2 ixDD (mVar 9) (mC (.int 1))) aNil))) aNil))))
  (sSeq (sSet 13 (mCallD (n := 2) [] (U.m_heights c) (aCons (mVar 2) (aCons (mCallD (n := 2) [] (W17.m_law_given_form c) (aCons (mVar 0) (aCons (mVar 9) aNil))) aNil))))
  (sSeq (sIf (mB (m2 (U.pNe c) (mCallD (n := 2) [] (U.m_heights c) (aCons (mVar 2) (aCons (mCallD (n := 2) [] (W17.m_law_given_form c) (aCons (mVar 0) (aCons (mTup (aCons (mVar 11) (aCons (mVar 12) aNil))) aNil))) aNil))) (mCompD finL [16, 17] (iZ2 (aCons (mVar 7) (aCons (mVar 13) aNil))) (tSeq 2 (tCons (tName 16) (tCons (tName 17) tNil))) mYes (m2 (U.pAdd c) (mVar 16) (m2 (U.pMul c) (mMake 0 2 3 [] (U.m_c0_init_ c) (aCons (m2 ixDD (mVar 10) (mC (.int 0))) (aCons (m2 ixDD (mVar 10) (mC (.int 1))) aNil))) (mVar 17)))))) (sRet (mC (.bl false))) sNext)
  (sSeq (sSet 14 (mCompF finL [18] (iLst (m2 ixDD (mVar 1) (mC (.int 0)))) (tName 18) mYes (mCallD (n := 1) [] (U.m_law_entry c) (aCons (mVar 0) aNil))))
  (sSeq (sSet 15 (mCompF finL [19] (iLst (mVar 1)) (tName 19) mYes (mCompF finL [16, 17] (iZipA (aCons (mVar 19) (aCons (mVar 14) aNil))) (tSeq 2 (tCons (tName 16) (tCons (tName 17) tNil))) mYes (mCallD (n := 2) [] (U.m_law_sum c) (aCons (mVar 16) (aCons (mVar 17) aNil))))))
  (sSeq (sSet 12 (mCallD (n := 2) [] (W12.m_law_less c) (aCons (m2 ixDD (mVar 3) (mC (.int 1))) (aCons (mCallD (n := 2) [] (U.m_law_dot c) (aCons (m2 ixDD (mVar 3) (mC (.int 0))) (aCons (mVar 14) aNil))) aNil))))
  (sSeq (sIf (mB (m2 (W17.pNeX c) (mCallD (n := 2) [] (U.m_heights c) (aCons (mCallD (n := 2) [] (U.m_law_given c) (aCons (mVar 0) (aCons (mVar 15) aNil))) (aCons (mCallD (n := 2) [] (W17.m_law_given_form c) (aCons (mVar 0) (aCons (mTup (aCons (m2 ixDD (mVar 3) (mC (.int 0))) (aCons (mVar 12) aNil))) aNil))) aNil))) (mVar 7))) (sRet (mC (.bl false))) sNext)
  (sSeq (sExpr (mtCell appF (mVar 7) (aCons (mC .non) aNil)))
  (sRet (m2 (U.pEq c) (mCallD (n := 1) [] (W17.m_law_pairs c) (aCons (mCallD (n := 2) [] (U.m_heights c) (aCons (mVar 2) (aCons (mVar 4) aNil))) aNil)) (mVar 5))))))))))))))))))
def m_law_one_right (c : Cfg) : List D → S → Res D := fun ds s => cutRes s.length (runBody 2 20 (W17.b_law_one_right c) ds s)
def b_law_mixed_right (c : Cfg) : Pm.Env → S → Res Fl := (sSeq (sAsg (mTup (aCons (mCallD (n := 2) [] (W17.m_law_form c) (aCons (mVar 0) (aCons (mCall bLenA (aCons (m2 ixDD (mVar 1) (mC (.int 0))) aNil)) aNil))) (aCons (mCallD (n := 2) [] (U.m_law_pick c) (aCons (mVar 0) (aCons (mLst (aCons (mTup (aCons (mC (.int 1)) (aCons (mC (.int 2)) aNil))) (aCons (mTup (aCons (mC (.int 1)) (aCons (mC (.int 3)) aNil))) (aCons (mTup (aCons (m1 (U.pNeg c) (mC (.int 1))) (aCons (mC (.int 1)) aNil))) (aCons (mTup (aCons (mC (.int 2)) (aCons (mC (.int 1)) aNil))) aNil))))) aNil))) aNil))) (taTup 2 (taCons (aN (tName 2)) (taCons (aN (tName 3)) taNil))))
  (sSeq (sPar 4 5 (aCons (mCallD (n := 2) [] (U.m_law_pick c) (aCons (mVar 0) (aCons (mVar 1) aNil))) (aCons (mCallD (n := 2) [] (U.m_law_pick c) (aCons (mVar 0) (aCons (mVar 1) aNil))) aNil)))
  (sSeq (sSet 6 (mCallD (n := 2) [] (W12.m_law_less c) (aCons (mTup (aCons (mC (.int 1)) (aCons (mC (.int 1)) aNil))) (aCons (mVar 3) aNil))))
  (sSeq (sSet 7 (mCompF finL [9, 10] (iZipA (aCons (mVar 4) (aCons (mVar 5) aNil))) (tSeq 2 (tCons (tName 9) (tCons (tName 10) tNil))) mYes (mCallD (n := 2) [] (U.m_law_sum c) (aCons (mCallD (n := 2) [] (U.m_law_by c) (aCons (mVar 3) (aCons (mVar 9) aNil))) (aCons (mCallD (n := 2) [] (U.m_law_by c) (aCons (mVar 6) (aCons (mVar 10) aNil))) aNil)))))
  (sSeq (sSet 8 (mCallD (n := 2) [] (U.m_heights c) (aCons (mCallD (n := 2) [] (U.m_law_given c) (aCons (mVar 0) (aCons (mLst (aCons (mVar 4) (aCons (mVar 5) (aCons (mVar 7) aNil)))) aNil))) (aCons (mCallD (n := 2) [] (W17.m_law_given_form c) (aCons (mVar 0) (aCons (mVar 2) aNil))) aNil))))
  (sRet (m2 (U.pEq c) (m2 ixDD (mVar 8) (mC (.int 2))) (m2 (U.pAdd c) (m2 (U.pMul c) (m2 ixDD (mVar 8) (mC (.int 0))) (mMake 0 2 3 [] (U.m_c0_init_ c) (aCons (m2 ixDD (mVar 3) (mC (.int 0))) (aCons (m2 ixDD (mVar 3) (mC (.int 1))) aNil)))) (m2 (U.pMul c) (m2 ixDD (mVar 8) (mC (.int 1))) (mMake 0 2 3 [] (U.m_c0_init_ c) (aCons (m2 ixDD (mVar 6) (mC (.int 0))) (aCons (m2 ixDD (mVar 6) (mC (.int 1))) aNil))))))))))))
def m_law_mixed_right (c : Cfg) : List D → S → Res D := runBody 2 11 (W17.b_law_mixed_right c)
def b_law_right (c : Cfg) : Pm.Env → S → Res Fl := (sSeq (sSet 1 (mCallD (n := 3) [] (U.m_law_points c) (aCons (mVar 0) (aCons (mC (.int 7)) (aCons (mC (.int 4)) aNil)))))
  (sSeq (sIf (mOrT (mNotT (mBt (mCallD (n := 2) [] (W17.m_law_one_right c) (aCons (mVar 0) (aCons (mVar 1) aNil))))) (mNotT (mBt (mCallD (n := 2) [] (W17.m_law_mixed_right c) (aCons (mVar 0) (aCons (mVar 1) aNil)))))) (sRet (mC (.bl false))) sNext)
  (sSeq (sPar 2 3 (aCons (mCallD (n := 2) [] (U.m_law_given c) (aCons (mVar 0) (aCons (mVar 1) aNil))) (aCons (mCall bLenA (aCons (m2 ixDD (mVar 1) (mC (.int 0))) aNil)) aNil)))
  (sSeq (sIf (mOrT (mB (m2 (U.pNe c) (mCallD (n := 2) [] (U.m_heights c) (aCons (mVar 2) (aCons (mTup (aCons (m2 (U.pMul c) (mLst (aCons (mC (.int 0)) aNil)) (mVar 3)) (aCons (mC (.int 0)) aNil))) aNil))) (m2 (U.pMul c) (mLst (aCons (mMake 0 2 3 [.int (1)] (U.m_c0_init_ c) (aCons (mC (.int 0)) aNil)) aNil)) (mCall bLenA (aCons (mVar 1) aNil))))) (mB (m2 (U.pNe c) (mCallD (n := 2) [] (U.m_heights c) (aCons (mVar 2) (aCons (mTup (aCons (m2 (U.pMul c) (mLst (aCons (mC (.int 0)) aNil)) (mVar 3)) (aCons (mC (.int 7)) aNil))) aNil))) (m2 (U.pMul c) (mLst (aCons (mMake 0 2 3 [.int (1)] (U.m_c0_init_ c) (aCons (mC (.int 7)) aNil)) aNil)) (mCall bLenA (aCons (mVar 1) aNil)))))) (sRet (mC (.bl false))) sNext)
  (sRet (m2 (U.pEq c) (mCallD (n := 2) [] (U.m_heights c) (aCons (mLst (aCons (mLst (aCons (mC (.int 1)) (aCons (mC (.int 2)) aNil))) (aCons (mLst (aCons (mC (.int 3)) (aCons (m1 (U.pNeg c) (mC (.int 1))) aNil))) aNil))) (aCons (mTup (aCons (mTup (aCons (mC (.int 2)) (aCons (mMake 0 2 3 [] (U.m_c0_init_ c) (aCons (mC (.int 1)) (aCons (mC (.int 2)) aNil))) aNil))) (aCons (m1 (U.pNeg c) (mC (.int 1))) aNil))) aNil))) (mLst (aCons (mMake 0 2 3 [.int (1)] (U.m_c0_init_ c) (aCons (mC (.int 2)) aNil)) (aCons (mMake 0 2 3 [] (U.m_c0_init_ c) (aCons (mC (.int 9)) (aCons (mC (.int 2)) aNil))) aNil)))))))))
def m_law_right (c : Cfg) : List D → S → Res D := runBody 1 4 (W17.b_law_right c)
def b_law (c : Cfg) : Pm.Env → S → Res Fl := (sRet (mCallD (n := 1) [] (W17.m_law_right c) (aCons (mCallD (n := 2) [] (W17.m_law_pot c) (aCons (mVar 0) (aCons (mC (.int 0)) aNil))) aNil)))
def m_law (c : Cfg) : List D → S → Res D := runBody 1 1 (W17.b_law c)
end W17
set_option Elab.async false
set_option linter.all false
set_option maxRecDepth 100000
set_option maxHeartbeats 1000000
set_option exponentiation.threshold 20000
namespace W17
open Pm hiding rowP
open PySem U W12
variable {c : Cfg} {s : S}
abbrev frmD (f : List Rat) (b : Rat) : D := .tup [rowP f, pq b]
theorem form_ok (hd : DrawOk c.dr) (h : PS s) {w : Nat} (hw : w ≤ 1000) : ∃ (f : List Rat) (b : Rat) (s' : S), m_law_form c [.cell 0, .int w] s = .ok (frmD f b) s' ∧ f.length = w ∧ (∀ q ∈ f, q ∈ ents) ∧ b ∈ ents ∧ Nx s s' := by
  let E0 : Pm.Env := [some (.cell 0), some (.int w), none]
  obtain ⟨f, s1, k1, lf, hf, n1⟩ := entries (c := c) hd h (i := 2) (env := E0) (r1_ok' (m := mVar 1) (n := w) rfl (by omega)) (by rw [range_len]; omega) rfl (by decide)
  obtain ⟨b, s2, k2, hb, n2⟩ := entry (c := c) hd (h.next n1)
  rw [range_len] at lf
  exact ⟨f, b, s2, runP2 (retP (mtup2 (consP k1 (consP ((call1 (i := 0) rfl).trans k2) nilP)))), lf, hf, hb, n1.trans n2⟩
end W17
set_option Elab.async false
set_option linter.all false
set_option maxRecDepth 100000
set_option maxHeartbeats 2000000
set_option exponentiation.threshold 20000
set_option Elab.async false
set_option linter.all false
set_option maxRecDepth 100000
set_option maxHeartbeats 2000000
set_option exponentiation.threshold 20000
set_option Elab.async false
set_option linter.all false
set_option maxRecDepth 100000
set_option maxHeartbeats 2000000
set_option exponentiation.threshold 20000
namespace W17
open W12 (b_ofS row0)
open Pm hiding rowP
open PySem U W12
variable {c : Cfg} {s : S}
theorem s12 : Sml 12 := sml (k := 4) (by decide) (by decide)
theorem e7_sq {q : Rat} (h : Fr 12 7 q) : Sq q := fr_sq h (by decide) s12 (by decide)
theorem dots_ok {M : List (List Rat)} {f : List Rat} {d e a b w : Nat} (hM : ∀ r ∈ M, ∀ q ∈ r, Fr e b q) (hf : ∀ q ∈ f, Fr d a q) (hd : 0 < d) (he : 0 < e) (hda : d < 2 ^ a) (heb : e < 2 ^ b) (hl : f.length = w) (hb : a + b + w ≤ 1900) : ∀ r ∈ M, DotOk f r ∧ Sq (dot f r) := fun r hr =>
  ⟨dot_okF hf (hM r hr) hd he hda heb (by omega), fr_sq (dot_fr hf (hM r hr)) (Nat.mul_pos hd he) (sml2 hda heb (by omega)) (by omega)⟩
end W17
set_option Elab.async false
set_option linter.all false
set_option maxRecDepth 100000
set_option maxHeartbeats 2000000
set_option exponentiation.threshold 20000
set_option Elab.async false
set_option linter.all false
set_option maxRecDepth 100000
set_option maxHeartbeats 2000000
set_option exponentiation.threshold 20000
namespace W17
open Pm hiding rowP
open PySem U W12
variable {c : Cfg} {s : S}
def pts2 : List (List Rat) := [[1, 2], [3, -1]]
def d2 : D := .lst [.lst [.int 1, .int 2], .lst [.int 3, .int (-1)]]
theorem tab2 : Tab d2 pts2 := ⟨_, .lst _, .cons ⟨_, .lst _, .cons (.int 1) (.cons (.int 2) .nil)⟩ (.cons ⟨_, .lst _, .cons (.int 3) (.cons (.int (-1)) .nil)⟩ .nil)⟩
theorem num2 : ∀ r ∈ pts2, ∀ q ∈ r, Fr 1 2 q := by
  intro r hr q hq
  simp only [pts2, List.mem_cons, List.not_mem_nil, or_false] at hr
  rcases hr with rfl | rfl <;> simp only [List.mem_cons, List.not_mem_nil, or_false] at hq <;> rcases hq with rfl | rfl
  · exact ⟨1, by decide +kernel, by decide⟩
  · exact ⟨2, by decide +kernel, by decide⟩
  · exact ⟨3, by decide +kernel, by decide⟩
  · exact ⟨-1, by decide +kernel, by decide⟩
theorem written {e : Pm.Env} (hT : cutOk s = true) : m2 (U.pEq c) (mCallD (n := 2) [] (U.m_heights c) (aCons (mLst (aCons (mLst (aCons (mC (.int 1)) (aCons (mC (.int 2)) aNil))) (aCons (mLst (aCons (mC (.int 3)) (aCons (m1 (U.pNeg c) (mC (.int 1))) aNil))) aNil))) (aCons (mTup (aCons (mTup (aCons (mC (.int 2)) (aCons (mMake 0 2 3 [] (U.m_c0_init_ c) (aCons (mC (.int 1)) (aCons (mC (.int 2)) aNil))) aNil))) (aCons (m1 (U.pNeg c) (mC (.int 1))) aNil))) aNil))) (mLst (aCons (mMake 0 2 3 [.int (1)] (U.m_c0_init_ c) (aCons (mC (.int 2)) aNil)) (aCons (mMake 0 2 3 [] (U.m_c0_init_ c) (aCons (mC (.int 9)) (aCons (mC (.int 2)) aNil))) aNil))) e s = .ok (.bl true) s := by
  have i2 : Si 2 := by first | exact si2 (by decide) | (unfold Si; decide) | decide
  have h12 := make_ok (c := c) (s1 := s) (env := e) (mr := aCons (mC (.int 1)) (aCons (mC (.int 2)) aNil)) 1 2 rfl hT (by decide) i2
  have h92 := make_ok (c := c) (s1 := s) (env := e) (mr := aCons (mC (.int 9)) (aCons (mC (.int 2)) aNil)) 9 2 rfl hT (by decide) i2
  have h2 := make1_ok (c := c) (s1 := s) (env := e) (mr := aCons (mC (.int 2)) aNil) 2 rfl hT
  have a0 : mLst (aCons (mLst (aCons (mC (.int 1)) (aCons (mC (.int 2)) aNil))) (aCons (mLst (aCons (mC (.int 3)) (aCons (m1 (U.pNeg c) (mC (.int 1))) aNil))) aNil)) e s = .ok d2 s := rfl
  have a1 := mtup2 (con0 (conP (x := .int 2) (e := e) (s := s)) (con0 h12 nil0))
  have a2 := mtup2 (con0 a1 (con0 (show m1 (U.pNeg c) (mC (.int 1)) e s = .ok (.int (-1)) s from rfl) nil0))
  have pk : Pok d2 pts2 1 2 2 2 := pok_of tab2 (by simp [pts2]) rfl (by decide) (by decide) num2 (by decide) (by decide) (by decide) (by decide)
  have rw2 : Row (.tup [.int 2, rq (Rat.divInt 1 2)]) [2, Rat.divInt 1 2] := ⟨_, .tup _, .cons (.int 2) (.cons (.rat _) .nil)⟩
  have ff : ∀ q ∈ [(2 : Rat), Rat.divInt 1 2], Fr 12 7 q := by
    intro q hq
    simp only [List.mem_cons, List.not_mem_nil, or_false] at hq
    rcases hq with rfl | rfl
    · exact ents_fr (by simp [ents])
    · exact ents_fr (by simp [ents])
  have num' : ∀ r ∈ pts2, ∀ q ∈ r, Fr 12 7 q := fun r hr q hq => by
    have := (num2 r hr q hq).more (e := 12) (m := 4) (by decide)
    exact (show Fr 12 (2 + 4) q from this).mono (by decide)
  have dM := dots_ok (w := 2) num' ff (by decide) (by decide) (by decide) (by decide) rfl (by decide)
  have k := heights_run (c := c) (s := s) hT pk rw2 (.int (-1)) rfl (e7_sq (ents_fr (q := ((-1 : Int) : Rat)) (by simp [ents]))) dM
  have eq : (pts2.map fun r => dot [2, Rat.divInt 1 2] r + ((-1 : Int) : Rat)) = [((2 : Int) : Rat), Rat.divInt 9 2] := by decide +kernel
  rw [eq] at k
  have l2 : mLst (aCons (mMake 0 2 3 [.int (1)] (U.m_c0_init_ c) (aCons (mC (.int 2)) aNil)) (aCons (mMake 0 2 3 [] (U.m_c0_init_ c) (aCons (mC (.int 9)) (aCons (mC (.int 2)) aNil))) aNil)) e s = .ok (rowR [((2 : Int) : Rat), Rat.divInt 9 2]) s := mlst2 (con0 h2 (con0 h92 nil0))
  refine (m2P ((callDP (f := U.m_heights c) (e := e) (con0 a0 (con0 a2 nil0)) rfl).trans k) l2).trans ?_
  exact cmp_row (c := c) (s := s) false _ _
end W17
open U (Cfg)
set_option Elab.async false
set_option linter.all false
set_option maxRecDepth 100000
set_option maxHeartbeats 400000
namespace W16
open Pm PySem
def b_columns_of_C2 (c : Cfg) : Pm.Env → S → Res Fl := (sRet (mCompF finC [2] (iR1 (aCons (mVar 1) aNil)) (tName 2) mYes (mCompF finC [3] (iLT (mVar 0)) (tName 3) mYes (m2 ixDD (mVar 3) (mVar 2)))))
def m_columns_of_C2 (c : Cfg) : List D → S → Res D := runBody 2 4 (W16.b_columns_of_C2 c)
def b_spokes_C2 (c : Cfg) : Pm.Env → S → Res Fl := (sRet (mCallD (n := 2) [] (W16.m_columns_of_C2 c) (aCons (mCallD (n := 1) [] (U.m_told_sums c) (aCons (mVar 0) aNil)) (aCons (mCall bLenA (aCons (mVar 0) aNil)) aNil))))
def m_spokes_C2 (c : Cfg) : List D → S → Res D := runBody 1 1 (W16.b_spokes_C2 c)
def b_law_pot (c : Cfg) : Pm.Env → S → Res Fl := (sSeq (sSet 2 (m2 (U.pAdd c) (m2 (U.pMul c) (mC (.int 151)) (mVar 1)) (mC (.int 73))))
  (sSeq (sIf (mB (m2 ltA (mVar 1) (mCall bLenA (aCons (mVar 0) aNil)))) (sSet 2 (mCall (bInt1 fun i => .int (absI i)) (aCons (m2 ixDD (mVar 0) (mVar 1)) aNil))) sNext)
  (sRet (mCell (aCons (mCall (bInt2 (fun _ _ => true) fun i j => .int (maxI i j)) (aCons (mC (.int 0)) (aCons (m2 (U.pSub c) (mVar 2) (m2 powI (mC (.int 10)) (mC (.int 18)))) aNil))) (aCons (m2 (U.pAdd c) (m2 modI (m2 (U.pMul c) (mCall (bInt1 fun i => .int i) (aCons (m2 (U.pAdd c) (m2 modI (mCall (bInt1 fun i => .int i) (aCons (mVar 2) aNil)) (mC (.int 2147483549))) (mC (.int 73))) aNil)) (m2 powI (m2 (U.pAdd c) (m2 (U.pMul c) (mC (.int 2)) (mVar 1)) (mC (.int 3))) (mC (.int 3)))) (mC (.int 2147483477))) (mC (.int 1))) aNil))))))
def m_law_pot (c : Cfg) : List D → S → Res D := runBody 2 3 (W16.b_law_pot c)
def b_law_level (c : Cfg) : Pm.Env → S → Res Fl := (sSeq (sPar 2 3 (aCons (mCallD (n := 1) [] (W12.m_law_steps c) (aCons (mVar 0) aNil)) (aCons (mCell aNil) aNil)))
  (sSeq (sSet 4 (mCompF finL [8] (iLst (mVar 2)) (tName 8) mYes (m2 ixDD (mCompF finL [9] (iR1 (aCons (mVar 1) aNil)) (tName 9) (mB (m2 (U.pNe c) (m2 ixDD (m2 ixDD (mVar 8) (mVar 9)) (mC (.int 0))) (mC (.int 0)))) (mVar 9)) (mC (.int 0)))))
  (sSeq (sFrz 3 (sFor (iR1 (aCons (mVar 1) aNil)) (tName 5) (sIf (mB (m2 (inAll true) (mVar 5) (mVar 4))) (sSeq (sSet 6 (mCompF finC [9] (iR1 (aCons (mVar 1) aNil)) (tName 9) mYes (mTup (aCons (mCall bIntA (aCons (m2 (U.pEq c) (mVar 9) (mVar 5)) aNil)) (aCons (mC (.int 1)) aNil)))))
  (sSeq (sFrz 6 (sFor (iZipA (aCons (mVar 4) (aCons (mVar 2) aNil))) (tSeq 2 (tCons (tName 7) (tCons (tName 8) tNil))) (sAsg (mTup (aCons (m2 (U.pSub c) (mC (.int 0)) (m2 ixDD (m2 ixDD (mVar 8) (mVar 5)) (mC (.int 0)))) (aCons (m2 ixDD (m2 ixDD (mVar 8) (mVar 5)) (mC (.int 1))) aNil))) (taSub (mVar 6) (mVar 7)))))
  (sExpr (mtCell appF (mVar 3) (aCons (mVar 6) aNil))))) sNext)))
  (sRet (mCallD (n := 1) [] (W12.m_law_steps c) (aCons (mVar 3) aNil))))))
def m_law_level (c : Cfg) : List D → S → Res D := fun ds s => cutRes s.length (runBody 2 10 (W16.b_law_level c) ds s)
def b_law_rows (c : Cfg) : Pm.Env → S → Res Fl := (sRet (mIf (mBt (mCall (bIs c.k) (aCons (mVar 0) (aCons (mC (.ty .list)) aNil)))) (mCompD finL [1] (iL1 (mVar 0)) (tName 1) mYes (mCallD (n := 1) [] (W17.m_law_pairs c) (aCons (mVar 1) aNil))) (mC .non)))
def m_law_rows (c : Cfg) : List D → S → Res D := runBody 1 2 (W16.b_law_rows c)
def b_law_sums (c : Cfg) : Pm.Env → S → Res Fl := (sRet (mCallD (n := 2) [] (W16.m_law_level c) (aCons (mCallD (n := 1) [] (W12.m_law_rows_of c) (aCons (mVar 0) aNil)) (aCons (mCall bLenA (aCons (mVar 0) aNil)) aNil))))
def m_law_sums (c : Cfg) : List D → S → Res D := runBody 1 1 (W16.b_law_sums c)
def b_law_rank (c : Cfg) : Pm.Env → S → Res Fl := (sRet (mCall bLenA (aCons (mCallD (n := 1) [] (W12.m_law_steps c) (aCons (mVar 0) aNil)) aNil)))
def m_law_rank (c : Cfg) : List D → S → Res D := runBody 1 1 (W16.b_law_rank c)
def b_law_one_right (c : Cfg) : Pm.Env → S → Res Fl := (sSeq (sAsg (mTup (aCons (mCallD (n := 2) [] (U.m_law_given c) (aCons (mVar 0) (aCons (mVar 1) aNil))) (aCons (mCallD (n := 1) [] (W16.m_law_sums c) (aCons (mVar 1) aNil)) aNil))) (taTup 2 (taCons (aN (tName 2)) (taCons (aN (tName 3)) taNil))))
  (sSeq (sPar3 4 5 6 (aCons (mCall (U.pRepr c) (aCons (mVar 2) aNil)) (aCons (mCallD (n := 1) [] (W16.m_spokes_C2 c) (aCons (mVar 2) aNil)) (aCons (mCompF finL [9] (iR1 (aCons (mCall bLenA (aCons (mVar 1) aNil)) aNil)) (tName 9) mYes (mCompF finL [7] (iLst (mVar 3)) (tName 7) mYes (m2 ixDD (mVar 7) (mVar 9)))) aNil))))
  (sSeq (sIf (mOrT (mB (m2 (U.pNe c) (mCallD (n := 1) [] (W16.m_law_rows c) (aCons (mVar 5) aNil)) (mVar 6))) (mOrT (mB (m2 (U.pNe c) (mCall (U.pRepr c) (aCons (mVar 2) aNil)) (mVar 4))) (mB (m2 (U.pNe c) (mCall bLenA (aCons (mVar 5) aNil)) (mCall bLenA (aCons (mVar 1) aNil)))))) (sRet (mC (.bl false))) sNext)
  (sSeq (sFor (iLst (mVar 3)) (tName 7) (sIf (mB (m2 (U.pNe c) (mCallD (n := 1) [] (U.m_law_total c) (aCons (mVar 7) aNil)) (mTup (aCons (mC (.int 0)) (aCons (mC (.int 1)) aNil))))) (sRet (mC (.bl false))) sNext))
  (sSeq (sSet 8 (mCompF finL [7] (iLst (mVar 3)) (tName 7) mYes (m2 ixDD (mCompF finL [15] (iR1 (aCons (mCall bLenA (aCons (mVar 7) aNil)) aNil)) (tName 15) (mB (m2 (U.pNe c) (m2 ixDD (m2 ixDD (mVar 7) (mVar 15)) (mC (.int 0))) (mC (.int 0)))) (mVar 15)) (mC (.int 0)))))
  (sSeq (sFor (iEnumM (aCons (mVar 8) aNil)) (tSeq 2 (tCons (tName 9) (tCons (tName 10) tNil))) (sIf (mB (m2 (U.pNe c) (m2 ixDD (mVar 6) (mVar 10)) (mCompF finL [15] (iR1 (aCons (mCall bLenA (aCons (mVar 3) aNil)) aNil)) (tName 15) mYes (mTup (aCons (mCall bIntA (aCons (m2 (U.pEq c) (mVar 9) (mVar 15)) aNil)) (aCons (mC (.int 1)) aNil)))))) (sRet (mC (.bl false))) sNext))
  (sSeq (sSet 11 (m2 (U.pSub c) (m2 (U.pSub c) (mCall bLenA (aCons (mVar 1) aNil)) (mC (.int 1))) (mCall bLenA (aCons (mVar 3) aNil))))
  (sSeq (sFor (iR1 (aCons (mCall bLenA (aCons (mVar 1) aNil)) aNil)) (tName 9) (sSeq (sSet 12 (m2 (U.pEq c) (mCompF finL [16] (iLst (m2 ixDD (mVar 6) (mVar 9))) (tName 16) (mB (m2 (U.pNe c) (m2 ixDD (mVar 16) (mC (.int 0))) (mC (.int 0)))) (mVar 16)) (mLst aNil)))
  (sSeq (sSet 13 (m2 (U.pAdd c) (mSlice (mVar 1) oN (oS (mVar 9))) (mSlice (mVar 1) (oS (m2 (U.pAdd c) (mVar 9) (mC (.int 1)))) oN)))
  (sIf (mB (m2 (U.pNe c) (mVar 12) (mOr (mAnd (m2 (U.pEq c) (mCall bLenA (aCons (mVar 1) aNil)) (mC (.int 2))) (m2 (U.pEq c) (mCall bLenA (aCons (mVar 3) aNil)) (mC (.int 0)))) (mAnd (m2 gtI (mCall bLenA (aCons (mVar 1) aNil)) (mC (.int 2))) (m2 ltA (mCallD (n := 1) [] (W12.m_law_size c) (aCons (mVar 13) aNil)) (mVar 11)))))) (sRet (mC (.bl false))) sNext))))
  (sSeq (sForD (iL1 (mVar 5)) (tName 14) (sExpr (mtCell appF (mVar 14) (aCons (mC .non) aNil))))
  (sSeq (sExpr (mtCell appF (mVar 5) (aCons (mC .non) aNil)))
  (sRet (m2 (U.pEq c) (mCallD (n := 1) [] (W16.m_law_rows c) (aCons (mKw 0 1 (U.m_spokes c) aNil (aCons (mVar 2) aNil)) aNil)) (mVar 6)))))))))))))
def m_law_one_right (c : Cfg) : List D → S → Res D := fun ds s => cutRes s.length (runBody 2 17 (W16.b_law_one_right c) ds s)
def b_law_turned_right (c : Cfg) : Pm.Env → S → Res Fl := (sSeq (sAsg (mTup (aCons (mCallD (n := 1) [] (U.m_spokes c) (aCons (mCallD (n := 2) [] (U.m_law_given c) (aCons (mVar 0) (aCons (mVar 1) aNil))) aNil)) (aCons (mRevL (mVar 1)) aNil))) (taTup 2 (taCons (aN (tName 2)) (taCons (aN (tName 3)) taNil))))
  (sSeq (sSet 4 (mRevL (mCallD (n := 1) [] (U.m_spokes c) (aCons (mCallD (n := 2) [] (U.m_law_given c) (aCons (mVar 0) (aCons (mVar 3) aNil))) aNil))))
  (sSeq (sIf (mB (m2 (U.pNe c) (mCallD (n := 1) [] (U.m_excess c) (aCons (mCallD (n := 2) [] (U.m_law_given c) (aCons (mVar 0) (aCons (mVar 3) aNil))) aNil)) (mCall bLenA (aCons (m2 ixDD (mVar 2) (mC (.int 0))) aNil)))) (sRet (mC (.bl false))) sNext)
  (sSeq (sFor (iR1 (aCons (mC (.int 3)) aNil)) (tName 5) (sSeq (sSet 6 (mCompF finL [9] (iR1 (aCons (mCall bLenA (aCons (mVar 1) aNil)) aNil)) (tName 9) (mB (m2 (U.pEq c) (mCallD (n := 2) [] c.dr (aCons (mVar 0) (aCons (mC (.int 2)) aNil))) (mC (.int 0)))) (mVar 9)))
  (sSeq (sPar 7 8 (aCons (mCompF finL [9] (iLst (mVar 6)) (tName 9) mYes (mCallD (n := 1) [] (W17.m_law_pairs c) (aCons (m2 ixDD (mVar 2) (mVar 9)) aNil))) (aCons (mCompF finL [9] (iLst (mVar 6)) (tName 9) mYes (mCallD (n := 1) [] (W17.m_law_pairs c) (aCons (m2 ixDD (mVar 4) (mVar 9)) aNil))) aNil)))
  (sIf (mB (m2 (U.pNe c) (mCallD (n := 1) [] (W16.m_law_rank c) (aCons (mVar 7) aNil)) (mCallD (n := 1) [] (W16.m_law_rank c) (aCons (mVar 8) aNil)))) (sRet (mC (.bl false))) sNext))))
  (sRet (mC (.bl true)))))))
def m_law_turned_right (c : Cfg) : List D → S → Res D := runBody 2 10 (W16.b_law_turned_right c)
def b_law_right (c : Cfg) : Pm.Env → S → Res Fl := (sSeq (sSet 1 (mCallD (n := 3) [] (U.m_law_points c) (aCons (mVar 0) (aCons (mC (.int 7)) (aCons (mC (.int 4)) aNil)))))
  (sSeq (sIf (mAndT (mB (m2 (U.pEq c) (mCallD (n := 2) [] c.dr (aCons (mVar 0) (aCons (mC (.int 3)) aNil))) (mC (.int 0)))) (mB (m2 ltA (mCall bLenA (aCons (mVar 1) aNil)) (mC (.int 7))))) (sSet 1 (m2 (U.pAdd c) (mCompF finL [5] (iLst (mVar 1)) (tName 5) mYes (m2 (U.pAdd c) (mVar 5) (mLst (aCons (mTup (aCons (mC (.int 0)) (aCons (mC (.int 1)) aNil))) aNil)))) (mLst (aCons (m2 (U.pAdd c) (mCompF finL [6] (iLst (m2 ixDD (mVar 1) (mC (.int 0)))) (tName 6) mYes (mCallD (n := 1) [] (U.m_law_entry c) (aCons (mVar 0) aNil))) (mLst (aCons (mTup (aCons (mC (.int 1)) (aCons (mC (.int 1)) aNil))) aNil))) aNil)))) sNext)
  (sSeq (sIf (mOrT (mNotT (mBt (mCallD (n := 2) [] (W16.m_law_one_right c) (aCons (mVar 0) (aCons (mVar 1) aNil))))) (mNotT (mBt (mCallD (n := 2) [] (W16.m_law_turned_right c) (aCons (mVar 0) (aCons (mVar 1) aNil)))))) (sRet (mC (.bl false))) sNext)
  (sSeq (sAsg (mTup (aCons (mCompF finL [6] (iLst (m2 ixDD (mVar 1) (mC (.int 0)))) (tName 6) mYes (mCallD (n := 1) [] (U.m_law_entry c) (aCons (mVar 0) aNil))) (aCons (mCallD (n := 1) [] (U.m_law_entry c) (aCons (mVar 0) aNil)) aNil))) (taTup 2 (taCons (aN (tName 2)) (taCons (aN (tName 3)) taNil))))
  (sSeq (sSet 4 (mCompF finL [5] (iLst (mVar 1)) (tName 5) mYes (mCompF finL [7, 8] (iZipA (aCons (mVar 5) (aCons (mVar 2) aNil))) (tSeq 2 (tCons (tName 7) (tCons (tName 8) tNil))) mYes (mCallD (n := 2) [] (U.m_law_sum c) (aCons (mVar 7) (aCons (mVar 8) aNil))))))
  (sSeq (sSet 4 (mCompF finL [5] (iLst (mVar 4)) (tName 5) mYes (m2 (U.pAdd c) (mVar 5) (mLst (aCons (mCallD (n := 2) [] (U.m_law_sum c) (aCons (mCallD (n := 2) [] (U.m_law_by c) (aCons (mVar 3) (aCons (m2 ixDD (mVar 5) (mC (.int 0))) aNil))) (aCons (m2 ixDD (mVar 5) (m1 (U.pNeg c) (mC (.int 1)))) aNil))) aNil)))))
  (sSeq (sIf (mB (m2 (U.pNe c) (mCallD (n := 1) [] (U.m_spokes c) (aCons (mCallD (n := 2) [] (U.m_law_given c) (aCons (mVar 0) (aCons (mVar 4) aNil))) aNil)) (mCallD (n := 1) [] (U.m_spokes c) (aCons (mCallD (n := 2) [] (U.m_law_given c) (aCons (mVar 0) (aCons (mVar 1) aNil))) aNil)))) (sRet (mC (.bl false))) sNext)
  (sSeq (sIf (mOrT (mB (m2 (U.pNe c) (mCallD (n := 1) [] (U.m_spokes c) (aCons (mLst (aCons (mLst (aCons (mC (.int 1)) (aCons (mC (.int 0)) aNil))) (aCons (mLst (aCons (mC (.int 2)) (aCons (mC (.int 3)) aNil))) (aCons (mLst (aCons (mC (.int 0)) (aCons (mC (.int 5)) aNil))) aNil)))) aNil)) (mLst (aCons (mLst aNil) (aCons (mLst aNil) (aCons (mLst aNil) aNil)))))) (mB (m2 (U.pNe c) (mCallD (n := 1) [] (U.m_told_sums c) (aCons (mLst (aCons (mLst (aCons (mC (.int 1)) aNil)) (aCons (mLst (aCons (mC (.int 4)) aNil)) aNil))) aNil)) (mLst aNil)))) (sRet (mC (.bl false))) sNext)
  (sRet (m2 (U.pEq c) (mCallD (n := 1) [] (U.m_spokes c) (aCons (mLst (aCons (mLst (aCons (mC (.int 0)) (aCons (mC (.int 0)) aNil))) (aCons (mLst (aCons (mC (.int 2)) (aCons (mC (.int 0)) aNil))) (aCons (mLst (aCons (mC (.int 1)) (aCons (mC (.int 0)) aNil))) (aCons (mLst (aCons (mC (.int 5)) (aCons (mC (.int 5)) aNil))) aNil))))) aNil)) (mLst (aCons (mLst (aCons (mMake 0 2 3 [.int (1)] (U.m_c0_init_ c) (aCons (mC (.int 1)) aNil)) aNil)) (aCons (mLst (aCons (mMake 0 2 3 [.int (1)] (U.m_c0_init_ c) (aCons (mC (.int 1)) aNil)) aNil)) (aCons (mLst (aCons (mMake 0 2 3 [.int (1)] (U.m_c0_init_ c) (aCons (m1 (U.pNeg c) (mC (.int 2))) aNil)) aNil)) (aCons (mLst (aCons (mMake 0 2 3 [.int (1)] (U.m_c0_init_ c) (aCons (mC (.int 0)) aNil)) aNil)) aNil)))))))))))))))
def m_law_right (c : Cfg) : List D → S → Res D := runBody 1 9 (W16.b_law_right c)
def b_law (c : Cfg) : Pm.Env → S → Res Fl := (sRet (mCallD (n := 1) [] (W16.m_law_right c) (aCons (mCallD (n := 2) [] (W16.m_law_pot c) (aCons (mVar 0) (aCons (mC (.int 0)) aNil))) aNil)))
def m_law (c : Cfg) : List D → S → Res D := runBody 1 1 (W16.b_law c)
end W16
set_option linter.all false
namespace Th
def Dv {α : Type} (g : α → Rat) : List α → (List α → Rat) → Rat
  | [], _ => 0
  | r :: Y, f => g r * f Y - Dv g Y fun Z => f (r :: Z)
theorem dv_lin {α : Type} (g : α → Rat) (a : Rat) : ∀ (Y : List α) (f f' : List α → Rat), Dv g Y (fun Z => a * f Z + f' Z) = a * Dv g Y f + Dv g Y f'
  | [], _, _ => by simp only [Dv]; grind
  | r :: Y, f, f' => by
    simp only [Dv]
    rw [dv_lin g a Y (fun Z => f (r :: Z)) (fun Z => f' (r :: Z))]
    grind
theorem dv_zero {α : Type} (g : α → Rat) : ∀ Y : List α, Dv g Y (fun _ => 0) = 0
  | [] => rfl
  | r :: Y => by simp only [Dv]; rw [dv_zero g Y]; grind
theorem dv_smul {α : Type} (g : α → Rat) (a : Rat) (Y : List α) (f : List α → Rat) : Dv g Y (fun Z => a * f Z) = a * Dv g Y f := by
  have := dv_lin g a Y f fun _ => 0
  rw [dv_zero] at this
  have e : (fun Z => a * f Z + 0) = fun Z => a * f Z := by funext Z; grind
  rw [e] at this
  grind
theorem dv_anti {α : Type} (a b : α → Rat) : ∀ (Y : List α) (f : List α → Rat), Dv a Y (fun Z => Dv b Z f) + Dv b Y (fun Z => Dv a Z f) = 0
  | [], _ => by simp only [Dv]; grind
  | r :: Y, f => by
    simp only [Dv]
    have e1 : (fun Z => b r * f Z - Dv b Z fun W => f (r :: W)) = fun Z => (-1) * (Dv b Z fun W => f (r :: W)) + b r * f Z := by funext Z; grind
    have e2 : (fun Z => a r * f Z - Dv a Z fun W => f (r :: W)) = fun Z => (-1) * (Dv a Z fun W => f (r :: W)) + a r * f Z := by funext Z; grind
    rw [e1, e2, dv_lin, dv_lin, dv_smul, dv_smul]
    have := dv_anti a b Y fun W => f (r :: W)
    grind
theorem dv_scale {α : Type} (g : α → Rat) (x y : Rat) : ∀ (Y : List α) (f : List α → Rat), Dv (fun r => g r * x) Y (fun Z => f Z * y) = Dv g Y f * (x * y)
  | [], _ => by simp only [Dv]; grind
  | r :: Y, f => by
    simp only [Dv]
    rw [dv_scale g x y Y fun Z => f (r :: Z)]
    grind
def mnr : List Nat → List Vc → Rat
  | [], _ => 1
  | c :: C, R => Dv (fun r => r c) R (mnr C)
theorem mnr_cons (c : Nat) (C : List Nat) (R : List Vc) : mnr (c :: C) R = Dv (fun r => r c) R (mnr C) := rfl
theorem mnr_fun (c : Nat) (C : List Nat) : mnr (c :: C) = fun R => Dv (fun r => r c) R (mnr C) := rfl
theorem mnr_swap (a b : Nat) (C : List Nat) (R : List Vc) : mnr (a :: b :: C) R = - mnr (b :: a :: C) R := by
  have := dv_anti (fun r : Vc => r a) (fun r => r b) R (mnr C)
  rw [mnr_cons, mnr_cons, mnr_fun, mnr_fun]
  grind
theorem mnr_rep : ∀ (C : List Nat) (j : Nat) (R : List Vc), j ∈ C → mnr (j :: C) R = 0
  | b :: C, j, R, h => by
    by_cases e : j = b
    · subst e
      have := mnr_swap j j C R
      grind
    · have hj : j ∈ C := by
        rcases List.mem_cons.mp h with q | q
        · exact absurd q e
        · exact q
      have z : mnr (j :: C) = fun _ => 0 := funext fun R => mnr_rep C j R hj
      rw [mnr_swap, mnr_cons, z, dv_zero]
      grind
theorem dv_sp : ∀ (R : List Vc) (f : List Vc → Rat), Sp R fun j => Dv (fun r => r j) R f
  | [], _ => (Sp.zero : Sp [] fun _ => 0)
  | r :: R, f => by
    have h1 := (Sp.mem (B := r :: R) (v := r) (by simp)).smul (f R)
    have h2 := (dv_sp R fun Z => f (r :: Z)).sub_of (C := r :: R) fun b hb => by simp [hb]
    have h := h1.sub h2
    have e : (fun i => f R * r i - Dv (fun r => r i) R fun Z => f (r :: Z)) = fun j => Dv (fun r => r j) (r :: R) f := by
      funext i
      simp only [Dv]
      grind
    rwa [e] at h
theorem mnr_sp (C : List Nat) (R : List Vc) : Sp R fun j => mnr (j :: C) R := dv_sp R (mnr C)
theorem mnr_first (C : List Nat) (a : Vc) (R : List Vc) : Sp R fun j => mnr C R * a j - mnr (j :: C) (a :: R) := by
  have h := dv_sp R fun Z => mnr C (a :: Z)
  have e : (fun j => Dv (fun r => r j) R fun Z => mnr C (a :: Z)) = fun j => mnr C R * a j - mnr (j :: C) (a :: R) := by
    funext j
    rw [mnr_cons]
    simp only [Dv]
    grind
  rwa [e] at h
theorem dual_cmb {v : Vc} : ∀ {l : List (Nat × Vc)}, Dual l → ∀ q ∈ l, ∀ i, cmb l q.2 i = q.2 i
  | p :: l, h, q, hq, i => by
    have hp := List.pairwise_cons.mp h.2
    have hl : Dual l := ⟨fun x hx => h.1 x (by simp [hx]), hp.2⟩
    rw [cmb_cons]
    rcases List.mem_cons.mp hq with rfl | hq
    · rw [h.1 q (by simp), cmb_zero l q.2 (fun r hr => (hp.1 r hr).1)]
      grind
    · rw [(hp.1 q hq).2, dual_cmb (v := v) hl q hq]
      grind
theorem dual_zero {l : List (Nat × Vc)} (h : Dual l) {v : Vc} (hv : Sp (rows l) v) (h0 : ∀ p ∈ l, v p.1 = 0) : v = fun _ => 0 := by
  have : ∀ i, cmb l v i = v i := by
    refine hv.all (P := fun v => ∀ i, cmb l v i = v i) (fun i => cmb_zero l _ (fun _ _ => rfl) i) (fun a b v _ hb hv i => ?_) fun b hb => ?_
    · rw [cmb_lin, hb, hv]
    · obtain ⟨q, hq, rfl⟩ := List.mem_map.mp hb
      exact dual_cmb (v := v) h q hq
  funext i
  rw [← this i, cmb_zero l v h0 i]
structure Crm (O : List Vc) (C : List Nat) (V : List Vc) (D : List (Nat × Vc)) (L : List Vc) : Prop where
  mem : ∀ v ∈ V, v ∈ O
  len : C.length = V.length
  dl : D.length = V.length
  ne : mnr C V ≠ 0
  dual : Dual D
  col : ∀ x, x ∈ C ↔ ∃ p ∈ D, p.1 = x
  vs : ∀ v ∈ V, Sp (rows D) v
  dn : ∀ p ∈ D, ∃ (Q : List Nat) (σ : Rat), σ * σ = 1 ∧ Q.length + 1 = C.length ∧ (∀ x, x ∈ C ↔ x = p.1 ∨ x ∈ Q) ∧ (∀ R, mnr (p.1 :: Q) R = σ * mnr C R) ∧ ∀ j, mnr (p.1 :: Q) V * p.2 j = mnr (j :: Q) V
  lf : ∀ r ∈ L, ∃ a ∈ O, ∀ j, mnr C V * r j = mnr (j :: C) (a :: V)
theorem Crm.start (O : List Vc) : Crm O [] [] [] O where
  mem := fun v hv => by simp at hv
  len := rfl
  dl := rfl
  ne := by simp [mnr]
  dual := ⟨fun p hp => by simp at hp, List.Pairwise.nil⟩
  col := fun x => by simp
  vs := fun v hv => by simp at hv
  dn := fun p hp => by simp at hp
  lf := fun r hr => ⟨r, hr, fun j => by simp [mnr, Dv]; grind⟩
variable {O : List Vc} {C : List Nat} {V : List Vc} {D : List (Nat × Vc)} {L : List Vc}
theorem Crm.zero (K : Crm O C V D L) {v : Vc} (hv : Sp V v) (h0 : ∀ x ∈ C, v x = 0) : v = fun _ => 0 :=
  dual_zero K.dual (hv.of K.vs) fun p hp => h0 p.1 ((K.col p.1).mpr ⟨p, hp, rfl⟩)
theorem Crm.lz (K : Crm O C V D L) {r : Vc} (hr : r ∈ L) : ∀ x ∈ C, r x = 0 := fun x hx => by
  obtain ⟨a, _, h⟩ := K.lf r hr
  have := h x
  rw [mnr_rep C x _ hx] at this
  rcases Rat.mul_eq_zero.mp this with q | q
  · exact absurd q K.ne
  · exact q
theorem Crm.lsp (K : Crm O C V D L) {r : Vc} (hr : r ∈ L) : ∃ a ∈ O, (∀ j, mnr C V * r j = mnr (j :: C) (a :: V)) ∧ Sp V fun j => a j - r j := by
  obtain ⟨a, ha, h⟩ := K.lf r hr
  refine ⟨a, ha, h, ?_⟩
  have := (mnr_first C a V).smul (mnr C V)⁻¹
  have e : (fun i => (mnr C V)⁻¹ * (mnr C V * a i - mnr (i :: C) (a :: V))) = fun j => a j - r j := by
    funext j
    rw [← h j]
    have := K.ne
    grind
  rwa [e] at this
theorem Crm.dsp (K : Crm O C V D L) {p : Nat × Vc} (hp : p ∈ D) : Sp V p.2 := by
  obtain ⟨Q, σ, h1, h2, h3, h4, h5⟩ := K.dn p hp
  have n0 : mnr (p.1 :: Q) V ≠ 0 := by
    rw [h4]
    have := K.ne
    intro z
    rcases Rat.mul_eq_zero.mp z with q | q
    · rw [q] at h1; grind
    · exact this q
  have := (mnr_sp Q V).smul (mnr (p.1 :: Q) V)⁻¹
  have e : (fun i => (mnr (p.1 :: Q) V)⁻¹ * mnr (i :: Q) V) = p.2 := by
    funext j
    rw [← h5 j]
    grind
  rwa [e] at this
theorem Crm.step (K : Crm O C V D L) {h : Vc} (hh : h ∈ L) {c : Nat} (hc : h c ≠ 0) {L' : List Vc} (hL : ∀ r ∈ L', ∃ r0 ∈ L, r = fun i => r0 i - r0 c * (h i / h c)) :
    ∃ a ∈ O, Crm O (c :: C) (a :: V) ((D.map fun p => (p.1, fun i => p.2 i - p.2 c * (h i / h c))) ++ [(c, fun i => h i / h c)]) L' := by
  obtain ⟨a, ha, ea, sa⟩ := K.lsp hh
  have hz := K.lz hh
  have n0 := K.ne
  have cC : c ∉ C := fun z => hc (hz c z)
  let st : Vc := fun i => h i / h c
  let D' : List (Nat × Vc) := (D.map fun p => (p.1, fun i => p.2 i - p.2 c * st i)) ++ [(c, st)]
  have stz : ∀ x ∈ C, st x = 0 := fun x hx => by show h x / h c = 0; rw [hz x hx]; grind
  have st1 : st c = 1 := by show h c / h c = 1; grind
  have n1 : mnr (c :: C) (a :: V) ≠ 0 := by
    rw [← ea c]
    intro z
    rcases Rat.mul_eq_zero.mp z with q | q
    · exact n0 q
    · exact hc q
  have pd : ∀ p ∈ D, p.1 ∈ C := fun p hp => (K.col p.1).mpr ⟨p, hp, rfl⟩
  have dual : Dual D' := by
    constructor
    · intro p hp
      rcases List.mem_append.mp hp with hp | hp
      · obtain ⟨q, hq, rfl⟩ := List.mem_map.mp hp
        show q.2 q.1 - q.2 c * st q.1 = 1
        rw [K.dual.1 q hq, stz q.1 (pd q hq)]
        grind
      · rw [List.mem_singleton.mp hp]; exact st1
    · rw [List.pairwise_append]
      refine ⟨?_, by simp, fun p hp q hq => ?_⟩
      · rw [List.pairwise_map]
        refine List.Pairwise.imp_of_mem ?_ K.dual.2
        intro p q hp hq ⟨h1, h2⟩
        constructor
        · show p.2 q.1 - p.2 c * st q.1 = 0
          rw [h1, stz q.1 (pd q hq)]; grind
        · show q.2 p.1 - q.2 c * st p.1 = 0
          rw [h2, stz p.1 (pd p hp)]; grind
      · obtain ⟨p', hp', rfl⟩ := List.mem_map.mp hp
        rw [List.mem_singleton.mp hq]
        constructor
        · show p'.2 c - p'.2 c * st c = 0
          rw [st1]; grind
        · exact stz p'.1 (pd p' hp')
  have stD : Sp (rows D') st := .mem (by simp [rows, D'])
  have DD : ∀ p ∈ D, Sp (rows D') p.2 := fun p hp => by
    have h1 : Sp (rows D') (fun i => p.2 i - p.2 c * st i) := .mem (List.mem_map.mpr ⟨(p.1, fun i => p.2 i - p.2 c * st i), List.mem_append_left _ (List.mem_map.mpr ⟨p, hp, rfl⟩), rfl⟩)
    have h2 := h1.add (stD.smul (p.2 c))
    have e : (fun i => (p.2 i - p.2 c * st i) + p.2 c * st i) = p.2 := by funext i; grind
    rwa [e] at h2
  have VD : ∀ v ∈ V, Sp (rows D') v := fun v hv => (K.vs v hv).of fun b hb => by
    obtain ⟨p, hp, rfl⟩ := List.mem_map.mp hb
    exact DD p hp
  have hD : Sp (rows D') h := by
    have := stD.smul (h c)
    have e : (fun i => h c * st i) = h := by funext i; show h c * (h i / h c) = h i; grind
    rwa [e] at this
  have aD : Sp (rows D') a := by
    have := (sa.of VD).add hD
    have e : (fun i => (a i - h i) + h i) = a := by funext i; grind
    rwa [e] at this
  have vs : ∀ v ∈ a :: V, Sp (rows D') v := fun v hv => by
    rcases List.mem_cons.mp hv with rfl | hv
    · exact aD
    · exact VD v hv
  have col : ∀ x, x ∈ c :: C ↔ ∃ p ∈ D', p.1 = x := fun x => by
    constructor
    · intro hx
      rcases List.mem_cons.mp hx with rfl | hx
      · exact ⟨(x, st), by simp [D'], rfl⟩
      · obtain ⟨p, hp, e⟩ := (K.col x).mp hx
        exact ⟨_, List.mem_append_left _ (List.mem_map.mpr ⟨p, hp, rfl⟩), e⟩
    · rintro ⟨p, hp, rfl⟩
      rcases List.mem_append.mp hp with hp | hp
      · obtain ⟨q, hq, rfl⟩ := List.mem_map.mp hp
        exact List.mem_cons_of_mem _ (pd q hq)
      · rw [List.mem_singleton.mp hp]; simp
  have zero : ∀ {v : Vc}, Sp (a :: V) v → (∀ x ∈ c :: C, v x = 0) → v = fun _ => 0 := fun hv h0 => dual_zero dual (hv.of vs) fun p hp => h0 p.1 ((col p.1).mpr ⟨p, hp, rfl⟩)
  have up : ∀ {v : Vc}, Sp V v → Sp (a :: V) v := fun hv => hv.sub_of fun b hb => by simp [hb]
  have stV : Sp (a :: V) st := by
    have h1 : Sp (a :: V) a := .mem (by simp)
    have h2 := (h1.sub (up sa)).smul (h c)⁻¹
    have e : (fun i => (h c)⁻¹ * (a i - (a i - h i))) = st := by funext i; show _ = h i / h c; grind
    rwa [e] at h2
  have dsp : ∀ p ∈ D, Sp (a :: V) fun i => p.2 i - p.2 c * st i := fun p hp => (up (K.dsp hp)).sub (stV.smul (p.2 c))
  refine ⟨a, ha, fun v hv => ?_, by simp [K.len], by simp [K.dl], n1, dual, col, vs, fun p hp => ?_, fun r hr => ?_⟩
  · rcases List.mem_cons.mp hv with rfl | hv
    · exact ha
    · exact K.mem v hv
  · rcases List.mem_append.mp hp with hp | hp
    · obtain ⟨q, hq, rfl⟩ := List.mem_map.mp hp
      obtain ⟨Q, σ, h1, h2, h3, h4, h5⟩ := K.dn q hq
      have s4 : ∀ R, mnr (q.1 :: c :: Q) R = -σ * mnr (c :: C) R := fun R => by
        have z : mnr (q.1 :: Q) = fun R => σ * mnr C R := funext h4
        rw [mnr_swap, mnr_cons, z, dv_smul, ← mnr_cons]
        grind
      have qQ : q.1 ≠ c := fun z => cC (by rw [← z]; exact pd q hq)
      have hm : mnr (q.1 :: c :: Q) (a :: V) ≠ 0 := by
        rw [s4]
        intro z
        rcases Rat.mul_eq_zero.mp z with y | y
        · have : σ = 0 := by grind
          rw [this] at h1; grind
        · exact n1 y
      refine ⟨c :: Q, -σ, by grind, by simp [← h2], fun x => ?_, s4, fun j => ?_⟩
      · simp only [List.mem_cons, h3 x]
        constructor
        · rintro (h | h | h)
          · exact .inr (.inl h)
          · exact .inl h
          · exact .inr (.inr h)
        · rintro (h | h | h)
          · exact .inr (.inl h)
          · exact .inl h
          · exact .inr (.inr h)
      · have hs : Sp (a :: V) fun j => mnr (q.1 :: c :: Q) (a :: V) * (q.2 j - q.2 c * st j) - mnr (j :: c :: Q) (a :: V) := ((dsp q hq).smul _).sub (mnr_sp (c :: Q) (a :: V))
        have hz' := zero hs fun x hx => by
          show mnr (q.1 :: c :: Q) (a :: V) * (q.2 x - q.2 c * st x) - mnr (x :: c :: Q) (a :: V) = 0
          rcases List.mem_cons.mp hx with rfl | hx
          · rw [st1, mnr_rep (x :: Q) x _ (by simp)]
            grind
          · rw [stz x hx]
            by_cases e : x = q.1
            · subst e
              rw [K.dual.1 q hq]
              grind
            · have hxQ : x ∈ Q := by
                rcases (h3 x).mp hx with y | y
                · exact absurd y e
                · exact y
              rw [mnr_rep (c :: Q) x _ (by simp [hxQ])]
              have z5 := h5 x
              rw [mnr_rep Q x _ hxQ] at z5
              have : mnr (q.1 :: Q) V ≠ 0 := by
                rw [h4]
                intro z
                rcases Rat.mul_eq_zero.mp z with y | y
                · rw [y] at h1; grind
                · exact n0 y
              have : q.2 x = 0 := by
                rcases Rat.mul_eq_zero.mp z5 with y | y
                · exact absurd y this
                · exact y
              rw [this]
              grind
        have := congrFun hz' j
        show mnr (q.1 :: c :: Q) (a :: V) * (q.2 j - q.2 c * st j) = _
        have t : mnr (q.1 :: c :: Q) (a :: V) * (q.2 j - q.2 c * st j) - mnr (j :: c :: Q) (a :: V) = 0 := this
        grind
    · rw [List.mem_singleton.mp hp]
      refine ⟨C, 1, by grind, by simp, fun x => by simp, fun R => by rw [Rat.one_mul], fun j => ?_⟩
      show mnr (c :: C) (a :: V) * (h j / h c) = mnr (j :: C) (a :: V)
      rw [← ea c, ← ea j]
      grind
  · obtain ⟨r0, hr0, rfl⟩ := hL r hr
    obtain ⟨b, hb, eb, sb⟩ := K.lsp hr0
    refine ⟨b, hb, fun j => ?_⟩
    have f1 := mnr_first (c :: C) b (a :: V)
    have f2 : Sp (a :: V) fun j => b j - (r0 j - r0 c * st j) := by
      have := (up sb).add (stV.smul (r0 c))
      have e : (fun i => (b i - r0 i) + r0 c * st i) = fun j => b j - (r0 j - r0 c * st j) := by funext i; grind
      rwa [e] at this
    have hs := f1.sub (f2.smul (mnr (c :: C) (a :: V)))
    have hz' := zero hs fun x hx => by
      show (mnr (c :: C) (a :: V) * b x - mnr (x :: c :: C) (b :: a :: V)) - mnr (c :: C) (a :: V) * (b x - (r0 x - r0 c * st x)) = 0
      rw [mnr_rep (c :: C) x _ hx]
      have : r0 x - r0 c * st x = 0 := by
        rcases List.mem_cons.mp hx with rfl | hx
        · rw [st1]; grind
        · rw [K.lz hr0 x hx, stz x hx]; grind
      rw [this]
      grind
    have t : (mnr (c :: C) (a :: V) * b j - mnr (j :: c :: C) (b :: a :: V)) - mnr (c :: C) (a :: V) * (b j - (r0 j - r0 c * st j)) = 0 := congrFun hz' j
    show mnr (c :: C) (a :: V) * (r0 j - r0 c * st j) = _
    grind
end Th
set_option linter.all false
namespace Th
def Zb (N : Nat) (q : Rat) : Prop := ∃ z : Int, q = z ∧ z.natAbs ≤ N
theorem Zb.mono {M N : Nat} {q : Rat} (h : Zb M q) (l : M ≤ N) : Zb N q := by
  obtain ⟨z, e, b⟩ := h
  exact ⟨z, e, Nat.le_trans b l⟩
theorem Zb.sub {M N : Nat} {p q : Rat} (hp : Zb M p) (hq : Zb N q) : Zb (M + N) (p - q) := by
  obtain ⟨y, rfl, b1⟩ := hp
  obtain ⟨z, rfl, b2⟩ := hq
  exact ⟨y - z, by rw [Rat.intCast_sub], by omega⟩
theorem Zb.mul {M N : Nat} {p q : Rat} (hp : Zb M p) (hq : Zb N q) : Zb (M * N) (p * q) := by
  obtain ⟨y, rfl, b1⟩ := hp
  obtain ⟨z, rfl, b2⟩ := hq
  exact ⟨y * z, by rw [Rat.intCast_mul], by rw [Int.natAbs_mul]; exact Nat.mul_le_mul b1 b2⟩
theorem dv_bd {α : Type} {g : α → Rat} {M : Nat} : ∀ (R : List α) (f : List α → Rat) (N : Nat), (∀ r ∈ R, Zb M (g r)) → (∀ Z : List α, Z.length + 1 = R.length → (∀ z ∈ Z, z ∈ R) → Zb N (f Z)) → Zb (R.length * (M * N)) (Dv g R f)
  | [], f, N, _, _ => ⟨0, rfl, by simp⟩
  | r :: Y, f, N, h, k => by
    have h1 := (h r (by simp)).mul (k Y rfl fun z hz => by simp [hz])
    have h2 := dv_bd Y (fun Z => f (r :: Z)) N (fun x hx => h x (by simp [hx])) fun Z hl hz => k (r :: Z) (by simp [← hl]) fun z hm => by
      rcases List.mem_cons.mp hm with rfl | hm
      · simp
      · exact List.mem_cons_of_mem _ (hz z hm)
    have := h1.sub h2
    refine Zb.mono this ?_
    rw [List.length_cons, Nat.add_mul, Nat.one_mul, Nat.add_comm]
    exact Nat.le_refl _
def pr (δ : Nat → Nat) : List Nat → Rat
  | [] => 1
  | c :: C => (δ c : Rat) * pr δ C
theorem mnr_bd {δ : Nat → Nat} {M : Nat} : ∀ (C : List Nat) (R : List Vc), C.length = R.length → R.length ≤ 16 → (∀ r ∈ R, ∀ c ∈ C, Zb M (r c * (δ c : Rat))) → Zb ((16 * M) ^ C.length) (mnr C R * pr δ C)
  | [], R, _, _, _ => ⟨1, by simp [mnr, pr], by simp⟩
  | c :: C, R, hl, h16, h => by
    have e : mnr (c :: C) R * pr δ (c :: C) = Dv (fun r => r c * (δ c : Rat)) R fun Z => mnr C Z * pr δ C := by
      rw [dv_scale, mnr_cons, pr]
    rw [e]
    have := dv_bd (g := fun r : Vc => r c * (δ c : Rat)) (M := M) R (fun Z => mnr C Z * pr δ C) ((16 * M) ^ C.length) (fun r hr => h r hr c (by simp)) fun Z hz hm => mnr_bd C Z (by simp at hl; omega) (by omega) fun r hr x hx => h r (hm r hr) x (by simp [hx])
    refine this.mono ?_
    rw [List.length_cons, Nat.pow_succ, ← Nat.mul_assoc, Nat.mul_comm ((16 * M) ^ C.length)]
    exact Nat.mul_le_mul_right _ (Nat.mul_le_mul_right _ h16)
theorem pr_ne {δ : Nat → Nat} (h : ∀ j, 0 < δ j) : ∀ C, pr δ C ≠ 0
  | [] => by simp [pr]
  | c :: C => by
    intro z
    rcases Rat.mul_eq_zero.mp z with y | y
    · have e : (δ c : Rat) = ((δ c : Int) : Rat) := rfl
      rw [e] at y
      have := (Rat.intCast_inj (a := (δ c : Int)) (b := 0)).mp y
      have := h c
      omega
    · exact pr_ne h C y
variable {O : List Vc} {C : List Nat} {V : List Vc} {D : List (Nat × Vc)} {L : List Vc} {δ : Nat → Nat} {M : Nat}
theorem Crm.left (K : Crm O C V D L) (h0 : ∀ j, 0 < δ j) (hO : ∀ a ∈ O, ∀ j, Zb M (a j * (δ j : Rat))) (ht : C.length ≤ 15) {r : Vc} (hr : r ∈ L) :
    ∃ x : Int, x ≠ 0 ∧ x.natAbs ≤ (16 * M) ^ C.length ∧ ∀ j, ∃ y : Int, r j * (δ j : Rat) * (x : Rat) = y ∧ y.natAbs ≤ (16 * M) ^ (C.length + 1) := by
  obtain ⟨a, ha, e⟩ := K.lf r hr
  have hl := K.len
  obtain ⟨x, ex, bx⟩ := mnr_bd (δ := δ) (M := M) C V hl (by omega) fun v hv c _ => hO v (K.mem v hv) c
  refine ⟨x, fun z => ?_, bx, fun j => ?_⟩
  · subst z
    rcases Rat.mul_eq_zero.mp ex with y | y
    · exact K.ne y
    · exact pr_ne h0 C y
  · obtain ⟨y, ey, by'⟩ := mnr_bd (δ := δ) (M := M) (j :: C) (a :: V) (by simp [hl]) (by simp; omega) fun v hv c _ => hO v (by
      rcases List.mem_cons.mp hv with rfl | hv
      · exact ha
      · exact K.mem v hv) c
    refine ⟨y, ?_, by'⟩
    rw [← ey, ← ex, ← e j, pr]
    grind
theorem Crm.done (K : Crm O C V D L) (h0 : ∀ j, 0 < δ j) (hO : ∀ a ∈ O, ∀ j, Zb M (a j * (δ j : Rat))) (ht : C.length ≤ 15) {p : Nat × Vc} (hp : p ∈ D) :
    ∃ x : Int, x ≠ 0 ∧ x.natAbs ≤ (16 * M) ^ C.length ∧ ∀ j, ∃ y : Int, p.2 j * (δ j : Rat) * (x : Rat) = (δ p.1 : Rat) * y ∧ y.natAbs ≤ (16 * M) ^ C.length := by
  obtain ⟨Q, σ, h1, h2, h3, h4, h5⟩ := K.dn p hp
  have hl := K.len
  have n0 : mnr (p.1 :: Q) V ≠ 0 := by
    rw [h4]
    intro z
    rcases Rat.mul_eq_zero.mp z with q | q
    · rw [q] at h1; grind
    · exact K.ne q
  have lq : ∀ j : Nat, (j :: Q).length = C.length := fun j => by simp [h2]
  obtain ⟨x, ex, bx⟩ := mnr_bd (δ := δ) (M := M) (p.1 :: Q) V (by rw [lq, hl]) (by omega) fun v hv c _ => hO v (K.mem v hv) c
  rw [lq] at bx
  refine ⟨x, fun z => ?_, bx, fun j => ?_⟩
  · subst z
    rcases Rat.mul_eq_zero.mp ex with y | y
    · exact n0 y
    · exact pr_ne h0 _ y
  · obtain ⟨y, ey, by'⟩ := mnr_bd (δ := δ) (M := M) (j :: Q) V (by rw [lq, hl]) (by omega) fun v hv c _ => hO v (K.mem v hv) c
    rw [lq] at by'
    refine ⟨y, ?_, by'⟩
    rw [← ey, ← ex, ← h5 j, pr, pr]
    grind
end Th
set_option Elab.async false
set_option linter.all false
set_option maxRecDepth 100000
set_option maxHeartbeats 1000000
set_option exponentiation.threshold 20000
namespace W16
open Pm hiding rowP
open PySem U W12
def SL (δ : Nat → Nat) (k : Nat) (r : List Rat) : Prop := ∃ d : Nat, 0 < d ∧ d < 2 ^ k ∧ ∀ j, ∃ z : Int, vq r j * (δ j : Rat) * (d : Rat) = z ∧ z.natAbs < 2 ^ k
def SD (δ : Nat → Nat) (k p : Nat) (r : List Rat) : Prop := ∃ d : Nat, 0 < d ∧ d < 2 ^ k ∧ ∀ j, ∃ z : Int, vq r j * (δ j : Rat) * (d : Rat) = (δ p : Rat) * z ∧ z.natAbs < 2 ^ k
variable {δ : Nat → Nat} {B k p : Nat} {r h : List Rat}
abbrev Dl (δ : Nat → Nat) (B : Nat) : Prop := ∀ j, 0 < δ j ∧ δ j < 2 ^ B
theorem abs_or {z : Int} : ((z.natAbs : Nat) : Rat) = (z : Rat) ∨ ((z.natAbs : Nat) : Rat) = -(z : Rat) := by
  rcases Int.natAbs_eq z with q | q
  · left
    conv => rhs; rw [q]
    rfl
  · right
    conv => rhs; rw [q]
    rw [Rat.intCast_neg]
    show ((z.natAbs : Nat) : Rat) = - -((z.natAbs : Nat) : Rat)
    grind
theorem sl_of {N : Nat} (h : ∃ x : Int, x ≠ 0 ∧ x.natAbs ≤ N ∧ ∀ j, ∃ y : Int, vq r j * (δ j : Rat) * (x : Rat) = y ∧ y.natAbs ≤ N) (hN : N < 2 ^ k) : SL δ k r := by
  obtain ⟨x, x0, xb, f⟩ := h
  refine ⟨x.natAbs, by omega, by omega, fun j => ?_⟩
  obtain ⟨y, e, b⟩ := f j
  rcases abs_or (z := x) with q | q
  · exact ⟨y, by rw [q, e], by omega⟩
  · exact ⟨-y, by rw [q, Rat.intCast_neg, ← e]; grind, by omega⟩
theorem sd_of {N : Nat} (h : ∃ x : Int, x ≠ 0 ∧ x.natAbs ≤ N ∧ ∀ j, ∃ y : Int, vq r j * (δ j : Rat) * (x : Rat) = (δ p : Rat) * y ∧ y.natAbs ≤ N) (hN : N < 2 ^ k) : SD δ k p r := by
  obtain ⟨x, x0, xb, f⟩ := h
  refine ⟨x.natAbs, by omega, by omega, fun j => ?_⟩
  obtain ⟨y, e, b⟩ := f j
  rcases abs_or (z := x) with q | q
  · exact ⟨y, by rw [q, e], by omega⟩
  · refine ⟨-y, ?_, by omega⟩
    rw [q, Rat.intCast_neg]
    have : vq r j * (δ j : Rat) * -(x : Rat) = -(vq r j * (δ j : Rat) * (x : Rat)) := by grind
    rw [this, e]
    grind
structure Mes (O : List Th.Vc) (δ : Nat → Nat) (B n k : Nat) : Prop where
  dl : Dl δ B
  n14 : n ≤ 14
  kb : B + 2 * k ≤ 2000
  ex : ∃ M : Nat, 0 < M ∧ (∀ a ∈ O, ∀ j, Th.Zb M (a j * (δ j : Rat))) ∧ (16 * M) ^ (n + 1) < 2 ^ k
theorem Mes.left {O : List Th.Vc} {n : Nat} (H : Mes O δ B n k) {C : List Nat} {V : List Th.Vc} {D : List (Nat × Th.Vc)} {L : List Th.Vc} (K : Th.Crm O C V D L) (hn : D.length ≤ n) (hr : vq r ∈ L) : SL δ k r := by
  obtain ⟨M, m0, mz, mb⟩ := H.ex
  have hl : C.length ≤ n := by rw [K.len, ← K.dl]; exact hn
  obtain ⟨x, x0, xb, f⟩ := K.left (fun j => (H.dl j).1) mz (by have := H.n14; omega) hr
  have u1 : (16 * M) ^ C.length ≤ (16 * M) ^ (n + 1) := Nat.pow_le_pow_right (by omega) (by omega)
  have u2 : (16 * M) ^ (C.length + 1) ≤ (16 * M) ^ (n + 1) := Nat.pow_le_pow_right (by omega) (by omega)
  exact sl_of ⟨x, x0, Nat.le_trans xb u1, fun j => let ⟨y, e, b⟩ := f j; ⟨y, e, Nat.le_trans b u2⟩⟩ mb
theorem Mes.done {O : List Th.Vc} {n : Nat} (H : Mes O δ B n k) {C : List Nat} {V : List Th.Vc} {D : List (Nat × Th.Vc)} {L : List Th.Vc} (K : Th.Crm O C V D L) (hn : D.length ≤ n) (hr : (p, vq r) ∈ D) : SD δ k p r := by
  obtain ⟨M, m0, mz, mb⟩ := H.ex
  have hl : C.length ≤ n := by rw [K.len, ← K.dl]; exact hn
  obtain ⟨x, x0, xb, f⟩ := K.done (fun j => (H.dl j).1) mz (by have := H.n14; omega) hr
  have u1 : (16 * M) ^ C.length ≤ (16 * M) ^ (n + 1) := Nat.pow_le_pow_right (by omega) (by omega)
  exact sd_of ⟨x, x0, Nat.le_trans xb u1, fun j => let ⟨y, e, b⟩ := f j; ⟨y, e, Nat.le_trans b u1⟩⟩ mb
end W16
set_option Elab.async false
set_option linter.all false
set_option maxRecDepth 100000
set_option maxHeartbeats 1000000
set_option exponentiation.threshold 20000
namespace W16
open Pm hiding rowP
open PySem U W12
variable {c : Cfg} {s : S}
structure Inv (O : List Th.Vc) (w n : Nat) (col : Nat) (P : List (Nat × List Rat)) (lf : List (List Rat)) : Prop where
  len : ∀ p ∈ P, p.2.length = w
  lfl : ∀ r ∈ lf, r.length = w
  cnt : P.length + lf.length ≤ n
  one : ∀ p ∈ P, vq p.2 p.1 = 1
  swp : Th.Swp O col (P.map fun p => (p.1, vq p.2)) (lf.map vq)
  crm : ∃ C V, Th.Crm O C V (P.map fun p => (p.1, vq p.2)) (lf.map vq)
end W16
set_option Elab.async false
set_option linter.all false
set_option maxRecDepth 100000
set_option maxHeartbeats 400000
namespace Wd
open Pm PySem
def b_is_integer (k : Nat) : Pm.Env → S → Res Fl := (sRet (mAnd (mCall (bIs k) (aCons (mVar 0) (aCons (mC (.ty .int)) aNil))) (mNotV (mCall (bIs k) (aCons (mVar 0) (aCons (mC (.ty .bool)) aNil))))))
def m_is_integer (k : Nat) : List D → S → Res D := runBody 1 1 (b_is_integer k)
def b_is_list (k : Nat) : Pm.Env → S → Res Fl := (sRet (mCall (bIs k) (aCons (mVar 0) (aCons (mTup (aCons (mC (.ty .list)) (aCons (mC (.ty .tuple)) aNil))) aNil))))
def m_is_list (k : Nat) : List D → S → Res D := runBody 1 1 (b_is_list k)
def b_parts_of (k : Nat) (rec : List D → S → Res D) : Pm.Env → S → Res Fl := (sSeq (sIf (mB (m2 (eqP false) (mVar 1) (mC (.int 1)))) (sRet (mLst (aCons (mLst (aCons (mVar 0) aNil)) aNil))) sNext)
  (sRet (mComp2 [2, 3] [3] (iR2 (aCons (mC (.int 1)) (aCons (m2 addAll (m2 subI (mVar 0) (mVar 1)) (mC (.int 2))) aNil))) (tName 2) mYes (iLT (mCallD (n := 2) [] rec (aCons (m2 subI (mVar 0) (mVar 2)) (aCons (m2 subI (mVar 1) (mC (.int 1))) aNil)))) (tName 3) mYes (mLst (aCons (mVar 2) (aStar (mVar 3) aNil))))))
def n_parts_of (k : Nat) : Nat → List D → S → Res D
  | 0 => fun _ _ => .stuck
  | n + 1 => runBody 2 4 (b_parts_of k (n_parts_of k n))
def m_parts_of (k : Nat) : List D → S → Res D := (n_parts_of k) 10
end Wd
set_option Elab.async false
set_option linter.all false
set_option maxRecDepth 100000
set_option maxHeartbeats 400000
set_option exponentiation.threshold 5000
namespace Wd
open Pm PySem
variable {k : Nat}
def cnt : D → Bool
  | .int n => decide (0 ≤ n)
  | _ => false
def plain : D → Bool
  | .ins _ _ => false
  | d => okN d
theorem sx_in {n i d : Nat} (h : i ≤ n) : sxD n d (some (i : Int)) = i := by
  unfold sxD
  show (if (i : Int) < 0 then _ else _) = i
  rw [if_neg (by omega)]
  simp
  omega
theorem cut_drop {α : Type} (f : α → D) (ns : List α) (i : Nat) (h : i ≤ ns.length) : cutD (ns.map f) (some (i : Int)) none = (ns.drop i).map f := by
  unfold cutD
  rw [List.length_map, sx_in h]
  have e : sxD ns.length ns.length none = ns.length := rfl
  rw [e, ← List.map_drop, List.take_of_length_le (by simp)]
theorem cut_take {α : Type} (f : α → D) (ns : List α) (i : Nat) (h : i ≤ ns.length) : cutD (ns.map f) none (some (i : Int)) = (ns.take i).map f := by
  unfold cutD
  rw [List.length_map, sx_in h]
  have e : sxD ns.length 0 none = 0 := rfl
  rw [e, List.drop_zero, Nat.sub_zero, ← List.map_take]
end Wd
set_option Elab.async false
set_option linter.all false
set_option maxRecDepth 100000
set_option maxHeartbeats 1000000
set_option exponentiation.threshold 20000
set_option linter.all false
set_option Elab.async false
set_option linter.all false
set_option maxRecDepth 100000
set_option maxHeartbeats 1000000
set_option exponentiation.threshold 20000
namespace W16
open Pm hiding rowP
open PySem U W12
variable {c : Cfg} {s : S}
abbrev TT (s : S) (F : List (List Rat)) (q : Nat) : S := s ++ (.lst (F.map rowP) :: List.replicate q .dead)
end W16
set_option Elab.async false
set_option linter.all false
set_option maxRecDepth 100000
set_option maxHeartbeats 1000000
set_option exponentiation.threshold 20000
set_option Elab.async false
set_option linter.all false
set_option maxRecDepth 100000
set_option maxHeartbeats 1000000
set_option exponentiation.threshold 20000
namespace W16
open Pm hiding rowP
open PySem U W12
variable {c : Cfg} {s : S}
abbrev outC (k : Nat) (X : List (List Rat)) : Cell := .lst ((List.range X.length).map fun i => .cell (k + i))
end W16
set_option linter.all false
set_option Elab.async false
set_option linter.all false
set_option maxRecDepth 100000
set_option maxHeartbeats 1000000
set_option exponentiation.threshold 20000
namespace W16
open Pm hiding rowP
open PySem U W12
variable {c : Cfg} {s : S}
abbrev TS (s : S) (X : List (List Rat)) (j : Nat) : S := s ++ ((X.take j).map fun r => Cell.lst (r.map rq ++ [.non])) ++ (X.drop j).map (fun r => Cell.lst (r.map rq)) ++ [outC s.length X]
end W16
set_option Elab.async false
set_option linter.all false
set_option maxRecDepth 100000
set_option maxHeartbeats 2000000
set_option exponentiation.threshold 20000
set_option Elab.async false
set_option linter.all false
set_option maxRecDepth 100000
set_option maxHeartbeats 2000000
set_option exponentiation.threshold 20000
set_option Elab.async false
set_option linter.all false
set_option maxRecDepth 100000
set_option maxHeartbeats 2000000
namespace U
open Pm PySem
variable {c : Cfg} {s : S}
abbrev EB (w n : Int) : Pm.Env := [some (.cell 0), some (.int w), some (.int n), none, none, none, none, none, none]
abbrev P1 (a b : Int) : S := [.lst [.int a, .int b]]
end U
set_option Elab.async false
set_option linter.all false
set_option maxRecDepth 100000
set_option maxHeartbeats 2000000
set_option exponentiation.threshold 20000
open U (Cfg)
set_option Elab.async false
set_option linter.all false
set_option maxRecDepth 100000
set_option maxHeartbeats 400000
namespace W15
open Pm PySem
def pRepr (c : Cfg) : List D → S → Res D := fun x s => ((bReprN 0 (U.m_c0_repr_ c) x s).or (bReprS x s)).or (bReprK x s)
def b_law_pot (c : Cfg) : Pm.Env → S → Res Fl := (sSeq (sSet 2 (m2 (U.pAdd c) (m2 (U.pMul c) (mC (.int 149)) (mVar 1)) (mC (.int 71))))
  (sSeq (sIf (mB (m2 ltA (mVar 1) (mCall bLenA (aCons (mVar 0) aNil)))) (sSet 2 (mCall (bInt1 fun i => .int (absI i)) (aCons (m2 ixDD (mVar 0) (mVar 1)) aNil))) sNext)
  (sRet (mCell (aCons (mCall (bInt2 (fun _ _ => true) fun i j => .int (maxI i j)) (aCons (mC (.int 0)) (aCons (m2 (U.pSub c) (mVar 2) (m2 powI (mC (.int 10)) (mC (.int 18)))) aNil))) (aCons (m2 (U.pAdd c) (m2 modI (m2 (U.pMul c) (mCall (bInt1 fun i => .int i) (aCons (m2 (U.pAdd c) (m2 modI (mCall (bInt1 fun i => .int i) (aCons (mVar 2) aNil)) (mC (.int 2147483549))) (mC (.int 71))) aNil)) (m2 powI (m2 (U.pAdd c) (m2 (U.pMul c) (mC (.int 2)) (mVar 1)) (mC (.int 3))) (mC (.int 3)))) (mC (.int 2147483477))) (mC (.int 1))) aNil))))))
def m_law_pot (c : Cfg) : List D → S → Res D := runBody 2 3 (W15.b_law_pot c)
def b_law_is_number (c : Cfg) : Pm.Env → S → Res Fl := (sRet (mOr (mCall (bIs c.k) (aCons (mVar 0) (aCons (mC (.cls 0)) aNil))) (mAnd (mCall (bIs c.k) (aCons (mVar 0) (aCons (mC (.ty .int)) aNil))) (mNotV (mCall (bIs c.k) (aCons (mVar 0) (aCons (mC (.ty .bool)) aNil)))))))
def m_law_is_number (c : Cfg) : List D → S → Res D := runBody 1 1 (W15.b_law_is_number c)
def b_law_is_row (c : Cfg) : Pm.Env → S → Res Fl := (sRet (mAnd (mCall (bIs c.k) (aCons (mVar 0) (aCons (mTup (aCons (mC (.ty .list)) (aCons (mC (.ty .tuple)) aNil))) aNil))) (mAnd (m2 (U.pEq c) (mCall bLenA (aCons (mVar 0) aNil)) (mVar 1)) (mCall (bBools fun bs => bs.all id) (aCons (mCompF finL [2] (iLT (mVar 0)) (tName 2) mYes (mCallD (n := 1) [] (W15.m_law_is_number c) (aCons (mVar 2) aNil))) aNil)))))
def m_law_is_row (c : Cfg) : List D → S → Res D := runBody 2 3 (W15.b_law_is_row c)
def b_law_are_points (c : Cfg) : Pm.Env → S → Res Fl := (sSeq (sIf (mOrT (mNotT (mBt (mCall (bIs c.k) (aCons (mVar 0) (aCons (mTup (aCons (mC (.ty .list)) (aCons (mC (.ty .tuple)) aNil))) aNil))))) (mNotT (mB (mChain leI leI (mC (.int 2)) (mCall bLenA (aCons (mVar 0) aNil)) (mC (.int 9)))))) (sRet (mC (.bl false))) sNext)
  (sSeq (sIf (mOrT (mNotT (mBt (mCall (bIs c.k) (aCons (m2 ixDD (mVar 0) (mC (.int 0))) (aCons (mTup (aCons (mC (.ty .list)) (aCons (mC (.ty .tuple)) aNil))) aNil))))) (mNotT (mB (mChain leI leI (mC (.int 1)) (mCall bLenA (aCons (m2 ixDD (mVar 0) (mC (.int 0))) aNil)) (mC (.int 8)))))) (sRet (mC (.bl false))) sNext)
  (sRet (mCall (bBools fun bs => bs.all id) (aCons (mCompF finL [1] (iLT (mVar 0)) (tName 1) mYes (mCallD (n := 2) [] (W15.m_law_is_row c) (aCons (mVar 1) (aCons (mCall bLenA (aCons (m2 ixDD (mVar 0) (mC (.int 0))) aNil)) aNil)))) aNil)))))
def m_law_are_points (c : Cfg) : List D → S → Res D := runBody 1 2 (W15.b_law_are_points c)
def b_law_is_form (c : Cfg) : Pm.Env → S → Res Fl := (sSeq (sIf (mOrT (mNotT (mBt (mCall (bIs c.k) (aCons (mVar 0) (aCons (mC (.ty .tuple)) aNil))))) (mB (m2 (U.pNe c) (mCall bLenA (aCons (mVar 0) aNil)) (mC (.int 2))))) (sRet (mC (.bl false))) sNext)
  (sRet (mAnd (mCallD (n := 2) [] (W15.m_law_is_row c) (aCons (m2 ixDD (mVar 0) (mC (.int 0))) (aCons (mVar 1) aNil))) (mCallD (n := 1) [] (W15.m_law_is_number c) (aCons (m2 ixDD (mVar 0) (mC (.int 1))) aNil)))))
def m_law_is_form (c : Cfg) : List D → S → Res D := runBody 2 2 (W15.b_law_is_form c)
def b_law_bent_points (c : Cfg) : Pm.Env → S → Res Fl := (sSeq (sPar 2 3 (aCons (mCallD (n := 2) [] c.dr (aCons (mVar 0) (aCons (mCall bLenA (aCons (mVar 1) aNil)) aNil))) (aCons (mCallD (n := 2) [] (U.m_law_pick c) (aCons (mVar 0) (aCons (mLst (aCons (mC .non) (aCons (mC (.bl true)) (aCons (mC (.str "1")) (aCons (mLst (aCons (mC (.int 1)) aNil)) (aCons mDct0 (aCons (mTup aNil) aNil))))))) aNil))) aNil)))
  (sSeq (sSet 4 (mCall bList (aCons (m2 ixDD (mVar 1) (mVar 2)) aNil)))
  (sSeq (sPar 5 6 (aCons (mCallD (n := 2) [] c.dr (aCons (mVar 0) (aCons (mCall bLenA (aCons (mVar 4) aNil)) aNil))) (aCons (mCell aNil) aNil)))
  (sSeq (sFor (iLst (mLst (aCons (m2 (U.pAdd c) (mVar 4) (mLst (aCons (mC (.int 0)) aNil))) (aCons (mSlice (mVar 4) oN (oS (m1 (U.pNeg c) (mC (.int 1))))) (aCons (mVar 3) (aCons (m2 (U.pAdd c) (m2 (U.pAdd c) (mSlice (mVar 4) oN (oS (mVar 5))) (mLst (aCons (mVar 3) aNil))) (mSlice (mVar 4) (oS (m2 (U.pAdd c) (mVar 5) (mC (.int 1)))) oN)) (aCons (m2 (U.pAdd c) (m2 (U.pAdd c) (mSlice (mVar 4) oN (oS (mVar 5))) (mLst (aCons (mC (.int 7)) aNil))) (mSlice (mVar 4) (oS (m2 (U.pAdd c) (mVar 5) (mC (.int 1)))) oN)) aNil))))))) (tName 7) (sExpr (mtCell appF (mVar 6) (aCons (m2 (U.pAdd c) (m2 (U.pAdd c) (mSlice (mVar 1) oN (oS (mVar 2))) (mLst (aCons (mVar 7) aNil))) (mSlice (mVar 1) (oS (m2 (U.pAdd c) (mVar 2) (mC (.int 1)))) oN)) aNil))))
  (sSeq (sFrz 6 (sExpr (mtCell extF (mVar 6) (aCons (mLst (aCons (m2 (U.pAdd c) (mVar 1) (mLst (aCons (mVar 4) aNil))) (aCons (m2 (U.pAdd c) (mSlice (mVar 1) oN (oS (mVar 2))) (mSlice (mVar 1) (oS (m2 (U.pAdd c) (mVar 2) (mC (.int 1)))) oN)) (aCons (m2 (U.pAdd c) (m2 (U.pMul c) (mVar 1) (mC (.int 2))) (m2 (U.pMul c) (mSlice (mVar 1) oN (oS (mC (.int 1)))) (mC (.int 9)))) (aCons (m2 (U.pAdd c) (mVar 1) (mLst (aCons (mVar 3) aNil))) (aCons (mLst (aCons (mVar 1) aNil)) (aCons (mCompF finL [7] (iLst (mVar 1)) (tName 7) mYes (mCall bTuple (aCons (mVar 7) aNil))) aNil))))))) aNil))))
  (sRet (m2 (U.pAdd c) (mVar 6) (mLst (aCons (mSlice (mVar 1) oN (oS (mC (.int 1)))) (aCons (mCompF finL [7] (iLst (mVar 1)) (tName 7) mYes (m2 (U.pMul c) (mCall bList (aCons (mVar 7) aNil)) (mC (.int 3)))) aNil))))))))))
def m_law_bent_points (c : Cfg) : List D → S → Res D := fun ds s => cutRes s.length (runBody 2 8 (W15.b_law_bent_points c) ds s)
def b_law_bent_forms (c : Cfg) : Pm.Env → S → Res Fl := (sSeq (sPar 3 4 (aCons (mCallD (n := 2) [] c.dr (aCons (mVar 0) (aCons (mCall bLenA (aCons (mVar 1) aNil)) aNil))) (aCons (mCallD (n := 2) [] (U.m_law_pick c) (aCons (mVar 0) (aCons (mLst (aCons (mC .non) (aCons (mC (.bl true)) (aCons (mC (.str "1")) (aCons (mLst (aCons (mC (.int 1)) aNil)) (aCons mDct0 aNil)))))) aNil))) aNil)))
  (sSeq (sSet 5 (mCell (aCons (mTup (aCons (mVar 1) (aCons (mVar 2) aNil))) (aCons (mTup (aCons (mCall bTuple (aCons (mVar 1) aNil)) (aCons (mVar 2) aNil))) (aCons (mLst (aCons (mVar 1) (aCons (mVar 2) aNil))) (aCons (mTup (aCons (mVar 1) (aCons (mVar 4) aNil))) (aCons (mTup (aCons (mVar 4) (aCons (mVar 2) aNil))) (aCons (mTup (aCons (mVar 1) (aCons (mVar 2) (aCons (mC (.int 0)) aNil)))) aNil))))))))
  (sSeq (sFrz 5 (sExpr (mtCell extF (mVar 5) (aCons (mLst (aCons (mTup (aCons (m2 (U.pAdd c) (m2 (U.pAdd c) (mSlice (mVar 1) oN (oS (mVar 3))) (mLst (aCons (mVar 4) aNil))) (mSlice (mVar 1) (oS (m2 (U.pAdd c) (mVar 3) (mC (.int 1)))) oN)) (aCons (mVar 2) aNil))) (aCons (mTup (aCons (m2 (U.pAdd c) (mVar 1) (mLst (aCons (mC (.int 0)) aNil))) (aCons (mVar 2) aNil))) (aCons (mTup (aCons (mSlice (mVar 1) oN (oS (m1 (U.pNeg c) (mC (.int 1))))) (aCons (mVar 2) aNil))) (aCons (mTup (aCons (mVar 1) aNil)) aNil))))) aNil))))
  (sRet (m2 (U.pAdd c) (mVar 5) (mLst (aCons (mTup (aCons (mVar 2) (aCons (mVar 1) aNil))) (aCons (mTup (aCons (mVar 1) (aCons (mLst (aCons (mVar 2) aNil)) aNil))) (aCons (mTup (aCons (mLst (aCons (mVar 1) aNil)) (aCons (mVar 2) aNil))) (aCons (mC .non) (aCons (mC (.int 0)) (aCons (mC (.str "")) (aCons mDct0 (aCons (mTup aNil) (aCons (mLst aNil) (aCons (mTup (aCons (mLst aNil) (aCons (mC (.int 0)) aNil))) aNil))))))))))))))))
def m_law_bent_forms (c : Cfg) : List D → S → Res D := fun ds s => cutRes s.length (runBody 3 6 (W15.b_law_bent_forms c) ds s)
def b_law_right (c : Cfg) : Pm.Env → S → Res Fl := (sSeq (sSet 1 (mCallD (n := 3) [] (U.m_law_points c) (aCons (mVar 0) (aCons (mC (.int 9)) (aCons (mC (.int 8)) aNil)))))
  (sSeq (sSet 2 (mCall bList (aCons (mCallD (n := 2) [] (U.m_law_given c) (aCons (mVar 0) (aCons (mVar 1) aNil))) aNil)))
  (sSeq (sSet 3 (m2 (U.pAdd c) (m2 (U.pAdd c) (mLst (aCons (mVar 2) (aCons (mCall bTuple (aCons (mVar 2) aNil)) aNil))) (mCallD (n := 2) [] (W15.m_law_bent_points c) (aCons (mVar 0) (aCons (mVar 2) aNil)))) (mLst (aCons (mC .non) (aCons (mC (.int 5)) (aCons (mC (.bl true)) (aCons (mC (.str "")) (aCons (mC (.str "ab")) (aCons mDct0 (aCons (mLst aNil) (aCons (mTup aNil) (aCons (mLst (aCons (mLst aNil) aNil)) (aCons (mLst (aCons (mLst aNil) (aCons (mLst aNil) aNil))) aNil)))))))))))))
  (sSeq (sFor (iLst (m2 (U.pAdd c) (mVar 3) (mLst (aCons (mDisp [0, 1] (aCons (mLst (aCons (mC (.int 1)) aNil)) (aCons (mLst (aCons (mC (.int 1)) aNil)) aNil))) (aCons (mLst (aCons (mLst (aCons (mC (.int 0)) aNil)) (aCons (mLst (aCons (mC (.int 0)) aNil)) aNil))) (aCons (m2 (U.pMul c) (mLst (aCons (m2 (U.pMul c) (mLst (aCons (mC (.int 0)) aNil)) (mC (.int 8))) aNil)) (mC (.int 9))) (aCons (m2 (U.pMul c) (mLst (aCons (m2 (U.pMul c) (mLst (aCons (mC (.int 0)) aNil)) (mC (.int 9))) aNil)) (mC (.int 2))) (aCons (m2 (U.pMul c) (mLst (aCons (mLst (aCons (mC (.int 0)) aNil)) aNil)) (mC (.int 10))) (aCons (mLst (aCons (mC (.int 0)) (aCons (mC (.int 0)) aNil))) (aCons (mLst (aCons (mLst (aCons (mC (.int 0)) aNil)) (aCons (mTup (aCons (mC (.int 0)) aNil)) aNil))) aNil)))))))))) (tName 4) (sSeq (sPar 5 6 (aCons (mCallD (n := 1) [] (W15.m_law_are_points c) (aCons (mVar 4) aNil)) (aCons (mCall (W15.pRepr c) (aCons (mVar 4) aNil)) aNil)))
  (sSeq (sIf (mB (m2 (U.pNe c) (mCall (W15.pRepr c) (aCons (mLst (aCons (mCallD (n := 1) [] (U.m_is_points c) (aCons (mVar 4) aNil)) (aCons (mKw 0 1 (U.m_is_points c) aNil (aCons (mVar 4) aNil)) aNil))) aNil)) (mCall (W15.pRepr c) (aCons (mLst (aCons (mVar 5) (aCons (mVar 5) aNil))) aNil)))) (sRet (mC (.bl false))) sNext)
  (sIf (mB (m2 (U.pNe c) (mCall (W15.pRepr c) (aCons (mVar 4) aNil)) (mVar 6))) (sRet (mC (.bl false))) sNext))))
  (sSeq (sSet 7 (mCompF finL [8] (iLst (m2 (U.pMul c) (m2 ixDD (mCallD (n := 3) [] (U.m_law_points c) (aCons (mVar 0) (aCons (mC (.int 2)) (aCons (mC (.int 1)) aNil)))) (mC (.int 0))) (mCall bLenA (aCons (m2 ixDD (mVar 1) (mC (.int 0))) aNil)))) (tName 8) mYes (mMake 0 2 3 [] (U.m_c0_init_ c) (aCons (m2 ixDD (mVar 8) (mC (.int 0))) (aCons (m2 ixDD (mVar 8) (mC (.int 1))) aNil)))))
  (sSeq (sFor (iLst (mCallD (n := 3) [] (W15.m_law_bent_forms c) (aCons (mVar 0) (aCons (mVar 7) (aCons (mCallD (n := 2) [] (U.m_law_passed c) (aCons (mVar 0) (aCons (mCallD (n := 1) [] (U.m_law_entry c) (aCons (mVar 0) aNil)) aNil))) aNil))))) (tName 4) (sSeq (sPar 5 6 (aCons (mCallD (n := 2) [] (W15.m_law_is_form c) (aCons (mVar 4) (aCons (mCall bLenA (aCons (m2 ixDD (mVar 1) (mC (.int 0))) aNil)) aNil))) (aCons (mCall (W15.pRepr c) (aCons (mVar 4) aNil)) aNil)))
  (sIf (mOrT (mB (m2 (U.pNe c) (mCall (W15.pRepr c) (aCons (mLst (aCons (mCallD (n := 2) [] (U.m_is_form c) (aCons (mVar 2) (aCons (mVar 4) aNil))) (aCons (mKwP [1, 0] 2 2 (U.m_is_form c) (aCons (mVar 4) (aCons (mVar 2) aNil))) aNil))) aNil)) (mCall (W15.pRepr c) (aCons (mLst (aCons (mVar 5) (aCons (mVar 5) aNil))) aNil)))) (mB (m2 (U.pNe c) (mCall (W15.pRepr c) (aCons (mVar 4) aNil)) (mVar 6)))) (sRet (mC (.bl false))) sNext)))
  (sRet (mC (.bl true)))))))))
def m_law_right (c : Cfg) : List D → S → Res D := runBody 1 9 (W15.b_law_right c)
def b_law (c : Cfg) : Pm.Env → S → Res Fl := (sRet (mCallD (n := 1) [] (W15.m_law_right c) (aCons (mCallD (n := 2) [] (W15.m_law_pot c) (aCons (mVar 0) (aCons (mC (.int 0)) aNil))) aNil)))
def m_law (c : Cfg) : List D → S → Res D := runBody 1 1 (W15.b_law c)
end W15
set_option maxRecDepth 100000
namespace K15
abbrev cf : U.Cfg := ⟨0, m_law_draw⟩
end K15
set_option Elab.async false
set_option linter.all false
set_option maxRecDepth 100000
set_option maxHeartbeats 1000000
set_option exponentiation.threshold 20000
namespace W15
open Pm hiding rowP
open PySem U
variable {c : Cfg} {s : S}
def numB : D → Bool
  | .int _ => true
  | .ins _ _ => true
  | _ => false
def seqD : D → Option (List D)
  | .lst ds => some ds
  | .tup ds => some ds
  | _ => none
def rowB (n : Nat) (v : D) : Bool := match seqD v with
  | some ds => decide (ds.length = n) && ds.all numB
  | none => false
def ptsB (v : D) : Bool := match seqD v with
  | none => false
  | some ds => decide (2 ≤ ds.length ∧ ds.length ≤ 9) && match ds with
    | [] => false
    | r :: rs => match seqD r with
      | none => false
      | some es => decide (1 ≤ es.length ∧ es.length ≤ 8) && (r :: rs).all (rowB es.length)
def formB (n : Nat) : D → Bool
  | .tup [a, b] => rowB n a && numB b
  | _ => false
structure Gd (d : D) : Prop where
  sm : smD 0 ratOk d = true
  wt : Pm.wt d ≤ 1000000
theorem bools_map {α : Type} (p : α → Bool) : ∀ as : List α, boolsOf (as.map fun a => D.bl (p a)) = some (as.map p)
  | [] => rfl
  | a :: as => by simp [boolsOf, bools_map p as]
theorem comp_bools {α : Type} {R : D → α → Prop} {own : List Nat} {mi : Pm.Env → S → Res (List D)} {mt : D → Pm.Env → Option Pm.Env} {me : Pm.Env → S → Res D} {env : Pm.Env} {ds : List D} {as : List α} (p : α → Bool) (h : All2 R ds as) (hl : as.length ≤ 1000000) (hi : mi env s = .ok ds s)
    (H : ∀ d a, d ∈ ds → a ∈ as → R d a → ∃ e1, mt d (wipeE env own) = some e1 ∧ me e1 s = .ok (.bl (p a)) s) : mCall (bBools fun bs => bs.all id) (aCons (mCompF finL own mi mt mYes me) aNil) env s = .ok (.bl (as.all p)) s := by
  have e := compE (s := s) (own := own) (env := env) (mt := mt) (me := me) (f := fun a => D.bl (p a)) h H
  have e2 := compD (mi := mi) hi (by rw [h.len]; exact hl) e
  simp only [mCall, aCons, aNil, e2, Res.bind_ok]
  simp [bBools, isTupD, seqOf, bools_map]
theorem all2_self (ds : List D) : All2 (fun x y : D => x = y) ds ds := by
  have := All2.refl_map (R := fun x y : D => x = y) (f := fun x : D => x) ds fun _ _ => rfl
  simpa using this
theorem num_ok {d : D} (h : smD 0 ratOk d = true) : m_is_number c [d] s = .ok (.bl (numB d)) s ∧ W15.m_law_is_number c [d] s = .ok (.bl (numB d)) s := by
  cases d with
  | ins k fs =>
    simp only [smD, Bool.and_eq_true, decide_eq_true_eq] at h
    obtain ⟨rfl, _⟩ := h
    exact ⟨rfl, rfl⟩
  | non => exact ⟨rfl, rfl⟩
  | bl b => exact ⟨rfl, rfl⟩
  | int i => exact ⟨rfl, rfl⟩
  | str x => exact ⟨rfl, rfl⟩
  | lst xs => exact ⟨rfl, rfl⟩
  | tup xs => exact ⟨rfl, rfl⟩
  | mty => exact ⟨rfl, rfl⟩
  | _ => cases h
theorem isl_b {d : D} (h : smD 0 ratOk d = true) : bIs c.k [d, .tup [.ty .list, .ty .tuple]] s = .ok (.bl (seqD d).isSome) s := by
  cases d with
  | ins k fs =>
    simp only [smD, Bool.and_eq_true, decide_eq_true_eq] at h
    obtain ⟨rfl, _⟩ := h
    rfl
  | non => rfl
  | bl b => rfl
  | int i => rfl
  | str x => rfl
  | lst xs => rfl
  | tup xs => rfl
  | mty => rfl
  | _ => cases h
theorem seq_two {v : D} {ds : List D} (h : seqD v = some ds) : Sq2 v ds := by
  cases v <;> simp only [seqD, Option.some.injEq, reduceCtorEq] at h
  · subst h; exact .lst _
  · subst h; exact .tup _
theorem sm_mem {c' : Nat} {ok : List D → Bool} : ∀ {ds : List D}, smL c' ok ds = true → ∀ d ∈ ds, smD c' ok d = true
  | e :: es, h, d, hd => by
    simp only [smL, Bool.and_eq_true] at h
    rcases List.mem_cons.mp hd with rfl | z
    · exact h.1
    · exact sm_mem h.2 d z
theorem wt_len : ∀ ds : List D, 2 * ds.length ≤ wtL ds
  | [] => Nat.zero_le _
  | d :: ds => by have := wt_len ds; simp only [wtL, List.length_cons]; omega
theorem wt_mem : ∀ {ds : List D}, ∀ d ∈ ds, wt d ≤ wtL ds
  | e :: es, d, hd => by
    rcases List.mem_cons.mp hd with rfl | z
    · simp only [wtL]; omega
    · have := wt_mem d z; simp only [wtL]; omega
theorem Gd.seq {v : D} {ds : List D} (h : Gd v) (e : seqD v = some ds) : ds.length ≤ 1000000 ∧ ∀ d ∈ ds, Gd d := by
  obtain ⟨h1, h2⟩ := h
  cases v <;> simp only [seqD, Option.some.injEq, reduceCtorEq] at e
  · subst e
    simp only [smD] at h1
    simp only [Pm.wt] at h2
    exact ⟨by have := wt_len ‹List D›; omega, fun d hd => ⟨sm_mem h1 d hd, by have := wt_mem d hd; omega⟩⟩
  · subst e
    simp only [smD] at h1
    simp only [Pm.wt] at h2
    exact ⟨by have := wt_len ‹List D›; omega, fun d hd => ⟨sm_mem h1 d hd, by have := wt_mem d hd; omega⟩⟩
theorem and_f {a b : Pm.Env → S → Res D} {e : Pm.Env} (h : a e s = .ok (.bl false) s) : mAnd a b e s = .ok (.bl false) s := by simp [mAnd, h]
theorem is_list_b {v : D} (h : smD 0 ratOk v = true) : m_is_list c [v] s = .ok (.bl (seqD v).isSome) s :=
  runP1 (retP ((callP (consP (varP rfl) (consP (show mTup _ _ _ = .ok (.tup [.ty .list, .ty .tuple]) s from rfl) nilP))).trans (isl_b h)))
theorem nums_ok {v : D} (h : Gd v) (n : Nat) : m_is_numbers c [v, .int n] s = .ok (.bl (rowB n v)) s := by
  refine runP2 (retP ?_)
  have a := (call1 (f := m_is_list c) (e := [some v, some (.int (n : Int)), none]) (i := 0) rfl).trans (is_list_b (c := c) (s := s) h.sm)
  unfold rowB
  cases hs : seqD v with
  | none => rw [hs] at a; exact and_f a
  | some ds =>
    rw [hs] at a
    have k := seq_two hs
    refine (andT a).trans ?_
    have q := (m2P (f := U.pEq c) (e := [some v, some (.int (n : Int)), none]) ((bcall1 (i := 0) rfl).trans (sq_len (s := s) k)) (varP (i := 1) rfl)).trans (eq_ii _ _)
    by_cases hl : ds.length = n
    · subst hl
      rw [decide_eq_true rfl] at q
      refine (andT q).trans ?_
      have e3 := comp_bools (s := s) (own := [2]) (mi := iLT (mVar 0)) (mt := tName 2) (me := mCallD (n := 1) [] (m_is_number c) (aCons (mVar 2) aNil)) (env := [some v, some (.int (ds.length : Int)), none]) numB (all2_self ds) (h.seq hs).1 (sq_iLT k rfl) (fun x y hx _ hn => by
        subst hn
        exact ⟨[some v, some (.int ds.length), some x], rfl, (call1 (i := 2) rfl).trans (num_ok ((h.seq hs).2 x hx).sm).1⟩)
      simpa using e3
    · rw [decide_eq_false (by omega)] at q
      dsimp only
      rw [decide_eq_false hl]
      exact and_f q
theorem row_ok {v : D} (h : Gd v) (n : Nat) : W15.m_law_is_row c [v, .int n] s = .ok (.bl (rowB n v)) s := by
  refine runP2 (retP ?_)
  have a : mCall (bIs c.k) (aCons (mVar 0) (aCons (mTup (aCons (mC (.ty .list)) (aCons (mC (.ty .tuple)) aNil))) aNil)) [some v, some (.int (n : Int)), none] s = .ok (.bl (seqD v).isSome) s := (callP (consP (varP rfl) (consP (show mTup _ _ _ = .ok (.tup [.ty .list, .ty .tuple]) s from rfl) nilP))).trans (isl_b h.sm)
  unfold rowB
  cases hs : seqD v with
  | none => rw [hs] at a; exact and_f a
  | some ds =>
    rw [hs] at a
    have k := seq_two hs
    refine (andT a).trans ?_
    have q := (m2P (f := U.pEq c) (e := [some v, some (.int (n : Int)), none]) ((bcall1 (i := 0) rfl).trans (sq_len (s := s) k)) (varP (i := 1) rfl)).trans (eq_ii _ _)
    by_cases hl : ds.length = n
    · subst hl
      rw [decide_eq_true rfl] at q
      refine (andT q).trans ?_
      have e3 := comp_bools (s := s) (own := [2]) (mi := iLT (mVar 0)) (mt := tName 2) (me := mCallD (n := 1) [] (W15.m_law_is_number c) (aCons (mVar 2) aNil)) (env := [some v, some (.int (ds.length : Int)), none]) numB (all2_self ds) (h.seq hs).1 (sq_iLT k rfl) (fun x y hx _ hn => by
        subst hn
        exact ⟨[some v, some (.int ds.length), some x], rfl, (call1 (i := 2) rfl).trans (num_ok ((h.seq hs).2 x hx).sm).2⟩)
      simpa using e3
    · rw [decide_eq_false (by omega)] at q
      dsimp only
      rw [decide_eq_false hl]
      exact and_f q
theorem chain_b {e : Pm.Env} {m1 m2' m3 : Pm.Env → S → Res D} {i j k : Int} (h1 : m1 e s = .ok (.int i) s) (h2 : m2' e s = .ok (.int j) s) (h3 : m3 e s = .ok (.int k) s) : mB (mChain leI leI m1 m2' m3) e s = .ok (decide (i ≤ j ∧ j ≤ k)) s := by
  by_cases l : i ≤ j <;> simp [mB, mChain, h1, h2, h3, leI, intOp, l]
theorem or_t {t u : Pm.Env → S → Res Bool} {e : Pm.Env} (h : t e s = .ok true s) : mOrT t u e s = .ok true s := by simp [mOrT, h]
theorem or_r {t u : Pm.Env → S → Res Bool} {e : Pm.Env} {b : Bool} (h : t e s = .ok false s) (k : u e s = .ok b s) : mOrT t u e s = .ok b s := by simp [mOrT, h, k]
theorem not_b {t : Pm.Env → S → Res Bool} {e : Pm.Env} {b : Bool} (h : t e s = .ok b s) : mNotT t e s = .ok (!b) s := by simp [mNotT, h]
theorem pts_ok {v : D} (h : Gd v) : m_is_points c [v] s = .ok (.bl (ptsB v)) s := by
  refine runP1 (retP ((callDP (consP (varP rfl) (consP conP (consP conP (consP conP nilP)))) rfl).trans ?_))
  refine (show m_is_table c [v, .int 2, .int 9, .int 8] s = .ok (.bl (ptsB v)) s from ?_)
  have st : b_is_table c [some v, some (.int 2), some (.int 9), some (.int 8), none, none] s = .ok (.rt (.bl (ptsB v))) s := by
    have a := bt_of ((call1 (f := m_is_list c) (e := [some v, some (.int 2), some (.int 9), some (.int 8), none, none]) (i := 0) rfl).trans (is_list_b (c := c) (s := s) h.sm))
    unfold ptsB
    cases hs : seqD v with
    | none =>
      rw [hs] at a
      exact Pm.seqRt ((if_t (or_t (not_f a))).trans (retP rfl))
    | some ds =>
      rw [hs] at a
      dsimp only
      have k := seq_two hs
      have q := chain_b (m1 := mVar 1) (m2' := mCall bLenA (aCons (mVar 0) aNil)) (m3 := mVar 2) (e := [some v, some (.int 2), some (.int 9), some (.int 8), none, none]) (varP rfl) ((bcall1 (i := 0) rfl).trans (sq_len (s := s) k)) (varP rfl)
      have t1 := or_r (not_t a) (not_b q)
      by_cases hl : 2 ≤ ds.length ∧ ds.length ≤ 9
      · rw [decide_eq_true (by omega)] at t1
        refine (seqP (if_no t1)).trans ?_
        cases ds with
        | nil => simp at hl
        | cons r rs =>
          have x0 := sq_ix (s := s) k (i := 0) rfl
          simp only [Int.natCast_zero] at x0
          have hr := (h.seq hs).2 r (by simp)
          have E0 : ∀ y z : Option D, m2 ixDD (mVar 0) (mC (.int 0)) [some v, some (.int 2), some (.int 9), some (.int 8), y, z] s = .ok r s := fun y z => (m2P (varP rfl) conP).trans x0
          have a2 := bt_of ((callDP (f := m_is_list c) (n := 1) (consP (E0 none none) nilP) rfl).trans (is_list_b (c := c) (s := s) hr.sm))
          rw [decide_eq_true hl, Bool.true_and]
          dsimp only
          cases hs2 : seqD r with
          | none =>
            rw [hs2] at a2
            exact Pm.seqRt ((if_t (or_t (not_f a2))).trans (retP rfl))
          | some es =>
            rw [hs2] at a2
            dsimp only
            have k2 := seq_two hs2
            have L0 : ∀ y z : Option D, mCall bLenA (aCons (m2 ixDD (mVar 0) (mC (.int 0))) aNil) [some v, some (.int 2), some (.int 9), some (.int 8), y, z] s = .ok (.int es.length) s := fun y z => (callP (consP (E0 y z) nilP)).trans (sq_len k2)
            have q2 := chain_b (m1 := mC (.int 1)) (m3 := mVar 3) conP (L0 none none) (varP rfl)
            have t2 := or_r (not_t a2) (not_b q2)
            by_cases hl2 : 1 ≤ es.length ∧ es.length ≤ 8
            · rw [decide_eq_true (by omega)] at t2
              refine (seqP (if_no t2)).trans ?_
              refine (seqP (setP (L0 none none))).trans (retP ?_)
              have e3 := comp_bools (s := s) (own := [5]) (mi := iLT (mVar 0)) (mt := tName 5) (me := mCallD (n := 2) [] (m_is_numbers c) (aCons (mVar 5) (aCons (mVar 4) aNil))) (env := [some v, some (.int 2), some (.int 9), some (.int 8), some (.int (es.length : Int)), none]) (rowB es.length) (all2_self (r :: rs)) (by omega) (sq_iLT k rfl) (fun x y hx _ hn => by
                subst hn
                exact ⟨[some v, some (.int 2), some (.int 9), some (.int 8), some (.int (es.length : Int)), some x], rfl, (callDP (con0 (varP (i := 5) rfl) (con0 (varP (i := 4) rfl) nil0)) rfl).trans (nums_ok ((h.seq hs).2 x hx) _)⟩)
              rw [decide_eq_true hl2, Bool.true_and]
              exact e3
            · rw [decide_eq_false (by omega)] at t2
              rw [decide_eq_false hl2, Bool.false_and]
              exact Pm.seqRt ((if_t t2).trans (retP rfl))
      · rw [decide_eq_false (by omega)] at t1
        rw [decide_eq_false hl, Bool.false_and]
        exact Pm.seqRt ((if_t t1).trans (retP rfl))
  show runBody 4 6 (b_is_table c) _ s = _
  simp [runBody, st]
theorem lpts_ok {v : D} (h : Gd v) : W15.m_law_are_points c [v] s = .ok (.bl (ptsB v)) s := by
  refine runP1 ?_
  show b_law_are_points c [some v, none] s = _
  have isl : ∀ (m : Pm.Env → S → Res D) (x : D) (e : Pm.Env), m e s = .ok x s → smD 0 ratOk x = true → mBt (mCall (bIs c.k) (aCons m (aCons (mTup (aCons (mC (.ty .list)) (aCons (mC (.ty .tuple)) aNil))) aNil))) e s = .ok (seqD x).isSome s := fun m x e hm hx =>
    bt_of ((callP (consP hm (consP (show mTup _ _ _ = .ok (.tup [.ty .list, .ty .tuple]) s from rfl) nilP))).trans (isl_b hx))
  have a := isl (mVar 0) v [some v, none] (varP rfl) h.sm
  unfold ptsB
  cases hs : seqD v with
  | none =>
    rw [hs] at a
    exact Pm.seqRt ((if_t (or_t (not_f a))).trans (retP rfl))
  | some ds =>
    rw [hs] at a
    dsimp only
    have k := seq_two hs
    have q := chain_b (m1 := mC (.int 2)) (m2' := mCall bLenA (aCons (mVar 0) aNil)) (m3 := mC (.int 9)) (e := [some v, none]) conP ((bcall1 (i := 0) rfl).trans (sq_len (s := s) k)) conP
    have t1 := or_r (not_t a) (not_b q)
    by_cases hl : 2 ≤ ds.length ∧ ds.length ≤ 9
    · rw [decide_eq_true (by omega)] at t1
      refine (seqP (if_no t1)).trans ?_
      cases ds with
      | nil => simp at hl
      | cons r rs =>
        have x0 := sq_ix (s := s) k (i := 0) rfl
        simp only [Int.natCast_zero] at x0
        have hr := (h.seq hs).2 r (by simp)
        have E0 : ∀ z : Option D, m2 ixDD (mVar 0) (mC (.int 0)) [some v, z] s = .ok r s := fun z => (m2P (varP rfl) conP).trans x0
        have a2 := isl _ r [some v, none] (E0 none) hr.sm
        rw [decide_eq_true hl, Bool.true_and]
        dsimp only
        cases hs2 : seqD r with
        | none =>
          rw [hs2] at a2
          exact Pm.seqRt ((if_t (or_t (not_f a2))).trans (retP rfl))
        | some es =>
          rw [hs2] at a2
          dsimp only
          have k2 := seq_two hs2
          have L0 : ∀ z : Option D, mCall bLenA (aCons (m2 ixDD (mVar 0) (mC (.int 0))) aNil) [some v, z] s = .ok (.int es.length) s := fun z => (callP (consP (E0 z) nilP)).trans (sq_len k2)
          have q2 := chain_b (m1 := mC (.int 1)) (m3 := mC (.int 8)) conP (L0 none) conP
          have t2 := or_r (not_t a2) (not_b q2)
          by_cases hl2 : 1 ≤ es.length ∧ es.length ≤ 8
          · rw [decide_eq_true (by omega)] at t2
            refine (seqP (if_no t2)).trans (retP ?_)
            have e3 := comp_bools (s := s) (own := [1]) (mi := iLT (mVar 0)) (mt := tName 1) (me := mCallD (n := 2) [] (W15.m_law_is_row c) (aCons (mVar 1) (aCons (mCall bLenA (aCons (m2 ixDD (mVar 0) (mC (.int 0))) aNil)) aNil))) (env := [some v, none]) (rowB es.length) (all2_self (r :: rs)) (by omega) (sq_iLT k rfl) (fun x y hx _ hn => by
              subst hn
              exact ⟨[some v, some x], rfl, (callDP (con0 (varP (i := 1) rfl) (con0 (L0 (some x)) nil0)) rfl).trans (row_ok ((h.seq hs).2 x hx) _)⟩)
            rw [decide_eq_true hl2, Bool.true_and]
            exact e3
          · rw [decide_eq_false (by omega)] at t2
            rw [decide_eq_false hl2, Bool.false_and]
            exact Pm.seqRt ((if_t t2).trans (retP rfl))
    · rw [decide_eq_false (by omega)] at t1
      rw [decide_eq_false hl, Bool.false_and]
      exact Pm.seqRt ((if_t t1).trans (retP rfl))
end W15
set_option Elab.async false
set_option linter.all false
set_option maxRecDepth 100000
set_option maxHeartbeats 1000000
set_option exponentiation.threshold 20000
namespace W15
open Pm hiding rowP
open PySem U W12
variable {c : Cfg} {s : S}
def isTupB : D → Bool
  | .tup _ => true
  | _ => false
theorem ist_b {d : D} (h : smD 0 ratOk d = true) : bIs c.k [d, .ty .tuple] s = .ok (.bl (isTupB d)) s := by
  cases d with
  | ins k fs =>
    simp only [smD, Bool.and_eq_true, decide_eq_true_eq] at h
    obtain ⟨rfl, _⟩ := h
    rfl
  | non => rfl
  | bl b => rfl
  | int i => rfl
  | str x => rfl
  | lst xs => rfl
  | tup xs => rfl
  | mty => rfl
  | _ => cases h
theorem and_b {a b : Pm.Env → S → Res D} {e : Pm.Env} {x y : Bool} (h : a e s = .ok (.bl x) s) (k : b e s = .ok (.bl y) s) : mAnd a b e s = .ok (.bl (x && y)) s := by cases x <;> simp [mAnd, h, k]
theorem formB_no {n : Nat} {v : D} (h : isTupB v = false) : formB n v = false := by cases v <;> first | rfl | cases h
theorem formB_len {n : Nat} {vs : List D} (h : vs.length ≠ 2) : formB n (.tup vs) = false := by
  match vs, h with
  | [], _ => rfl
  | [_], _ => rfl
  | [_, _], h => exact absurd rfl h
  | _ :: _ :: _ :: _, _ => rfl
theorem lform_ok {v : D} (h : Gd v) (n : Nat) : W15.m_law_is_form c [v, .int n] s = .ok (.bl (formB n v)) s := by
  refine runP2 ?_
  show b_law_is_form c [some v, some (.int (n : Int))] s = _
  have a : mBt (mCall (bIs c.k) (aCons (mVar 0) (aCons (mC (.ty .tuple)) aNil))) [some v, some (.int (n : Int))] s = .ok (isTupB v) s := bt_of ((callP (consP (varP rfl) (consP conP nilP))).trans (ist_b h.sm))
  cases hv : isTupB v with
  | false =>
    rw [hv] at a
    rw [formB_no hv]
    exact Pm.seqRt ((if_t (or_t (not_f a))).trans (retP rfl))
  | true =>
    rw [hv] at a
    cases v <;> try (cases hv; done)
    rename_i vs
    have q := b_of ((m2P (f := U.pNe c) (e := [some (.tup vs), some (.int (n : Int))]) ((bcall1 (i := 0) rfl).trans (sq_len (s := s) (.tup vs))) (conP (x := .int 2))).trans (ne_ii _ _))
    have t1 := or_r (not_t a) q
    by_cases hl : vs.length = 2
    · match vs, hl with
      | [x, y], _ =>
        refine (seqP (if_no t1)).trans (retP ?_)
        have gx := (h.seq rfl).2 x (by simp)
        have gy := (h.seq rfl).2 y (by simp)
        exact and_b ((callDP (con0 (x := x) rfl (con0 (varP (i := 1) rfl) nil0)) rfl).trans (row_ok gx n)) ((callDP (con0 (x := y) rfl nil0) rfl).trans (num_ok gy.sm).2)
    · rw [decide_eq_false (by omega)] at t1
      rw [formB_len hl]
      exact Pm.seqRt ((if_t t1).trans (retP rfl))
theorem form_ok {d : D} {M : List (List Rat)} (hT : Tab d M) {w : Nat} (h1 : 2 ≤ M.length ∧ M.length ≤ 9) (h2 : 1 ≤ w ∧ w ≤ 8) (hw : ∀ r ∈ M, r.length = w) {v : D} (h : Gd v) : m_is_form c [d, v] s = .ok (.bl (formB w v)) s := by
  refine runP2 ?_
  show b_is_form c [some d, some v] s = _
  have ck : sExpr (mCallD (n := 1) [] (m_check_points c) (aCons (mVar 0) aNil)) [some d, some v] s = .ok (.nx [some d, some v]) s := by
    have := (call1 (f := m_check_points c) (e := [some d, some v]) (i := 0) rfl).trans (check_ok (c := c) (s := s) hT h1 h2 hw)
    simp only [sExpr, this, Res.bind_ok]
  refine (seqP ck).trans ?_
  have a : mBt (mCall (bIs c.k) (aCons (mVar 1) (aCons (mC (.ty .tuple)) aNil))) [some d, some v] s = .ok (isTupB v) s := bt_of ((callP (consP (varP rfl) (consP conP nilP))).trans (ist_b h.sm))
  cases hv : isTupB v with
  | false =>
    rw [hv] at a
    rw [formB_no hv]
    exact Pm.seqRt ((if_t (or_t (not_f a))).trans (retP rfl))
  | true =>
    rw [hv] at a
    cases v <;> try (cases hv; done)
    rename_i vs
    have q := b_of ((m2P (f := U.pNe c) (e := [some d, some (.tup vs)]) ((bcall1 (i := 1) rfl).trans (sq_len (s := s) (.tup vs))) (conP (x := .int 2))).trans (ne_ii _ _))
    have t1 := or_r (not_t a) q
    by_cases hl : vs.length = 2
    · match vs, hl with
      | [x, y], _ =>
        refine (seqP (if_no t1)).trans (retP ?_)
        have gx := (h.seq rfl).2 x (by simp)
        have gy := (h.seq rfl).2 y (by simp)
        obtain ⟨ds, t0, t2⟩ := hT
        obtain ⟨d0, g0, es0, q1, q2⟩ : ∃ d0, ds[0]? = some d0 ∧ ∃ es, Sq2 d0 es ∧ es.length = w := by
          obtain ⟨r0, e0⟩ : ∃ r0, M[0]? = some r0 := ⟨_, List.getElem?_eq_getElem (by omega)⟩
          obtain ⟨d0, a1, a2⟩ := t2.get e0
          obtain ⟨es, b1, b2⟩ := a2
          exact ⟨d0, a1, es, b1, by rw [b2.len]; exact hw r0 (List.mem_of_getElem? e0)⟩
        have L0 : mCall bLenA (aCons (m2 ixDD (mVar 0) (mC (.int 0))) aNil) [some d, some (.tup [x, y])] s = .ok (.int w) s := by
          have := sq_len (s := s) q1
          rw [q2] at this
          exact (callP (consP ((m2P (varP rfl) conP).trans (sq_ix (i := 0) t0 g0)) nilP)).trans this
        exact and_b ((callDP (con0 (x := x) rfl (con0 L0 nil0)) rfl).trans (nums_ok gx w)) ((callDP (con0 (x := y) rfl nil0) rfl).trans (num_ok gy.sm).1)
    · rw [decide_eq_false (by omega)] at t1
      rw [formB_len hl]
      exact Pm.seqRt ((if_t t1).trans (retP rfl))
mutual
theorem ok_sm {c' : Nat} {ok : List D → Bool} : ∀ d : D, smD c' ok d = true → okN d = true
  | .non, _ => rfl
  | .bl _, _ => rfl
  | .int _, _ => rfl
  | .str _, _ => rfl
  | .lst ds, h => by simp only [smD] at h; simp only [okN]; exact ok_smL ds h
  | .tup ds, h => by simp only [smD] at h; simp only [okN]; exact ok_smL ds h
  | .ins _ _, _ => rfl
  | .mty, _ => rfl
  | .ro _, h => by cases h
  | .rot _, h => by cases h
  | .cell _, h => by cases h
  | .cls _, h => by cases h
  | .ty _, h => by cases h
  | .dki _ _, h => by cases h
  | .dkt _ _, h => by cases h
  | .dct _ _, h => by cases h
theorem ok_smL {c' : Nat} {ok : List D → Bool} : ∀ ds : List D, smL c' ok ds = true → okNs ds = true
  | [], _ => rfl
  | d :: ds, h => by
    simp only [smL, Bool.and_eq_true] at h
    simp only [okNs, Bool.and_eq_true]
    exact ⟨ok_sm d h.1, ok_smL ds h.2⟩
end
def Tx (c : Cfg) (d : D) : Prop := ∃ t, PyData.strOk t = true ∧ ∀ s, W15.pRepr c [d] s = .ok (.str t) s
theorem Gd.tx {d : D} (h : Gd d) (hh : ht d ≤ 8) : Tx c d := by
  obtain ⟨t, o, e⟩ := repr_of (c := c) h.sm (ok_sm d h.sm) hh (Nat.le_trans h.wt (by decide))
  refine ⟨t, o, fun s => ?_⟩
  show (U.pRepr c [d] s).or _ = _
  rw [e s]
  rfl
def PV (c : Cfg) (v : D) : Prop := (∃ b : Bool, ∀ s, m_is_points c [v] s = .ok (.bl b) s ∧ W15.m_law_are_points c [v] s = .ok (.bl b) s) ∧ Tx c v
theorem pv_of {v : D} (h : Gd v) (hh : ht v ≤ 8) : PV c v := ⟨⟨ptsB v, fun s => ⟨pts_ok h, lpts_ok h⟩⟩, h.tx hh⟩
theorem bb_tx (b : Bool) : Tx c (.lst [.bl b, .bl b]) := Gd.tx ⟨rfl, by simp only [wt, wtL]; omega⟩ (by simp only [ht, htL]; omega)
theorem bl_or {t u : Pm.Env → S → Res Bool} {e : Pm.Env} (h : t e s = .ok false s) (k : u e s = .ok false s) : mOrT t u e s = .ok false s := or_f h k
def v1B (c : Cfg) : Pm.Env → S → Res Fl := (sSeq (sPar 5 6 (aCons (mCallD (n := 1) [] (W15.m_law_are_points c) (aCons (mVar 4) aNil)) (aCons (mCall (W15.pRepr c) (aCons (mVar 4) aNil)) aNil)))
  (sSeq (sIf (mB (m2 (U.pNe c) (mCall (W15.pRepr c) (aCons (mLst (aCons (mCallD (n := 1) [] (U.m_is_points c) (aCons (mVar 4) aNil)) (aCons (mKw 0 1 (U.m_is_points c) aNil (aCons (mVar 4) aNil)) aNil))) aNil)) (mCall (W15.pRepr c) (aCons (mLst (aCons (mVar 5) (aCons (mVar 5) aNil))) aNil)))) (sRet (mC (.bl false))) sNext)
  (sIf (mB (m2 (U.pNe c) (mCall (W15.pRepr c) (aCons (mVar 4) aNil)) (mVar 6))) (sRet (mC (.bl false))) sNext)))
theorem v1_one {v : D} (h : PV c v) {x0 x1 x2 x3 x5 x6 x7 x8 : Option D} : ∃ y5 y6, v1B c [x0, x1, x2, x3, some v, x5, x6, x7, x8] s = .ok (.nx [x0, x1, x2, x3, some v, y5, y6, x7, x8]) s := by
  obtain ⟨⟨b, hb⟩, t, ot, e3⟩ := h
  obtain ⟨e2, e1⟩ := hb s
  obtain ⟨t2, o2, r2⟩ := bb_tx (c := c) b
  let F1 : Pm.Env := [x0, x1, x2, x3, some v, some (.bl b), some (.str t), x7, x8]
  have a1 : sPar 5 6 (aCons (mCallD (n := 1) [] (W15.m_law_are_points c) (aCons (mVar 4) aNil)) (aCons (mCall (W15.pRepr c) (aCons (mVar 4) aNil)) aNil)) [x0, x1, x2, x3, some v, x5, x6, x7, x8] s = .ok (.nx F1) s := by
    have := con0 ((call1 (f := W15.m_law_are_points c) (e := [x0, x1, x2, x3, some v, x5, x6, x7, x8]) (i := 4) rfl).trans e1) (con0 ((bcall1 (f := W15.pRepr c) (e := [x0, x1, x2, x3, some v, x5, x6, x7, x8]) (i := 4) rfl).trans (e3 s)) nil0)
    simp only [sPar, this, Res.bind_ok]
    rfl
  have y1 := (callP (f := W15.pRepr c) (consP (mlst2 (con0 ((call1 (f := U.m_is_points c) (e := F1) (i := 4) rfl).trans e2) (con0 ((kw1 (f := U.m_is_points c) (e := F1) (i := 4) rfl).trans e2) nil0))) nilP)).trans (r2 s)
  have y2 := (callP (f := W15.pRepr c) (consP (mlst2 (e := F1) (con0 (varP (i := 5) (x := .bl b) rfl) (con0 (varP (i := 5) (x := .bl b) rfl) nil0))) nilP)).trans (r2 s)
  have i1 := b_of ((m2P (f := U.pNe c) y1 y2).trans (ne_str o2))
  have i2 : mB (m2 (U.pNe c) (mCall (W15.pRepr c) (aCons (mVar 4) aNil)) (mVar 6)) F1 s = .ok false s := b_of ((m2P ((bcall1 (f := W15.pRepr c) (e := F1) (i := 4) rfl).trans (e3 s)) (varP (i := 6) rfl)).trans (ne_str ot))
  exact ⟨some (.bl b), some (.str t), (seqP a1).trans ((seqP (if_no i1)).trans (if_no i2))⟩
theorem v1_all : ∀ (vs : List D) (x4 x5 x6 : Option D), (∀ v ∈ vs, PV c v) → ∀ (x0 x1 x2 x3 x7 x8 : Option D), ∃ y4 y5 y6, forL (tName 4) (v1B c) vs [x0, x1, x2, x3, x4, x5, x6, x7, x8] s = .ok (.nx [x0, x1, x2, x3, y4, y5, y6, x7, x8]) s
  | [], x4, x5, x6, _, x0, x1, x2, x3, x7, x8 => ⟨x4, x5, x6, rfl⟩
  | v :: vs, x4, x5, x6, h, x0, x1, x2, x3, x7, x8 => by
    obtain ⟨y5, y6, e1⟩ := v1_one (s := s) (h v (by simp)) (x0 := x0) (x1 := x1) (x2 := x2) (x3 := x3) (x5 := x5) (x6 := x6) (x7 := x7) (x8 := x8)
    obtain ⟨z4, z5, z6, e2⟩ := v1_all vs (some v) y5 y6 (fun u hu => h u (by simp [hu])) x0 x1 x2 x3 x7 x8
    refine ⟨z4, z5, z6, ?_⟩
    have e0 : tName 4 v [x0, x1, x2, x3, x4, x5, x6, x7, x8] = some [x0, x1, x2, x3, some v, x5, x6, x7, x8] := rfl
    simp only [forL, e0, e1]
    exact e2
def v2B (c : Cfg) : Pm.Env → S → Res Fl := (sSeq (sPar 5 6 (aCons (mCallD (n := 2) [] (W15.m_law_is_form c) (aCons (mVar 4) (aCons (mCall bLenA (aCons (m2 ixDD (mVar 1) (mC (.int 0))) aNil)) aNil))) (aCons (mCall (W15.pRepr c) (aCons (mVar 4) aNil)) aNil)))
  (sIf (mOrT (mB (m2 (U.pNe c) (mCall (W15.pRepr c) (aCons (mLst (aCons (mCallD (n := 2) [] (U.m_is_form c) (aCons (mVar 2) (aCons (mVar 4) aNil))) (aCons (mKwP [1, 0] 2 2 (U.m_is_form c) (aCons (mVar 4) (aCons (mVar 2) aNil))) aNil))) aNil)) (mCall (W15.pRepr c) (aCons (mLst (aCons (mVar 5) (aCons (mVar 5) aNil))) aNil)))) (mB (m2 (U.pNe c) (mCall (W15.pRepr c) (aCons (mVar 4) aNil)) (mVar 6)))) (sRet (mC (.bl false))) sNext))
theorem v2_one {dM dg v : D} {n : Nat} {b : Bool} (hM : ∀ e : Pm.Env, e[1]? = some (some dM) → mCall bLenA (aCons (m2 ixDD (mVar 1) (mC (.int 0))) aNil) e s = .ok (.int n) s) (e1 : W15.m_law_is_form c [v, .int n] s = .ok (.bl b) s) (e2 : m_is_form c [dg, v] s = .ok (.bl b) s) (h : Tx c v) {x0 x3 x5 x6 x7 x8 : Option D} :
    ∃ y5 y6, v2B c [x0, some dM, some dg, x3, some v, x5, x6, x7, x8] s = .ok (.nx [x0, some dM, some dg, x3, some v, y5, y6, x7, x8]) s := by
  obtain ⟨t, ot, e3⟩ := h
  obtain ⟨t2, o2, r2⟩ := bb_tx (c := c) b
  let F0 : Pm.Env := [x0, some dM, some dg, x3, some v, x5, x6, x7, x8]
  let F1 : Pm.Env := [x0, some dM, some dg, x3, some v, some (.bl b), some (.str t), x7, x8]
  have a1 : sPar 5 6 (aCons (mCallD (n := 2) [] (W15.m_law_is_form c) (aCons (mVar 4) (aCons (mCall bLenA (aCons (m2 ixDD (mVar 1) (mC (.int 0))) aNil)) aNil))) (aCons (mCall (W15.pRepr c) (aCons (mVar 4) aNil)) aNil)) F0 s = .ok (.nx F1) s := by
    have := con0 ((callDP (n := 2) (f := W15.m_law_is_form c) (e := F0) (con0 (varP (i := 4) (x := v) rfl) (con0 (hM F0 rfl) nil0)) rfl).trans e1) (con0 ((bcall1 (f := W15.pRepr c) (e := F0) (i := 4) rfl).trans (e3 s)) nil0)
    simp only [sPar, this, Res.bind_ok]
    rfl
  have x1 : mCallD (n := 2) [] (U.m_is_form c) (aCons (mVar 2) (aCons (mVar 4) aNil)) F1 s = .ok (.bl b) s := (callDP (con0 (varP (i := 2) rfl) (con0 (varP (i := 4) rfl) nil0)) rfl).trans e2
  have x2 : mKwP [1, 0] 2 2 (U.m_is_form c) (aCons (mVar 4) (aCons (mVar 2) aNil)) F1 s = .ok (.bl b) s := by
    have e0 : aCons (mVar 4) (aCons (mVar 2) aNil) F1 s = .ok [v, dg] s := con0 (varP rfl) (con0 (varP rfl) nil0)
    simp only [mKwP, e0, Res.bind_ok]
    exact e2
  have y1 := (callP (f := W15.pRepr c) (consP (mlst2 (con0 x1 (con0 x2 nil0))) nilP)).trans (r2 s)
  have y2 := (callP (f := W15.pRepr c) (consP (mlst2 (e := F1) (con0 (varP (i := 5) (x := .bl b) rfl) (con0 (varP (i := 5) (x := .bl b) rfl) nil0))) nilP)).trans (r2 s)
  have i1 := b_of ((m2P (f := U.pNe c) y1 y2).trans (ne_str o2))
  have i2 : mB (m2 (U.pNe c) (mCall (W15.pRepr c) (aCons (mVar 4) aNil)) (mVar 6)) F1 s = .ok false s := b_of ((m2P ((bcall1 (f := W15.pRepr c) (e := F1) (i := 4) rfl).trans (e3 s)) (varP (i := 6) rfl)).trans (ne_str ot))
  exact ⟨some (.bl b), some (.str t), (seqP a1).trans (if_no (bl_or i1 i2))⟩
theorem v2_all {dM dg : D} {n : Nat} (hM : ∀ e : Pm.Env, e[1]? = some (some dM) → mCall bLenA (aCons (m2 ixDD (mVar 1) (mC (.int 0))) aNil) e s = .ok (.int n) s) (x0 x3 x7 x8 : Option D) : ∀ (vs : List D) (x4 x5 x6 : Option D),
    (∀ v ∈ vs, Tx c v ∧ ∃ b, W15.m_law_is_form c [v, .int n] s = .ok (.bl b) s ∧ m_is_form c [dg, v] s = .ok (.bl b) s) → ∃ y4 y5 y6, forL (tName 4) (v2B c) vs [x0, some dM, some dg, x3, x4, x5, x6, x7, x8] s = .ok (.nx [x0, some dM, some dg, x3, y4, y5, y6, x7, x8]) s
  | [], x4, x5, x6, _ => ⟨x4, x5, x6, rfl⟩
  | v :: vs, x4, x5, x6, h => by
    obtain ⟨ht, b, h1, h2⟩ := h v (by simp)
    obtain ⟨y5, y6, e1⟩ := v2_one (s := s) hM h1 h2 ht (x0 := x0) (x3 := x3) (x5 := x5) (x6 := x6) (x7 := x7) (x8 := x8)
    obtain ⟨z4, z5, z6, e2⟩ := v2_all hM x0 x3 x7 x8 vs (some v) y5 y6 (fun u hu => h u (by simp [hu]))
    refine ⟨z4, z5, z6, ?_⟩
    have e0 : tName 4 v [x0, some dM, some dg, x3, x4, x5, x6, x7, x8] = some [x0, some dM, some dg, x3, some v, x5, x6, x7, x8] := rfl
    simp only [forL, e0, e1]
    exact e2
end W15
set_option Elab.async false
set_option linter.all false
set_option maxRecDepth 100000
set_option maxHeartbeats 1000000
set_option exponentiation.threshold 20000
namespace W15
open Pm hiding rowP
open PySem U W12
variable {c : Cfg} {s : S}
structure Sz (n h : Nat) (d : D) : Prop where
  sm : smD 0 ratOk d = true
  wt : Pm.wt d ≤ n
  ht : Pm.ht d ≤ h
structure SzL (n h : Nat) (ds : List D) : Prop where
  sm : smL 0 ratOk ds = true
  wt : wtL ds ≤ n
  ht : htL ds ≤ h
theorem Sz.mono {n h m k : Nat} {d : D} (x : Sz n h d) (a : n ≤ m) (b : h ≤ k) : Sz m k d := ⟨x.sm, Nat.le_trans x.wt a, Nat.le_trans x.ht b⟩
theorem SzL.mono {n h m k : Nat} {d : List D} (x : SzL n h d) (a : n ≤ m) (b : h ≤ k) : SzL m k d := ⟨x.sm, Nat.le_trans x.wt a, Nat.le_trans x.ht b⟩
theorem Sz.gd {n h : Nat} {d : D} (x : Sz n h d) (a : n ≤ 1000000) : Gd d := ⟨x.sm, Nat.le_trans x.wt a⟩
theorem SzL.nil {n h : Nat} : SzL n h [] := ⟨rfl, Nat.zero_le _, Nat.zero_le _⟩
theorem SzL.cons {n m h : Nat} {d : D} {ds : List D} (x : Sz n h d) (y : SzL m h ds) : SzL (n + 2 + m) h (d :: ds) := ⟨by simp only [smL, x.sm, y.sm, Bool.and_self], by simp only [wtL]; have := x.wt; have := y.wt; omega, by simp only [htL]; have := x.ht; have := y.ht; omega⟩
theorem SzL.one {n h : Nat} {d : D} (x : Sz n h d) : SzL (n + 2) h [d] := x |> fun x => (SzL.cons x (SzL.nil (n := 0))).mono (by omega) (Nat.le_refl _)
theorem SzL.app {n m h : Nat} : ∀ {a b : List D}, SzL n h a → SzL m h b → SzL (n + m) h (a ++ b)
  | [], b, _, y => y.mono (by omega) (Nat.le_refl _)
  | d :: a, b, x, y => by
    obtain ⟨x1, x2, x3⟩ := x
    simp only [smL, Bool.and_eq_true] at x1
    simp only [wtL] at x2
    simp only [htL] at x3
    have r := SzL.app (n := n - (Pm.wt d + 2)) (h := h) (a := a) (b := b) ⟨x1.2, by omega, by omega⟩ y
    exact ⟨by simp only [List.cons_append, smL, x1.1, r.sm, Bool.and_self], by simp only [List.cons_append, wtL]; have := r.wt; omega, by simp only [List.cons_append, htL]; have := r.ht; omega⟩
theorem SzL.of_app {n h : Nat} : ∀ {a b : List D}, SzL n h (a ++ b) → SzL n h a ∧ SzL n h b
  | [], b, x => ⟨.nil, x⟩
  | d :: a, b, x => by
    obtain ⟨x1, x2, x3⟩ := x
    simp only [List.cons_append, smL, Bool.and_eq_true] at x1
    simp only [List.cons_append, wtL] at x2
    simp only [List.cons_append, htL] at x3
    obtain ⟨r1, r2⟩ := SzL.of_app (n := n - (Pm.wt d + 2)) (h := h) (a := a) (b := b) ⟨x1.2, by omega, by omega⟩
    exact ⟨⟨by simp only [smL, x1.1, r1.sm, Bool.and_self], by simp only [wtL]; have := r1.wt; omega, by simp only [htL]; have := r1.ht; omega⟩, r2.mono (by omega) (Nat.le_refl _)⟩
theorem SzL.take {n h : Nat} {a : List D} (x : SzL n h a) (k : Nat) : SzL n h (a.take k) := by
  rw [← List.take_append_drop k a] at x
  exact x.of_app.1
theorem SzL.drop {n h : Nat} {a : List D} (x : SzL n h a) (k : Nat) : SzL n h (a.drop k) := by
  rw [← List.take_append_drop k a] at x
  exact x.of_app.2
theorem SzL.mem {n h : Nat} {a : List D} (x : SzL n h a) {d : D} (hd : d ∈ a) : Sz n h d := ⟨sm_mem x.sm d hd, Nat.le_trans (wt_mem d hd) x.wt, Nat.le_trans (htL_mem hd) x.ht⟩
theorem SzL.rep {n h : Nat} {a : List D} (x : SzL n h a) : ∀ k : Nat, SzL (k * n) h (repD k a)
  | 0 => SzL.nil
  | k + 1 => by
    have := x.app (SzL.rep x k)
    simp only [repD, List.replicate_succ, List.flatten_cons] at this ⊢
    exact this.mono (by rw [Nat.succ_mul]; omega) (Nat.le_refl _)
theorem SzL.lst {n h : Nat} {a : List D} (x : SzL n h a) : Sz (n + 2) (h + 1) (.lst a) := ⟨by simp only [smD, x.sm], by simp only [Pm.wt]; have := x.wt; omega, by simp only [Pm.ht]; have := x.ht; omega⟩
theorem SzL.tup {n h : Nat} {a : List D} (x : SzL n h a) : Sz (n + 4) (h + 1) (.tup a) := ⟨by simp only [smD, x.sm], by simp only [Pm.wt]; have := x.wt; omega, by simp only [Pm.ht]; have := x.ht; omega⟩
theorem sz_non : Sz 1000 0 .non := ⟨rfl, Nat.le_refl _, Nat.le_refl _⟩
theorem sz_bl (b : Bool) : Sz 1000 0 (.bl b) := ⟨rfl, Nat.le_refl _, Nat.le_refl _⟩
theorem sz_int {i : Int} (h : i.natAbs < 1000) : Sz 1000 0 (.int i) := ⟨by simp only [smD]; exact decide_eq_true (Nat.lt_trans h (by decide)), Nat.le_refl _, Nat.le_refl _⟩
theorem sz_mty : Sz 1000 0 .mty := ⟨rfl, Nat.le_refl _, Nat.le_refl _⟩
theorem sz_str {x : Str} (h : (decide ((reprText x).length ≤ 1000) && PyData.strOk (reprText x)) = true) : Sz 1000 0 (.str x) := ⟨by simp only [smD]; exact h, Nat.le_refl _, Nat.le_refl _⟩
theorem sz_rp {x : D} {q : Rat} (h : Nm x q) (h1 : q.num.natAbs < 2 ^ 490) (h2 : q.den < 2 ^ 490) : Sz 1000 0 x := by
  obtain ⟨a, _, b, d⟩ := nm_rp h h1 h2
  exact ⟨a, d, Nat.le_of_eq b⟩
theorem szl_row : ∀ {ds : List D} {qs : List Rat}, All2 Nm ds qs → (∀ q ∈ qs, q.num.natAbs < 2 ^ 490 ∧ q.den < 2 ^ 490) → SzL (1002 * qs.length) 0 ds := fun h hq => by
  obtain ⟨a, _, b, d⟩ := row_rp h hq
  exact ⟨a, d, Nat.le_of_eq b⟩
theorem szl_all {n h : Nat} : ∀ {ds : List D}, (∀ d ∈ ds, Sz n h d) → SzL (ds.length * (n + 2)) h ds
  | [], _ => .nil
  | d :: ds, x => by
    have r := SzL.cons (x d (by simp)) (szl_all (ds := ds) fun e he => x e (by simp [he]))
    exact r.mono (by rw [List.length_cons, Nat.succ_mul]; omega) (Nat.le_refl _)
theorem slice_lastG {xs : List D} {e : Pm.Env} {i : Nat} (he : e[i]? = some (some (.lst xs))) (h0 : 0 < xs.length) (h1 : xs.length ≤ 1000) : mSlice (mVar i) oN (oS (m1 (pNeg c) (mC (.int 1)))) e s = .ok (.lst (xs.take (xs.length - 1))) s := by
  have e1 : oS (m1 (pNeg c) (mC (.int 1))) e s = .ok (some (-1)) s := rfl
  have e2 : cutD xs none (some (-1)) = xs.take (xs.length - 1) := by
    have z : sxD xs.length xs.length (some (-1)) = xs.length - 1 := by
      unfold sxD
      simp
      omega
    unfold cutD
    rw [z, show sxD xs.length 0 none = 0 from rfl]
    simp
  have hl : (xs.take (xs.length - 1)).length ≤ line := by rw [List.length_take]; unfold line; omega
  have e0 : mVar i e s = .ok (.lst xs) s := varP he
  simp only [mSlice, e0, Res.bind_ok, oN, e1, lisOf, newL, e2, if_pos hl]
theorem slice_takeG {xs : List D} {e : Pm.Env} {i k : Nat} {m : Pm.Env → S → Res D} (he : e[i]? = some (some (.lst xs))) (hm : m e s = .ok (.int (k : Int)) s) (hk : k ≤ xs.length) (hl : xs.length ≤ 1000) : mSlice (mVar i) oN (oS m) e s = .ok (.lst (xs.take k)) s := by
  have o : oS m e s = .ok (some (k : Int)) s := by simp [oS, hm]
  refine (slice_gen (a := none) (b := some (k : Int)) (varP he) rfl o (by omega)).trans ?_
  rw [cut_take hk]
theorem slice_dropG {xs : List D} {e : Pm.Env} {i k : Nat} {m : Pm.Env → S → Res D} (he : e[i]? = some (some (.lst xs))) (hm : m e s = .ok (.int (k : Int)) s) (hk : k ≤ xs.length) (hl : xs.length ≤ 1000) : mSlice (mVar i) (oS m) oN e s = .ok (.lst (xs.drop k)) s := by
  have o : oS m e s = .ok (some (k : Int)) s := by simp [oS, hm]
  refine (slice_gen (a := some (k : Int)) (b := none) (varP he) o rfl (by omega)).trans ?_
  rw [cut_drop hk]
theorem mlstG {m : Pm.Env → S → Res (List D)} {e : Pm.Env} {xs : List D} (h : m e s = .ok xs s) (hl : xs.length ≤ 1000) : mLst m e s = .ok (.lst xs) s := by
  have : xs.length ≤ line := by unfold line; omega
  simp only [mLst, h, Res.bind_ok, newL, if_pos this]
theorem mtupG {m : Pm.Env → S → Res (List D)} {e : Pm.Env} {xs : List D} (h : m e s = .ok xs s) (hl : xs.length ≤ 1000) : mTup m e s = .ok (.tup xs) s := by
  have : xs.length ≤ line := by unfold line; omega
  simp only [mTup, h, Res.bind_ok, newT, if_pos this]
theorem aroundG {xs : List D} {e : Pm.Env} {i j a : Nat} {m : Pm.Env → S → Res D} {d : D} (h5 : e[i]? = some (some (.lst xs))) (h8 : e[j]? = some (some (.int (a : Int)))) (ha : a < xs.length) (hl : xs.length ≤ 100) (hm : m e s = .ok d s) :
    m2 (U.pAdd c) (m2 (U.pAdd c) (mSlice (mVar i) oN (oS (mVar j))) (mLst (aCons m aNil))) (mSlice (mVar i) (oS (m2 (U.pAdd c) (mVar j) (mC (.int 1)))) oN) e s = .ok (.lst (xs.take a ++ [d] ++ xs.drop (a + 1))) s := by
  have z : m2 (U.pAdd c) (mVar j) (mC (.int 1)) e s = .ok (.int ((a + 1 : Nat) : Int)) s := by
    have := (m2P (f := U.pAdd c) (varP h8) (conP (x := .int 1) (s := s))).trans (add_ii _ _)
    simpa using this
  have b3 : mLst (aCons m aNil) e s = .ok (.lst [d]) s := mlstG (con0 hm nil0) (by simp)
  exact (m2P ((m2P (slice_takeG h5 (varP h8) (by omega) (by omega)) b3).trans (cat_ll (by simp; omega))) (slice_dropG h5 z (by omega) (by omega))).trans (cat_ll (by simp; omega))
theorem catG {a b : Pm.Env → S → Res D} {e : Pm.Env} {xs ys : List D} (ha : a e s = .ok (.lst xs) s) (hb : b e s = .ok (.lst ys) s) (hl : xs.length + ys.length ≤ 1000000) : m2 (U.pAdd c) a b e s = .ok (.lst (xs ++ ys)) s := (m2P ha hb).trans (cat_ll hl)
theorem rep_len (k : Nat) (xs : List D) : (repD k xs).length = k * xs.length := by
  induction k with
  | zero => simp [repD]
  | succ k ih =>
    simp only [repD, List.replicate_succ, List.flatten_cons, List.length_append] at ih ⊢
    rw [ih, Nat.succ_mul]
    omega
theorem mul_lk {xs : List D} {k : Nat} (h : xs.length * k ≤ 100000) (hk : k ≤ 1000) : pMul c (.lst xs) (.int (k : Int)) s = .ok (.lst (repD k xs)) s := by
  have q : mulL (.lst xs) (.int (k : Int)) s = .ok (.lst (repD k xs)) s := by
    unfold mulL
    have h1 : decide (-1000000 ≤ (k : Int) ∧ (k : Int) < 1000000 ∧ xs.length * (k : Int).toNat ≤ line) = true := decide_eq_true ⟨by omega, by omega, by rw [Int.toNat_natCast]; unfold line; omega⟩
    refine (if_pos h1).trans ?_
    unfold newL
    rw [Int.toNat_natCast]
    exact if_pos (by rw [rep_len, Nat.mul_comm]; unfold line; omega)
  unfold pMul mulD
  rw [q, show mulI (.lst xs) (.int (k : Int)) s = .stuck from rfl]
  rfl
theorem tupG {v : D} {xs : List D} (hs : Sq2 v xs) (hl : xs.length ≤ 1000) : bTuple [v] s = .ok (.tup xs) s := by
  have h : xs.length ≤ line := by unfold line; omega
  cases hs <;> simp [bTuple, seqOf, isTupD, newT, h]
end W15
set_option Elab.async false
set_option linter.all false
set_option maxRecDepth 100000
set_option maxHeartbeats 1000000
set_option exponentiation.threshold 20000
namespace W15
open Pm hiding rowP
open PySem U W12
variable {c : Cfg} {s : S}
mutual
theorem pure_sm {c' : Nat} {ok : List D → Bool} (ho : ∀ fs, ok fs = true → pureL fs = true) : ∀ d : D, smD c' ok d = true → pureD d = true
  | .non, _ => rfl
  | .bl _, _ => rfl
  | .int _, _ => rfl
  | .str _, _ => rfl
  | .lst ds, h => by simp only [smD] at h; simp only [pureD]; exact pure_smL ho ds h
  | .tup ds, h => by simp only [smD] at h; simp only [pureD]; exact pure_smL ho ds h
  | .ins _ fs, h => by simp only [smD, Bool.and_eq_true] at h; simp only [pureD]; exact ho fs h.2
  | .mty, _ => rfl
  | .ro _, h => by cases h
  | .rot _, h => by cases h
  | .cell _, h => by cases h
  | .cls _, h => by cases h
  | .ty _, h => by cases h
  | .dki _ _, h => by cases h
  | .dkt _ _, h => by cases h
  | .dct _ _, h => by cases h
theorem pure_smL {c' : Nat} {ok : List D → Bool} (ho : ∀ fs, ok fs = true → pureL fs = true) : ∀ ds : List D, smL c' ok ds = true → pureL ds = true
  | [], _ => rfl
  | d :: ds, h => by
    simp only [smL, Bool.and_eq_true] at h
    simp only [pureL, Bool.and_eq_true]
    exact ⟨pure_sm ho d h.1, pure_smL ho ds h.2⟩
end
theorem rat_pure : ∀ fs, ratOk fs = true → pureL fs = true := fun fs h => by
  unfold ratOk at h
  split at h
  · rfl
  · cases h
theorem cut_res {T : S} {r : Res D} {d : D} (h : r = .ok d T) (hd : pureD d = true) {s' : S} (ht : T.take s.length = s') (hc : cutOk s' = true) : cutRes s.length r = .ok d s' := by
  subst h
  subst ht
  simp only [cutRes, Res.bind_ok, hd, hc, Bool.and_self, if_true]
def put (ds : List D) (a : Nat) (r : D) : D := .lst (ds.take a ++ [r] ++ ds.drop (a + 1))
def bpB (c : Cfg) : Pm.Env → S → Res Fl := (sExpr (mtCell appF (mVar 6) (aCons (m2 (U.pAdd c) (m2 (U.pAdd c) (mSlice (mVar 1) oN (oS (mVar 2))) (mLst (aCons (mVar 7) aNil))) (mSlice (mVar 1) (oS (m2 (U.pAdd c) (mVar 2) (mC (.int 1)))) oN)) aNil)))
abbrev EB (ds : List D) (a : Nat) (x3 x4 x5 : Option D) (k : Nat) (x7 : Option D) : Pm.Env := [some (.cell 0), some (.lst ds), some (.int (a : Int)), x3, x4, x5, some (.cell k), x7]
theorem bp_all {ds : List D} {a : Nat} (ha : a < ds.length) (hl : ds.length ≤ 100) {x3 x4 x5 : Option D} {σ : S} : ∀ (rs X : List D) (x7 : Option D), X.length + rs.length ≤ 1000 → ∃ y7, forL (tName 7) (bpB c) rs (EB ds a x3 x4 x5 σ.length x7) (σ ++ [.lst X]) = .ok (.nx (EB ds a x3 x4 x5 σ.length y7)) (σ ++ [.lst (X ++ rs.map (put ds a))])
  | [], X, x7, _ => ⟨x7, by simp [forL]⟩
  | r :: rs, X, x7, hx => by
    simp only [List.length_cons] at hx
    obtain ⟨y7, ih⟩ := bp_all ha hl (x3 := x3) (x4 := x4) (x5 := x5) (σ := σ) rs (X ++ [put ds a r]) (some r) (by simp; omega)
    refine ⟨y7, ?_⟩
    have e0 : tName 7 r (EB ds a x3 x4 x5 σ.length x7) = some (EB ds a x3 x4 x5 σ.length (some r)) := rfl
    have tk : (σ ++ [Cell.lst X])[σ.length]? = some (.lst X) := by simp
    have ar := aroundG (c := c) (s := σ ++ [.lst X]) (xs := ds) (e := EB ds a x3 x4 x5 σ.length (some r)) (i := 1) (j := 2) (m := mVar 7) (d := r) rfl rfl ha hl (varP rfl)
    have e2 := con0 ar (nil0 (s := σ ++ [.lst X]) (e := EB ds a x3 x4 x5 σ.length (some r)))
    have ap : appF X [put ds a r] = some (X ++ [put ds a r]) := by
      have : X.length < line := by unfold line; omega
      show (if X.length < line then some (X ++ [put ds a r]) else none) = _
      rw [if_pos this]
    have ev : mVar 6 (EB ds a x3 x4 x5 σ.length (some r)) (σ ++ [.lst X]) = .ok (.cell σ.length) (σ ++ [.lst X]) := varP rfl
    have st : (σ ++ [Cell.lst X]).set σ.length (.lst (X ++ [put ds a r])) = σ ++ [.lst (X ++ [put ds a r])] := set_app
    have e3 : bpB c (EB ds a x3 x4 x5 σ.length (some r)) (σ ++ [.lst X]) = .ok (.nx (EB ds a x3 x4 x5 σ.length (some r))) (σ ++ [.lst (X ++ [put ds a r])]) := by
      simp only [bpB, sExpr, mtCell, ev, Res.bind_ok, tk, e2]
      show (match appF X [put ds a r] with | some es => Res.ok D.non ((σ ++ [Cell.lst X]).set σ.length (.lst es)) | none => .stuck).bind _ = _
      rw [ap]
      simp only [st, Res.bind_ok]
    simp only [forL, e0, e3, Res.bind_ok]
    refine ih.trans ?_
    simp
theorem sFrz_nx {i k : Nat} {ms : Pm.Env → S → Res Fl} {e e' : Pm.Env} {s1 : S} {ds : List D} (h : ms e s = .ok (.nx e') s1) (he : e'[i]? = some (some (.cell k))) (hk : s1[k]? = some (.lst ds)) : sFrz i ms e s = .ok (.nx (e'.set i (some (.lst ds)))) (s1.set k .dead) := by
  simp only [sFrz, h, Res.bind_ok, he, hk]
structure Gv (ds : List D) (M : List (List Rat)) (w : Nat) : Prop where
  row : All2 Row ds M
  many : 2 ≤ M.length ∧ M.length ≤ 9
  wide : 1 ≤ w ∧ w ≤ 8
  len : ∀ r ∈ M, r.length = w
  num : ∀ r ∈ M, ∀ q ∈ r, q.num.natAbs < 2 ^ 490 ∧ q.den < 2 ^ 490
theorem Gv.cnt {ds : List D} {M : List (List Rat)} {w : Nat} (g : Gv ds M w) : ds.length = M.length := g.row.len
theorem Gv.szl {ds : List D} {M : List (List Rat)} {w : Nat} (g : Gv ds M w) : SzL 73000 1 ds := by
  obtain ⟨a, _, b, d⟩ := rows_rp (w := 8) g.row (fun r hr => ⟨by rw [g.len r hr]; exact g.wide.2, g.num r hr⟩)
  refine ⟨a, Nat.le_trans d ?_, b⟩
  have : (1002 * 8 + 6) * M.length ≤ (1002 * 8 + 6) * 9 := Nat.mul_le_mul_left _ g.many.2
  omega
theorem Gv.row' {ds : List D} {M : List (List Rat)} {w : Nat} (g : Gv ds M w) {d : D} (hd : d ∈ ds) : ∃ es, Sq2 d es ∧ es.length = w ∧ SzL 8016 0 es := by
  obtain ⟨r, hr, es, h1, h2⟩ := g.row.mem1 hd
  have := szl_row h2 (g.num r hr)
  refine ⟨es, h1, by rw [h2.len, g.len r hr], this.mono ?_ (Nat.le_refl _)⟩
  rw [g.len r hr]
  have : 1002 * w ≤ 1002 * 8 := Nat.mul_le_mul_left _ g.wide.2
  omega
end W15
set_option Elab.async false
set_option linter.all false
set_option maxRecDepth 100000
set_option maxHeartbeats 2000000
set_option exponentiation.threshold 20000
namespace W15
open Pm hiding rowP
open PySem U W12
variable {c : Cfg} {s : S}
theorem Gv.seqs {ds : List D} {M : List (List Rat)} {w : Nat} (g : Gv ds M w) : ∃ ess : List (List D), All2 (fun d xs => Sq2 d xs ∧ xs.length = w ∧ SzL 8016 0 xs) ds ess := by
  have go : ∀ l : List D, (∀ d ∈ l, d ∈ ds) → ∃ ess : List (List D), All2 (fun d xs => Sq2 d xs ∧ xs.length = w ∧ SzL 8016 0 xs) l ess := fun l => by
    induction l with
    | nil => exact fun _ => ⟨[], .nil⟩
    | cons d l ih =>
      intro h
      obtain ⟨ess, e⟩ := ih fun x hx => h x (by simp [hx])
      obtain ⟨es, h1, h2, h3⟩ := g.row' (h d (by simp))
      exact ⟨es :: ess, .cons ⟨h1, h2, h3⟩ e⟩
  exact go ds fun _ h => h
def odds : List D := [.non, .bl true, .str "1", .lst [.int 1], .mty, .tup []]
theorem odds_sz : ∀ d ∈ odds, Sz 1010 1 d := fun d hd => by
  simp only [odds, List.mem_cons, List.not_mem_nil, or_false] at hd
  rcases hd with rfl | rfl | rfl | rfl | rfl | rfl
  · exact sz_non.mono (by decide) (by decide)
  · exact (sz_bl _).mono (by decide) (by decide)
  · exact (sz_str (by decide +kernel)).mono (by decide) (by decide)
  · exact (SzL.one (sz_int (i := 1) (by decide))).lst.mono (by decide) (by decide)
  · exact sz_mty.mono (by decide) (by decide)
  · exact (SzL.nil (n := 0) (h := 0)).tup.mono (by decide) (by decide)
theorem put_sz {ds : List D} {n h m k a : Nat} {d : D} (x : SzL n h ds) (y : Sz m h d) (hk : n + (m + 2) + n + 2 ≤ k) : Sz k (h + 1) (put ds a d) :=
  (((x.take a).app (SzL.one y)).app (x.drop (a + 1))).lst.mono hk (Nat.le_refl _)
theorem sFor_runG {mi : Pm.Env → S → Res (List D)} {mt : D → Pm.Env → Option Pm.Env} {b : Pm.Env → S → Res Fl} {e : Pm.Env} {ds : List D} (h : mi e s = .ok ds s) : sFor mi mt b e s = forL mt b ds e s := by simp [sFor, h]
theorem iLstG {m : Pm.Env → S → Res D} {e : Pm.Env} {xs : List D} (h : m e s = .ok (.lst xs) s) : iLst m e s = .ok xs s := by simp [iLst, h, iSeq]
theorem comp_sq {own : List Nat} {mi : Pm.Env → S → Res (List D)} {mt : D → Pm.Env → Option Pm.Env} {me : Pm.Env → S → Res D} {env : Pm.Env} {ds : List D} {ess : List (List D)} {R : D → List D → Prop} (h : All2 R ds ess) (f : List D → D) (hl : ds.length ≤ 1000) (hi : mi env s = .ok ds s)
    (H : ∀ d e, d ∈ ds → e ∈ ess → R d e → ∃ e1, mt d (wipeE env own) = some e1 ∧ me e1 s = .ok (f e) s) : mCompF finL own mi mt mYes me env s = .ok (.lst (ess.map f)) s :=
  compD (mi := mi) hi (by omega) (compE (s := s) (own := own) (env := env) (mt := mt) (me := me) (f := f) h H)
theorem all2_mem2 {α β : Type} {R : α → β → Prop} : ∀ {l : List α} {m : List β}, All2 R l m → ∀ b ∈ m, ∃ a ∈ l, R a b
  | _, _, .nil, _, h => nomatch h
  | _, _, .cons (a := a) h t, b, hb => by
    rcases List.mem_cons.mp hb with rfl | z
    · exact ⟨a, by simp, h⟩
    · obtain ⟨x, h1, h2⟩ := all2_mem2 t b z
      exact ⟨x, by simp [h1], h2⟩
theorem bent_pts (hd : DrawOk c.dr) (h : PS s) {ds : List D} {M : List (List Rat)} {w : Nat} (g : Gv ds M w) : ∃ (vs : List D) (s' : S), m_law_bent_points c [.cell 0, .lst ds] s = .ok (.lst vs) s' ∧ (∀ v ∈ vs, Sz 900000 4 v) ∧ vs.length ≤ 100 ∧ Nx s s' := by
  have cnt := g.cnt
  have mm := g.many
  have ww := g.wide
  let E0 : Pm.Env := [some (.cell 0), some (.lst ds), none, none, none, none, none, none]
  obtain ⟨a, s1, k1, ha, n1⟩ := drawE (c := c) hd h (e := E0) rfl (m := mCall bLenA (aCons (mVar 1) aNil)) (n := (ds.length : Int)) ((bcall1 (i := 1) rfl).trans (sq_len (.lst ds))) (by omega) (by omega)
  have h1 := h.next n1
  obtain ⟨odd, s2, k2, ho, n2⟩ := pick (c := c) hd h1 (xs := odds) (by decide) (by decide)
  have h2 := h1.next n2
  have oz := odds_sz odd ho
  have ha' : a < ds.length := by omega
  obtain ⟨da, hda⟩ : ∃ d, ds[a]? = some d := ⟨_, List.getElem?_eq_getElem ha'⟩
  obtain ⟨pt, sq, pl, pz⟩ := g.row' (List.mem_of_getElem? hda)
  let E1 : Pm.Env := [some (.cell 0), some (.lst ds), some (.int (a : Int)), some odd, none, none, none, none]
  let E2 : Pm.Env := [some (.cell 0), some (.lst ds), some (.int (a : Int)), some odd, some (.lst pt), none, none, none]
  have a1 : sPar 2 3 (aCons (mCallD (n := 2) [] c.dr (aCons (mVar 0) (aCons (mCall bLenA (aCons (mVar 1) aNil)) aNil))) (aCons (mCallD (n := 2) [] (U.m_law_pick c) (aCons (mVar 0) (aCons (mLst (aCons (mC .non) (aCons (mC (.bl true)) (aCons (mC (.str "1")) (aCons (mLst (aCons (mC (.int 1)) aNil)) (aCons mDct0 (aCons (mTup aNil) aNil))))))) aNil))) aNil)) E0 s = .ok (.nx E1) s2 := by
    have := consP k1 (consP ((callDP (n := 2) (e := E0) (f := U.m_law_pick c) (consP (varP (i := 0) rfl) (consP (s2 := s1) (show mLst (aCons (mC .non) (aCons (mC (.bl true)) (aCons (mC (.str "1")) (aCons (mLst (aCons (mC (.int 1)) aNil)) (aCons mDct0 (aCons (mTup aNil) aNil)))))) E0 s1 = .ok (.lst odds) s1 from rfl) nilP)) rfl).trans k2) nilP)
    simp only [sPar, this, Res.bind_ok]
    rfl
  have a2 : sSet 4 (mCall bList (aCons (m2 ixDD (mVar 1) (mVar 2)) aNil)) E1 s2 = .ok (.nx E2) s2 :=
    setP (i := 4) ((callP (consP ((m2P (varP (i := 1) rfl) (varP (i := 2) rfl)).trans (sq_ix (.lst ds) hda)) nilP)).trans (list_of sq (by omega)))
  obtain ⟨p, s3, k3, hp, n3⟩ := drawE (c := c) hd h2 (e := E2) rfl (m := mCall bLenA (aCons (mVar 4) aNil)) (n := (pt.length : Int)) ((bcall1 (i := 4) rfl).trans (sq_len (.lst pt))) (by omega) (by omega)
  have h3 := h2.next n3
  have hp' : p < pt.length := by omega
  let E3 : Pm.Env := EB ds a (some odd) (some (.lst pt)) (some (.int (p : Int))) s3.length none
  have a3 : sPar 5 6 (aCons (mCallD (n := 2) [] c.dr (aCons (mVar 0) (aCons (mCall bLenA (aCons (mVar 4) aNil)) aNil))) (aCons (mCell aNil) aNil)) E2 s2 = .ok (.nx E3) (s3 ++ [.lst []]) := by
    have z : mCell aNil E2 s3 = .ok (.cell s3.length) (s3 ++ [.lst []]) := by simp [mCell, aNil, line]
    have := consP k3 (consP z nilP)
    simp only [sPar, this, Res.bind_ok]
    rfl
  let T0 := s3 ++ [Cell.lst []]
  -- the rows
  let R5 : List D := [.lst (pt ++ [.int 0]), .lst (pt.take (pt.length - 1)), odd, .lst (pt.take p ++ [odd] ++ pt.drop (p + 1)), .lst (pt.take p ++ [.int 7] ++ pt.drop (p + 1))]
  have r1 : m2 (U.pAdd c) (mVar 4) (mLst (aCons (mC (.int 0)) aNil)) E3 T0 = .ok (.lst (pt ++ [.int 0])) T0 := catG (varP rfl) rfl (by simp; omega)
  have r2 : mSlice (mVar 4) oN (oS (m1 (U.pNeg c) (mC (.int 1)))) E3 T0 = .ok (.lst (pt.take (pt.length - 1))) T0 := slice_lastG (i := 4) rfl (by omega) (by omega)
  have r4 := aroundG (c := c) (s := T0) (xs := pt) (e := E3) (i := 4) (j := 5) (m := mVar 3) (d := odd) rfl rfl hp' (by omega) (varP rfl)
  have r5 := aroundG (c := c) (s := T0) (xs := pt) (e := E3) (i := 4) (j := 5) (m := mC (.int 7)) (d := .int 7) rfl rfl hp' (by omega) conP
  have it := iLstG (mlstG (con0 r1 (con0 r2 (con0 (varP (i := 3) (x := odd) (e := E3) rfl) (con0 r4 (con0 r5 nil0))))) (by simp))
  obtain ⟨y7, lp⟩ := bp_all (c := c) ha' (by omega) (x3 := some odd) (x4 := some (.lst pt)) (x5 := some (.int (p : Int))) (σ := s3) R5 [] none (by simp [R5])
  have a4 := (sFor_runG (mt := tName 7) (b := bpB c) it).trans lp
  let E4 : Pm.Env := EB ds a (some odd) (some (.lst pt)) (some (.int (p : Int))) s3.length y7
  let X5 : List D := R5.map (put ds a)
  let T1 := s3 ++ [Cell.lst X5]
  obtain ⟨ess, hes⟩ := g.seqs
  have esl : ess.length = ds.length := hes.len.symm
  let X6 : List D := [.lst (ds ++ [.lst pt]), .lst (ds.take a ++ ds.drop (a + 1)), .lst (repD 2 ds ++ repD 9 (ds.take 1)), .lst (ds ++ [odd]), .lst [.lst ds], .lst (ess.map D.tup)]
  have v1 : ∀ T, mVar 1 E4 T = .ok (.lst ds) T := fun T => varP rfl
  have z1 : ∀ T, m2 (U.pAdd c) (mVar 2) (mC (.int 1)) E4 T = .ok (.int ((a + 1 : Nat) : Int)) T := fun T => by
    have := (m2P (f := U.pAdd c) (varP (i := 2) (x := .int (a : Int)) (e := E4) rfl) (conP (x := .int 1) (s := T))).trans (add_ii _ _)
    simpa using this
  have q1 : m2 (U.pAdd c) (mVar 1) (mLst (aCons (mVar 4) aNil)) E4 T1 = .ok (.lst (ds ++ [.lst pt])) T1 := catG (v1 T1) (mlstG (con0 (varP rfl) nil0) (by simp)) (by simp; omega)
  have q2 : m2 (U.pAdd c) (mSlice (mVar 1) oN (oS (mVar 2))) (mSlice (mVar 1) (oS (m2 (U.pAdd c) (mVar 2) (mC (.int 1)))) oN) E4 T1 = .ok (.lst (ds.take a ++ ds.drop (a + 1))) T1 :=
    catG (slice_takeG (i := 1) rfl (varP rfl) (by omega) (by omega)) (slice_dropG (i := 1) rfl (z1 T1) (by omega) (by omega)) (by simp; omega)
  have tk1 : ∀ T, mSlice (mVar 1) oN (oS (mC (.int 1))) E4 T = .ok (.lst (ds.take 1)) T := fun T => slice_takeG (i := 1) (k := 1) rfl rfl (by omega) (by omega)
  have q3 : m2 (U.pAdd c) (m2 (U.pMul c) (mVar 1) (mC (.int 2))) (m2 (U.pMul c) (mSlice (mVar 1) oN (oS (mC (.int 1)))) (mC (.int 9))) E4 T1 = .ok (.lst (repD 2 ds ++ repD 9 (ds.take 1))) T1 :=
    catG ((m2P (v1 T1) conP).trans (mul_lk (k := 2) (by omega) (by decide))) ((m2P (tk1 T1) conP).trans (mul_lk (k := 9) (by simp; omega) (by decide))) (by rw [rep_len, rep_len, List.length_take]; omega)
  have q4 : m2 (U.pAdd c) (mVar 1) (mLst (aCons (mVar 3) aNil)) E4 T1 = .ok (.lst (ds ++ [odd])) T1 := catG (v1 T1) (mlstG (con0 (varP rfl) nil0) (by simp)) (by simp; omega)
  have q5 : mLst (aCons (mVar 1) aNil) E4 T1 = .ok (.lst [.lst ds]) T1 := mlstG (con0 (v1 T1) nil0) (by simp)
  have q6 : mCompF finL [7] (iLst (mVar 1)) (tName 7) mYes (mCall bTuple (aCons (mVar 7) aNil)) E4 T1 = .ok (.lst (ess.map D.tup)) T1 :=
    comp_sq (own := [7]) (env := E4) (mt := tName 7) hes D.tup (by omega) (iLstG (v1 T1)) (fun d xs hd hx hr => ⟨EB ds a (some odd) (some (.lst pt)) (some (.int (p : Int))) s3.length (some d), rfl, (bcall1 (i := 7) rfl).trans (tupG hr.1 (by omega))⟩)
  have el := mlstG (con0 q1 (con0 q2 (con0 q3 (con0 q4 (con0 q5 (con0 q6 nil0)))))) (by simp)
  have ex : extF X5 [.lst X6] = some (X5 ++ X6) := by
    have : X5.length + X6.length ≤ line := by simp only [X5, X6, R5, List.length_map, List.length_cons, List.length_nil]; decide
    show (if X5.length + X6.length ≤ line then some (X5 ++ X6) else none) = _
    rw [if_pos this]
  have tk : T1[s3.length]? = some (.lst X5) := by simp [T1]
  have st : T1.set s3.length (.lst (X5 ++ X6)) = s3 ++ [.lst (X5 ++ X6)] := set_app
  have v6 : mVar 6 E4 T1 = .ok (.cell s3.length) T1 := varP rfl
  have a5' : sExpr (mtCell extF (mVar 6) (aCons (mLst (aCons (m2 (U.pAdd c) (mVar 1) (mLst (aCons (mVar 4) aNil))) (aCons (m2 (U.pAdd c) (mSlice (mVar 1) oN (oS (mVar 2))) (mSlice (mVar 1) (oS (m2 (U.pAdd c) (mVar 2) (mC (.int 1)))) oN)) (aCons (m2 (U.pAdd c) (m2 (U.pMul c) (mVar 1) (mC (.int 2))) (m2 (U.pMul c) (mSlice (mVar 1) oN (oS (mC (.int 1)))) (mC (.int 9)))) (aCons (m2 (U.pAdd c) (mVar 1) (mLst (aCons (mVar 3) aNil))) (aCons (mLst (aCons (mVar 1) aNil)) (aCons (mCompF finL [7] (iLst (mVar 1)) (tName 7) mYes (mCall bTuple (aCons (mVar 7) aNil))) aNil))))))) aNil)) E4 T1 = .ok (.nx E4) (s3 ++ [.lst (X5 ++ X6)]) := by
    have e2 := con0 el (nil0 (s := T1) (e := E4))
    simp only [sExpr, mtCell, v6, Res.bind_ok, tk, e2]
    show (match extF X5 [.lst X6] with | some es => Res.ok D.non (T1.set s3.length (.lst es)) | none => .stuck).bind _ = _
    rw [ex]
    simp only [st, Res.bind_ok]
  let V := X5 ++ X6
  let E5 : Pm.Env := [some (.cell 0), some (.lst ds), some (.int (a : Int)), some odd, some (.lst pt), some (.int (p : Int)), some (.lst V), y7]
  let T2 := s3 ++ [Cell.dead]
  have a5 := sFrz_nx (i := 6) a5' rfl (show (s3 ++ [Cell.lst V])[s3.length]? = some (.lst V) by simp)
  rw [set_app] at a5
  have tk2 : mSlice (mVar 1) oN (oS (mC (.int 1))) E5 T2 = .ok (.lst (ds.take 1)) T2 := slice_takeG (i := 1) (k := 1) rfl rfl (by omega) (by omega)
  have q8 : mCompF finL [7] (iLst (mVar 1)) (tName 7) mYes (m2 (U.pMul c) (mCall bList (aCons (mVar 7) aNil)) (mC (.int 3))) E5 T2 = .ok (.lst (ess.map fun xs => D.lst (repD 3 xs))) T2 :=
    comp_sq (own := [7]) (env := E5) (mt := tName 7) hes (fun xs => D.lst (repD 3 xs)) (by omega) (iLstG (varP rfl)) (fun d xs hd hx hr => ⟨[some (.cell 0), some (.lst ds), some (.int (a : Int)), some odd, some (.lst pt), some (.int (p : Int)), some (.lst V), some d], rfl, (m2P ((bcall1 (i := 7) rfl).trans (list_of hr.1 (by omega))) conP).trans (mul_lk (k := 3) (by omega) (by decide))⟩)
  let F2 : List D := [.lst (ds.take 1), .lst (ess.map fun xs => D.lst (repD 3 xs))]
  have a6 : m2 (U.pAdd c) (mVar 6) (mLst (aCons (mSlice (mVar 1) oN (oS (mC (.int 1)))) (aCons (mCompF finL [7] (iLst (mVar 1)) (tName 7) mYes (m2 (U.pMul c) (mCall bList (aCons (mVar 7) aNil)) (mC (.int 3)))) aNil))) E5 T2 = .ok (.lst (V ++ F2)) T2 :=
    catG (varP rfl) (mlstG (con0 tk2 (con0 q8 nil0)) (show 2 ≤ 1000 by decide)) (show 11 + 2 ≤ 1000000 by decide)
  have body : b_law_bent_points c E0 s = .ok (.rt (.lst (V ++ F2))) T2 := (seqP a1).trans ((seqP a2).trans ((seqP a3).trans ((seqP a4).trans ((seqP a5).trans (retP a6)))))
  have N := (n1.trans n2).trans n3
  -- sizes
  have dz := g.szl
  have dz2 := dz.mono (Nat.le_refl _) (show 1 ≤ 2 by decide)
  have pz1 := pz.mono (Nat.le_refl _) (show 0 ≤ 1 by decide)
  have r5z : ∀ d ∈ R5, Sz 20000 2 d := fun d hd => by
    simp only [R5, List.mem_cons, List.not_mem_nil, or_false] at hd
    rcases hd with rfl | rfl | rfl | rfl | rfl
    · exact ((pz.app (SzL.one (sz_int (i := 0) (by decide)))).lst).mono (by decide) (by decide)
    · exact ((pz.take _).lst).mono (by decide) (by decide)
    · exact oz.mono (by decide) (by decide)
    · exact (((pz1.take p).app (SzL.one oz)).app (pz1.drop (p + 1))).lst.mono (by decide) (by decide)
    · exact (((pz.take p).app (SzL.one (sz_int (i := 7) (by decide)))).app (pz.drop (p + 1))).lst.mono (by decide) (by decide)
  have tz : SzL 73000 1 (ess.map D.tup) := by
    have : SzL ((ess.map D.tup).length * (8020 + 2)) 1 (ess.map D.tup) := szl_all fun d hd => by
      obtain ⟨xs, hx, rfl⟩ := List.mem_map.mp hd
      obtain ⟨_, _, _, _, z⟩ := all2_mem2 hes xs hx
      exact z.tup
    refine this.mono ?_ (Nat.le_refl _)
    rw [List.length_map, esl]
    omega
  have lz : SzL 220000 1 (ess.map fun xs => D.lst (repD 3 xs)) := by
    have : SzL ((ess.map fun xs => D.lst (repD 3 xs)).length * (24050 + 2)) 1 (ess.map fun xs => D.lst (repD 3 xs)) := szl_all fun d hd => by
      obtain ⟨xs, hx, rfl⟩ := List.mem_map.mp hd
      obtain ⟨_, _, _, _, z⟩ := all2_mem2 hes xs hx
      exact (z.rep 3).lst
    refine this.mono ?_ (Nat.le_refl _)
    rw [List.length_map, esl]
    omega
  have all : ∀ v ∈ V ++ F2, Sz 900000 4 v := fun v hv => by
    rcases List.mem_append.mp hv with hv | hv
    · rcases List.mem_append.mp hv with hv | hv
      · obtain ⟨d, hd, rfl⟩ := List.mem_map.mp hv
        exact (put_sz (h := 2) dz2 (r5z d hd) (by decide)).mono (Nat.le_refl _) (by decide)
      · simp only [X6, List.mem_cons, List.not_mem_nil, or_false] at hv
        rcases hv with rfl | rfl | rfl | rfl | rfl | rfl
        · exact (dz.app (SzL.one pz.lst)).lst.mono (by decide) (by decide)
        · exact ((dz.take a).app (dz.drop (a + 1))).lst.mono (by decide) (by decide)
        · exact ((dz.rep 2).app ((dz.take 1).rep 9)).lst.mono (by decide) (by decide)
        · exact (dz.app (SzL.one oz)).lst.mono (by decide) (by decide)
        · exact (SzL.one dz.lst).lst.mono (by decide) (by decide)
        · exact tz.lst.mono (by decide) (by decide)
    · simp only [F2, List.mem_cons, List.not_mem_nil, or_false] at hv
      rcases hv with rfl | rfl
      · exact (dz.take 1).lst.mono (by decide) (by decide)
      · exact lz.lst.mono (by decide) (by decide)
  refine ⟨V ++ F2, s3, ?_, all, (show 13 ≤ 100 by decide), N⟩
  have pu : pureD (.lst (V ++ F2)) = true := pure_sm rat_pure _ (szl_all all).lst.sm
  exact cut_res (runP2 body) pu (by rw [← nx_len N]; simp [T2]) h3.cut
end W15
set_option Elab.async false
set_option linter.all false
set_option maxRecDepth 100000
set_option maxHeartbeats 2000000
set_option exponentiation.threshold 20000
namespace W15
open Pm hiding rowP
open PySem U W12
variable {c : Cfg} {s : S}
def odd5 : List D := [.non, .bl true, .str "1", .lst [.int 1], .mty]
theorem odd5_sz : ∀ d ∈ odd5, Sz 1010 1 d := fun d hd => odds_sz d (by
  simp only [odd5, odds, List.mem_cons, List.not_mem_nil, or_false] at hd ⊢
  rcases hd with h | h | h | h | h <;> simp [h])
theorem bent_forms (hd : DrawOk c.dr) (h : PS s) {N : List D} {num : D} (hN : SzL 8016 0 N) (hl : 1 ≤ N.length ∧ N.length ≤ 8) (hn : Sz 1000 0 num) : ∃ (vs : List D) (s' : S), m_law_bent_forms c [.cell 0, .lst N, num] s = .ok (.lst vs) s' ∧ (∀ v ∈ vs, Sz 100000 4 v) ∧ vs.length ≤ 100 ∧ Nx s s' := by
  let E0 : Pm.Env := [some (.cell 0), some (.lst N), some num, none, none, none]
  obtain ⟨a, s1, k1, ha, n1⟩ := drawE (c := c) hd h (e := E0) rfl (m := mCall bLenA (aCons (mVar 1) aNil)) (n := (N.length : Int)) ((bcall1 (i := 1) rfl).trans (sq_len (.lst N))) (by omega) (by omega)
  have h1 := h.next n1
  obtain ⟨odd, s2, k2, ho, n2⟩ := pick (c := c) hd h1 (xs := odd5) (by decide) (by decide)
  have h2 := h1.next n2
  have oz := odd5_sz odd ho
  have ha' : a < N.length := by omega
  let E1 : Pm.Env := [some (.cell 0), some (.lst N), some num, some (.int (a : Int)), some odd, none]
  have a1 : sPar 3 4 (aCons (mCallD (n := 2) [] c.dr (aCons (mVar 0) (aCons (mCall bLenA (aCons (mVar 1) aNil)) aNil))) (aCons (mCallD (n := 2) [] (U.m_law_pick c) (aCons (mVar 0) (aCons (mLst (aCons (mC .non) (aCons (mC (.bl true)) (aCons (mC (.str "1")) (aCons (mLst (aCons (mC (.int 1)) aNil)) (aCons mDct0 aNil)))))) aNil))) aNil)) E0 s = .ok (.nx E1) s2 := by
    have := consP k1 (consP ((callDP (n := 2) (e := E0) (f := U.m_law_pick c) (consP (varP (i := 0) rfl) (consP (s2 := s1) (show mLst (aCons (mC .non) (aCons (mC (.bl true)) (aCons (mC (.str "1")) (aCons (mLst (aCons (mC (.int 1)) aNil)) (aCons mDct0 aNil))))) E0 s1 = .ok (.lst odd5) s1 from rfl) nilP)) rfl).trans k2) nilP)
    simp only [sPar, this, Res.bind_ok]
    rfl
  let X6 : List D := [.tup [.lst N, num], .tup [.tup N, num], .lst [.lst N, num], .tup [.lst N, odd], .tup [odd, num], .tup [.lst N, num, .int 0]]
  let k := s2.length
  let E2 : Pm.Env := [some (.cell 0), some (.lst N), some num, some (.int (a : Int)), some odd, some (.cell k)]
  let T1 := s2 ++ [Cell.lst X6]
  have w1 : mVar 1 E1 s2 = .ok (.lst N) s2 := varP rfl
  have w2 : mVar 2 E1 s2 = .ok num s2 := varP rfl
  have w4 : mVar 4 E1 s2 = .ok odd s2 := varP rfl
  have i1 := mtupG (con0 w1 (con0 w2 nil0)) (show 2 ≤ 1000 by decide)
  have i2 := mtupG (con0 ((bcall1 (f := bTuple) (i := 1) (e := E1) rfl).trans (tupG (.lst N) (by omega))) (con0 w2 nil0)) (show 2 ≤ 1000 by decide)
  have i3 := mlstG (con0 w1 (con0 w2 nil0)) (show 2 ≤ 1000 by decide)
  have i4 := mtupG (con0 w1 (con0 w4 nil0)) (show 2 ≤ 1000 by decide)
  have i5 := mtupG (con0 w4 (con0 w2 nil0)) (show 2 ≤ 1000 by decide)
  have i6 := mtupG (con0 w1 (con0 w2 (con0 (conP (x := .int 0)) nil0))) (show 3 ≤ 1000 by decide)
  have a2 : sSet 5 (mCell (aCons (mTup (aCons (mVar 1) (aCons (mVar 2) aNil))) (aCons (mTup (aCons (mCall bTuple (aCons (mVar 1) aNil)) (aCons (mVar 2) aNil))) (aCons (mLst (aCons (mVar 1) (aCons (mVar 2) aNil))) (aCons (mTup (aCons (mVar 1) (aCons (mVar 4) aNil))) (aCons (mTup (aCons (mVar 4) (aCons (mVar 2) aNil))) (aCons (mTup (aCons (mVar 1) (aCons (mVar 2) (aCons (mC (.int 0)) aNil)))) aNil))))))) E1 s2 = .ok (.nx E2) T1 := by
    have z := con0 i1 (con0 i2 (con0 i3 (con0 i4 (con0 i5 (con0 i6 (nil0 (s := s2) (e := E1)))))))
    refine setP (i := 5) ?_
    simp only [mCell, z, Res.bind_ok]
    rfl
  have v1 : mVar 1 E2 T1 = .ok (.lst N) T1 := varP rfl
  have v2 : mVar 2 E2 T1 = .ok num T1 := varP rfl
  have ar := aroundG (c := c) (s := T1) (xs := N) (e := E2) (i := 1) (j := 3) (m := mVar 4) (d := odd) rfl rfl ha' (by omega) (varP rfl)
  have j1 := mtupG (con0 ar (con0 v2 nil0)) (show 2 ≤ 1000 by decide)
  have j2 := mtupG (con0 (catG (c := c) v1 (mlstG (con0 (conP (x := .int 0)) nil0) (show 1 ≤ 1000 by decide)) (by simp; omega)) (con0 v2 nil0)) (show 2 ≤ 1000 by decide)
  have j3 := mtupG (con0 (slice_lastG (c := c) (i := 1) (e := E2) (s := T1) (xs := N) rfl (by omega) (by omega)) (con0 v2 nil0)) (show 2 ≤ 1000 by decide)
  have j4 := mtupG (con0 v1 nil0) (show 1 ≤ 1000 by decide)
  have el := mlstG (con0 j1 (con0 j2 (con0 j3 (con0 j4 nil0)))) (show 4 ≤ 1000 by decide)
  let X4 : List D := [.tup [.lst (N.take a ++ [odd] ++ N.drop (a + 1)), num], .tup [.lst (N ++ [.int 0]), num], .tup [.lst (N.take (N.length - 1)), num], .tup [.lst N]]
  have ex : extF X6 [.lst X4] = some (X6 ++ X4) := by
    have : X6.length + X4.length ≤ line := (show 6 + 4 ≤ line by decide)
    show (if X6.length + X4.length ≤ line then some (X6 ++ X4) else none) = _
    rw [if_pos this]
  have tk : T1[k]? = some (.lst X6) := by simp [T1, k]
  have st : T1.set k (.lst (X6 ++ X4)) = s2 ++ [.lst (X6 ++ X4)] := set_app
  have v5 : mVar 5 E2 T1 = .ok (.cell k) T1 := varP rfl
  have a3' : sExpr (mtCell extF (mVar 5) (aCons (mLst (aCons (mTup (aCons (m2 (U.pAdd c) (m2 (U.pAdd c) (mSlice (mVar 1) oN (oS (mVar 3))) (mLst (aCons (mVar 4) aNil))) (mSlice (mVar 1) (oS (m2 (U.pAdd c) (mVar 3) (mC (.int 1)))) oN)) (aCons (mVar 2) aNil))) (aCons (mTup (aCons (m2 (U.pAdd c) (mVar 1) (mLst (aCons (mC (.int 0)) aNil))) (aCons (mVar 2) aNil))) (aCons (mTup (aCons (mSlice (mVar 1) oN (oS (m1 (U.pNeg c) (mC (.int 1))))) (aCons (mVar 2) aNil))) (aCons (mTup (aCons (mVar 1) aNil)) aNil))))) aNil)) E2 T1 = .ok (.nx E2) (s2 ++ [.lst (X6 ++ X4)]) := by
    have e2 := con0 el (nil0 (s := T1) (e := E2))
    simp only [sExpr, mtCell, v5, Res.bind_ok, tk, e2]
    show (match extF X6 [.lst X4] with | some es => Res.ok D.non (T1.set k (.lst es)) | none => .stuck).bind _ = _
    rw [ex]
    simp only [st, Res.bind_ok]
  let V := X6 ++ X4
  let E3 : Pm.Env := [some (.cell 0), some (.lst N), some num, some (.int (a : Int)), some odd, some (.lst V)]
  let T2 := s2 ++ [Cell.dead]
  have a3 := sFrz_nx (i := 5) a3' rfl (show (s2 ++ [Cell.lst V])[k]? = some (.lst V) by simp [k])
  rw [show (s2 ++ [Cell.lst (X6 ++ X4)]).set k .dead = T2 from set_app] at a3
  have u1 : mVar 1 E3 T2 = .ok (.lst N) T2 := varP rfl
  have u2 : mVar 2 E3 T2 = .ok num T2 := varP rfl
  have l1 := mtupG (con0 u2 (con0 u1 nil0)) (show 2 ≤ 1000 by decide)
  have l2 := mtupG (con0 u1 (con0 (mlstG (con0 u2 nil0) (show 1 ≤ 1000 by decide)) nil0)) (show 2 ≤ 1000 by decide)
  have l3 := mtupG (con0 (mlstG (con0 u1 nil0) (show 1 ≤ 1000 by decide)) (con0 u2 nil0)) (show 2 ≤ 1000 by decide)
  have l10 := mtupG (con0 (mlstG (nil0 (s := T2) (e := E3)) (show 0 ≤ 1000 by decide)) (con0 (conP (x := .int 0)) nil0)) (show 2 ≤ 1000 by decide)
  have l7 : mDct0 E3 T2 = .ok .mty T2 := rfl
  let F10 : List D := [.tup [num, .lst N], .tup [.lst N, .lst [num]], .tup [.lst [.lst N], num], .non, .int 0, .str "", .mty, .tup [], .lst [], .tup [.lst [], .int 0]]
  have fl := mlstG (con0 l1 (con0 l2 (con0 l3 (con0 (conP (x := .non)) (con0 (conP (x := .int 0)) (con0 (conP (x := .str "")) (con0 l7 (con0 (mtupG (nil0 (s := T2) (e := E3)) (show 0 ≤ 1000 by decide)) (con0 (mlstG (nil0 (s := T2) (e := E3)) (show 0 ≤ 1000 by decide)) (con0 l10 nil0)))))))))) (show 10 ≤ 1000 by decide)
  have a4 := catG (c := c) (varP (i := 5) (x := .lst V) (e := E3) (s := T2) rfl) fl (show 10 + 10 ≤ 1000000 by decide)
  have body : b_law_bent_forms c E0 s = .ok (.rt (.lst (V ++ F10))) T2 := (seqP a1).trans ((seqP a2).trans ((seqP a3).trans (retP a4)))
  have N' := n1.trans n2
  have zN := hN.lst
  have z0 := sz_int (i := 0) (by decide)
  have n1z := hn.mono (Nat.le_refl _) (show 0 ≤ 1 by decide)
  have o0 := SzL.one n1z
  have N1 := hN.mono (Nat.le_refl _) (show 0 ≤ 1 by decide)
  have all : ∀ v ∈ V ++ F10, Sz 100000 4 v := fun v hv => by
    rcases List.mem_append.mp hv with hv | hv
    · rcases List.mem_append.mp hv with hv | hv
      · simp only [X6, List.mem_cons, List.not_mem_nil, or_false] at hv
        rcases hv with rfl | rfl | rfl | rfl | rfl | rfl
        · exact (SzL.cons zN o0).tup.mono (by decide) (by decide)
        · exact (SzL.cons hN.tup o0).tup.mono (by decide) (by decide)
        · exact (SzL.cons zN o0).lst.mono (by decide) (by decide)
        · exact (SzL.cons zN (SzL.one oz)).tup.mono (by decide) (by decide)
        · exact (SzL.cons oz o0).tup.mono (by decide) (by decide)
        · exact (SzL.cons zN (SzL.cons n1z (SzL.one (z0.mono (Nat.le_refl _) (show 0 ≤ 1 by decide))))).tup.mono (by decide) (by decide)
      · simp only [X4, List.mem_cons, List.not_mem_nil, or_false] at hv
        rcases hv with rfl | rfl | rfl | rfl
        · exact (SzL.cons (((N1.take a).app (SzL.one oz)).app (N1.drop (a + 1))).lst (SzL.one (hn.mono (Nat.le_refl _) (show 0 ≤ 2 by decide)))).tup.mono (by decide) (by decide)
        · exact (SzL.cons (hN.app (SzL.one z0)).lst o0).tup.mono (by decide) (by decide)
        · exact (SzL.cons (hN.take _).lst o0).tup.mono (by decide) (by decide)
        · exact (SzL.one zN).tup.mono (by decide) (by decide)
    · simp only [F10, List.mem_cons, List.not_mem_nil, or_false] at hv
      rcases hv with rfl | rfl | rfl | rfl | rfl | rfl | rfl | rfl | rfl | rfl
      · exact (SzL.cons n1z (SzL.one zN)).tup.mono (by decide) (by decide)
      · exact (SzL.cons zN (SzL.one (SzL.one hn).lst)).tup.mono (by decide) (by decide)
      · exact (SzL.cons (SzL.one zN).lst (SzL.one (hn.mono (Nat.le_refl _) (show 0 ≤ 2 by decide)))).tup.mono (by decide) (by decide)
      · exact sz_non.mono (by decide) (by decide)
      · exact z0.mono (by decide) (by decide)
      · exact (sz_str (by decide +kernel)).mono (by decide) (by decide)
      · exact sz_mty.mono (by decide) (by decide)
      · exact (SzL.nil (n := 0) (h := 0)).tup.mono (by decide) (by decide)
      · exact (SzL.nil (n := 0) (h := 0)).lst.mono (by decide) (by decide)
      · exact (SzL.cons (SzL.nil (n := 0) (h := 0)).lst (SzL.one (z0.mono (Nat.le_refl _) (show 0 ≤ 1 by decide)))).tup.mono (by decide) (by decide)
  refine ⟨V ++ F10, s2, ?_, all, (show 20 ≤ 100 by decide), N'⟩
  have pu : pureD (.lst (V ++ F10)) = true := pure_sm rat_pure _ (szl_all all).lst.sm
  have r3 : runBody 3 6 (b_law_bent_forms c) [.cell 0, .lst N, num] s = .ok (.lst (V ++ F10)) T2 := runP3 body
  exact cut_res r3 pu (by rw [← nx_len N']; simp [T2]) h2.cut
end W15
set_option Elab.async false
set_option linter.all false
set_option maxRecDepth 100000
set_option maxHeartbeats 2000000
set_option exponentiation.threshold 20000
namespace W15
open Pm hiding rowP
open PySem U W12
variable {c : Cfg} {s : S}
def C10 : List D := [.non, .int 5, .bl true, .str "", .str "ab", .mty, .lst [], .tup [], .lst [.lst []], .lst [.lst [], .lst []]]
theorem c10_sz : ∀ d ∈ C10, Sz 900000 4 d := fun d hd => by
  simp only [C10, List.mem_cons, List.not_mem_nil, or_false] at hd
  have l0 := (SzL.nil (n := 0) (h := 0)).lst
  rcases hd with rfl | rfl | rfl | rfl | rfl | rfl | rfl | rfl | rfl | rfl
  · exact sz_non.mono (by decide) (by decide)
  · exact (sz_int (i := 5) (by decide)).mono (by decide) (by decide)
  · exact (sz_bl _).mono (by decide) (by decide)
  · exact (sz_str (by decide +kernel)).mono (by decide) (by decide)
  · exact (sz_str (by decide +kernel)).mono (by decide) (by decide)
  · exact sz_mty.mono (by decide) (by decide)
  · exact l0.mono (by decide) (by decide)
  · exact (SzL.nil (n := 0) (h := 0)).tup.mono (by decide) (by decide)
  · exact (SzL.one l0).lst.mono (by decide) (by decide)
  · exact (SzL.cons l0 (SzL.one l0)).lst.mono (by decide) (by decide)
def dct0 : D := .dct [0, 1] [.lst [.int 1], .lst [.int 1]]
def C7 : List D := [dct0, .lst [.lst [.int 0], .lst [.int 0]], .lst (repD 9 [.lst (repD 8 [.int 0])]), .lst (repD 2 [.lst (repD 9 [.int 0])]), .lst (repD 10 [.lst [.int 0]]), .lst [.int 0, .int 0], .lst [.lst [.int 0], .tup [.int 0]]]
theorem dct_tx : Tx c dct0 := ⟨(dctPy [0, 1] [.list [.int 1], .list [.int 1]]).shown, by decide +kernel, fun s => rfl⟩
theorem dct_pv : PV c dct0 := ⟨⟨false, fun s => ⟨rfl, rfl⟩⟩, dct_tx⟩
theorem c7_pv : ∀ d ∈ C7, PV c d := fun d hd => by
  simp only [C7, List.mem_cons, List.not_mem_nil, or_false] at hd
  have z0 := sz_int (i := 0) (by decide)
  have o0 := SzL.one z0
  have z1 := z0.mono (Nat.le_refl _) (show 0 ≤ 1 by decide)
  have pv : ∀ {n h : Nat} {d : D}, Sz n h d → n ≤ 1000000 → h ≤ 8 → PV c d := fun x a b => pv_of (x.gd a) (Nat.le_trans x.ht b)
  rcases hd with rfl | rfl | rfl | rfl | rfl | rfl | rfl
  · exact dct_pv
  · exact pv (SzL.cons o0.lst (SzL.one o0.lst)).lst (by decide) (by decide)
  · exact pv ((SzL.one (o0.rep 8).lst).rep 9).lst (by decide) (by decide)
  · exact pv ((SzL.one (o0.rep 9).lst).rep 2).lst (by decide) (by decide)
  · exact pv ((SzL.one o0.lst).rep 10).lst (by decide) (by decide)
  · exact pv (SzL.cons z0 o0).lst (by decide) (by decide)
  · exact pv (SzL.cons o0.lst (SzL.one o0.tup)).lst (by decide) (by decide)
theorem mlst_at {m : Pm.Env → S → Res (List D)} {e : Pm.Env} {xs : List D} {T : S} (h : m e s = .ok xs T) (hl : xs.length ≤ 1000) : mLst m e s = .ok (.lst xs) T := by
  have : xs.length ≤ line := by unfold line; omega
  simp only [mLst, h, Res.bind_ok, newL, if_pos this]
theorem disp_run {e : Pm.Env} : mDisp [0, 1] (aCons (mLst (aCons (mC (.int 1)) aNil)) (aCons (mLst (aCons (mC (.int 1)) aNil)) aNil)) e s = .ok dct0 (s ++ [.dead]) := by
  have z : (aCons (mLst (aCons (mC (.int 1)) aNil)) (aCons (mLst (aCons (mC (.int 1)) aNil)) aNil)) e (s ++ [.dK [] []]) = .ok [.lst [.int 1], .lst [.int 1]] (s ++ [.dK [] []]) := rfl
  have g : (s ++ [Cell.dK [] []])[s.length]? = some (.dK [] []) := by simp
  simp only [mDisp, z, Res.bind_ok, g]
  rw [if_pos (by decide)]
  simp [dct0]
theorem mul_at (k : Nat) {m : Pm.Env → S → Res D} {e : Pm.Env} {xs : List D} (h : m e s = .ok (.lst xs) s) (hl : xs.length * k ≤ 100000) (hk : k ≤ 1000) : m2 (U.pMul c) m (mC (.int (k : Int))) e s = .ok (.lst (repD k xs)) s := (m2P h conP).trans (mul_lk hl hk)
theorem c7_run {e : Pm.Env} : mLst (aCons (mDisp [0, 1] (aCons (mLst (aCons (mC (.int 1)) aNil)) (aCons (mLst (aCons (mC (.int 1)) aNil)) aNil))) (aCons (mLst (aCons (mLst (aCons (mC (.int 0)) aNil)) (aCons (mLst (aCons (mC (.int 0)) aNil)) aNil))) (aCons (m2 (U.pMul c) (mLst (aCons (m2 (U.pMul c) (mLst (aCons (mC (.int 0)) aNil)) (mC (.int 8))) aNil)) (mC (.int 9))) (aCons (m2 (U.pMul c) (mLst (aCons (m2 (U.pMul c) (mLst (aCons (mC (.int 0)) aNil)) (mC (.int 9))) aNil)) (mC (.int 2))) (aCons (m2 (U.pMul c) (mLst (aCons (mLst (aCons (mC (.int 0)) aNil)) aNil)) (mC (.int 10))) (aCons (mLst (aCons (mC (.int 0)) (aCons (mC (.int 0)) aNil))) (aCons (mLst (aCons (mLst (aCons (mC (.int 0)) aNil)) (aCons (mTup (aCons (mC (.int 0)) aNil)) aNil))) aNil))))))) e s = .ok (.lst C7) (s ++ [.dead]) := by
  have l0 : mLst (aCons (mC (.int 0)) aNil) e (s ++ [.dead]) = .ok (.lst [.int 0]) (s ++ [.dead]) := rfl
  have x8 := mul_at (c := c) 8 l0 (by decide) (by decide)
  have x9 := mul_at (c := c) 9 l0 (by decide) (by decide)
  have y9 := mul_at (c := c) 9 (mlstG (con0 x8 nil0) (show 1 ≤ 1000 by decide)) (show 1 * 9 ≤ 100000 by decide) (by decide)
  have y2 := mul_at (c := c) 2 (mlstG (con0 x9 nil0) (show 1 ≤ 1000 by decide)) (show 1 * 2 ≤ 100000 by decide) (by decide)
  have y10 := mul_at (c := c) 10 (mlstG (con0 l0 nil0) (show 1 ≤ 1000 by decide)) (show 1 * 10 ≤ 100000 by decide) (by decide)
  have t0 : mTup (aCons (mC (.int 0)) aNil) e (s ++ [.dead]) = .ok (.tup [.int 0]) (s ++ [.dead]) := rfl
  exact mlst_at (consP disp_run (con0 (mlstG (con0 l0 (con0 l0 nil0)) (show 2 ≤ 1000 by decide)) (con0 y9 (con0 y2 (con0 y10 (con0 (mlstG (con0 (conP (x := .int 0)) (con0 (conP (x := .int 0)) nil0)) (show 2 ≤ 1000 by decide)) (con0 (mlstG (con0 l0 (con0 t0 nil0)) (show 2 ≤ 1000 by decide)) nil0))))))) (show 7 ≤ 1000 by decide)
theorem rep_one' (k : Nat) (x : D) : repD k [x] = List.replicate k x := by
  induction k with
  | zero => rfl
  | succ k ih => simp only [repD, List.replicate_succ, List.flatten_cons] at ih ⊢; rw [ih]; rfl
theorem ratio_at (hc : cutOk s = true) {q : Rat} (hq : Sq q) {e : Pm.Env} {i : Nat} (he : e[i]? = some (some (pq q))) : mMake 0 2 3 [] (U.m_c0_init_ c) (aCons (m2 ixDD (mVar i) (mC (.int 0))) (aCons (m2 ixDD (mVar i) (mC (.int 1))) aNil)) e s = .ok (rq q) s := by
  have a1 : m2 ixDD (mVar i) (mC (.int 0)) e s = .ok (.int q.num) s := (m2P (varP he) conP).trans (ix_p0 q)
  have a2 : m2 ixDD (mVar i) (mC (.int 1)) e s = .ok (.int q.den) s := (m2P (varP he) conP).trans (ix_p1 q)
  have := make_ok (c := c) q.num q.den (con0 a1 (con0 a2 nil0)) hc (den_ne q) (si2 (Bq.d hq (Nat.le_refl _)))
  rwa [Rat.num_divInt_den] at this
theorem sFor_at {mi : Pm.Env → S → Res (List D)} {mt : D → Pm.Env → Option Pm.Env} {b : Pm.Env → S → Res Fl} {e : Pm.Env} {ds : List D} {s1 : S} (h : mi e s = .ok ds s1) : sFor mi mt b e s = forL mt b ds e s1 := by simp [sFor, h]
theorem comp_at {own : List Nat} {mi : Pm.Env → S → Res (List D)} {mt : D → Pm.Env → Option Pm.Env} {me : Pm.Env → S → Res D} {env : Pm.Env} {s1 s2 : S} {ds xs : List D} (hi : mi env s = .ok ds s1) (hl : ds.length ≤ 1000000) (h : compL own mt mYes me ds env s1 = .ok xs s2) : mCompF finL own mi mt mYes me env s = .ok (.lst xs) s2 := by
  have : ds.length ≤ line := by unfold line; omega
  simp only [mCompF, hi, Res.bind_ok, if_pos this, h, finL]
theorem right15 (hd : DrawOk c.dr) (h : PS s) : ∃ s', W15.m_law_right c [.cell 0] s = .ok (.bl true) s' := by
  let E0 : Pm.Env := [some (.cell 0), none, none, none, none, none, none, none, none]
  obtain ⟨M, w, s1, k1, P, n1⟩ := points (c := c) hd h (mm := 9) (mw := 8) (by decide) (by decide)
  have h1 := h.next n1
  have mm := P.many
  have ww := P.wide
  have fr : ∀ r ∈ M, ∀ q ∈ r, Fr 12 7 q := fun r hr q hq => (P.num r hr q hq).fr
  have s12 : Sml 12 := sml (k := 4) (by decide) (by decide)
  obtain ⟨d, s2, k2, T2, n2⟩ := given (c := c) hd h1 (M := M) (fun r hr => ⟨by rw [P.row r hr]; omega, fun q hq => fr_sq (fr r hr q hq) (by decide) s12 (by decide)⟩) (by omega)
  have h2 := h1.next n2
  obtain ⟨ds, sqd, ar⟩ := T2
  have g : Gv ds M w := ⟨ar, mm, ww, P.row, fun r hr q hq => fr12_small (fr r hr q hq) (by decide) (by decide)⟩
  have cnt := g.cnt
  let E1 : Pm.Env := [some (.cell 0), some (matP M), none, none, none, none, none, none, none]
  let E2 : Pm.Env := [some (.cell 0), some (matP M), some (.lst ds), none, none, none, none, none, none]
  have a1 : sSet 1 (mCallD (n := 3) [] (U.m_law_points c) (aCons (mVar 0) (aCons (mC (.int 9)) (aCons (mC (.int 8)) aNil)))) E0 s = .ok (.nx E1) s1 :=
    setP (i := 1) ((callDP (consP (varP (i := 0) rfl) (consP conP (consP conP nilP))) rfl).trans k1)
  have a2 : sSet 2 (mCall bList (aCons (mCallD (n := 2) [] (U.m_law_given c) (aCons (mVar 0) (aCons (mVar 1) aNil))) aNil)) E1 s1 = .ok (.nx E2) s2 :=
    setP (i := 2) ((callP (consP ((callDP (n := 2) (consP (varP (i := 0) rfl) (consP (varP (i := 1) rfl) nilP)) rfl).trans k2) nilP)).trans (list_of sqd (by omega)))
  obtain ⟨vs, s3, k3, vz, vl, n3⟩ := bent_pts (c := c) hd h2 g
  have h3 := h2.next n3
  let VV : List D := ([.lst ds, .tup ds] ++ vs) ++ C10
  let E3 : Pm.Env := [some (.cell 0), some (matP M), some (.lst ds), some (.lst VV), none, none, none, none, none]
  have p1 : mLst (aCons (mVar 2) (aCons (mCall bTuple (aCons (mVar 2) aNil)) aNil)) E2 s2 = .ok (.lst [.lst ds, .tup ds]) s2 := mlstG (con0 (varP rfl) (con0 ((bcall1 (i := 2) rfl).trans (tupG (.lst ds) (by omega))) nil0)) (show 2 ≤ 1000 by decide)
  have p2 : mCallD (n := 2) [] (W15.m_law_bent_points c) (aCons (mVar 0) (aCons (mVar 2) aNil)) E2 s2 = .ok (.lst vs) s3 := (callDP (n := 2) (consP (varP (i := 0) rfl) (consP (varP (i := 2) rfl) nilP)) rfl).trans k3
  have p3 : mLst (aCons (mC .non) (aCons (mC (.int 5)) (aCons (mC (.bl true)) (aCons (mC (.str "")) (aCons (mC (.str "ab")) (aCons mDct0 (aCons (mLst aNil) (aCons (mTup aNil) (aCons (mLst (aCons (mLst aNil) aNil)) (aCons (mLst (aCons (mLst aNil) (aCons (mLst aNil) aNil))) aNil)))))))))) E2 s3 = .ok (.lst C10) s3 := rfl
  have a3 : sSet 3 (m2 (U.pAdd c) (m2 (U.pAdd c) (mLst (aCons (mVar 2) (aCons (mCall bTuple (aCons (mVar 2) aNil)) aNil))) (mCallD (n := 2) [] (W15.m_law_bent_points c) (aCons (mVar 0) (aCons (mVar 2) aNil)))) (mLst (aCons (mC .non) (aCons (mC (.int 5)) (aCons (mC (.bl true)) (aCons (mC (.str "")) (aCons (mC (.str "ab")) (aCons mDct0 (aCons (mLst aNil) (aCons (mTup aNil) (aCons (mLst (aCons (mLst aNil) aNil)) (aCons (mLst (aCons (mLst aNil) (aCons (mLst aNil) aNil))) aNil)))))))))))) E2 s2 = .ok (.nx E3) s3 :=
    setP (i := 3) ((m2P ((m2P p1 p2).trans (cat_ll (by simp; omega))) p3).trans (cat_ll (by simp [C10]; omega)))
  -- the values
  let T := s3 ++ [Cell.dead]
  have hT : PS T := h3.app rfl
  have it : iLst (m2 (U.pAdd c) (mVar 3) (mLst (aCons (mDisp [0, 1] (aCons (mLst (aCons (mC (.int 1)) aNil)) (aCons (mLst (aCons (mC (.int 1)) aNil)) aNil))) (aCons (mLst (aCons (mLst (aCons (mC (.int 0)) aNil)) (aCons (mLst (aCons (mC (.int 0)) aNil)) aNil))) (aCons (m2 (U.pMul c) (mLst (aCons (m2 (U.pMul c) (mLst (aCons (mC (.int 0)) aNil)) (mC (.int 8))) aNil)) (mC (.int 9))) (aCons (m2 (U.pMul c) (mLst (aCons (m2 (U.pMul c) (mLst (aCons (mC (.int 0)) aNil)) (mC (.int 9))) aNil)) (mC (.int 2))) (aCons (m2 (U.pMul c) (mLst (aCons (mLst (aCons (mC (.int 0)) aNil)) aNil)) (mC (.int 10))) (aCons (mLst (aCons (mC (.int 0)) (aCons (mC (.int 0)) aNil))) (aCons (mLst (aCons (mLst (aCons (mC (.int 0)) aNil)) (aCons (mTup (aCons (mC (.int 0)) aNil)) aNil))) aNil))))))))) E3 s3 = .ok (VV ++ C7) T := by
    have := (m2P (f := U.pAdd c) (varP (i := 3) (x := .lst VV) (e := E3) (s := s3) rfl) (c7_run (c := c))).trans (cat_ll (show VV.length + C7.length ≤ 1000000 by simp [VV, C10, C7]; omega))
    simp [iLst, this, iSeq]
    rfl
  have dz := g.szl
  have pvs : ∀ v ∈ VV ++ C7, PV c v := fun v hv => by
    have big : ∀ {v : D}, Sz 900000 4 v → PV c v := fun x => pv_of (x.gd (by decide)) (Nat.le_trans x.ht (by decide))
    rcases List.mem_append.mp hv with hv | hv
    · rcases List.mem_append.mp hv with hv | hv
      · rcases List.mem_append.mp hv with hv | hv
        · simp only [List.mem_cons, List.not_mem_nil, or_false] at hv
          rcases hv with rfl | rfl
          · exact big (dz.lst.mono (by decide) (by decide))
          · exact big (dz.tup.mono (by decide) (by decide))
        · exact big (vz v hv)
      · exact big (c10_sz v hv)
    · exact c7_pv v hv
  obtain ⟨y4, y5, y6, f1⟩ := v1_all (c := c) (s := T) (VV ++ C7) none none none pvs (some (.cell 0)) (some (matP M)) (some (.lst ds)) (some (.lst VV)) none none
  have a4 := (sFor_at (mt := tName 4) (b := v1B c) it).trans f1
  let E4 : Pm.Env := [some (.cell 0), some (matP M), some (.lst ds), some (.lst VV), y4, y5, y6, none, none]
  -- the normal
  obtain ⟨M2, w2, s5, k5, P2, n5⟩ := points (c := c) hd hT (mm := 2) (mw := 1) (by decide) (by decide)
  have h5 := hT.next n5
  have m2m := P2.many
  have w21 : w2 = 1 := by have := P2.wide; omega
  obtain ⟨q0, e0⟩ : ∃ q0, M2[0]? = some [q0] := by
    have z : M2[0]? = some M2[0] := List.getElem?_eq_getElem (by omega)
    have l := P2.row M2[0] (List.getElem_mem _)
    rw [w21] at l
    match hM : M2[0], l with
    | [q], _ => exact ⟨q, by rw [z, hM]⟩
  have q12 := P2.num [q0] (List.mem_of_getElem? e0) q0 (by simp)
  have sq0 : Sq q0 := fr_sq q12.fr (by decide) s12 (by decide)
  have e0' : (M2.map rowP)[0]? = some (rowP [q0]) := by rw [List.getElem?_map, e0]; rfl
  obtain ⟨r0, er⟩ : ∃ r0, M[0]? = some r0 := ⟨_, List.getElem?_eq_getElem (by omega)⟩
  have er' : (M.map rowP)[0]? = some (rowP r0) := by rw [List.getElem?_map, er]; rfl
  have lr0 := P.row r0 (List.mem_of_getElem? er)
  have hM : ∀ (T : S) (e : Pm.Env), e[1]? = some (some (matP M)) → mCall bLenA (aCons (m2 ixDD (mVar 1) (mC (.int 0))) aNil) e T = .ok (.int w) T := fun T e he => by
    have := sq_len (s := T) (.lst (r0.map pq))
    rw [List.length_map, lr0] at this
    exact (callP (consP ((m2P (varP he) conP).trans (sq_ix (i := 0) (.lst (M.map rowP)) er')) nilP)).trans this
  have b1 : m2 (U.pMul c) (m2 ixDD (mCallD (n := 3) [] (U.m_law_points c) (aCons (mVar 0) (aCons (mC (.int 2)) (aCons (mC (.int 1)) aNil)))) (mC (.int 0))) (mCall bLenA (aCons (m2 ixDD (mVar 1) (mC (.int 0))) aNil)) E4 T = .ok (.lst ((List.replicate w q0).map pq)) s5 := by
    have c1 : m2 ixDD (mCallD (n := 3) [] (U.m_law_points c) (aCons (mVar 0) (aCons (mC (.int 2)) (aCons (mC (.int 1)) aNil)))) (mC (.int 0)) E4 T = .ok (rowP [q0]) s5 :=
      (m2P ((callDP (consP (varP (i := 0) rfl) (consP conP (consP conP nilP))) rfl).trans k5) conP).trans (sq_ix (i := 0) (.lst (M2.map rowP)) e0')
    refine (m2P c1 (hM s5 E4 rfl)).trans ?_
    refine (mul_lk (xs := [pq q0]) (by simp; omega) (by omega)).trans ?_
    rw [rep_one', List.map_replicate]
  have c2 := compE (s := s5) (own := [8]) (env := E4) (mt := tName 8) (me := mMake 0 2 3 [] (U.m_c0_init_ c) (aCons (m2 ixDD (mVar 8) (mC (.int 0))) (aCons (m2 ixDD (mVar 8) (mC (.int 1))) aNil))) (R := fun x q => x = pq q) (f := rq) (All2.refl_map (R := fun x (a : Rat) => x = pq a) (f := pq) (List.replicate w q0) fun _ _ => rfl) (fun x q hx hq e => by
    subst e
    have : q = q0 := List.eq_of_mem_replicate hq
    subst this
    exact ⟨[some (.cell 0), some (matP M), some (.lst ds), some (.lst VV), y4, y5, y6, none, some (pq q)], rfl, ratio_at h5.cut sq0 rfl⟩)
  let Nn : List D := (List.replicate w q0).map rq
  let E5 : Pm.Env := [some (.cell 0), some (matP M), some (.lst ds), some (.lst VV), y4, y5, y6, some (.lst Nn), none]
  have a5 : sSet 7 (mCompF finL [8] (iLst (m2 (U.pMul c) (m2 ixDD (mCallD (n := 3) [] (U.m_law_points c) (aCons (mVar 0) (aCons (mC (.int 2)) (aCons (mC (.int 1)) aNil)))) (mC (.int 0))) (mCall bLenA (aCons (m2 ixDD (mVar 1) (mC (.int 0))) aNil)))) (tName 8) mYes (mMake 0 2 3 [] (U.m_c0_init_ c) (aCons (m2 ixDD (mVar 8) (mC (.int 0))) (aCons (m2 ixDD (mVar 8) (mC (.int 1))) aNil)))) E4 T = .ok (.nx E5) s5 := by
    refine setP (i := 7) ?_
    have i1 : iLst (m2 (U.pMul c) (m2 ixDD (mCallD (n := 3) [] (U.m_law_points c) (aCons (mVar 0) (aCons (mC (.int 2)) (aCons (mC (.int 1)) aNil)))) (mC (.int 0))) (mCall bLenA (aCons (m2 ixDD (mVar 1) (mC (.int 0))) aNil))) E4 T = .ok ((List.replicate w q0).map pq) s5 := by simp [iLst, b1, iSeq]
    exact comp_at i1 (show ((List.replicate w q0).map pq).length ≤ 1000000 by rw [List.length_map, List.length_replicate]; omega) c2
  -- the forms
  obtain ⟨q1, s6, k6, q1e, n6⟩ := entry (c := c) hd h5
  have h6 := h5.next n6
  have q1b := ents_ok q1 q1e
  obtain ⟨num, s7, k7, nm, n7⟩ := passed (c := c) hd h6 (q := q1) (q1b.mono (by decide))
  have h7 := h6.next n7
  have nz : Sz 1000 0 num := sz_rp nm (q1b.mono (show 4 ≤ 490 by decide)).1 (q1b.mono (show 4 ≤ 490 by decide)).2
  have q0s := fr12_small q12.fr (by decide) (by decide)
  have Nz : SzL 8016 0 Nn := by
    have := szl_row (ds := Nn) (qs := List.replicate w q0) (All2.refl_map (R := Nm) (f := rq) _ fun q _ => .rat q) (fun q hq => by rw [List.eq_of_mem_replicate hq]; exact q0s)
    refine this.mono ?_ (Nat.le_refl _)
    rw [List.length_replicate]
    have : 1002 * w ≤ 1002 * 8 := Nat.mul_le_mul_left _ ww.2
    omega
  have Nl : Nn.length = w := by simp [Nn]
  obtain ⟨fs, s8, k8, fz, fl, n8⟩ := bent_forms (c := c) hd h7 (N := Nn) (num := num) Nz (by omega) nz
  have it2 : iLst (mCallD (n := 3) [] (W15.m_law_bent_forms c) (aCons (mVar 0) (aCons (mVar 7) (aCons (mCallD (n := 2) [] (U.m_law_passed c) (aCons (mVar 0) (aCons (mCallD (n := 1) [] (U.m_law_entry c) (aCons (mVar 0) aNil)) aNil))) aNil)))) E5 s5 = .ok fs s8 := by
    have z1 : mCallD (n := 2) [] (U.m_law_passed c) (aCons (mVar 0) (aCons (mCallD (n := 1) [] (U.m_law_entry c) (aCons (mVar 0) aNil)) aNil)) E5 s5 = .ok num s7 :=
      (callDP (n := 2) (consP (varP (i := 0) rfl) (consP ((callDP (n := 1) (consP (varP (i := 0) rfl) nilP) rfl).trans k6) nilP)) rfl).trans k7
    have z2 := (callDP (n := 3) (f := W15.m_law_bent_forms c) (e := E5) (s := s5) (consP (varP (i := 0) rfl) (consP (varP (i := 7) rfl) (consP z1 nilP))) rfl).trans k8
    simp [iLst, z2, iSeq]
  have tabd : Tab (.lst ds) M := ⟨ds, .lst ds, ar⟩
  obtain ⟨z4, z5, z6, f2⟩ := v2_all (c := c) (s := s8) (dM := matP M) (dg := .lst ds) (n := w) (hM s8) (some (.cell 0)) (some (.lst VV)) (some (.lst Nn)) none fs y4 y5 y6 (fun v hv => by
    have x := fz v hv
    exact ⟨(x.gd (by decide)).tx (Nat.le_trans x.ht (by decide)), _, lform_ok (x.gd (by decide)) w, form_ok tabd mm ww P.row (x.gd (by decide))⟩)
  have a6 := (sFor_at (mt := tName 4) (b := v2B c) it2).trans f2
  exact ⟨s8, runP1 ((seqP a1).trans ((seqP a2).trans ((seqP a3).trans ((seqP a4).trans ((seqP a5).trans ((seqP a6).trans (retP rfl)))))))⟩
end W15
set_option Elab.async false
set_option linter.all false
set_option maxRecDepth 100000
set_option maxHeartbeats 400000
set_option exponentiation.threshold 5000
namespace Pm
open PySem PySem.Spec PyProof.Rows L2
theorem ans_bd {N : Nums} {a c m : Int} (h : 0 < m) : 0 ≤ ansN N a c m ∧ ansN N a c m < m := by
  unfold ansN
  split
  · exact ⟨Int.emod_nonneg _ (by omega), Int.emod_lt_of_pos _ h⟩
  · exact fmodP _ h
theorem nex_ok {N : Nums} (hN : NumsOk N) {a c m : Int} (h : PotI a c) (hm : 0 < m) : PotI (nexA a m) (nexC N a c) := by
  have hc : 0 ≤ nxtG N c ∧ nxtG N c < N.P1 := fmodP _ hN.p1.1
  have hp := hN.p1.2
  obtain ⟨h1, h2, h3⟩ := h
  unfold nexA nexC
  split
  · exact ⟨Int.ediv_nonneg (by omega) (by omega), h2, h3⟩
  · exact ⟨h1, hc.1, by omega⟩
def DrawN (N : Nums) (f : List D → S → Res D) : Prop := ∀ (s : S) (k : Nat) (a c m : Int), s[k]? = some (.lst [.int a, .int c]) → PotI a c → 0 < m ∧ m < 1073741824 →
  f [.cell k, .int m] s = .ok (.int (ansN N a c m)) (s.set k (.lst [.int (nexA a m), .int (nexC N a c)]))
theorem DrawN.ok {N : Nums} {f : List D → S → Res D} (hN : NumsOk N) (h : DrawN N f) : DrawOk f := fun s k n hp h0 h1 => by
  obtain ⟨a, b, e, p1, p2, p3⟩ := hp
  have hr := ans_bd (N := N) (a := a) (c := b) h0
  have hx := nex_ok hN (a := a) (c := b) (m := n) ⟨p1, p2, p3⟩ h0
  exact ⟨_, _, h s k a b n e ⟨p1, p2, p3⟩ ⟨h0, h1⟩, hr.1, hr.2, ⟨_, rfl⟩, _, _, List.getElem?_set_self (lenP e), hx.1, hx.2.1, hx.2.2⟩
structure OpsOk (add mul sub ix : D → D → S → Res D) : Prop where
  add : ∀ i j s, add (.int i) (.int j) s = .ok (.int (i + j)) s
  mul : ∀ i j s, SmP i → SmP j → mul (.int i) (.int j) s = .ok (.int (i * j)) s
  sub : ∀ i j s, sub (.int i) (.int j) s = .ok (.int (i - j)) s
  ix : ∀ x i s d, ixD x (.int i) s = .ok d s → ix x (.int i) s = .ok d s
section
variable {s : S} {k : Nat} {a b m : Int} {N : Nums} {add mul sub ix : D → D → S → Res D}
def drawBX (N : Nums) (add mul ix : D → D → S → Res D) : Pm.Env → S → Res Fl := (sSeq (sIf (mB (m2 gtI (m2 ix (mVar 0) (mC (.int 0))) (mC (.int 0)))) (sSeq (sAsg (mCall bDivmod (aCons (m2 ix (mVar 0) (mC (.int 0))) (aCons (mVar 1) aNil))) (taTup 2 (taCons (taSub (mVar 0) (mC (.int 0))) (taCons (aN (tName 2)) taNil))))
  (sRet (mVar 2))) sNext)
  (sSeq (sAsg (m2 modI (mCall (bInt1 fun i => .int i) (aCons (m2 add (m2 mul (m2 ix (mVar 0) (mC (.int 1))) (mC (.int N.M))) (mC (.int N.A))) aNil)) (mC (.int N.P1))) (taSub (mVar 0) (mC (.int 1))))
  (sRet (m2 modI (mCall (bInt1 fun i => .int i) (aCons (m2 divI (m2 modI (mCall (bInt1 fun i => .int i) (aCons (m2 mul (m2 ix (mVar 0) (mC (.int 1))) (m2 ix (mVar 0) (mC (.int 1)))) aNil)) (mC (.int N.P2))) (mC (.int N.B))) aNil)) (mVar 1)))))
def drawX (N : Nums) (add mul ix : D → D → S → Res D) : List D → S → Res D := runBody 2 3 (drawBX N add mul ix)
theorem drawX_a (O : OpsOk add mul sub ix) (e : s[k]? = some (.lst [.int a, .int b])) (ha : 0 < a) (hn : 0 < m ∧ m < 1073741824) :
    drawX N add mul ix [.cell k, .int m] s = .ok (.int (a % m)) (s.set k (.lst [.int (a / m), .int b])) := by
  refine runP2 ?_
  have e0 := O.ix _ _ _ _ (potP0 e)
  simp [drawBX, sSeq, sIf, mB, m2, mVar, mC, e0, gtI, intOp, ha, sAsg, mCall, aCons, aNil, bDivmod, cDiv0, hn, newT, line, taTup, taCons, taNil, taSub, aN, tName, e, ixnP0, sRet]
theorem drawX_b (O : OpsOk add mul sub ix) (hN : NumsOk N) (e : s[k]? = some (.lst [.int a, .int b])) (ha : ¬ 0 < a) (hb : 0 ≤ b ∧ b < 2 ^ 32) (hn : 0 < m) :
    drawX N add mul ix [.cell k, .int m] s = .ok (.int (drwG N (nxtG N b) m)) (s.set k (.lst [.int a, .int (nxtG N b)])) := by
  have hc : 0 ≤ nxtG N b ∧ nxtG N b < N.P1 := fmodP _ hN.p1.1
  have hp := hN.p1.2
  have e2 : (s.set k (.lst [.int a, .int (nxtG N b)]))[k]? = some (.lst [.int a, .int (nxtG N b)]) := List.getElem?_set_self (lenP e)
  have s1 : SmP b := smP (by omega)
  have s2 : SmP (nxtG N b) := smP (by omega)
  have s3 : SmP N.M := smP hN.m
  have hz : m ≠ 0 := by omega
  have hz1 : N.P1 ≠ 0 := by have := hN.p1.1; omega
  have hz2 : N.P2 ≠ 0 := by have := hN.p2; omega
  have hm : (b * N.M + N.A).fmod N.P1 = nxtG N b := rfl
  have f0 := O.ix _ _ _ _ (potP0 e)
  have f1 := O.ix _ _ _ _ (potP1 e)
  have f2 := O.ix _ _ _ _ (potP1 e2)
  refine runP2 ((seqP (e1 := [some (.cell k), some (.int m), none]) (s1 := s) ?_).trans ((seqP (e1 := [some (.cell k), some (.int m), none]) (s1 := s.set k (.lst [.int a, .int (nxtG N b)])) ?_).trans (retP ?_)))
  · simp [sIf, mB, m2, mVar, mC, f0, gtI, intOp, ha, sNext]
  · simp [sAsg, m2, mVar, mC, mCall, aCons, aNil, f1, O.mul _ _ _ s1 s3, O.add, bInt1, modI, intOp, cMod, hz1, hm, taSub, e, ixnP1]
  · simp [m2, mVar, mC, mCall, aCons, aNil, f2, O.mul _ _ _ s2 s2, bInt1, modI, intOp, cMod, divI, cDiv, drwG, hz, hz2, hN.b]
theorem drawXn (O : OpsOk add mul sub ix) (hN : NumsOk N) : DrawN N (drawX N add mul ix) := fun s k a c m e hp hm => by
  by_cases ha : 0 < a
  · rw [drawX_a O e ha hm]
    simp [ansN, nexA, nexC, ha]
  · rw [drawX_b O hN e ha hp.2 hm.1]
    simp [ansN, nexA, nexC, ha]
def LenOk (len : List D → S → Res D) : Prop := ∀ (ns : List Int) s, len [.ro (ns.map D.int)] s = .ok (.int ns.length) s
theorem lenOk : LenOk bLen := fun ns s => by simp [bLen, seqOf]
theorem lenOkA : LenOk bLenA := fun ns s => by simp [bLenA, lenOk ns s, Res.or]
theorem cellAtX (O : OpsOk add mul sub ix) (ns : List Int) (j : Int) (hj : 0 ≤ j) (h : j < (ns.length : Int)) (s : S) (z : Option D) : mCall (bInt1 fun i => .int (absI i)) (aCons (m2 ix (mVar 0) (mVar 1)) aNil) [some (.ro (ns.map D.int)), some (.int j), z] s = .ok (.int (absI (ns[j.toNat]'(by omega)))) s := by
  obtain ⟨i, rfl⟩ : ∃ i : Nat, j = (i : Int) := ⟨j.toNat, by omega⟩
  have hi : i < ns.length := by omega
  have e2 : L2.atI (ns.map D.int) (i : Int) = some (.int ns[i]) := at_P (by rw [List.getElem?_map, List.getElem?_eq_getElem hi]; rfl)
  have e3 : ixD (.ro (ns.map D.int)) (.int (i : Int)) s = .ok (.int ns[i]) s := by simp [ixD, ixL, e2, Res.or]
  simp [m2, mVar, mCall, aCons, aNil, O.ix _ _ _ _ e3, bInt1]
end
section
variable {g : G} {ca : List Addr} {F P H : Hp} {s : S}
theorem Reps.mk2 (x c : Int) : Reps g ca F [.int x, .int c] [.int x, .int c] := by
  simp [Reps, Rep]
end
theorem FnG.imp {Pr : Program} {w : World} {K : PySem.W.Frag} {mg : Str → Option Value} {base : Heap} {k : Nat} {fa : Addr} {sp sp' : Sp} (F : FnG Pr w K mg base k fa sp) (h : ∀ vs H Q E, sp' vs H Q E → sp vs H Q E) : FnG Pr w K mg base k fa sp' :=
  fun A outer s H us vs Q E hr hg e0 rv q => F A outer s H us vs Q E hr hg e0 rv (h _ _ _ _ q)
mutual
inductive AT where
  | lf | nd (m : Nat) (k : ATs)
inductive ATs where
  | nil | cons (t : AT) (k : ATs)
end
mutual
def AT.paths : AT → List (List (Int × Int))
  | .lf => [[]]
  | .nd m k => ATs.paths m 0 k
def ATs.paths (m r : Nat) : ATs → List (List (Int × Int))
  | .nil => []
  | .cons t k => (t.paths.map fun p => ((m : Int), (r : Int)) :: p) ++ ATs.paths m (r + 1) k
end
def ATs.len : ATs → Nat
  | .nil => 0
  | .cons _ k => k.len + 1
mutual
def AT.wf : AT → Bool
  | .lf => true
  | .nd m k => decide (0 < m) && decide (m < 1073741824) && decide (k.len = m) && k.wf
def ATs.wf : ATs → Bool
  | .nil => true
  | .cons t k => t.wf && k.wf
end
def Leads (N : Nums) (p : List (Int × Int)) (a c a' c' : Int) : Prop := PotI a' c' ∧ ∀ qs, Con N qs a' c' → Con N (p ++ qs) a c
theorem Leads.nil {N : Nums} {a c : Int} (h : PotI a c) : Leads N [] a c a c := ⟨h, fun _ h => h⟩
theorem Leads.one {N : Nums} (hN : NumsOk N) {a c m : Int} (h : PotI a c) (hm : 0 < m ∧ m < 1073741824) : ∃ r, 0 ≤ r ∧ r < m ∧ Leads N [(m, r)] a c (nexA a m) (nexC N a c) :=
  ⟨ansN N a c m, (ans_bd hm.1).1, (ans_bd hm.1).2, nex_ok hN h hm.1, fun qs q => ⟨h, hm, rfl, q⟩⟩
theorem Leads.app {N : Nums} {p q : List (Int × Int)} {a c a' c' a2 c2 : Int} (h : Leads N p a c a' c') (k : Leads N q a' c' a2 c2) : Leads N (p ++ q) a c a2 c2 :=
  ⟨k.1, fun qs z => by rw [List.append_assoc]; exact h.2 _ (k.2 _ z)⟩
mutual
theorem AT.all {N : Nums} (hN : NumsOk N) : ∀ (t : AT), t.wf = true → ∀ {a c : Int}, PotI a c → ∃ p ∈ t.paths, ∃ a' c', Leads N p a c a' c'
  | .lf, _, a, c, h => ⟨[], by simp [AT.paths], a, c, .nil h⟩
  | .nd m k, hw, a, c, h => by
    simp only [AT.wf, Bool.and_eq_true, decide_eq_true_eq] at hw
    obtain ⟨⟨⟨h0, h1⟩, hl⟩, hk⟩ := hw
    obtain ⟨r, r0, r1, l⟩ := Leads.one hN h (m := (m : Int)) ⟨by omega, by omega⟩
    obtain ⟨j, rfl⟩ : ∃ j : Nat, r = (j : Int) := ⟨r.toNat, by omega⟩
    simp only [AT.paths]
    obtain ⟨p, hp, a', c', z⟩ := ATs.all hN k hk m 0 j (by omega) l.1
    exact ⟨_, hp, a', c', z a c (by simpa using l)⟩
theorem ATs.all {N : Nums} (hN : NumsOk N) : ∀ (k : ATs), k.wf = true → ∀ (m r j : Nat), j < k.len → ∀ {a c : Int}, PotI a c → ∃ p ∈ ATs.paths m r k, ∃ a' c', ∀ a0 c0, Leads N [((m : Int), ((r + j : Nat) : Int))] a0 c0 a c → Leads N p a0 c0 a' c'
  | .nil, _, m, r, j, hj, a, c, h => by simp [ATs.len] at hj
  | .cons t k, hw, m, r, j, hj, a, c, h => by
    simp only [ATs.wf, Bool.and_eq_true] at hw
    simp only [ATs.paths]
    cases j with
    | zero =>
      obtain ⟨p, hp, a', c', l⟩ := AT.all hN t hw.1 h
      exact ⟨_, List.mem_append_left _ (List.mem_map.mpr ⟨p, hp, rfl⟩), a', c', fun a0 c0 q => by simpa using q.app l⟩
    | succ j =>
      obtain ⟨p, hp, a', c', l⟩ := ATs.all hN k hw.2 m (r + 1) j (by simp only [ATs.len] at hj; omega) h
      exact ⟨p, List.mem_append_right _ hp, a', c', fun a0 c0 q => l a0 c0 (by rwa [show r + 1 + j = r + (j + 1) by omega])⟩
end
end Pm
set_option Elab.async false
set_option linter.all false
set_option maxRecDepth 100000
set_option maxHeartbeats 1000000
set_option exponentiation.threshold 5000
namespace K15
open Pm PySem
theorem ops_ok : OpsOk pAdd pMul pSub ixDD where
  add := fun i j s => by first | exact addP i j s | (unfold pAdd; rw [addP i j s]; rfl)
  mul := fun i j s a b => by first | exact mulP i j s a b | (unfold pMul; rw [mulP i j s a b]; rfl)
  sub := fun i j s => by first | exact subP i j s | (unfold pSub; rw [subP i j s]; rfl)
  ix := fun x i s d e => by first | exact e | (unfold ixDD; rw [e]; rfl)
def nums : Nums := ⟨48271, 18162, 2147483587, 2147483549, 29⟩
theorem nums_ok : NumsOk nums := ⟨by decide, by decide, by decide, by decide⟩
theorem draw_n : DrawN nums m_law_draw := drawXn ops_ok nums_ok
theorem draw_ok : DrawOk m_law_draw := DrawN.ok nums_ok draw_n
def potOf (c : Int) : S := U.P1 (maxI 0 (c - 1000000000000000000)) (((c.fmod 2147483549 + 71) * 27).fmod 2147483477 + 1)
theorem potOf_ok (c : Int) : PotP (potOf c) 0 := by
  refine ⟨_, _, rfl, ?_, ?_, ?_⟩
  · unfold maxI
    split <;> omega
  · have := fmodP ((c.fmod 2147483549 + 71) * 27) (show (0 : Int) < 2147483477 by decide)
    omega
  · have := fmodP ((c.fmod 2147483549 + 71) * 27) (show (0 : Int) < 2147483477 by decide)
    omega
theorem pot_end (e0 : Option D) (c : Int) : sRet (mCell (aCons (mCall (bInt2 (fun _ _ => true) fun i j => .int (maxI i j)) (aCons (mC (.int 0)) (aCons (m2 pSub (mVar 2) (m2 powI (mC (.int 10)) (mC (.int 18)))) aNil))) (aCons (m2 pAdd (m2 modI (m2 pMul (mCall (bInt1 fun i => .int i) (aCons (m2 pAdd (m2 modI (mCall (bInt1 fun i => .int i) (aCons (mVar 2) aNil)) (mC (.int 2147483549))) (mC (.int 71))) aNil)) (m2 powI (m2 pAdd (m2 pMul (mC (.int 2)) (mVar 1)) (mC (.int 3))) (mC (.int 3)))) (mC (.int 2147483477))) (mC (.int 1))) aNil)))
    [e0, some (.int 0), some (.int c)] [] = .ok (.rt (.cell 0)) (potOf c) := by
  have b1 := fmodP c (show (0 : Int) < 2147483549 by decide)
  have m1 : ∀ s, pMul (.int (c.fmod 2147483549 + 71)) (.int 27) s = .ok (.int ((c.fmod 2147483549 + 71) * 27)) s := fun s => ops_ok.mul _ _ s (smP (by omega)) (smP (by decide))
  have m2' : ∀ s, pMul (.int 2) (.int 0) s = .ok (.int 0) s := fun s => by rfl
  have p18 : ∀ s, powI (.int 10) (.int 18) s = .ok (.int 1000000000000000000) s := fun s => by rfl
  have p3 : ∀ s, powI (.int 3) (.int 3) s = .ok (.int 27) s := fun s => by rfl
  simp [sRet, mCell, aCons, aNil, mCall, bInt2, bInt1, m2, mVar, mC, ops_ok.sub, p18, modI, intOp, cMod, ops_ok.add, m1, m2', p3, line, potOf]
theorem law_pot_ok (ns : List Int) : ∃ c, m_law_pot [.ro (ns.map D.int), .int 0] [] = .ok (.cell 0) (potOf c) := by
  have s0 : sSet 2 (m2 pAdd (m2 pMul (mC (.int 149)) (mVar 1)) (mC (.int 71))) [some (.ro (ns.map D.int)), some (.int 0), none] [] = .ok (.nx [some (.ro (ns.map D.int)), some (.int 0), some (.int 71)]) [] := rfl
  have hl : mB (m2 ltA (mVar 1) (mCall bLenA (aCons (mVar 0) aNil))) [some (.ro (ns.map D.int)), some (.int 0), some (.int 71)] [] = .ok (decide ((0 : Int) < ns.length)) [] := by
    have e0 : mCall bLenA (aCons (mVar 0) aNil) [some (.ro (ns.map D.int)), some (.int 0), some (.int 71)] [] = .ok (.int ns.length) [] := (callP (consP (varP (i := 0) rfl) nilP)).trans (lenOkA ns [])
    have e1 := (m2P (f := ltA) (varP (i := 1) (x := .int 0) (e := [some (.ro (ns.map D.int)), some (.int 0), some (.int 71)]) rfl) e0).trans (U.lt_ii 0 ns.length)
    simp only [mB, e1, Res.bind_ok]
  by_cases h : (0 : Int) < ns.length
  · rw [decide_eq_true h] at hl
    have c1 := cellAtX ops_ok ns 0 (by decide) h [] (some (.int 71))
    refine ⟨absI (ns[(0 : Int).toNat]'(by simpa using h)), runP2 ((seqP s0).trans ((seqP (e1 := [some (.ro (ns.map D.int)), some (.int 0), some (.int (absI (ns[(0 : Int).toNat]'(by simpa using h))))]) (s1 := []) ?_).trans (pot_end _ _)))⟩
    simp only [sIf, hl, Res.bind_ok, if_true]
    exact setP (i := 2) c1
  · rw [decide_eq_false h] at hl
    refine ⟨71, runP2 ((seqP s0).trans ((seqP (e1 := [some (.ro (ns.map D.int)), some (.int 0), some (.int 71)]) (s1 := []) ?_).trans (pot_end _ _)))⟩
    simp [sIf, hl, sNext]
theorem answer (ns : List Int) (h : ns.length ≤ 63) : ∃ s, m_law [.ro (ns.map D.int)] [] = .ok (.bl true) s := by
  obtain ⟨c, e0⟩ := law_pot_ok ns
  obtain ⟨s1, e1⟩ := W15.right15 (c := cf) draw_ok ⟨potOf_ok c, rfl⟩
  refine ⟨s1, runP1 (retP ?_)⟩
  have e2 : m_law_right [.cell 0] (potOf c) = .ok (.bl true) s1 := e1
  exact (callDP (consP ((callDP (consP (varP (i := 0) rfl) (consP conP nilP)) rfl).trans e0) nilP) rfl).trans e2
end K15
open PySem PySem.W PySem.Calls PyProof.Rows in
set_option maxRecDepth 100000 in
set_option maxHeartbeats 0 in
theorem PySem.Challenge.cw_fewcorners_k15_any_values_as_points_and_holds : PySem.Challenge.rw_fewcorners_k15_any_values_as_points_and.Holds := by
  w_on; o_law
  refine HandSHeadRun.head_imp (r := K15.R) (q := view K15.R.prog [0, 40]) (H := K15.hk) (ob := K15.ob) (M := 8000) (loose := K15.loose) (d := HandSHeadRun.topDef K15.R.prog 40) (kwd := []) K15.ob_eq K15.run
    (by kernel_rfl) (by kernel_rfl) (by kernel_rfl) (by rfl) (by first | assumption | decide +kernel) (by decide +kernel) ⟨rfl, rfl, rfl, rfl, rfl, by decide +kernel⟩ ?hw ?hc
  case hw => w_witness2
  case hc =>
    refine Pm.walkG (l := PySem.Challenge.rw_fewcorners_k15_any_values_as_points_and) (n := 63) (k := 16) rfl (by decide) (by kernel_rfl) ⟨rfl, by decide, by decide⟩ ?F K15.answer
    intro w mg fa h Y G hmg
    obtain ⟨K, KX, c⟩ := Y
    obtain ⟨d, ea, T⟩ := K15.tx_of KX G c
    have e : fa = d.a_law := by
      have z := hmg.symm.trans (show mg _ = some (.ref d.a_law) from T.m_law)
      cases z
      rfl
    subst e
    exact ⟨K, K15.gg K d, KX, rfl, fun base => K15.ok_law T⟩
