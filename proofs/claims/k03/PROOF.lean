import PyProof.Rows.All
import Wide.All
import OpenK.AllK
import Wide.FinOn
import HandS.ForMost
import HandS.ForExc
import HandS.Flow
import HandS.IsInst
import HandS.Zip
import HandS.TupMul
import HandS.Text
import PyProof.FactsAll.dict_1
import PyProof.FactsAll.subtypes_3
import PyProof.FactsAll.subtypes_4
import PyProof.FitsStr
import HandS.More
import HandS.Small
import HandS.Ends
import HandS.Iter
import KE.GoesMore
import HandS.Style
import KE.KItemsList
import HandS.SetKeys
import PyProof.Rows.SetFrom
import HandS.WideBits
import HandS.Wide
import KE.KTupTabMore
import PyProof.ListRange
import HandS.SortInts
import KE.KDictZip
import HandS.Exc
import HandS.ExcOwn
import HandS.ExcIs
import PyProof.ExcBaseAll.ValueError
import HandS.SetFor
import HandS.TupSets
import HandS.CallLocal
import KE.GoesEnum
import KE.GoesZip
import HandS.NoneIn
import HandS.StrMore
import HandS.FStr
import HandS.RaiseMore
import PyProof.ReprLen
import PyProof.FitsInt
import PyProof.Rows.ReprOcc
import PySem.Challenge.RW_unseentables_k03_whole_grids_by_own_widt
set_option Elab.async false
set_option linter.all false
set_option maxRecDepth 100000
set_option maxHeartbeats 4000000
/-! DL: a layer of plain data over the hand layer. -/
namespace DL
open PySem PySem.Spec PyProof.Rows L2

/-! ### results, frames -/
abbrev D := PyData
inductive Sl where
  | emp
  | fz (d : D)
  | own (d : D)
  | deep (d : D)
  | fn (i : Nat)
abbrev Rho := List Sl
inductive Res (α : Type) where
  | ok (a : α) (r : Rho)
  | ex (c : Nat) (ds : List D) (r : Rho)
  | bad
namespace Res
def bind {α β : Type} : Res α → (α → Rho → Res β) → Res β
  | .ok a r, f => f a r
  | .ex c ds r, _ => .ex c ds r
  | .bad, _ => .bad
@[simp] theorem ok_bind {α β : Type} (a : α) (r : Rho) (f : α → Rho → Res β) : (Res.ok a r).bind f = f a r := rfl
@[simp] theorem ex_bind {α β : Type} (c : Nat) (ds : List D) (r : Rho) (f : α → Rho → Res β) : (Res.ex c ds r : Res α).bind f = .ex c ds r := rfl
@[simp] theorem bad_bind {α β : Type} (f : α → Rho → Res β) : (Res.bad : Res α).bind f = .bad := rfl
end Res
abbrev M (α : Type) := Rho → Res α

/-! ### data in the abstract heap, apart from what B bans -/
def KTup (K : PySem.W.Frag) (a : Addr) (xs : List V) : Prop :=
  ∃ (o : Obj) (its : Array Value) (n : Nat), K.lookup a = some o ∧ o.cls = .type "tuple" ∧ o.data = .seq its n ∧ its.size ≤ sizeLine ∧ Vals xs its.toList
def kD : Key → D
  | .inl i => .int i
  | .inr x => .str x
mutual
inductive DV (K : PySem.W.Frag) (H : Hp) (B : Addr → Prop) : V → D → Prop
  | non : DV K H B .non .none
  | bl (b : Bool) : DV K H B (.bl b) (.bool b)
  | int (i : Int) : DV K H B (.int i) (.int i)
  | str (x : Str) : DV K H B (.str x) (.str x)
  | lst {a : Addr} {xs : List V} {ds : List D} : Rd H a (.lst xs) → ¬ B a → DVs K H B xs ds → DV K H B (.ref a) (.list ds)
  | tup {a : Addr} {xs : List V} {ds : List D} : Rd H a (.tup xs) → ¬ B a → DVs K H B xs ds → DV K H B (.ref a) (.tuple ds)
  | ktup {a : Addr} {xs : List V} {ds : List D} : KTup K a xs → DVs K H B xs ds → DV K H B (.ref a) (.tuple ds)
  | dct {a : Addr} {kvs : List (Key × V)} {ds : List (D × D)} : Rd H a (.dK kvs) → ¬ B a → DKs K H B kvs ds → DV K H B (.ref a) (.dict ds)
inductive DVs (K : PySem.W.Frag) (H : Hp) (B : Addr → Prop) : List V → List D → Prop
  | nil : DVs K H B [] []
  | cons {v : V} {vs : List V} {d : D} {ds : List D} : DV K H B v d → DVs K H B vs ds → DVs K H B (v :: vs) (d :: ds)
inductive DKs (K : PySem.W.Frag) (H : Hp) (B : Addr → Prop) : List (Key × V) → List (D × D) → Prop
  | nil : DKs K H B [] []
  | cons {k : Key} {v : V} {r : List (Key × V)} {d : D} {ds : List (D × D)} : DV K H B v d → DKs K H B r ds → DKs K H B ((k, v) :: r) ((kD k, d) :: ds)
end
section
variable {K : PySem.W.Frag} {H H' : Hp} {B B' : Addr → Prop}
mutual
theorem DV.mono (h : ∀ a u, Rd H a u → ¬ B a → Rd H' a u ∧ ¬ B' a) : ∀ (d : D) (v : V), DV K H B v d → DV K H' B' v d
  | .none, _, .non => .non
  | .bool _, _, .bl b => .bl b
  | .int _, _, .int i => .int i
  | .str _, _, .str x => .str x
  | .list ds, _, .lst r b t => .lst (h _ _ r b).1 (h _ _ r b).2 (DVs.mono h ds _ t)
  | .tuple ds, _, .tup r b t => .tup (h _ _ r b).1 (h _ _ r b).2 (DVs.mono h ds _ t)
  | .tuple ds, _, .ktup r t => .ktup r (DVs.mono h ds _ t)
  | .dict ds, _, .dct r b t => .dct (h _ _ r b).1 (h _ _ r b).2 (DKs.mono h ds _ t)
theorem DVs.mono (h : ∀ a u, Rd H a u → ¬ B a → Rd H' a u ∧ ¬ B' a) : ∀ (ds : List D) (vs : List V), DVs K H B vs ds → DVs K H' B' vs ds
  | [], _, .nil => .nil
  | d :: ds, _, .cons x t => .cons (DV.mono h d _ x) (DVs.mono h ds _ t)
theorem DKs.mono (h : ∀ a u, Rd H a u → ¬ B a → Rd H' a u ∧ ¬ B' a) : ∀ (ds : List (D × D)) (vs : List (Key × V)), DKs K H B vs ds → DKs K H' B' vs ds
  | [], _, .nil => .nil
  | (_, d) :: ds, _, .cons x t => .cons (DV.mono h d _ x) (DKs.mono h ds _ t)
end
theorem rd_same (e : Same H H') {a : Addr} {u : HO} (r : Rd H a u) : Rd H' a u := by
  rcases r with r | ⟨o, r⟩
  · exact .inl (e _ _ r)
  · exact .inr ⟨o, e _ _ r⟩
theorem DV.same {v : V} {d : D} (x : DV K H B v d) (e : Same H H') : DV K H' B v d := DV.mono (fun _ _ r b => ⟨rd_same e r, b⟩) d v x
theorem DVs.same {vs : List V} {ds : List D} (x : DVs K H B vs ds) (e : Same H H') : DVs K H' B vs ds := DVs.mono (fun _ _ r b => ⟨rd_same e r, b⟩) ds vs x
theorem DV.ban {v : V} {d : D} (x : DV K H B v d) (e : ∀ a, B' a → B a) : DV K H B' v d := DV.mono (fun _ _ r b => ⟨r, fun z => b (e _ z)⟩) d v x
theorem DVs.ban {vs : List V} {ds : List D} (x : DVs K H B vs ds) (e : ∀ a, B' a → B a) : DVs K H B' vs ds := DVs.mono (fun _ _ r b => ⟨r, fun z => b (e _ z)⟩) ds vs x
/-- no ban -/
abbrev NoB : Addr → Prop := fun _ => False
theorem DV.free {v : V} {d : D} (x : DV K H B v d) : DV K H NoB v d := x.ban fun _ z => z.elim
theorem DVs.free {vs : List V} {ds : List D} (x : DVs K H B vs ds) : DVs K H NoB vs ds := x.ban fun _ z => z.elim
theorem rd_some {a : Addr} {u : HO} (r : Rd H a u) : H a ≠ none := by
  rcases r with r | ⟨o, r⟩ <;> rw [r] <;> exact fun z => nomatch z
theorem DVs.length : ∀ {vs : List V} {ds : List D}, DVs K H B vs ds → vs.length = ds.length
  | _, _, .nil => rfl
  | _, _, .cons _ t => by rw [List.length_cons, List.length_cons, DVs.length t]
theorem DVs.get : ∀ {vs : List V} {ds : List D} {i : Nat} {d : D}, DVs K H B vs ds → ds[i]? = some d → ∃ v, vs[i]? = some v ∧ DV K H B v d
  | _, _, 0, _, .cons x _, e => by
    simp at e
    subst e
    exact ⟨_, rfl, x⟩
  | _, _, i + 1, _, .cons _ t, e => by
    obtain ⟨v, h1, h2⟩ := DVs.get (i := i) t (by simpa using e)
    exact ⟨v, by simpa using h1, h2⟩
  | _, _, _, _, .nil, e => by simp at e
theorem DVs.append : ∀ {vs ws : List V} {ds es : List D}, DVs K H B vs ds → DVs K H B ws es → DVs K H B (vs ++ ws) (ds ++ es)
  | _, _, _, _, .nil, y => y
  | _, _, _, _, .cons x t, y => .cons x (DVs.append t y)
theorem DVs.take : ∀ {vs : List V} {ds : List D} (n : Nat), DVs K H B vs ds → DVs K H B (vs.take n) (ds.take n)
  | _, _, 0, _ => by simpa using DVs.nil
  | _, _, _ + 1, .nil => by simpa using DVs.nil
  | _, _, n + 1, .cons x t => .cons x (DVs.take n t)
theorem DVs.drop : ∀ {vs : List V} {ds : List D} (n : Nat), DVs K H B vs ds → DVs K H B (vs.drop n) (ds.drop n)
  | _, _, 0, t => by simpa using t
  | _, _, _ + 1, .nil => by simpa using DVs.nil
  | _, _, n + 1, .cons _ t => DVs.drop n t
theorem DVs.reverse : ∀ {vs : List V} {ds : List D}, DVs K H B vs ds → DVs K H B vs.reverse ds.reverse
  | _, _, .nil => .nil
  | _, _, .cons x t => by
    rw [List.reverse_cons, List.reverse_cons]
    exact (DVs.reverse t).append (.cons x .nil)
theorem DVs.set : ∀ {vs : List V} {ds : List D} {v : V} {d : D} (i : Nat), DVs K H B vs ds → DV K H B v d → DVs K H B (vs.set i v) (ds.set i d)
  | _, _, _, _, _, .nil, _ => by simpa using DVs.nil
  | _, _, _, _, 0, .cons _ t, y => .cons y t
  | _, _, _, _, i + 1, .cons x t, y => .cons x (DVs.set i t y)
theorem DVs.eraseIdx : ∀ {vs : List V} {ds : List D} (i : Nat), DVs K H B vs ds → DVs K H B (vs.eraseIdx i) (ds.eraseIdx i)
  | _, _, _, .nil => by simpa using DVs.nil
  | _, _, 0, .cons _ t => t
  | _, _, i + 1, .cons x t => .cons x (DVs.eraseIdx i t)
theorem DVs.rep {vs : List V} {ds : List D} (t : DVs K H B vs ds) : ∀ k : Nat, DVs K H B (List.replicate k vs).flatten (List.replicate k ds).flatten
  | 0 => .nil
  | k + 1 => by
    rw [List.replicate_succ, List.replicate_succ, List.flatten_cons, List.flatten_cons]
    exact t.append (DVs.rep t k)
theorem SqT.ofD {a : Addr} {ds : List D} (x : DV K H B (.ref a) (.tuple ds)) : ∃ xs, SqT K H a xs ∧ DVs K H B xs ds := by
  cases x with
  | tup r _ t => exact ⟨_, .inl r, t⟩
  | ktup r t => exact ⟨_, .inr r, t⟩
theorem SqL.ofD {a : Addr} {ds : List D} (x : DV K H B (.ref a) (.list ds)) : ∃ xs, SqL K H a xs ∧ DVs K H B xs ds := by
  cases x with
  | lst r _ t => exact ⟨_, .inl r, t⟩
end
end DL

namespace DL
open PySem PySem.Spec PyProof.Rows L2

/-! ### slots -/
inductive DpK (K : PySem.W.Frag) (H : Hp) (B : Addr → Prop) : List (Key × V) → List (D × D) → List Addr → Prop
  | nil : DpK K H B [] [] []
  | lst {k : Key} {a : Addr} {xs : List V} {ds : List D} {r : List (Key × V)} {s : List (D × D)} {as : List Addr} : H a = some (.lst xs) → DVs K H B xs ds → DpK K H B r s as → DpK K H B ((k, .ref a) :: r) ((kD k, .list ds) :: s) (a :: as)
  | val {k : Key} {v : V} {d : D} {r : List (Key × V)} {s : List (D × D)} {as : List Addr} : DV K H B v d → (∀ ds, d ≠ .list ds) → DpK K H B r s as → DpK K H B ((k, v) :: r) ((kD k, d) :: s) as
inductive SlV (K : PySem.W.Frag) (fa : Nat → Addr) (H : Hp) (B : Addr → Prop) : Sl → Option V → List Addr → Prop
  | emp (o : Option V) : SlV K fa H B .emp o []
  | fz {v : V} {d : D} : DV K H B v d → SlV K fa H B (.fz d) (some v) []
  | fn (i : Nat) : SlV K fa H B (.fn i) (some (.ref (fa i))) []
  | own {a : Addr} {xs : List V} {ds : List D} : H a = some (.lst xs) → DVs K H B xs ds → SlV K fa H B (.own (.list ds)) (some (.ref a)) [a]
  | ownK {a : Addr} {kvs : List (Key × V)} {ds : List (D × D)} : H a = some (.dK kvs) → DKs K H B kvs ds → SlV K fa H B (.own (.dict ds)) (some (.ref a)) [a]
  | deep {a : Addr} {kvs : List (Key × V)} {ds : List (D × D)} {as : List Addr} : H a = some (.dK kvs) → DpK K H B kvs ds as → SlV K fa H B (.deep (.dict ds)) (some (.ref a)) (a :: as)
inductive SlVs (K : PySem.W.Frag) (fa : Nat → Addr) (H : Hp) (B : Addr → Prop) : Rho → L2.St → List Addr → Prop
  | nil : SlVs K fa H B [] [] []
  | cons {s : Sl} {o : Option V} {as bs : List Addr} {r : Rho} {σ : L2.St} : SlV K fa H B s o as → SlVs K fa H B r σ bs → SlVs K fa H B (s :: r) (o :: σ) (as ++ bs)

section
variable {K : PySem.W.Frag} {fa : Nat → Addr} {H H' : Hp} {B B' : Addr → Prop}
theorem DpK.mono (h : ∀ a u, Rd H a u → ¬ B a → Rd H' a u ∧ ¬ B' a) : ∀ {kvs : List (Key × V)} {ds : List (D × D)} {as : List Addr}, DpK K H B kvs ds as → (∀ a ∈ as, ∀ u, H a = some u → H' a = some u) → DpK K H' B' kvs ds as
  | _, _, _, .nil, _ => .nil
  | _, _, _, .lst e x t, k => .lst (k _ List.mem_cons_self _ e) (DVs.mono h _ _ x) (DpK.mono h t fun a m => k a (List.mem_cons_of_mem _ m))
  | _, _, _, .val x n t, k => .val (DV.mono h _ _ x) n (DpK.mono h t k)
theorem SlV.mono (h : ∀ a u, Rd H a u → ¬ B a → Rd H' a u ∧ ¬ B' a) {s : Sl} {o : Option V} {as : List Addr} (x : SlV K fa H B s o as) (k : ∀ a ∈ as, ∀ u, H a = some u → H' a = some u) : SlV K fa H' B' s o as := by
  cases x with
  | emp => exact .emp _
  | fz x => exact .fz (DV.mono h _ _ x)
  | fn i => exact .fn i
  | own e x => exact .own (k _ (by simp) _ e) (DVs.mono h _ _ x)
  | ownK e x => exact .ownK (k _ (by simp) _ e) (DKs.mono h _ _ x)
  | deep e x => exact .deep (k _ (by simp) _ e) (x.mono h fun a m => k a (List.mem_cons_of_mem _ m))
theorem SlVs.mono (h : ∀ a u, Rd H a u → ¬ B a → Rd H' a u ∧ ¬ B' a) : ∀ {r : Rho} {σ : L2.St} {as : List Addr}, SlVs K fa H B r σ as → (∀ a ∈ as, ∀ u, H a = some u → H' a = some u) → SlVs K fa H' B' r σ as
  | _, _, _, .nil, _ => .nil
  | _, _, _, .cons x t, k => .cons (x.mono h fun a m => k a (List.mem_append_left _ m)) (SlVs.mono h t fun a m => k a (List.mem_append_right _ m))
theorem SlVs.length : ∀ {r : Rho} {σ : L2.St} {as : List Addr}, SlVs K fa H B r σ as → r.length = σ.length
  | _, _, _, .nil => rfl
  | _, _, _, .cons _ t => by rw [List.length_cons, List.length_cons, t.length]
/-- one slot, taken out and put back -/
theorem SlVs.at : ∀ {r : Rho} {σ : L2.St} {O : List Addr} {i : Nat} {s : Sl}, SlVs K fa H B r σ O → r[i]? = some s →
    ∃ o as l1 l2, σ[i]? = some o ∧ SlV K fa H B s o as ∧ O = l1 ++ (as ++ l2) ∧
      ∀ (H' : Hp) (B' : Addr → Prop), (∀ a u, Rd H a u → ¬ B a → Rd H' a u ∧ ¬ B' a) → (∀ a, a ∈ l1 ∨ a ∈ l2 → ∀ u, H a = some u → H' a = some u) →
        ∀ (s' : Sl) (o' : Option V) (as' : List Addr), SlV K fa H' B' s' o' as' → SlVs K fa H' B' (r.set i s') (σ.set i o') (l1 ++ (as' ++ l2))
  | _, _, _, 0, _, .cons (as := as) (bs := bs) x t, e => by
    simp at e
    subst e
    refine ⟨_, as, [], bs, rfl, x, rfl, fun H' B' h k s' o' as' y => ?_⟩
    have w := SlVs.cons y (t.mono h fun a m => k a (.inr m))
    simpa using w
  | _, _, _, i + 1, _, .cons (as := cs) x t, e => by
    obtain ⟨o, as, l1, l2, e1, e2, e3, e4⟩ := SlVs.at (i := i) t (by simpa using e)
    subst e3
    refine ⟨o, as, cs ++ l1, l2, by simpa using e1, e2, by simp, fun H' B' h k s' o' as' y => ?_⟩
    have q := e4 H' B' h (fun a m => k a (m.elim (fun z => .inl (List.mem_append_right _ z)) .inr)) s' o' as' y
    have w := SlVs.cons (x.mono h fun a m => k a (.inl (List.mem_append_left _ m))) q
    simpa using w
  | _, _, _, _, _, .nil, e => by simp at e
theorem DpK.there : ∀ {kvs : List (Key × V)} {ds : List (D × D)} {as : List Addr}, DpK K H B kvs ds as → ∀ a ∈ as, ∃ xs, H a = some (.lst xs)
  | _, _, _, .nil, _, m => by simp at m
  | _, _, _, .lst e x t, a, m => by
    rcases List.mem_cons.mp m with rfl | m
    · exact ⟨_, e⟩
    · exact t.there a m
  | _, _, _, .val _ _ t, a, m => t.there a m
def MutO : HO → Prop
  | .lst _ => True
  | .dK _ => True
  | _ => False
theorem SlV.there {s : Sl} {o : Option V} {as : List Addr} (x : SlV K fa H B s o as) : ∀ a ∈ as, ∃ u, H a = some u ∧ MutO u := by
  intro a m
  cases x with
  | emp => simp at m
  | fz x => simp at m
  | fn i => simp at m
  | own e x => simp at m; subst m; exact ⟨_, e, trivial⟩
  | ownK e x => simp at m; subst m; exact ⟨_, e, trivial⟩
  | deep e x =>
    rcases List.mem_cons.mp m with rfl | m
    · exact ⟨_, e, trivial⟩
    · obtain ⟨xs, q⟩ := x.there a m
      exact ⟨_, q, trivial⟩
theorem SlVs.there : ∀ {r : Rho} {σ : L2.St} {as : List Addr}, SlVs K fa H B r σ as → ∀ a ∈ as, ∃ u, H a = some u ∧ MutO u
  | _, _, _, .nil, _, m => by simp at m
  | _, _, _, .cons x t, a, m => (List.mem_append.mp m).elim (x.there a) (t.there a)
end

/-! ### the whole relation -/
abbrev Bn (B : Addr → Prop) (O : List Addr) : Addr → Prop := fun a => B a ∨ a ∈ O
/-- what is fixed in a body: the heap at the entry, the objects lent (with the slots that hold them), the caller's ban -/
structure Fx where
  H0 : Hp
  I : List Addr
  ps : List (Nat × Addr)
structure RL (K : PySem.W.Frag) (fa : Nat → Addr) (F : Fx) (B : Addr → Prop) (O : List Addr) (r : Rho) (σ : L2.St) (H : Hp) : Prop where
  sl : SlVs K fa H (Bn B O) r σ O
  nd : O.Nodup
  fr : ∀ a o, F.H0 a = some o → a ∉ F.I → H a = some o
  fe : ∀ a, F.H0 a ≠ none → H a ≠ none
  ow : ∀ a ∈ O, ¬ B a ∧ (a ∈ F.I ∨ F.H0 a = none)
  bt : ∀ a, B a → H a ≠ none
  io : ∀ p ∈ F.ps, σ[p.1]? = some (some (.ref p.2)) ∧ ∃ d, r[p.1]? = some (.deep d)
/-- what may be read on, and stays unbanned -/
abbrev Mv (H : Hp) (C : Addr → Prop) (H' : Hp) (C' : Addr → Prop) : Prop := ∀ a u, Rd H a u → ¬ C a → Rd H' a u ∧ ¬ C' a
structure Ext (O : List Addr) (H : Hp) (O' : List Addr) (H' : Hp) : Prop where
  kp : ∀ a o, a ∉ O → H a = some o → H' a = some o
  nw : ∀ a ∈ O', a ∈ O ∨ H a = none
  th : ∀ a, H a ≠ none → H' a ≠ none
section
variable {K : PySem.W.Frag} {fa : Nat → Addr} {F : Fx} {B : Addr → Prop} {O O' O2 : List Addr} {r : Rho} {σ : L2.St} {H H' H2 : Hp} {v : V} {d : D} {vs : List V} {ds : List D}
theorem Ext.refl : Ext O H O H := ⟨fun _ _ _ e => e, fun _ m => .inl m, fun _ n => n⟩
theorem Ext.same (e : Same H H') : Ext O H O H' := ⟨fun a o _ q => e a o q, fun _ m => .inl m, fun _ n z => n (Same.free e z)⟩
theorem Ext.trans (x : Ext O H O' H') (y : Ext O' H' O2 H2) : Ext O H O2 H2 := by
  refine ⟨fun a o n e => ?_, fun a m => ?_, fun a n => y.th a (x.th a n)⟩
  · refine y.kp a o (fun z => ?_) (x.kp a o n e)
    rcases x.nw a z with q | q
    · exact n q
    · rw [e] at q; cases q
  · rcases y.nw a m with q | q
    · exact x.nw a q
    · by_cases z : a ∈ O
      · exact .inl z
      · cases w : H a with
        | none => exact .inr rfl
        | some o => have := x.kp a o z w; rw [q] at this; cases this
theorem ext_mono (x : Ext O H O' H') : Mv H (Bn B O) H' (Bn B O') := by
  intro a u q b
  have nO : a ∉ O := fun z => b (.inr z)
  refine ⟨?_, ?_⟩
  · rcases q with q | ⟨o, q⟩
    · exact .inl (x.kp a _ nO q)
    · exact .inr ⟨o, x.kp a _ nO q⟩
  · rintro (z | z)
    · exact b (.inl z)
    · rcases x.nw a z with w | w
      · exact nO w
      · exact rd_some q w
theorem DV.ext (q : DV K H (Bn B O) v d) (x : Ext O H O' H') : DV K H' (Bn B O') v d := DV.mono (ext_mono x) d v q
theorem DVs.ext (q : DVs K H (Bn B O) vs ds) (x : Ext O H O' H') : DVs K H' (Bn B O') vs ds := DVs.mono (ext_mono x) ds vs q
theorem RL.same (R : RL K fa F B O r σ H) (e : Same H H') : RL K fa F B O r σ H' :=
  ⟨R.sl.mono (fun _ _ q b => ⟨rd_same e q, b⟩) fun a _ u q => e a u q, R.nd, fun a o q n => e a o (R.fr a o q n), fun a n z => R.fe a n (Same.free e z), R.ow, fun a b z => R.bt a b (Same.free e z), R.io⟩
theorem RL.there (R : RL K fa F B O r σ H) : ∀ a ∈ O, ∃ u, H a = some u ∧ MutO u := R.sl.there
/-- a is new: nothing leads to it -/
theorem RL.addBan (R : RL K fa F B O r σ H) {a : Addr} (n : H a = none) (e : Same H H') (t : H' a ≠ none) : RL K fa F (fun b => B b ∨ b = a) O r σ H' := by
  have nO : a ∉ O := fun z => by
    obtain ⟨u, q, _⟩ := R.there a z
    rw [n] at q; cases q
  refine ⟨R.sl.mono (fun b u q nb => ⟨rd_same e q, ?_⟩) fun a _ u q => e a u q, R.nd, fun b o q m => e b o (R.fr b o q m), fun b n z => R.fe b n (Same.free e z), fun b m => ⟨?_, (R.ow b m).2⟩, ?_, R.io⟩
  · rintro ((z | z) | z)
    · exact nb (.inl z)
    · subst z; exact rd_some q n
    · exact nb (.inr z)
  · rintro (z | z)
    · exact (R.ow b m).1 z
    · subst z; exact nO m
  · rintro b (z | z)
    · exact fun w => R.bt b z (Same.free e w)
    · subst z; exact t
theorem RL.unBan {B' : Addr → Prop} (R : RL K fa F B' O r σ H) (e : ∀ a, B a → B' a) : RL K fa F B O r σ H :=
  ⟨R.sl.mono (fun b u q nb => ⟨q, fun z => nb (z.imp (e b) id)⟩) fun _ _ _ q => q, R.nd, R.fr, R.fe, fun a m => ⟨fun z => (R.ow a m).1 (e a z), (R.ow a m).2⟩, fun a b => R.bt a (e a b), R.io⟩
/-- a slot's data -/
theorem RL.get (R : RL K fa F B O r σ H) {i : Nat} (e : r[i]? = some (.fz d)) : ∃ v, σ[i]? = some (some v) ∧ DV K H (Bn B O) v d := by
  obtain ⟨o, as, l1, l2, h1, h2, h3, h4⟩ := R.sl.at e
  cases h2 with
  | fz x => exact ⟨_, h1, x⟩
theorem same_fresh {a : Addr} {o : HO} (n : H a = none) : Same H (upd H a o) := fun b u e => by rw [upd_ne (ne_of_none e n)]; exact e
/-- a slot is given new frozen data -/
theorem RL.put (R : RL K fa F B O r σ H) {i : Nat} {s : Sl} (e : r[i]? = some s) (nd : ∀ d, s ≠ .deep d) (x : DV K H (Bn B O) v d) : ∃ O', RL K fa F B O' (r.set i (.fz d)) (σ.set i (some v)) H ∧ Ext O H O' H := by
  obtain ⟨o, as, l1, l2, h1, h2, h3, h4⟩ := R.sl.at e
  have sub : ∀ a, a ∈ l1 ++ ([] ++ l2) → a ∈ O := fun a m => by
    rw [h3]
    simp only [List.nil_append, List.mem_append] at m ⊢
    rcases m with m | m
    · exact .inl m
    · exact .inr (.inr m)
  have bn : ∀ a, Bn B (l1 ++ ([] ++ l2)) a → Bn B O a := fun a z => z.imp id (sub a)
  refine ⟨l1 ++ ([] ++ l2), ⟨h4 H (Bn B (l1 ++ ([] ++ l2))) (fun a u q b => ⟨q, fun z => b (bn a z)⟩) (fun a _ u q => q) _ _ [] (.fz (x.ban bn)), ?_, R.fr, R.fe, fun a m => R.ow a (sub a m), R.bt, fun p hp => ?_⟩, ⟨fun a o _ q => q, fun a m => .inl (sub a m), fun _ n => n⟩⟩
  · have nd := R.nd
    rw [h3] at nd
    refine nd.sublist ?_
    simp
  · obtain ⟨q1, d', q2⟩ := R.io p hp
    have ne : p.1 ≠ i := fun z => by
      rw [z, e] at q2
      exact nd d' (Option.some.inj q2)
    rw [List.getElem?_set_ne (Ne.symm ne), List.getElem?_set_ne (Ne.symm ne)]
    exact ⟨q1, d', q2⟩
/-- a slot is frozen -/
theorem RL.freeze (R : RL K fa F B O r σ H) {i : Nat} (e : r[i]? = some (.own d)) : ∃ O' v, σ[i]? = some (some v) ∧ DV K H (Bn B O') v d ∧ RL K fa F B O' (r.set i (.fz d)) σ H ∧ Ext O H O' H := by
  obtain ⟨o, as, l1, l2, h1, h2, h3, h4⟩ := R.sl.at e
  have sub : ∀ a, a ∈ l1 ++ ([] ++ l2) → a ∈ O := fun a m => by
    rw [h3]
    simp only [List.nil_append, List.mem_append] at m ⊢
    rcases m with m | m
    · exact .inl m
    · exact .inr (.inr m)
  have bn : ∀ a, Bn B (l1 ++ ([] ++ l2)) a → Bn B O a := fun a z => z.imp id (sub a)
  have ndp := R.nd
  rw [h3] at ndp
  have key : ∃ v, o = some v ∧ DV K H (Bn B (l1 ++ ([] ++ l2))) v d := by
    cases h2 with
    | own ea x =>
      rename_i a xs ds
      have na : a ∉ l1 ++ ([] ++ l2) := fun m => by
        simp only [List.nil_append, List.mem_append, List.cons_append, List.nodup_append, List.nodup_cons] at m ndp
        rcases m with m | m
        · exact ndp.2.2 a m a List.mem_cons_self rfl
        · exact ndp.2.1.1 m
      have aO : a ∈ O := by rw [h3]; simp
      exact ⟨_, rfl, .lst (.inl ea) (fun z => z.elim (R.ow a aO).1 na) (x.ban bn)⟩
    | ownK ea x =>
      rename_i a kvs ds
      have na : a ∉ l1 ++ ([] ++ l2) := fun m => by
        simp only [List.nil_append, List.mem_append, List.cons_append, List.nodup_append, List.nodup_cons] at m ndp
        rcases m with m | m
        · exact ndp.2.2 a m a List.mem_cons_self rfl
        · exact ndp.2.1.1 m
      have aO : a ∈ O := by rw [h3]; simp
      exact ⟨_, rfl, .dct (.inl ea) (fun z => z.elim (R.ow a aO).1 na) (DKs.mono (fun a u q b => ⟨q, fun z => b (bn a z)⟩) _ _ x)⟩
  obtain ⟨v, rfl, x⟩ := key
  have hset : σ.set i (some v) = σ := by
    apply List.ext_getElem?
    intro j
    by_cases hj : j = i
    · subst hj
      rw [h1, List.getElem?_set_self (by exact (List.getElem?_eq_some_iff.mp h1).1)]
    · rw [List.getElem?_set_ne (Ne.symm hj)]
  have q := h4 H (Bn B (l1 ++ ([] ++ l2))) (fun a u q b => ⟨q, fun z => b (bn a z)⟩) (fun a _ u q => q) (.fz d) (some v) [] (.fz x)
  rw [hset] at q
  refine ⟨l1 ++ ([] ++ l2), v, h1, x, ⟨q, ?_, R.fr, R.fe, fun a m => R.ow a (sub a m), R.bt, fun p hp => ?_⟩, ⟨fun a o _ q => q, fun a m => .inl (sub a m), fun _ n => n⟩⟩
  · refine ndp.sublist ?_
    simp
  · obtain ⟨q1, d', q2⟩ := R.io p hp
    have ne : p.1 ≠ i := fun z => by
      rw [z, e] at q2
      cases q2
    rw [List.getElem?_set_ne (Ne.symm ne)]
    exact ⟨q1, d', q2⟩
/-- .. so no new object stood at the entry -/
theorem RL.new0 (R : RL K fa F B O r σ H) {a : Addr} (n : H a = none) : F.H0 a = none := by
  cases q : F.H0 a with
  | none => rfl
  | some o => exact absurd n (R.fe a (by rw [q]; exact fun z => nomatch z))
/-- what is banned may change -/
theorem RL.updBan (R : RL K fa F B O r σ H) {a : Addr} {o : HO} (b : B a) (e0 : F.H0 a = none) : RL K fa F B O r σ (upd H a o) := by
  have ne : ∀ c, H c ≠ none → upd H a o c ≠ none := fun c n => by
    by_cases hc : c = a
    · subst hc; rw [upd_same]; exact fun z => nomatch z
    · rw [upd_ne hc]; exact n
  refine ⟨R.sl.mono (fun c u q nb => ⟨?_, nb⟩) fun c m u q => ?_, R.nd, fun c u q n => ?_, fun c n => ne c (R.fe c n), R.ow, fun c z => ne c (R.bt c z), R.io⟩
  · have hc : c ≠ a := fun z => nb (.inl (by rw [z]; exact b))
    rcases q with q | ⟨o', q⟩
    · exact .inl (by rw [upd_ne hc]; exact q)
    · exact .inr ⟨o', by rw [upd_ne hc]; exact q⟩
  · have hc : c ≠ a := fun z => (R.ow c m).1 (by rw [z]; exact b)
    rw [upd_ne hc]; exact q
  · have hc : c ≠ a := fun z => by rw [z, e0] at q; cases q
    rw [upd_ne hc]; exact R.fr c u q n
theorem DVs.updBan {vs : List V} {ds : List D} {a : Addr} {o : HO} (x : DVs K H B vs ds) (b : B a) : DVs K (upd H a o) B vs ds :=
  DVs.mono (fun c u q nb => ⟨by
    have hc : c ≠ a := fun z => nb (by rw [z]; exact b)
    rcases q with q | ⟨o', q⟩
    · exact .inl (by rw [upd_ne hc]; exact q)
    · exact .inr ⟨o', by rw [upd_ne hc]; exact q⟩, nb⟩) _ _ x
theorem DV.updBan {v : V} {d : D} {a : Addr} {o : HO} (x : DV K H B v d) (b : B a) : DV K (upd H a o) B v d :=
  DV.mono (fun c u q nb => ⟨by
    have hc : c ≠ a := fun z => nb (by rw [z]; exact b)
    rcases q with q | ⟨o', q⟩
    · exact .inl (by rw [upd_ne hc]; exact q)
    · exact .inr ⟨o', by rw [upd_ne hc]; exact q⟩, nb⟩) _ _ x
/-- a slot is given an object that nothing else leads to: s says how -/
theorem RL.putNew {B : Addr → Prop} {a : Addr} (R : RL K fa F (fun b => B b ∨ b = a) O r σ H) {i : Nat} {s s' : Sl} {o' : Option V} (e : r[i]? = some s) (nd : ∀ d, s ≠ .deep d) (nB : ¬ B a) (e0 : F.H0 a = none)
    (x : ∀ O', (∀ b, b ∈ O' → b = a ∨ b ∈ O) → SlV K fa H (Bn B O') s' o' [a]) :
    ∃ O', RL K fa F B O' (r.set i s') (σ.set i o') H ∧ (∀ b ∈ O', b = a ∨ b ∈ O) := by
  obtain ⟨o, as, l1, l2, h1, h2, h3, h4⟩ := R.sl.at e
  have aO : a ∉ O := fun z => (R.ow a z).1 (.inr rfl)
  have sub : ∀ b, b ∈ l1 ++ ([a] ++ l2) → b = a ∨ b ∈ O := fun b m => by
    rw [h3]
    simp only [List.mem_append, List.mem_singleton] at m ⊢
    rcases m with m | m | m
    · exact .inr (.inl m)
    · exact .inl m
    · exact .inr (.inr (.inr m))
  have bn : ∀ b, Bn B (l1 ++ ([a] ++ l2)) b → Bn (fun b => B b ∨ b = a) O b := fun b z => by
    rcases z with z | z
    · exact .inl (.inl z)
    · rcases sub b z with w | w
      · exact .inl (.inr w)
      · exact .inr w
  refine ⟨l1 ++ ([a] ++ l2), ⟨h4 H (Bn B (l1 ++ ([a] ++ l2))) (fun b u q nb => ⟨q, fun z => nb (bn b z)⟩) (fun b _ u q => q) _ _ [a] (x _ sub), ?_, R.fr, R.fe, fun b m => ?_, fun b z => R.bt b (.inl z), fun p hp => ?_⟩, sub⟩
  · have nd := R.nd
    rw [h3] at nd aO
    simp only [List.mem_append, not_or] at aO
    rw [List.nodup_append] at nd ⊢
    obtain ⟨n1, n2, n3⟩ := nd
    rw [List.nodup_append] at n2
    refine ⟨n1, ?_, fun b hb c hc => ?_⟩
    · show (a :: l2).Nodup
      exact List.nodup_cons.mpr ⟨aO.2.2, n2.2.1⟩
    · rcases List.mem_cons.mp (show c ∈ a :: l2 from hc) with hc | hc
      · intro z
        subst z hc
        exact aO.1 hb
      · exact n3 b hb c (List.mem_append_right _ hc)
  · rcases sub b m with w | w
    · subst w; exact ⟨nB, .inr e0⟩
    · exact ⟨fun z => (R.ow b w).1 (.inl z), (R.ow b w).2⟩
  · obtain ⟨q1, d', q2⟩ := R.io p hp
    have ne : p.1 ≠ i := fun z => by
      rw [z, e] at q2
      exact nd d' (Option.some.inj q2)
    rw [List.getElem?_set_ne (Ne.symm ne), List.getElem?_set_ne (Ne.symm ne)]
    exact ⟨q1, d', q2⟩
end
end DL

namespace DL
open PySem PySem.Spec PyProof.Rows L2

theorem PE.imp {X : Cx} {e : Expr} {t t' : TE} (h : PE X e t) (i : ∀ σ H Q, t' σ H Q → t σ H Q) : PE X e t' := ⟨fun pins s σ H Q I q => h.run pins s σ H Q I (i _ _ _ q)⟩
theorem PT.imp {X : Cx} {e : Expr} {t t' : TT} (h : PT X e t) (i : ∀ σ H Q, t' σ H Q → t σ H Q) : PT X e t' := ⟨fun pins s σ H Q I q => h.run pins s σ H Q I (i _ _ _ q)⟩
theorem PW.imp {X : Cx} {e : Expr} {t t' : TT} (h : PW X e t) (i : ∀ σ H Q, t' σ H Q → t σ H Q) : PW X e t' := ⟨fun wh pins s σ H Q I q => h.run wh pins s σ H Q I (i _ _ _ q)⟩
theorem PA.imp {X : Cx} {es : List Expr} {t t' : TA} (h : PA X es t) (i : ∀ σ H Q, t' σ H Q → t σ H Q) : PA X es t' := ⟨fun pos pins s σ H Q I q => h.run pos pins s σ H Q I (i _ _ _ q)⟩
theorem PS.imp {X : Cx} {e : Stmt} {t t' : TS} (h : PS X e t) (i : ∀ D σ H, t' D σ H → t D σ H) : PS X e t' := ⟨fun pins s σ H D I q => h.run pins s σ H D I (i _ _ _ q)⟩
theorem PSs.imp {X : Cx} {e : List Stmt} {t t' : TS} (h : PSs X e t) (i : ∀ D σ H, t' D σ H → t D σ H) : PSs X e t' := ⟨fun pins s σ H D I q => h.run pins s σ H D I (i _ _ _ q)⟩

/-! ### judgements -/
abbrev Wi := Nat → List D → Hp → Prop
section
variable (K : PySem.W.Frag) (fa : Nat → Addr) (W : Wi)
/-- what is wanted behind a run of f from r -/
def Aft {α : Type} (F : Fx) (B : Addr → Prop) (O : List Addr) (H : Hp) (x : Res α) (q : α → Rho → List Addr → L2.St → Hp → Prop) : Prop :=
  match x with
  | .ok a r' => ∀ O' σ' H', RL K fa F B O' r' σ' H' → Ext O H O' H' → q a r' O' σ' H'
  | .ex c ds r' => ∀ O' σ' H', RL K fa F B O' r' σ' H' → Ext O H O' H' → W c ds H'
  | .bad => False
def tV (f : M D) : TE := fun σ H Q => ∃ F B O r, RL K fa F B O r σ H ∧ Aft K fa W F B O H (f r) fun d r' O' σ' H' => σ' = σ → ∀ v, DV K H' (Bn B O') v d → Q v H'
def tVs (f : M (List D)) : TA := fun σ H Q => ∃ F B O r, RL K fa F B O r σ H ∧ Aft K fa W F B O H (f r) fun ds r' O' σ' H' => σ' = σ → ∀ vs, DVs K H' (Bn B O') vs ds → Q vs H'
def tM (f : M Bool) : TT := fun σ H Q => ∃ F B O r, RL K fa F B O r σ H ∧ Aft K fa W F B O H (f r) fun b r' O' σ' H' => σ' = σ → Q b H'
def tB (f : Rho → Option D) : TE := fun σ H Q => ∃ F B O r, RL K fa F B O r σ H ∧ ∃ d, f r = some d ∧ ∀ v H', Same H H' → DV K H' NoB v d → Q v H'
def tBs (f : Rho → Option (List D)) : TA := fun σ H Q => ∃ F B O r, RL K fa F B O r σ H ∧ ∃ ds, f r = some ds ∧ ∀ vs H', Same H H' → DVs K H' NoB vs ds → Q vs H'
inductive Ctl where
  | nx | bk | ct | rt (d : D)
def CtlQ (F : Fx) (B : Addr → Prop) (Dn : Ends) (O' : List Addr) (σ' : L2.St) (H' : Hp) : Ctl → Prop
  | .nx => Dn.nx σ' H'
  | .bk => Dn.bk σ' H'
  | .ct => Dn.ct σ' H'
  | .rt d => ∀ v, DV K H' (Bn B O') v d → Dn.rt v H'
def tS (g : M Ctl) : TS := fun Dn σ H => ∃ F B O r, RL K fa F B O r σ H ∧ Aft K fa W F B O H (g r) fun c r' O' σ' H' => CtlQ K F B Dn O' σ' H' c
end
abbrev PV (X : Cx) (fa : Nat → Addr) (W : Wi) (e : Expr) (f : M D) : Prop := PE X e (tV X.K fa W f)
abbrev PVs (X : Cx) (fa : Nat → Addr) (W : Wi) (es : List Expr) (f : M (List D)) : Prop := PA X es (tVs X.K fa W f)
abbrev PM (X : Cx) (fa : Nat → Addr) (W : Wi) (e : Expr) (f : M Bool) : Prop := PT X e (tM X.K fa W f)
abbrev PMw (X : Cx) (fa : Nat → Addr) (W : Wi) (e : Expr) (f : M Bool) : Prop := PW X e (tM X.K fa W f)
abbrev PB (X : Cx) (fa : Nat → Addr) (e : Expr) (f : Rho → Option D) : Prop := PE X e (tB X.K fa f)
abbrev PBs (X : Cx) (fa : Nat → Addr) (es : List Expr) (f : Rho → Option (List D)) : Prop := PA X es (tBs X.K fa f)
abbrev PG1 (X : Cx) (fa : Nat → Addr) (W : Wi) (st : Stmt) (g : M Ctl) : Prop := PS X st (tS X.K fa W g)
abbrev PGs (X : Cx) (fa : Nat → Addr) (W : Wi) (st : List Stmt) (g : M Ctl) : Prop := PSs X st (tS X.K fa W g)

section
variable {K : PySem.W.Frag} {fa : Nat → Addr} {W : Wi} {F : Fx} {B : Addr → Prop} {O O' : List Addr} {H H' : Hp}
/-- a bind, seen from behind -/
theorem Aft.bind {α β : Type} {x : Res α} {f : α → Rho → Res β} {q : β → Rho → List Addr → L2.St → Hp → Prop} (h : Aft K fa W F B O H (x.bind f) q) :
    Aft K fa W F B O H x fun a r' O' σ' H' => RL K fa F B O' r' σ' H' ∧ Ext O H O' H' ∧ Aft K fa W F B O' H' (f a r') q := by
  cases x with
  | ok a r' =>
    intro O' σ' H' R e
    refine ⟨R, e, ?_⟩
    have h' : Aft K fa W F B O H (f a r') q := h
    cases hf : f a r' with
    | ok b r2 => rw [hf] at h'; exact fun O2 σ2 H2 R2 e2 => h' O2 σ2 H2 R2 (e.trans e2)
    | ex c ds r2 => rw [hf] at h'; exact fun O2 σ2 H2 R2 e2 => h' O2 σ2 H2 R2 (e.trans e2)
    | bad => rw [hf] at h'; exact h'
  | ex c ds r' => exact h
  | bad => exact h
theorem Aft.mono {α : Type} {x : Res α} {q q' : α → Rho → List Addr → L2.St → Hp → Prop} (h : Aft K fa W F B O H x q) (i : ∀ a r' O' σ' H', x = .ok a r' → RL K fa F B O' r' σ' H' → Ext O H O' H' → q a r' O' σ' H' → q' a r' O' σ' H') : Aft K fa W F B O H x q' := by
  cases x with
  | ok a r' => exact fun O' σ' H' R e => i a r' O' σ' H' rfl R e (h O' σ' H' R e)
  | ex c ds r' => exact h
  | bad => exact h
theorem Aft.ext {α : Type} {x : Res α} {q : α → Rho → List Addr → L2.St → Hp → Prop} (h : Aft K fa W F B O H x q) (e : Ext O H O' H') : Aft K fa W F B O' H' x q := by
  cases x with
  | ok a r' => exact fun O2 σ2 H2 R2 e2 => h O2 σ2 H2 R2 (e.trans e2)
  | ex c ds r' => exact fun O2 σ2 H2 R2 e2 => h O2 σ2 H2 R2 (e.trans e2)
  | bad => exact h
end

/-! ### names and constants -/
def opt {α : Type} (o : Option α) : M α := fun r => match o with
  | some a => .ok a r
  | none => .bad
@[simp] theorem opt_some {α : Type} (a : α) (r : Rho) : opt (some a) r = .ok a r := rfl
@[simp] theorem opt_none {α : Type} (r : Rho) : opt (none : Option α) r = .bad := rfl
def rdV (i : Nat) : M D := fun r => match r[i]? with
  | some (.fz d) => .ok d r
  | some (.own d) => .ok d (r.set i (.fz d))
  | _ => .bad
def rdB (i : Nat) : Rho → Option D := fun r => match r[i]? with
  | some (.fz d) => some d
  | some (.own d) => some d
  | some (.deep d) => some d
  | _ => none
section
variable {X : Cx} {fa : Nat → Addr} {W : Wi}
theorem pv_nm (i : Nat) {x : Str} {pos : Pos} (hN : X.N[i]? = some x := by rfl) (hv : Vis X.env.scope x := by first | exact Or.inl rfl | exact Or.inr (Or.inl rfl) | exact Or.inr (Or.inr rfl)) (hd : (x == ("__debug__" : Str)) = false := by decide)
    (hcd : (x == ("__classdict__" : Str)) = false := by decide) : PV X fa W (.Name x pos) (rdV i) := by
  refine PE.imp (pe_var hN hv hd hcd) fun σ H Q ⟨F, B, O, r, R, h⟩ => ?_
  cases e : r[i]? with
  | none => simp only [rdV, e] at h; exact False.elim h
  | some s =>
    cases s with
    | fz d =>
      simp only [rdV, e] at h
      obtain ⟨v, h1, h2⟩ := R.get e
      exact ⟨v, h1, h O σ H R Ext.refl rfl v h2⟩
    | own d =>
      simp only [rdV, e] at h
      obtain ⟨O', v, h1, h2, h3, h4⟩ := R.freeze e
      exact ⟨v, h1, h O' σ H h3 h4 rfl v h2⟩
    | emp => simp only [rdV, e] at h; exact False.elim h
    | deep d => simp only [rdV, e] at h; exact False.elim h
    | fn j => simp only [rdV, e] at h; exact False.elim h
theorem DpK.data {K : PySem.W.Frag} {H : Hp} {B : Addr → Prop} : ∀ {kvs : List (Key × V)} {ds : List (D × D)} {as : List Addr}, DpK K H B kvs ds as → DKs K H NoB kvs ds
  | _, _, _, .nil => .nil
  | _, _, _, .lst e x t => .cons (.lst (.inl e) (fun z => z) x.free) (DpK.data t)
  | _, _, _, .val x _ t => .cons x.free (DpK.data t)
theorem SlV.data {K : PySem.W.Frag} {H : Hp} {B : Addr → Prop} {s : Sl} {o : Option V} {as : List Addr} {d : D} (x : SlV K fa H B s o as) (e : rdB 0 [s] = some d) : ∃ v, o = some v ∧ DV K H NoB v d := by
  cases x with
  | emp => cases e
  | fz x => cases e; exact ⟨_, rfl, x.free⟩
  | fn i => cases e
  | own ea x => cases e; exact ⟨_, rfl, .lst (.inl ea) (fun z => z) x.free⟩
  | ownK ea x => cases e; exact ⟨_, rfl, .dct (.inl ea) (fun z => z) (DKs.mono (fun _ _ q _ => ⟨q, fun z => z⟩) _ _ x)⟩
  | deep ea x => cases e; exact ⟨_, rfl, .dct (.inl ea) (fun z => z) x.data⟩
theorem pb_nm (i : Nat) {x : Str} {pos : Pos} (hN : X.N[i]? = some x := by rfl) (hv : Vis X.env.scope x := by first | exact Or.inl rfl | exact Or.inr (Or.inl rfl) | exact Or.inr (Or.inr rfl)) (hd : (x == ("__debug__" : Str)) = false := by decide)
    (hcd : (x == ("__classdict__" : Str)) = false := by decide) : PB X fa (.Name x pos) (rdB i) := by
  refine PE.imp (pe_var hN hv hd hcd) fun σ H Q ⟨F, B, O, r, R, d, e, h⟩ => ?_
  cases e2 : r[i]? with
  | none => simp only [rdB, e2] at e; cases e
  | some s =>
    obtain ⟨o, as, l1, l2, h1, h2, _⟩ := R.sl.at e2
    have e3 : rdB 0 [s] = some d := by
      rw [← e]
      simp only [rdB, e2]
      rfl
    obtain ⟨v, rfl, x⟩ := h2.data e3
    exact ⟨v, h1, h v H (fun _ _ q => q) x⟩
/-- what hangs on nothing -/
def cV (d : D) : M D := fun r => .ok d r
theorem pv_of {e : Expr} {v : V} {d : D} (h : PE X e (tC v)) (x : ∀ H B, DV X.K H B v d) : PV X fa W e (cV d) :=
  PE.imp h fun σ H Q ⟨F, B, O, r, R, q⟩ => q O σ H R Ext.refl rfl v (x _ _)
theorem pb_of {e : Expr} {v : V} {d : D} (h : PE X e (tC v)) (x : ∀ H B, DV X.K H B v d) : PB X fa e (fun _ => some d) :=
  PE.imp h fun σ H Q ⟨F, B, O, r, R, d', e, q⟩ => by
    cases e
    exact q v H (fun _ _ z => z) (x _ _)
theorem pv_int {i j pos} : PV X fa W (.Constant (.int i) j pos) (cV (.int i)) := pv_of pe_int fun _ _ => .int i
theorem pv_bl {b j pos} : PV X fa W (.Constant (.bool b) j pos) (cV (.bool b)) := pv_of pe_bl fun _ _ => .bl b
theorem pv_non {j pos} : PV X fa W (.Constant .none j pos) (cV .none) := pv_of pe_non fun _ _ => .non
theorem pv_str {x j pos} : PV X fa W (.Constant (.str x) j pos) (cV (.str x)) := pv_of pe_str fun _ _ => .str x
/-- a module's constant -/
def GlD (K : PySem.W.Frag) (mg : Str → Option Value) (x : Str) (d : D) : Prop := ∃ v u, mg x = some u ∧ RelV v u ∧ ∀ H B, DV K H B v d
theorem pv_glob {x : Str} {d : D} {pos : Pos} (h : GlD X.K X.mg x d) (hg : Gl X x := by rfl) (hd : (x == ("__debug__" : Str)) = false := by decide) : PV X fa W (.Name x pos) (cV d) := by
  obtain ⟨v, u, h1, h2, h3⟩ := h
  exact pv_of (pe_glob hg h1 h2 hd) h3
/-- borrowed -/
def scal : D → Bool
  | .none => true
  | .bool _ => true
  | .int _ => true
  | .str _ => true
  | _ => false
theorem DV.scal {K : PySem.W.Frag} {H H' : Hp} {B B' : Addr → Prop} {v : V} {d : D} (x : DV K H B v d) (s : DL.scal d = true) : DV K H' B' v d := by
  cases x with
  | non => exact .non
  | bl b => exact .bl b
  | int i => exact .int i
  | str x => exact .str x
  | _ => cases s
def ofB (f : Rho → Option D) : M D := fun r => match f r with
  | some d => if scal d then .ok d r else .bad
  | none => .bad
theorem pv_ofB {e : Expr} {f : Rho → Option D} (h : PB X fa e f) : PV X fa W e (ofB f) := by
  refine PE.imp h fun σ H Q ⟨F, B, O, r, R, q⟩ => ⟨F, B, O, r, R, ?_⟩
  cases e : f r with
  | none => simp only [ofB, e] at q; exact False.elim q
  | some d =>
    simp only [ofB, e] at q
    split at q
    · rename_i hs
      exact ⟨d, rfl, fun v H' S x => q O σ H' (R.same S) (Ext.same S) rfl v (x.scal hs)⟩
    · exact False.elim q

/-! ### operations on values -/
def Trk (B : Addr → Prop) (H : Hp) : Prop := ∀ a, B a → H a ≠ none
theorem RL.trk {F : Fx} {B : Addr → Prop} {O : List Addr} {r : Rho} {σ : L2.St} {H : Hp} {K : PySem.W.Frag} (R : RL K fa F B O r σ H) : Trk (Bn B O) H := fun a z => z.elim (R.bt a) fun m => by
  obtain ⟨u, q, _⟩ := R.there a m
  rw [q]
  exact fun z => nomatch z
def rD (K : PySem.W.Frag) (g : D → D → Option D) : R2 := fun x y H Q => ∃ d e z, DV K H NoB x d ∧ DV K H NoB y e ∧ g d e = some z ∧
  ∀ v H', Same H H' → (∀ B, Trk B H → DV K H B x d → DV K H B y e → DV K H' B v z) → Q v H'
abbrev OpD (X : Cx) (f : Value → Value → Sem Value) (g : D → D → Option D) : Prop := OpR X f (rD X.K g)
def bin2 (g : D → D → Option D) (a b : M D) : M D := fun r => (a r).bind fun x r1 => (b r1).bind fun y r2 => opt (g x y) r2
theorem t2V {K : PySem.W.Frag} {g : D → D → Option D} {a b : M D} {σ : L2.St} {H : Hp} {Q : VK} (h : tV K fa W (bin2 g a b) σ H Q) :
    tOp (rD K g) (tV K fa W a) (tV K fa W b) σ H Q := by
  obtain ⟨F, B, O, r, R, h⟩ := h
  refine ⟨F, B, O, r, R, (Aft.bind h).mono fun x r1 O1 σ1 H1 _ R1 e1 ⟨_, _, h1⟩ es v1 x1 => ?_⟩
  subst es
  refine ⟨F, B, O1, r1, R1, (Aft.bind h1).mono fun y r2 O2 σ2 H2 _ R2 e2 ⟨_, _, h2⟩ es v2 x2 => ?_⟩
  subst es
  cases hg : g x y with
  | none => rw [hg] at h2; exact False.elim h2
  | some z =>
    rw [hg] at h2
    have x1' := x1.ext e2
    exact ⟨x, y, z, x1'.free, x2.free, hg, fun v H' S k => h2 O2 _ H' (R2.same S) (Ext.same S) rfl v (k _ R2.trk x1' x2)⟩
theorem pv_bin {op : Operator} {g : D → D → Option D} {a b : Expr} {f1 f2 : M D} {pos : Pos} (ho : OpD X (binaryOp op) g) (ha : PV X fa W a f1) (hb : PV X fa W b f2) : PV X fa W (.BinOp a op b pos) (bin2 g f1 f2) :=
  PE.imp (pe_op ho ha hb) fun _ _ _ h => t2V h
theorem pv_cmp {op : CmpOp} {g : D → D → Option D} {a b : Expr} {f1 f2 : M D} {pos : Pos} (ho : OpD X (compareOp op) g) (ha : PV X fa W a f1) (hb : PV X fa W b f2) (hm : behindInMarks op b = false) : PV X fa W (.Compare a [op] [b] pos) (bin2 g f1 f2) :=
  PE.imp (pe_cmpR ho ha hb hm) fun _ _ _ h => t2V h
def bin2B (g : D → D → Option D) (a b : Rho → Option D) : Rho → Option D := fun r => match a r, b r with
  | some x, some y => g x y
  | _, _ => none
theorem t2B {K : PySem.W.Frag} {g : D → D → Option D} {a b : Rho → Option D} {σ : L2.St} {H : Hp} {Q : VK} (h : tB K fa (bin2B g a b) σ H Q) :
    tOp (rD K g) (tB K fa a) (tB K fa b) σ H Q := by
  obtain ⟨F, B, O, r, R, d, e, h⟩ := h
  cases ea : a r with
  | none => simp only [bin2B, ea] at e; cases e
  | some x =>
    cases eb : b r with
    | none => simp only [bin2B, ea, eb] at e; cases e
    | some y =>
      simp only [bin2B, ea, eb] at e
      refine ⟨F, B, O, r, R, x, ea, fun v1 H1 S1 x1 => ⟨F, B, O, r, R.same S1, y, eb, fun v2 H2 S2 x2 => ?_⟩⟩
      exact ⟨x, y, d, x1.same S2, x2, e, fun v H' S k => h v H' ((S1.trans S2).trans S) (k _ (fun _ z => z.elim) (x1.same S2) x2)⟩
theorem pb_bin {op : Operator} {g : D → D → Option D} {a b : Expr} {f1 f2 : Rho → Option D} {pos : Pos} (ho : OpD X (binaryOp op) g) (ha : PB X fa a f1) (hb : PB X fa b f2) : PB X fa (.BinOp a op b pos) (bin2B g f1 f2) :=
  PE.imp (pe_op ho ha hb) fun _ _ _ h => t2B h
theorem pb_cmp {op : CmpOp} {g : D → D → Option D} {a b : Expr} {f1 f2 : Rho → Option D} {pos : Pos} (ho : OpD X (compareOp op) g) (ha : PB X fa a f1) (hb : PB X fa b f2) (hm : behindInMarks op b = false) : PB X fa (.Compare a [op] [b] pos) (bin2B g f1 f2) :=
  PE.imp (pe_cmpR ho ha hb hm) fun _ _ _ h => t2B h
/-- a subscript -/
theorem pv_ix {g : D → D → Option D} {a b : Expr} {f1 f2 : M D} {pos : Pos} (ho : IxR X (rD X.K g)) (ha : PV X fa W a f1) (hb : PV X fa W b f2) (hs : PlainIx b) : PV X fa W (.Subscript a b pos) (bin2 g f1 f2) :=
  PE.imp (pe_ix ho ha hb hs) fun _ _ _ h => t2V h
theorem pb_ix {g : D → D → Option D} {a b : Expr} {f1 f2 : Rho → Option D} {pos : Pos} (ho : IxR X (rD X.K g)) (ha : PB X fa a f1) (hb : PB X fa b f2) (hs : PlainIx b) : PB X fa (.Subscript a b pos) (bin2B g f1 f2) :=
  PE.imp (pe_ix ho ha hb hs) fun _ _ _ h => t2B h

/-! ### lists of expressions, calls of built-ins -/
def nilM : M (List D) := fun r => .ok [] r
def consM (a : M D) (b : M (List D)) : M (List D) := fun r => (a r).bind fun x r1 => (b r1).bind fun y r2 => .ok (x :: y) r2
theorem pvs_nil : PVs X fa W [] nilM := PA.imp pa_nil fun σ H Q ⟨F, B, O, r, R, q⟩ => q O σ H R Ext.refl rfl [] .nil
theorem pvs_cons {e : Expr} {es : List Expr} {f : M D} {g : M (List D)} (ha : PV X fa W e f) (hb : PVs X fa W es g) (hs : starEach (e :: es) X.env = (false, eval e X.env) :: starEach es X.env := by rfl) : PVs X fa W (e :: es) (consM f g) := by
  refine PA.imp (pa_cons ha hb hs) fun σ H Q ⟨F, B, O, r, R, h⟩ => ?_
  refine ⟨F, B, O, r, R, (Aft.bind h).mono fun x r1 O1 σ1 H1 _ R1 e1 ⟨_, _, h1⟩ es v1 x1 => ?_⟩
  subst es
  refine ⟨F, B, O1, r1, R1, (Aft.bind h1).mono fun y r2 O2 σ2 H2 _ R2 e2 ⟨_, _, h2⟩ es v2 x2 => ?_⟩
  subst es
  exact h2 O2 _ H2 R2 Ext.refl rfl _ (.cons (x1.ext e2) x2)
def nilB : Rho → Option (List D) := fun _ => some []
def consB (a : Rho → Option D) (b : Rho → Option (List D)) : Rho → Option (List D) := fun r => match a r, b r with
  | some x, some y => some (x :: y)
  | _, _ => none
theorem pbs_nil : PBs X fa [] nilB := PA.imp pa_nil fun σ H Q ⟨F, B, O, r, R, d, e, q⟩ => by
  cases e
  exact q [] H (fun _ _ z => z) .nil
theorem pbs_cons {e : Expr} {es : List Expr} {f : Rho → Option D} {g : Rho → Option (List D)} (ha : PB X fa e f) (hb : PBs X fa es g) (hs : starEach (e :: es) X.env = (false, eval e X.env) :: starEach es X.env := by rfl) : PBs X fa (e :: es) (consB f g) := by
  refine PA.imp (pa_cons ha hb hs) fun σ H Q ⟨F, B, O, r, R, d, e, h⟩ => ?_
  cases ea : f r with
  | none => simp only [consB, ea] at e; cases e
  | some x =>
    cases eb : g r with
    | none => simp only [consB, ea, eb] at e; cases e
    | some y =>
      simp only [consB, ea, eb] at e
      cases e
      exact ⟨F, B, O, r, R, x, ea, fun v1 H1 S1 x1 => ⟨F, B, O, r, R.same S1, y, eb, fun v2 H2 S2 x2 => h _ H2 (S1.trans S2) (.cons (x1.same S2) x2)⟩⟩
def rDs (K : PySem.W.Frag) (g : List D → Option D) : List V → Hp → VK → Prop := fun xs H Q => ∃ ds z, DVs K H NoB xs ds ∧ g ds = some z ∧
  ∀ v H', Same H H' → (∀ B, Trk B H → DVs K H B xs ds → DV K H' B v z) → Q v H'
abbrev CallD (X : Cx) (f : Value) (g : List D → Option D) : Prop := CallR X f (rDs X.K g)
def appM (g : List D → Option D) (a : M (List D)) : M D := fun r => (a r).bind fun x r1 => opt (g x) r1
def appB (g : List D → Option D) (a : Rho → Option (List D)) : Rho → Option D := fun r => match a r with
  | some x => g x
  | none => none
theorem tAppV {K : PySem.W.Frag} {g : List D → Option D} {a : M (List D)} {σ : L2.St} {H : Hp} {Q : VK} (h : tV K fa W (appM g a) σ H Q) : tCB (rDs K g) (tVs K fa W a) σ H Q := by
  obtain ⟨F, B, O, r, R, h⟩ := h
  refine ⟨F, B, O, r, R, (Aft.bind h).mono fun x r1 O1 σ1 H1 _ R1 e1 ⟨_, _, h1⟩ es v1 x1 => ?_⟩
  subst es
  cases hg : g x with
  | none => rw [hg] at h1; exact False.elim h1
  | some z =>
    rw [hg] at h1
    exact ⟨x, z, x1.free, hg, fun v H' S k => h1 O1 _ H' (R1.same S) (Ext.same S) rfl v (k _ R1.trk x1)⟩
theorem tAppB {K : PySem.W.Frag} {g : List D → Option D} {a : Rho → Option (List D)} {σ : L2.St} {H : Hp} {Q : VK} (h : tB K fa (appB g a) σ H Q) : tCB (rDs K g) (tBs K fa a) σ H Q := by
  obtain ⟨F, B, O, r, R, d, e, h⟩ := h
  cases ea : a r with
  | none => simp only [appB, ea] at e; cases e
  | some x =>
    simp only [appB, ea] at e
    exact ⟨F, B, O, r, R, x, ea, fun v1 H1 S1 x1 => ⟨x, d, x1, e, fun v H' S k => h v H' (S1.trans S) (k _ (fun _ z => z.elim) x1)⟩⟩
section
variable {x : Str} {p pos : Pos} {e : Expr} {es : List Expr} {id T : String} {g : List D → Option D}
theorem pv_cb {f : M (List D)} (hc : CallD X (.builtin id) g) (hm : X.mg x = none) (ha : PVs X fa W (e :: es) f) (hg : Gl X x := by rfl) (hv : bootBuiltins x = some (.builtin id) := by decide +kernel) (hn : x ≠ "__name__" := by decide) (hdb : (x == ("__debug__" : Str)) = false := by decide)
    (he : starEach (e :: es) X.env = (false, eval e X.env) :: starEach es X.env := by rfl) (hpl : (backTo pos (starEach es X.env)).any (·.1) = false := by rfl) : PV X fa W (.Call (.Name x p) (e :: es) [] pos) (appM g f) :=
  PE.imp (pe_callB hc hg hm hv ha hn hdb he hpl) fun _ _ _ h => tAppV h
theorem pb_cb {f : Rho → Option (List D)} (hc : CallD X (.builtin id) g) (hm : X.mg x = none) (ha : PBs X fa (e :: es) f) (hg : Gl X x := by rfl) (hv : bootBuiltins x = some (.builtin id) := by decide +kernel) (hn : x ≠ "__name__" := by decide) (hdb : (x == ("__debug__" : Str)) = false := by decide)
    (he : starEach (e :: es) X.env = (false, eval e X.env) :: starEach es X.env := by rfl) (hpl : (backTo pos (starEach es X.env)).any (·.1) = false := by rfl) : PB X fa (.Call (.Name x p) (e :: es) [] pos) (appB g f) :=
  PE.imp (pe_callB hc hg hm hv ha hn hdb he hpl) fun _ _ _ h => tAppB h
theorem pv_cty {f : M (List D)} (hc : CallD X (.type T) g) (hm : X.mg x = none) (ha : PVs X fa W (e :: es) f) (hg : Gl X x := by rfl) (hv : bootBuiltins x = some (.type T) := by decide +kernel) (hn : x ≠ "__name__" := by decide) (hdb : (x == ("__debug__" : Str)) = false := by decide)
    (he : starEach (e :: es) X.env = (false, eval e X.env) :: starEach es X.env := by rfl) (hpl : (backTo pos (starEach es X.env)).any (·.1) = false := by rfl) : PV X fa W (.Call (.Name x p) (e :: es) [] pos) (appM g f) :=
  PE.imp (pe_callTy hc hg hm hv ha hn hdb he hpl) fun _ _ _ h => tAppV h
theorem pb_cty {f : Rho → Option (List D)} (hc : CallD X (.type T) g) (hm : X.mg x = none) (ha : PBs X fa (e :: es) f) (hg : Gl X x := by rfl) (hv : bootBuiltins x = some (.type T) := by decide +kernel) (hn : x ≠ "__name__" := by decide) (hdb : (x == ("__debug__" : Str)) = false := by decide)
    (he : starEach (e :: es) X.env = (false, eval e X.env) :: starEach es X.env := by rfl) (hpl : (backTo pos (starEach es X.env)).any (·.1) = false := by rfl) : PB X fa (.Call (.Name x p) (e :: es) [] pos) (appB g f) :=
  PE.imp (pe_callTy hc hg hm hv ha hn hdb he hpl) fun _ _ _ h => tAppB h
end
/-! ### displays -/
def tupM (a : M (List D)) : M D := fun r => (a r).bind fun x r1 => if x.length ≤ sizeLine then .ok (.tuple x) r1 else .bad
def lstM (a : M (List D)) : M D := fun r => (a r).bind fun x r1 => if x.length ≤ sizeLine then .ok (.list x) r1 else .bad
theorem pv_tup {es : List Expr} {f : M (List D)} {x1 : Nat} {pos : Pos} (h : PVs X fa W es f) : PV X fa W (.Tuple es x1 pos) (tupM f) := by
  refine PE.imp (pe_tup h) fun σ H Q ⟨F, B, O, r, R, h⟩ => ?_
  refine ⟨F, B, O, r, R, (Aft.bind h).mono fun x r1 O1 σ1 H1 _ R1 e1 ⟨_, _, h1⟩ es v1 x1 => ?_⟩
  subst es
  split at h1
  · rename_i hl
    refine ⟨by rw [x1.length]; exact hl, fun p n => ?_⟩
    have S := same_fresh (o := .tup v1) n
    exact h1 O1 _ _ (R1.same S) (Ext.same S) rfl _ (.tup (.inl upd_same) (fun z => R1.trk p z n) (x1.same S))
  · exact False.elim h1
theorem pv_lst {es : List Expr} {f : M (List D)} {pos : Pos} (h : PVs X fa W es f) : PV X fa W (.List es pos) (lstM f) := by
  refine PE.imp (pe_lst h) fun σ H Q ⟨F, B, O, r, R, h⟩ => ?_
  refine ⟨F, B, O, r, R, (Aft.bind h).mono fun x r1 O1 σ1 H1 _ R1 e1 ⟨_, _, h1⟩ es v1 x1 => ?_⟩
  subst es
  split at h1
  · rename_i hl
    refine ⟨by rw [x1.length]; exact hl, fun p n => ?_⟩
    have S := same_fresh (o := .lst v1) n
    exact h1 O1 _ _ (R1.same S) (Ext.same S) rfl _ (.lst (.inl upd_same) (fun z => R1.trk p z n) (x1.same S))
  · exact False.elim h1
end
end DL

namespace DL
open PySem PySem.Spec PyProof.Rows L2

/-! ### tests -/
def truD : D → Option Bool
  | .none => some false
  | .bool b => some b
  | .int i => some (i != 0)
  | .str x => if x.length ≤ sizeLine then some ((x.length : Int) != 0) else none
  | .list ds => some (!ds.isEmpty)
  | .tuple ds => some (!ds.isEmpty)
  | .dict _ => none
theorem DVs.isEmpty {K : PySem.W.Frag} {H : Hp} {B : Addr → Prop} {vs : List V} {ds : List D} (x : DVs K H B vs ds) : vs.isEmpty = ds.isEmpty := by
  cases x <;> rfl
theorem truV_of {K : PySem.W.Frag} {H : Hp} {B : Addr → Prop} {v : V} {d : D} {b : Bool} (x : DV K H B v d) (e : truD d = some b) : TruV K v H b := by
  cases x with
  | non => cases e; rfl
  | bl b => cases e; rfl
  | int i => cases e; rfl
  | str y =>
    simp only [truD] at e
    split at e
    · rename_i h
      cases e
      exact ⟨h, rfl⟩
    · cases e
  | lst q _ t => cases e; exact .inl ⟨_, .inl q, by rw [t.isEmpty]⟩
  | tup q _ t => cases e; exact .inr (.inl ⟨_, .inl q, by rw [t.isEmpty]⟩)
  | ktup q t => cases e; exact .inr (.inl ⟨_, .inr q, by rw [t.isEmpty]⟩)
  | dct q _ t => cases e
section
variable {X : Cx} {fa : Nat → Addr} {W : Wi} {a b c : Expr} {f1 f2 f3 : M D} {m1 m2 : M Bool} {g1 g2 : Rho → Option D} {pos : Pos} {rest : List Expr}
def truM (f : M D) : M Bool := fun r => (f r).bind fun x r1 => opt (truD x) r1
def truMB (f : Rho → Option D) : M Bool := fun r => match f r with
  | some d => opt (truD d) r
  | none => .bad
theorem tTruV {K : PySem.W.Frag} {f : M D} {σ : L2.St} {H : Hp} {Q : Bool → Hp → Prop} (h : tM K fa W (truM f) σ H Q) : tV K fa W f σ H fun x H1 => ∃ k, TruV K x H1 k ∧ Q k H1 := by
  obtain ⟨F, B, O, r, R, h⟩ := h
  refine ⟨F, B, O, r, R, (Aft.bind h).mono fun x r1 O1 σ1 H1 _ R1 e1 ⟨_, _, h1⟩ es v1 x1 => ?_⟩
  subst es
  cases ht : truD x with
  | none => rw [ht] at h1; exact False.elim h1
  | some k =>
    rw [ht] at h1
    exact ⟨k, truV_of x1 ht, h1 O1 _ H1 R1 Ext.refl rfl⟩
theorem tTruB {K : PySem.W.Frag} {f : Rho → Option D} {σ : L2.St} {H : Hp} {Q : Bool → Hp → Prop} (h : tM K fa W (truMB f) σ H Q) : tB K fa f σ H fun x H1 => ∃ k, TruV K x H1 k ∧ Q k H1 := by
  obtain ⟨F, B, O, r, R, h⟩ := h
  cases ef : f r with
  | none => simp only [truMB, ef] at h; exact False.elim h
  | some d =>
    simp only [truMB, ef] at h
    refine ⟨F, B, O, r, R, d, ef, fun v H' S x => ?_⟩
    cases ht : truD d with
    | none => rw [ht] at h; exact False.elim h
    | some k =>
      rw [ht] at h
      exact ⟨k, truV_of x ht, h O _ H' (R.same S) (Ext.same S) rfl⟩
theorem tTestV {K : PySem.W.Frag} {f : M D} {σ : L2.St} {H : Hp} {Q : Bool → Hp → Prop} (h : tM K fa W (truM f) σ H Q) (hb : ∀ r d r', f r = .ok d r' → ∃ b, d = .bool b) : tTest (tV K fa W f) σ H Q := by
  obtain ⟨F, B, O, r, R, h⟩ := h
  refine ⟨F, B, O, r, R, (Aft.bind h).mono fun x r1 O1 σ1 H1 ex R1 e1 ⟨_, _, h1⟩ es v1 x1 => ?_⟩
  subst es
  obtain ⟨b, rfl⟩ := hb _ _ _ ex
  cases x1
  exact ⟨b, rfl, h1 O1 _ H1 R1 Ext.refl rfl⟩
theorem tTestB {K : PySem.W.Frag} {f : Rho → Option D} {σ : L2.St} {H : Hp} {Q : Bool → Hp → Prop} (h : tM K fa W (truMB f) σ H Q) (hb : ∀ r d, f r = some d → ∃ b, d = .bool b) : tTest (tB K fa f) σ H Q := by
  obtain ⟨F, B, O, r, R, h⟩ := h
  cases ef : f r with
  | none => simp only [truMB, ef] at h; exact False.elim h
  | some d =>
    simp only [truMB, ef] at h
    refine ⟨F, B, O, r, R, d, ef, fun v H' S x => ?_⟩
    obtain ⟨b, rfl⟩ := hb _ _ ef
    cases x
    exact ⟨b, rfl, h O _ H' (R.same S) (Ext.same S) rfl⟩
theorem pm_tru (h : PV X fa W a f1) (he : ∀ whole, isTrue a X.env whole = (do let v ← whole; standAt a.pos; holding [v] (truthy v)) := by intro _; rfl) : PM X fa W a (truM f1) := PT.imp (pt_truth h he) fun _ _ _ q => tTruV q
theorem pm_truB (h : PB X fa a g1) (he : ∀ whole, isTrue a X.env whole = (do let v ← whole; standAt a.pos; holding [v] (truthy v)) := by intro _; rfl) : PM X fa W a (truMB g1) := PT.imp (pt_truth h he) fun _ _ _ q => tTruB q
/-- an operation on data that gives a truth -/
def BoolG (g : D → D → Option D) : Prop := ∀ x y z, g x y = some z → ∃ b, z = .bool b
theorem bin2_bool {g : D → D → Option D} (hg : BoolG g) {r : Rho} {d : D} {r' : Rho} (e : bin2 g f1 f2 r = .ok d r') : ∃ b, d = .bool b := by
  unfold bin2 at e
  cases h1 : f1 r with
  | ok x r1 =>
    rw [h1, Res.ok_bind] at e
    cases h2 : f2 r1 with
    | ok y r2 =>
      rw [h2, Res.ok_bind] at e
      cases h3 : g x y with
      | none => rw [h3] at e; cases e
      | some z =>
        rw [h3] at e
        cases e
        exact hg _ _ _ h3
    | ex c ds r2 => rw [h2] at e; cases e
    | bad => rw [h2] at e; cases e
  | ex c ds r2 => rw [h1] at e; cases e
  | bad => rw [h1] at e; cases e
theorem bin2B_bool {g : D → D → Option D} (hg : BoolG g) {r : Rho} {d : D} (e : bin2B g g1 g2 r = some d) : ∃ b, d = .bool b := by
  unfold bin2B at e
  split at e
  · exact hg _ _ _ e
  · cases e
theorem pm_cmp {op : CmpOp} {g : D → D → Option D} (ho : OpD X (compareOp op) g) (hg : BoolG g) (ha : PV X fa W a f1) (hb : PV X fa W b f2) (hm : behindInMarks op b = false) : PM X fa W (.Compare a [op] [b] pos) (truM (bin2 g f1 f2)) :=
  PT.imp (pt_cmpR ho ha hb hm) fun σ H Q h => by
    have q := tTestV h fun r d r' e => bin2_bool hg e
    exact t2V q
theorem pm_cmpB {op : CmpOp} {g : D → D → Option D} (ho : OpD X (compareOp op) g) (hg : BoolG g) (ha : PB X fa a g1) (hb : PB X fa b g2) (hm : behindInMarks op b = false) : PM X fa W (.Compare a [op] [b] pos) (truMB (bin2B g g1 g2)) :=
  PT.imp (pt_cmpR ho ha hb hm) fun σ H Q h => by
    have q := tTestB h fun r d e => bin2B_bool hg e
    exact t2B q
/-- a op1 b op2 c, of three values -/
def chB (g g' : D → D → Option D) (a b c : Rho → Option D) : Rho → Option D := fun r => match a r, b r with
  | some x, some y => match g x y with
    | some (.bool true) => match c r with
      | some z => g' y z
      | none => none
    | some (.bool false) => some (.bool false)
    | _ => none
  | _, _ => none
theorem tChB {K : PySem.W.Frag} {g g' : D → D → Option D} {fA fB fC : Rho → Option D} {σ : L2.St} {H : Hp} {Q : VK} (h : tB K fa (chB g g' fA fB fC) σ H Q) : tChain (rD K g) (rD K g') (tB K fa fA) (tB K fa fB) (tB K fa fC) σ H Q := by
  obtain ⟨F, B, O, r, R, d, e, h⟩ := h
  cases ea : fA r with
  | none => simp only [chB, ea] at e; cases e
  | some x =>
    cases eb : fB r with
    | none => simp only [chB, ea, eb] at e; cases e
    | some y =>
      refine ⟨F, B, O, r, R, x, ea, fun v1 H1 S1 x1 => ⟨F, B, O, r, R.same S1, y, eb, fun v2 H2 S2 x2 => ?_⟩⟩
      simp only [chB, ea, eb] at e
      split at e
      · rename_i hg
        cases ec : fC r with
        | none => simp only [ec] at e; cases e
        | some z =>
          simp only [ec] at e
          refine ⟨x, y, _, x1.same S2, x2, hg, fun v3 H3 S3 k3 => ?_⟩
          have x3 := k3 NoB (fun _ z => z.elim) (x1.same S2) x2
          cases x3
          refine ⟨true, rfl, ?_⟩
          rw [if_pos rfl]
          exact ⟨F, B, O, r, ((R.same S1).same S2).same S3, z, ec, fun v4 H4 S4 x4 => ⟨y, z, d, (x2.same S3).same S4, x4, e, fun v H' S k => h v H' ((((S1.trans S2).trans S3).trans S4).trans S) (k _ (fun _ z => z.elim) ((x2.same S3).same S4) x4)⟩⟩
      · rename_i hg
        cases e
        refine ⟨x, y, _, x1.same S2, x2, hg, fun v3 H3 S3 k3 => ?_⟩
        have x3 := k3 NoB (fun _ z => z.elim) (x1.same S2) x2
        cases x3
        refine ⟨false, rfl, ?_⟩
        rw [if_neg Bool.false_ne_true]
        exact h _ H3 ((S1.trans S2).trans S3) (.bl false)
      · cases e
theorem chB_bool {g g' : D → D → Option D} (hg : BoolG g') {fA fB fC : Rho → Option D} {r : Rho} {d : D} (e : chB g g' fA fB fC r = some d) : ∃ b, d = .bool b := by
  unfold chB at e
  split at e
  · split at e
    · split at e
      · exact hg _ _ _ e
      · cases e
    · cases e; exact ⟨_, rfl⟩
    · cases e
  · cases e
theorem pb_chain {op op' : CmpOp} {g g' : D → D → Option D} {g3 : Rho → Option D} (ho : OpD X (compareOp op) g) (ho' : OpD X (compareOp op') g') (ha : PB X fa a g1) (hb : PB X fa b g2) (hc : PB X fa c g3)
    (hm : lastMarks [op, op'] [b, c] = false := by with_unfolding_all rfl) : PB X fa (.Compare a [op, op'] [b, c] pos) (chB g g' g1 g2 g3) := PE.imp (pe_chain ho ho' ha hb hc hm) fun _ _ _ h => tChB h
theorem pm_chain {op op' : CmpOp} {g g' : D → D → Option D} {g3 : Rho → Option D} (ho : OpD X (compareOp op) g) (ho' : OpD X (compareOp op') g') (hg : BoolG g') (ha : PB X fa a g1) (hb : PB X fa b g2) (hc : PB X fa c g3)
    (hm : lastMarks [op, op'] [b, c] = false := by with_unfolding_all rfl) : PM X fa W (.Compare a [op, op'] [b, c] pos) (truMB (chB g g' g1 g2 g3)) := PT.imp (pt_chain ho ho' ha hb hc hm) fun σ H Q h => by
  have q := tTestB h fun r d e => chB_bool hg e
  exact tChB q
/-- and, or, not as tests -/
def andM (f g : M Bool) : M Bool := fun r => (f r).bind fun x r1 => if x = true then g r1 else .ok false r1
def orM (f g : M Bool) : M Bool := fun r => (f r).bind fun x r1 => if x = true then .ok true r1 else g r1
def notM (f : M Bool) : M Bool := fun r => (f r).bind fun x r1 => .ok (!x) r1
theorem tIteM {K : PySem.W.Frag} {f : M Bool} {g : Bool → M α} {σ : L2.St} {H : Hp} {q : α → Rho → List Addr → L2.St → Hp → Prop} {F : Fx} {B : Addr → Prop} {O : List Addr} {r : Rho} (R : RL K fa F B O r σ H) (h : Aft K fa W F B O H ((f r).bind fun x r1 => g x r1) q) :
    tM K fa W f σ H fun b H1 => ∃ O1 r1, RL K fa F B O1 r1 σ H1 ∧ Ext O H O1 H1 ∧ Aft K fa W F B O1 H1 (g b r1) q :=
  ⟨F, B, O, r, R, (Aft.bind h).mono fun x r1 O1 σ1 H1 _ R1 e1 ⟨_, _, h1⟩ es => by
    subst es
    exact ⟨O1, r1, R1, e1, h1⟩⟩
theorem pmw_and1 (h : PM X fa W a m1) : PMw X fa W (.BoolOp .And [a] pos) m1 := pw_and1 h
theorem pmw_or1 (h : PM X fa W a m1) : PMw X fa W (.BoolOp .Or [a] pos) m1 := pw_or1 h
theorem pmw_and (ha : PM X fa W a m1) (hb : PMw X fa W (.BoolOp .And (b :: rest) pos) m2) : PMw X fa W (.BoolOp .And (a :: b :: rest) pos) (andM m1 m2) := by
  refine PW.imp (pw_and ha hb) fun σ H Q ⟨F, B, O, r, R, h⟩ => ?_
  obtain ⟨F1, B1, O1, r1, R1, q⟩ := tIteM R h
  refine ⟨F1, B1, O1, r1, R1, q.mono fun c r2 O2 σ2 H2 _ _ _ q2 es => ?_⟩
  obtain ⟨O3, r3, R3, e3, h3⟩ := q2 es
  cases c with
  | true => rw [if_pos rfl]; exact ⟨F, B, O3, r3, R3, h3⟩
  | false => rw [if_neg Bool.false_ne_true]; exact h3 O3 _ H2 R3 Ext.refl rfl
theorem pmw_or (ha : PM X fa W a m1) (hb : PMw X fa W (.BoolOp .Or (b :: rest) pos) m2) : PMw X fa W (.BoolOp .Or (a :: b :: rest) pos) (orM m1 m2) := by
  refine PW.imp (pw_or ha hb) fun σ H Q ⟨F, B, O, r, R, h⟩ => ?_
  obtain ⟨F1, B1, O1, r1, R1, q⟩ := tIteM R h
  refine ⟨F1, B1, O1, r1, R1, q.mono fun c r2 O2 σ2 H2 _ _ _ q2 es => ?_⟩
  obtain ⟨O3, r3, R3, e3, h3⟩ := q2 es
  cases c with
  | true => rw [if_pos rfl]; exact h3 O3 _ H2 R3 Ext.refl rfl
  | false => rw [if_neg Bool.false_ne_true]; exact ⟨F, B, O3, r3, R3, h3⟩
theorem pm_w {e : Expr} (h : PMw X fa W e m1) : PM X fa W e m1 := PW.pt h
theorem pm_not (h : PM X fa W a m1) : PM X fa W (.UnaryOp .Not a pos) (notM m1) := by
  refine PT.imp (pt_not h) fun σ H Q ⟨F, B, O, r, R, h⟩ => ⟨F, B, O, r, R, (Aft.bind h).mono fun x r1 O1 σ1 H1 _ R1 _ ⟨_, _, h1⟩ es => h1 O1 _ H1 R1 Ext.refl es⟩
/-- .. as values -/
def andV (f g : M D) : M D := fun r => (f r).bind fun x r1 => match truD x with
  | some true => g r1
  | some false => .ok x r1
  | none => .bad
def orV (f g : M D) : M D := fun r => (f r).bind fun x r1 => match truD x with
  | some true => .ok x r1
  | some false => g r1
  | none => .bad
def notV (f : M D) : M D := fun r => (f r).bind fun x r1 => match truD x with
  | some b => .ok (.bool (!b)) r1
  | none => .bad
theorem pv_one {op : BoolOp} (h : PV X fa W a f1) : PV X fa W (.BoolOp op [a] pos) f1 := pe_one h
theorem pv_and (ha : PV X fa W a f1) (hb : PV X fa W (.BoolOp .And (b :: rest) pos) f2) : PV X fa W (.BoolOp .And (a :: b :: rest) pos) (andV f1 f2) := by
  refine PE.imp (pe_andT ha hb) fun σ H Q ⟨F, B, O, r, R, h⟩ => ⟨F, B, O, r, R, (Aft.bind h).mono fun x r1 O1 σ1 H1 _ R1 _ ⟨_, _, h1⟩ es v1 x1 => ?_⟩
  subst es
  cases ht : truD x with
  | none => rw [ht] at h1; exact False.elim h1
  | some k =>
    rw [ht] at h1
    refine ⟨k, truV_of x1 ht, ?_⟩
    cases k with
    | true => rw [if_pos rfl]; exact ⟨F, B, O1, r1, R1, h1⟩
    | false => rw [if_neg Bool.false_ne_true]; exact h1 O1 _ H1 R1 Ext.refl rfl v1 x1
theorem pv_or (ha : PV X fa W a f1) (hb : PV X fa W (.BoolOp .Or (b :: rest) pos) f2) : PV X fa W (.BoolOp .Or (a :: b :: rest) pos) (orV f1 f2) := by
  refine PE.imp (pe_orT ha hb) fun σ H Q ⟨F, B, O, r, R, h⟩ => ⟨F, B, O, r, R, (Aft.bind h).mono fun x r1 O1 σ1 H1 _ R1 _ ⟨_, _, h1⟩ es v1 x1 => ?_⟩
  subst es
  cases ht : truD x with
  | none => rw [ht] at h1; exact False.elim h1
  | some k =>
    rw [ht] at h1
    refine ⟨k, truV_of x1 ht, ?_⟩
    cases k with
    | true => rw [if_pos rfl]; exact h1 O1 _ H1 R1 Ext.refl rfl v1 x1
    | false => rw [if_neg Bool.false_ne_true]; exact ⟨F, B, O1, r1, R1, h1⟩
theorem pv_not (ha : PV X fa W a f1) : PV X fa W (.UnaryOp .Not a pos) (notV f1) := by
  refine PE.imp (pe_notT ha) fun σ H Q ⟨F, B, O, r, R, h⟩ => ⟨F, B, O, r, R, (Aft.bind h).mono fun x r1 O1 σ1 H1 _ R1 _ ⟨_, _, h1⟩ es v1 x1 => ?_⟩
  subst es
  cases ht : truD x with
  | none => rw [ht] at h1; exact False.elim h1
  | some k =>
    rw [ht] at h1
    exact ⟨k, truV_of x1 ht, h1 O1 _ H1 R1 Ext.refl rfl _ (.bl _)⟩
def ifM {α : Type} (m : M Bool) (f g : M α) : M α := fun r => (m r).bind fun c r1 => if c = true then f r1 else g r1
theorem pv_if (hc : PM X fa W c m1) (ha : PV X fa W a f1) (hb : PV X fa W b f2) : PV X fa W (.IfExp c a b pos) (ifM m1 f1 f2) := by
  refine PE.imp (pe_ifExp hc ha hb) fun σ H Q ⟨F, B, O, r, R, h⟩ => ?_
  obtain ⟨F1, B1, O1, r1, R1, q⟩ := tIteM R h
  refine ⟨F1, B1, O1, r1, R1, q.mono fun c r2 O2 σ2 H2 _ _ _ q2 es => ?_⟩
  obtain ⟨O3, r3, R3, e3, h3⟩ := q2 es
  cases c with
  | true => rw [if_pos rfl] at h3 ⊢; exact ⟨F, B, O3, r3, R3, h3⟩
  | false => rw [if_neg Bool.false_ne_true] at h3 ⊢; exact ⟨F, B, O3, r3, R3, h3⟩
end

/-! ### statements -/
section
variable {X : Cx} {fa : Nat → Addr} {W : Wi} {a b c : Expr} {f1 : M D} {m1 : M Bool} {s1 s2 : M Ctl} {pos : Pos} {st : Stmt} {rest sa sb : List Stmt}
def nxM : M Ctl := fun r => .ok .nx r
def seqM (f g : M Ctl) : M Ctl := fun r => (f r).bind fun c r1 => match c with
  | .nx => g r1
  | _ => .ok c r1
theorem gs_nil : PGs X fa W [] nxM := PSs.imp pss_nil fun Dn σ H ⟨F, B, O, r, R, h⟩ => h O σ H R Ext.refl
theorem gs_cons (h1 : PG1 X fa W st s1) (h2 : PGs X fa W rest s2) : PGs X fa W (st :: rest) (seqM s1 s2) := by
  refine PSs.imp (pss_cons h1 h2) fun Dn σ H ⟨F, B, O, r, R, h⟩ => ⟨F, B, O, r, R, (Aft.bind h).mono fun c r1 O1 σ1 H1 _ R1 _ ⟨_, _, q⟩ => ?_⟩
  cases c with
  | nx => exact ⟨F, B, O1, r1, R1, q⟩
  | bk => exact q O1 σ1 H1 R1 Ext.refl
  | ct => exact q O1 σ1 H1 R1 Ext.refl
  | rt d => exact q O1 σ1 H1 R1 Ext.refl
theorem gs_one (h1 : PG1 X fa W st s1) : PGs X fa W [st] s1 := pss_one h1
theorem g_pass : PG1 X fa W (.Pass pos) nxM := PS.imp ps_pass fun Dn σ H ⟨F, B, O, r, R, h⟩ => h O σ H R Ext.refl
theorem g_break : PG1 X fa W (.Break pos) (fun r => .ok .bk r) := PS.imp ps_break fun Dn σ H ⟨F, B, O, r, R, h⟩ => h O σ H R Ext.refl
theorem g_cont : PG1 X fa W (.Continue pos) (fun r => .ok .ct r) := PS.imp ps_continue fun Dn σ H ⟨F, B, O, r, R, h⟩ => h O σ H R Ext.refl
def retM (f : M D) : M Ctl := fun r => (f r).bind fun d r1 => .ok (.rt d) r1
theorem g_ret (h : PV X fa W a f1) : PG1 X fa W (.Return (some a) pos) (retM f1) :=
  PS.imp (ps_ret h) fun Dn σ H ⟨F, B, O, r, R, h⟩ => ⟨F, B, O, r, R, (Aft.bind h).mono fun d r1 O1 σ1 H1 _ R1 _ ⟨_, _, q⟩ es v x => q O1 σ1 H1 R1 Ext.refl v x⟩
theorem g_retN : PG1 X fa W (.Return none pos) (fun r => .ok (.rt .none) r) := PS.imp ps_retN fun Dn σ H ⟨F, B, O, r, R, h⟩ => h O σ H R Ext.refl .non .non
theorem g_if (hc : PM X fa W c m1) (ha : PGs X fa W sa s1) (hb : PGs X fa W sb s2) : PG1 X fa W (.If c sa sb pos) (ifM m1 s1 s2) := by
  refine PS.imp (ps_if hc ha hb) fun Dn σ H ⟨F, B, O, r, R, h⟩ => ?_
  obtain ⟨F1, B1, O1, r1, R1, q⟩ := tIteM R h
  refine ⟨F1, B1, O1, r1, R1, q.mono fun c r2 O2 σ2 H2 _ _ _ q2 es => ?_⟩
  obtain ⟨O3, r3, R3, e3, h3⟩ := q2 es
  cases c with
  | true => rw [if_pos rfl] at h3 ⊢; exact ⟨F, B, O3, r3, R3, h3⟩
  | false => rw [if_neg Bool.false_ne_true] at h3 ⊢; exact ⟨F, B, O3, r3, R3, h3⟩
/-- a slot's store: data that is frozen -/
def put (i : Nat) (d : D) : M Ctl := fun r => match r[i]? with
  | some (.deep _) => .bad
  | some _ => .ok .nx (r.set i (.fz d))
  | none => .bad
def setM (i : Nat) (f : M D) : M Ctl := fun r => (f r).bind fun d r1 => put i d r1
theorem put_ok {K : PySem.W.Frag} {F : Fx} {B : Addr → Prop} {O : List Addr} {r : Rho} {σ : L2.St} {H : Hp} {i : Nat} {v : V} {d : D} {q : Ctl → Rho → List Addr → L2.St → Hp → Prop} (R : RL K fa F B O r σ H) (x : DV K H (Bn B O) v d) (h : Aft K fa W F B O H (put i d r) q) :
    ∃ O', RL K fa F B O' (r.set i (.fz d)) (σ.set i (some v)) H ∧ Ext O H O' H ∧ q .nx (r.set i (.fz d)) O' (σ.set i (some v)) H := by
  cases e : r[i]? with
  | none => simp only [put, e] at h; exact False.elim h
  | some s =>
    cases s with
    | deep d' => simp only [put, e] at h; exact False.elim h
    | emp =>
      simp only [put, e] at h
      obtain ⟨O', R', E'⟩ := R.put e (fun _ z => nomatch z) x
      exact ⟨O', R', E', h _ _ _ R' E'⟩
    | fz d' =>
      simp only [put, e] at h
      obtain ⟨O', R', E'⟩ := R.put e (fun _ z => nomatch z) x
      exact ⟨O', R', E', h _ _ _ R' E'⟩
    | own d' =>
      simp only [put, e] at h
      obtain ⟨O', R', E'⟩ := R.put e (fun _ z => nomatch z) x
      exact ⟨O', R', E', h _ _ _ R' E'⟩
    | fn j =>
      simp only [put, e] at h
      obtain ⟨O', R', E'⟩ := R.put e (fun _ z => nomatch z) x
      exact ⟨O', R', E', h _ _ _ R' E'⟩
theorem g_set (i : Nat) {x : Str} {pos' : Pos} (hN : X.N.Nodup) (h : PV X fa W a f1) (hi : X.N[i]? = some x := by rfl) (hx : Loc X.env.scope x := by first | exact Or.inl rfl | exact Or.inr rfl) (hs : swapsWith a (some (.Name x pos')) pos.line X.env = pure false := by rfl)
    (hf : X.fn x = true ∨ X.env.scope.names.lookup x = some .local := by first | exact .inl rfl | exact .inr rfl | assumption) : PG1 X fa W (.Assign [.Name x pos'] a pos) (setM i f1) :=
  PS.imp (ps_set hN hi hx h hs hf) fun Dn σ H ⟨F, B, O, r, R, h⟩ => ⟨F, B, O, r, R, (Aft.bind h).mono fun d r1 O1 σ1 H1 _ R1 _ ⟨_, _, q⟩ es v x => by
    subst es
    obtain ⟨O', R', E', q'⟩ := put_ok R1 x q
    exact q'⟩
theorem g_expr (h : PV X fa W a f1) (hs : swapsWith a none pos.line X.env = pure false := by rfl) : PG1 X fa W (.Expr a pos) (fun r => (f1 r).bind fun _ r1 => .ok .nx r1) :=
  PS.imp (ps_expr h hs) fun Dn σ H ⟨F, B, O, r, R, h⟩ => ⟨F, B, O, r, R, (Aft.bind h).mono fun d r1 O1 σ1 H1 _ R1 _ ⟨_, _, q⟩ es v x => by
    subst es
    exact q O1 _ H1 R1 Ext.refl⟩
/-- targets: S are the slots that are stored -/
def tgPut (i : Nat) : D → M Ctl := fun d => put i d
def Out (S : List Nat) (σ σ' : L2.St) : Prop := σ'.length = σ.length ∧ ∀ j, j ∉ S → σ'[j]? = σ[j]?
theorem Out.refl {S : List Nat} {σ : L2.St} : Out S σ σ := ⟨rfl, fun _ _ => rfl⟩
theorem Out.trans {S S' : List Nat} {σ σ1 σ2 : L2.St} (a : Out S σ σ1) (b : Out S' σ1 σ2) : Out (S ++ S') σ σ2 :=
  ⟨b.1.trans a.1, fun j m => (b.2 j fun z => m (List.mem_append_right _ z)).trans (a.2 j fun z => m (List.mem_append_left _ z))⟩
def tG (K : PySem.W.Frag) (fa : Nat → Addr) (S : List Nat) (t : D → M Ctl) : TG := fun v σ H Q => ∃ F B O r d, RL K fa F B O r σ H ∧ DV K H (Bn B O) v d ∧
  ∃ r', t d r = .ok .nx r' ∧ ∀ O' σ' H', RL K fa F B O' r' σ' H' → Ext O H O' H' → Out S σ σ' → Q σ' H'
def tGs (K : PySem.W.Frag) (fa : Nat → Addr) (S : List Nat) (t : List D → M Ctl) : TGs := fun vs σ H Q => ∃ F B O r ds, RL K fa F B O r σ H ∧ DVs K H (Bn B O) vs ds ∧
  ∃ r', t ds r = .ok .nx r' ∧ ∀ O' σ' H', RL K fa F B O' r' σ' H' → Ext O H O' H' → Out S σ σ' → Q σ' H'
/-- what a target does: it stores, and nothing else -/
def TgOk (t : D → M Ctl) : Prop := ∀ d r, t d r = .bad ∨ ∃ r', t d r = .ok .nx r'
structure PT1 (X : Cx) (fa : Nat → Addr) (S : List Nat) (e : Expr) (t : D → M Ctl) : Prop where
  pg : PG X e (tG X.K fa S t)
  ok : TgOk t
abbrev PTs1 (X : Cx) (fa : Nat → Addr) (S : List Nat) (es : List Expr) (t : List D → M Ctl) : Prop := L2.PGs X es (tGs X.K fa S t)
theorem PG.imp {e : Expr} {t t' : TG} (h : PG X e t) (i : ∀ v σ H Q, t' v σ H Q → t v σ H Q) : PG X e t' := ⟨fun pins s σ H v u Q I r q => h.run pins s σ H v u Q I r (i _ _ _ _ q)⟩
theorem PGs.imp {e : List Expr} {t t' : TGs} (h : L2.PGs X e t) (i : ∀ v σ H Q, t' v σ H Q → t v σ H Q) : L2.PGs X e t' := ⟨fun pins s σ H v u Q I r q => h.run pins s σ H v u Q I r (i _ _ _ _ q)⟩
theorem put_cases (i : Nat) (d : D) (r : Rho) : put i d r = .bad ∨ ∃ r', put i d r = .ok .nx r' := by
  unfold put
  split
  · exact .inl rfl
  · exact .inr ⟨_, rfl⟩
  · exact .inl rfl
theorem tg_nm (i : Nat) {x : Str} (hN : X.N.Nodup) (hi : X.N[i]? = some x := by rfl) (hx : Loc X.env.scope x := by first | exact Or.inl rfl | exact Or.inr rfl) (hf : X.fn x = true ∨ X.env.scope.names.lookup x = some .local := by first | exact .inl rfl | exact .inr rfl | assumption) :
    PT1 X fa [i] (.Name x pos) (tgPut i) := ⟨PG.imp (pg_name hN hi hx hf) fun v σ H Q ⟨F, B, O, r, d, R, x, r', e, h⟩ => by
  have q : Aft X.K fa (fun _ _ _ => False) F B O H (tgPut i d r) fun _ _ _ σ' H' => Out [i] σ σ' → Q σ' H' := by rw [e]; exact h
  obtain ⟨O', R', E', q'⟩ := put_ok R x q
  exact q' ⟨List.length_set, fun j m => List.getElem?_set_ne (fun z => m (by simp [z]))⟩, fun d r => put_cases i d r⟩
def tgNil : List D → M Ctl := fun ds r => match ds with
  | [] => .ok .nx r
  | _ => .bad
def tgCons (t : D → M Ctl) (u : List D → M Ctl) : List D → M Ctl := fun ds r => match ds with
  | d :: ds => (t d r).bind fun _ r1 => u ds r1
  | [] => .bad
def tgTup (n : Nat) (u : List D → M Ctl) : D → M Ctl := fun d r => match d with
  | .tuple ds => if ds.length = n then (u ds r).bind fun _ r1 => .ok .nx r1 else .bad
  | _ => .bad
theorem tgs_nil : PTs1 X fa [] [] tgNil := PGs.imp pgs_nil fun vs σ H Q ⟨F, B, O, r, ds, R, x, r', e, h⟩ => by
  cases ds with
  | nil =>
    cases x
    cases e
    exact ⟨rfl, h O σ H R Ext.refl Out.refl⟩
  | cons => cases e
theorem tgs_cons {e : Expr} {es : List Expr} {S S' : List Nat} {t : D → M Ctl} {u : List D → M Ctl} (h1 : PT1 X fa S e t) (h2 : PTs1 X fa S' es u) (hs : (assignEach (e :: es) X.env).map (·.2) = assign e X.env :: (assignEach es X.env).map (·.2) := by rfl) : PTs1 X fa (S ++ S') (e :: es) (tgCons t u) :=
  PGs.imp (pgs_cons h1.pg h2 hs) fun vs σ H Q ⟨F, B, O, r, ds, R, x, r', e, h⟩ => by
    cases x with
    | nil => cases e
    | @cons v vs d ds x y =>
      refine ⟨v, vs, rfl, ?_⟩
      rcases h1.ok d r with et | ⟨r1, et⟩
      · simp only [tgCons, et, Res.bad_bind] at e; cases e
      · simp only [tgCons, et, Res.ok_bind] at e
        exact ⟨F, B, O, r, d, R, x, r1, et, fun O1 σ1 H1 R1 e1 o1 => ⟨F, B, O1, r1, ds, R1, y.ext e1, r', e, fun O2 σ2 H2 R2 e2 o2 => h O2 σ2 H2 R2 (e1.trans e2) (o1.trans o2)⟩⟩
theorem tgCons_ok {t : D → M Ctl} {u : List D → M Ctl} (h1 : TgOk t) (h2 : ∀ ds r, u ds r = .bad ∨ ∃ r', u ds r = .ok .nx r') : ∀ ds r, tgCons t u ds r = .bad ∨ ∃ r', tgCons t u ds r = .ok .nx r' := fun ds r => by
  cases ds with
  | nil => exact .inl rfl
  | cons d ds =>
    rcases h1 d r with e | ⟨r1, e⟩
    · exact .inl (by simp only [tgCons, e, Res.bad_bind])
    · simp only [tgCons, e, Res.ok_bind]
      exact h2 ds r1
theorem tgNil_ok : ∀ ds r, tgNil ds r = .bad ∨ ∃ r', tgNil ds r = .ok .nx r' := fun ds r => by
  cases ds with
  | nil => exact .inr ⟨r, rfl⟩
  | cons => exact .inl rfl
theorem tg_tup {es : List Expr} {k n : Nat} {S : List Nat} {u : List D → M Ctl} (hc : X.calm = true) (h : PTs1 X fa S es u) (hu : ∀ ds r, u ds r = .bad ∨ ∃ r', u ds r = .ok .nx r') (hn : (assignEach es X.env).length = n := by rfl) (hst : (assignEach es X.env).findIdx? (·.1) = none := by rfl) : PT1 X fa S (.Tuple es k pos) (tgTup n u) :=
  by
  refine ⟨PG.imp (pg_tup hc h hn hst) fun v σ H Q ⟨F, B, O, r, d, R, x, r', e, h⟩ => ?_, fun d r => ?_⟩
  · cases d with
    | tuple ds =>
      simp only [tgTup] at e
      split at e
      · rename_i hl
        have ev : ∃ a, v = .ref a := by cases x <;> exact ⟨_, rfl⟩
        obtain ⟨a, rfl⟩ := ev
        obtain ⟨xs, hx, t⟩ := SqT.ofD x
        rcases hu ds r with eu | ⟨r1, eu⟩
        · rw [eu] at e; cases e
        · rw [eu] at e
          cases e
          exact ⟨a, xs, rfl, hx, by rw [t.length]; exact hl, F, B, O, r, ds, R, t, _, eu, h⟩
      · cases e
    | _ => cases e
  · cases d with
    | tuple ds =>
      simp only [tgTup]
      split
      · rcases hu ds r with eu | ⟨r1, eu⟩
        · exact .inl (by rw [eu]; rfl)
        · exact .inr ⟨r1, by rw [eu]; rfl⟩
      · exact .inl rfl
    | _ => exact .inl rfl
def asgM (t : D → M Ctl) (f : M D) : M Ctl := fun r => (f r).bind fun d r1 => t d r1
theorem g_asg {tg : Expr} {S : List Nat} {t : D → M Ctl} (h : PV X fa W a f1) (hg : PT1 X fa S tg t) (hs : swapsWithSole [tg] a pos.line X.env = pure false := by rfl) (hw : swappedStores [tg] a X.env = pure none := by rfl)
    (h1 : (assignEach [tg] X.env).map (·.2) = [assign tg X.env] := by rfl) : PG1 X fa W (.Assign [tg] a pos) (asgM t f1) :=
  PS.imp (ps_asg h hg.pg hs hw h1) fun Dn σ H ⟨F, B, O, r, R, h⟩ => ⟨F, B, O, r, R, (Aft.bind h).mono fun d r1 O1 σ1 H1 _ R1 _ ⟨_, _, q⟩ es v x => by
    subst es
    rcases hg.ok d r1 with et | ⟨r2, et⟩
    · rw [et] at q; exact False.elim q
    · rw [et] at q
      exact ⟨F, B, O1, r1, d, R1, x, r2, et, fun O' σ' H' R' e' _ => q O' σ' H' R' e'⟩⟩
end
end DL

namespace DL
open PySem PySem.Spec PyProof.Rows L2

/-! ### what is walked -/
/-- from H on, J walks the items ds -/
def ItOk (K : PySem.W.Frag) (B : Addr → Prop) (O : List Addr) (H : Hp) (J : It) (ds : List D) : Prop :=
  ∀ (C : Addr → Prop) H', Mv H (Bn B O) H' C → Trk C H' → (∀ i d, ds[i]? = some d → J.go i H' ∧ ∀ x H2, J.yld i H' x H2 → Same H' H2 ∧ DV K H2 C x d) ∧ J.stop ds.length H'
def tI (K : PySem.W.Frag) (fa : Nat → Addr) (W : Wi) (f : M (List D)) : TI := fun σ H R => ∃ F B O r, RL K fa F B O r σ H ∧ Aft K fa W F B O H (f r) fun ds r' O' σ' H' => σ' = σ → ∀ J, ItOk K B O' H' J ds → R J H'
abbrev PIt (X : Cx) (fa : Nat → Addr) (W : Wi) (tg e : Expr) (f : M (List D)) : Prop := PI X tg e (tI X.K fa W f)
theorem PI.imp {X : Cx} {tg e : Expr} {t t' : TI} (h : PI X tg e t) (i : ∀ σ H R, t' σ H R → t σ H R) : PI X tg e t' := ⟨fun pins s σ H R I q => h.run pins s σ H R I (i _ _ _ q)⟩
theorem PI.or {X : Cx} {tg e : Expr} {t t' : TI} (h : PI X tg e t) (h' : PI X tg e t') : PI X tg e (fun σ H R => t σ H R ∨ t' σ H R) := ⟨fun pins s σ H R I q => q.elim (h.run pins s σ H R I) (h'.run pins s σ H R I)⟩
def sgn (c : Nat) : D := .str ⟨#[c]⟩
def items : D → Option (List D)
  | .list ds => some ds
  | .tuple ds => some ds
  | .str x => some (x.cps.toList.map sgn)
  | _ => none
def iterM (f : M D) : M (List D) := fun r => (f r).bind fun d r1 => opt (items d) r1
section
variable {X : Cx} {fa : Nat → Addr} {W : Wi}
theorem itl_ok {K : PySem.W.Frag} {B : Addr → Prop} {O : List Addr} {H : Hp} {a : Addr} {ds : List D} (x : DV K H (Bn B O) (.ref a) (.list ds)) : ItOk K B O H (Itl K a) ds := by
  intro C H' e _
  obtain ⟨xs, h1, h2⟩ := SqL.ofD (DV.mono e _ _ x)
  refine ⟨fun i d hd => ?_, ⟨xs, h1, by rw [h2.length]; exact Nat.le_refl _⟩⟩
  obtain ⟨v, h3, h4⟩ := h2.get hd
  refine ⟨⟨xs, v, h1, h3⟩, fun y H2 ⟨e2, q⟩ => ?_⟩
  subst e2
  have e3 := q xs h1
  rw [h3] at e3
  cases e3
  exact ⟨fun _ _ z => z, h4⟩
theorem itt_ok {K : PySem.W.Frag} {B : Addr → Prop} {O : List Addr} {H : Hp} {a : Addr} {ds : List D} (x : DV K H (Bn B O) (.ref a) (.tuple ds)) : ItOk K B O H (Itt K a) ds := by
  intro C H' e _
  obtain ⟨xs, h1, h2⟩ := SqT.ofD (DV.mono e _ _ x)
  refine ⟨fun i d hd => ?_, ⟨xs, h1, by rw [h2.length]; exact Nat.le_refl _⟩⟩
  obtain ⟨v, h3, h4⟩ := h2.get hd
  refine ⟨⟨xs, v, h1, h3⟩, fun y H2 ⟨e2, q⟩ => ?_⟩
  subst e2
  have e3 := q xs h1
  rw [h3] at e3
  cases e3
  exact ⟨fun _ _ z => z, h4⟩
theorem its_ok {K : PySem.W.Frag} {B : Addr → Prop} {O : List Addr} {H : Hp} {x : Str} : ItOk K B O H (Its x) (x.cps.toList.map sgn) := by
  intro O' H' e _
  refine ⟨fun i d hd => ?_, by show x.cps.size ≤ _; simp⟩
  rw [List.getElem?_map] at hd
  cases hc : x.cps.toList[i]? with
  | none => rw [hc] at hd; cases hd
  | some c =>
    rw [hc] at hd
    cases hd
    have hlt : i < x.cps.size := by
      have := (List.getElem?_eq_some_iff.mp hc).1
      simpa using this
    refine ⟨hlt, fun y H2 ⟨e2, c', h1, h2⟩ => ?_⟩
    subst e2 h2
    have : c' = c := by
      have q : x.cps.toList[i]? = x.cps[i]? := by simp
      rw [q, h1] at hc
      exact Option.some.inj hc
    subst this
    exact ⟨fun _ _ z => z, .str _⟩
/-- a list, a tuple, a text -/
theorem it_e {tg e : Expr} {f : M D} (h : PV X fa W e f) : PIt X fa W tg e (iterM f) := by
  refine PI.imp (PI.or (pi_list h) (PI.or (pi_tup h) (pi_str h))) fun σ H R ⟨F, B, O, r, hR, h⟩ => ?_
  unfold iterM at h
  cases ef : f r with
  | bad => rw [ef] at h; exact False.elim h
  | ex c ds r' =>
    rw [ef] at h
    refine .inl ⟨F, B, O, r, hR, ?_⟩
    rw [ef]
    exact h
  | ok d r' =>
    rw [ef, Res.ok_bind] at h
    cases d with
    | list ds =>
      refine .inl ⟨F, B, O, r, hR, ?_⟩
      rw [ef]
      intro O' σ' H' R' e' es v x
      cases x with
      | lst q b t =>
        exact ⟨_, rfl, ⟨_, .inl q⟩, h O' σ' H' R' e' es _ (itl_ok (.lst q b t))⟩
    | tuple ds =>
      refine .inr (.inl ⟨F, B, O, r, hR, ?_⟩)
      rw [ef]
      intro O' σ' H' R' e' es v x
      have ev : ∃ a, v = .ref a := by cases x <;> exact ⟨_, rfl⟩
      obtain ⟨a, rfl⟩ := ev
      obtain ⟨xs, h1, _⟩ := SqT.ofD x
      exact ⟨a, rfl, ⟨xs, h1⟩, h O' σ' H' R' e' es _ (itt_ok x)⟩
    | str z =>
      refine .inr (.inr ⟨F, B, O, r, hR, ?_⟩)
      rw [ef]
      intro O' σ' H' R' e' es v x
      cases x
      exact ⟨z, rfl, h O' σ' H' R' e' es _ its_ok⟩
    | _ => exact False.elim h
/-- range -/
def rangeL (lo : Int) (n : Nat) : List D := (List.range n).map fun i => .int (lo + (i : Nat))
theorem itr_ok {K : PySem.W.Frag} {B : Addr → Prop} {O : List Addr} {H : Hp} {lo : Int} {n : Nat} : ItOk K B O H (Itr lo n) (rangeL lo n) := by
  intro O' H' e _
  refine ⟨fun i d hd => ?_, by show n ≤ _; simp [rangeL]⟩
  have hlt : i < n := by
    have := (List.getElem?_eq_some_iff.mp hd).1
    simpa [rangeL] using this
  refine ⟨hlt, fun y H2 ⟨e2, q⟩ => ?_⟩
  subst e2 q
  have e3 : d = .int (lo + (i : Nat)) := by
    simp only [rangeL, List.getElem?_map, List.getElem?_range hlt, Option.map_some, Option.some.injEq] at hd
    exact hd.symm
  subst e3
  exact ⟨fun _ _ z => z, .int _⟩
def range1 : List D → Option (List D)
  | [.int j] => if -(2 ^ 62) ≤ j ∧ j < 2 ^ 62 then some (rangeL 0 j.toNat) else none
  | _ => none
def range2 : List D → Option (List D)
  | [.int i, .int j] => if -(2 ^ 62) ≤ i ∧ i < 2 ^ 62 ∧ -(2 ^ 62) ≤ j ∧ j < 2 ^ 62 then some (rangeL i (j - i).toNat) else none
  | _ => none
def appI (g : List D → Option (List D)) (a : M (List D)) : M (List D) := fun r => (a r).bind fun x r1 => opt (g x) r1
theorem it_range1 {tg a : Expr} {f : M (List D)} {p pos : Pos} (hm : X.mg "range" = none) (ha : PVs X fa W [a] f) (hg : Gl X "range" := by rfl) (hs : starEach [a] X.env = [(false, eval a X.env)] := by rfl) : PIt X fa W tg (.Call (.Name "range" p) [a] [] pos) (appI range1 f) := by
  refine PI.imp (pi_range1 hg hm ha hs) fun σ H R ⟨F, B, O, r, hR, h⟩ => ⟨F, B, O, r, hR, (Aft.bind h).mono fun x r1 O1 σ1 H1 _ R1 e1 ⟨_, _, h1⟩ es vs xs => ?_⟩
  subst es
  unfold range1 at h1
  split at h1
  · split at h1
    · rename_i hb
      cases xs with
      | cons x t =>
        cases t
        cases x
        exact ⟨_, rfl, hb.1, hb.2, h1 O1 _ H1 R1 Ext.refl rfl _ itr_ok⟩
    · exact False.elim h1
  · exact False.elim h1
theorem it_range2 {tg a b : Expr} {f : M (List D)} {p pos : Pos} (hm : X.mg "range" = none) (ha : PVs X fa W [a, b] f) (hg : Gl X "range" := by rfl) (hs : starEach [a, b] X.env = [(false, eval a X.env), (false, eval b X.env)] := by rfl) (hs2 : starEach [b] X.env = [(false, eval b X.env)] := by rfl) : PIt X fa W tg (.Call (.Name "range" p) [a, b] [] pos) (appI range2 f) := by
  refine PI.imp (pi_range2 hg hm ha hs hs2) fun σ H R ⟨F, B, O, r, hR, h⟩ => ⟨F, B, O, r, hR, (Aft.bind h).mono fun x r1 O1 σ1 H1 _ R1 e1 ⟨_, _, h1⟩ es vs xs => ?_⟩
  subst es
  unfold range2 at h1
  split at h1
  · split at h1
    · rename_i hb
      cases xs with
      | cons x t =>
        cases t with
        | cons y t =>
          cases t
          cases x
          cases y
          exact ⟨_, _, rfl, hb, h1 O1 _ H1 R1 Ext.refl rfl _ itr_ok⟩
    · exact False.elim h1
  · exact False.elim h1
end

/-! ### for -/
def loopM (t : D → M Ctl) (b : M Ctl) : List D → M Ctl
  | [] => nxM
  | d :: ds => fun r => (t d r).bind fun _ r1 => (b r1).bind fun c r2 => match c with
    | .nx => loopM t b ds r2
    | .ct => loopM t b ds r2
    | .bk => .ok .nx r2
    | .rt d => .ok (.rt d) r2
def forM (f : M (List D)) (t : D → M Ctl) (b : M Ctl) : M Ctl := fun r => (f r).bind fun ds r1 => loopM t b ds r1
section
variable {X : Cx} {fa : Nat → Addr} {W : Wi}
theorem g_for {tg iter : Expr} {body : List Stmt} {S : List Nat} {f : M (List D)} {t : D → M Ctl} {b : M Ctl} {pos : Pos} (hp : PassesOwn (model X.prog X.w) X.A X.env X.xe) (hc : X.calm = true) (hi : PIt X fa W tg iter f) (hg : PT1 X fa S tg t) (hb : PGs X fa W body b)
    (hs : ∀ x, foldedSetIterable iter X.env x = pure x := by intro _; rfl) : PG1 X fa W (.For tg iter body [] pos) (forM f t b) := by
  refine PS.imp (ps_for hp hc hi hg.pg hb hs) fun Dn σ H ⟨F, B, O, r, R, h⟩ => ⟨F, B, O, r, R, (Aft.bind h).mono fun ds r1 O1 σ1 H1 _ R1 e1 ⟨_, _, h1⟩ es J ok => ?_⟩
  subst es
  refine ⟨fun i m σ H => ∃ O' r', RL X.K fa F B O' r' σ H ∧ Ext O1 H1 O' H ∧ i ≤ ds.length ∧ m = ds.length - i ∧ Aft X.K fa W F B O' H (loopM t b (ds.drop i) r') fun c _ O' σ' H' => CtlQ X.K F B Dn O' σ' H' c,
    ⟨ds.length, O1, r1, R1, Ext.refl, Nat.zero_le _, rfl, h1⟩, ?_⟩
  rintro i m σ H ⟨O', r', R', e', hi', rfl, h'⟩
  obtain ⟨k1, k2⟩ := ok _ H (ext_mono e') R'.trk
  by_cases hlt : i < ds.length
  · refine .inr ?_
    have hd : ds[i]? = some ds[i] := List.getElem?_eq_getElem hlt
    obtain ⟨g1, g2⟩ := k1 i _ hd
    have hdr : ds.drop i = ds[i] :: ds.drop (i + 1) := List.drop_eq_getElem_cons hlt
    refine ⟨g1, fun σ' H' => ∃ O2 r2, RL X.K fa F B O2 r2 σ' H' ∧ Ext O1 H1 O2 H' ∧ Aft X.K fa W F B O2 H' (loopM t b (ds.drop (i + 1)) r2) fun c _ O' σ' H' => CtlQ X.K F B Dn O' σ' H' c, ?_, ?_⟩
    · rintro σ' H' ⟨O2, r2, R2, e2, h2⟩
      exact ⟨ds.length - (i + 1), by omega, O2, r2, R2, e2, hlt, rfl, h2⟩
    · intro x H2 hy
      obtain ⟨S2, x2⟩ := g2 x H2 hy
      rw [hdr] at h'
      have h3 := Aft.bind (Aft.ext h' (Ext.same S2))
      rcases hg.ok ds[i] r' with et | ⟨r2, et⟩
      · rw [et] at h3; exact False.elim h3
      · rw [et] at h3
        refine ⟨F, B, O', r', ds[i], R'.same S2, x2, r2, et, fun O3 σ3 H3 R3 e3 _ => ?_⟩
        obtain ⟨_, _, h4⟩ := h3 O3 σ3 H3 R3 e3
        refine ⟨F, B, O3, r2, R3, (Aft.bind h4).mono fun c r4 O4 σ4 H4 _ R4 e4 ⟨_, _, h5⟩ => ?_⟩
        have e5 : Ext O1 H1 O4 H4 := ((e'.trans (Ext.same S2)).trans e3).trans e4
        cases c with
        | nx => exact ⟨O4, r4, R4, e5, h5⟩
        | ct => exact ⟨O4, r4, R4, e5, h5⟩
        | bk => exact h5 O4 σ4 H4 R4 Ext.refl
        | rt d => exact h5 O4 σ4 H4 R4 Ext.refl
  · have hi2 : i = ds.length := by omega
    subst hi2
    rw [List.drop_length] at h'
    exact .inl ⟨k2, h' O' σ H R' Ext.refl⟩
/-! ### while -/
def whileM (c : M Bool) (b : M Ctl) : Nat → M Ctl
  | 0 => fun _ => .bad
  | n + 1 => fun r => (c r).bind fun k r1 => if k = true then (b r1).bind fun x r2 => match x with
    | .nx => whileM c b n r2
    | .ct => whileM c b n r2
    | .bk => .ok .nx r2
    | .rt d => .ok (.rt d) r2 else .ok .nx r1
theorem g_while {c : Expr} {body : List Stmt} {m : M Bool} {b : M Ctl} {pos : Pos} (n : Nat) (hp : PassesOwn (model X.prog X.w) X.A X.env X.xe) (hc : PM X fa W c m) (hb : PGs X fa W body b) : PG1 X fa W (.While c body [] pos) (whileM m b n) := by
  refine PS.imp (ps_while hp hc hb) fun Dn σ H ⟨F, B, O, r, R, h⟩ => ?_
  refine ⟨fun k σ H => ∃ O' r', RL X.K fa F B O' r' σ H ∧ Aft X.K fa W F B O' H (whileM m b k r') fun c _ O' σ' H' => CtlQ X.K F B Dn O' σ' H' c, ⟨n, O, r, R, h⟩, ?_⟩
  rintro k σ H ⟨O', r', R', h'⟩
  cases k with
  | zero => exact False.elim h'
  | succ k =>
    refine ⟨F, B, O', r', R', (Aft.bind h').mono fun d r1 O1 σ1 H1 _ R1 e1 ⟨_, _, h1⟩ es => ?_⟩
    subst es
    cases d with
    | true =>
      rw [if_pos rfl] at h1 ⊢
      refine ⟨fun σ' H' => ∃ O2 r2, RL X.K fa F B O2 r2 σ' H' ∧ Aft X.K fa W F B O2 H' (whileM m b k r2) fun c _ O' σ' H' => CtlQ X.K F B Dn O' σ' H' c, fun σ' H' q => ⟨k, Nat.lt_succ_self _, q⟩, ?_⟩
      refine ⟨F, B, O1, r1, R1, (Aft.bind h1).mono fun c r4 O4 σ4 H4 _ R4 e4 ⟨_, _, h5⟩ => ?_⟩
      cases c with
      | nx => exact ⟨O4, r4, R4, h5⟩
      | ct => exact ⟨O4, r4, R4, h5⟩
      | bk => exact h5 O4 σ4 H4 R4 Ext.refl
      | rt d => exact h5 O4 σ4 H4 R4 Ext.refl
    | false =>
      rw [if_neg Bool.false_ne_true] at h1 ⊢
      exact h1 O1 _ H1 R1 Ext.refl
end
end DL

namespace DL
open PySem PySem.Spec PyProof.Rows L2

/-! ### slots that own nothing -/
section
variable {K : PySem.W.Frag} {fa : Nat → Addr} {F : Fx} {B : Addr → Prop} {O O' : List Addr} {r : Rho} {σ : L2.St} {H H' : Hp}
def light : Sl → Bool
  | .emp => true
  | .fz _ => true
  | .fn _ => true
  | _ => false
theorem SlV.light {s : Sl} {o : Option V} {as : List Addr} (x : SlV K fa H B s o as) (l : DL.light s = true) : as = [] := by
  cases x with
  | emp => rfl
  | fz _ => rfl
  | fn _ => rfl
  | _ => cases l
theorem RL.setS (R : RL K fa F B O r σ H) {i : Nat} {s s' : Sl} {o' : Option V} (e : r[i]? = some s) (l : light s = true) (x : SlV K fa H (Bn B O) s' o' []) : RL K fa F B O (r.set i s') (σ.set i o') H := by
  obtain ⟨o, as, l1, l2, h1, h2, h3, h4⟩ := R.sl.at e
  have := h2.light l
  subst this
  have q := h4 H (Bn B O) (fun _ _ q b => ⟨q, b⟩) (fun _ _ _ q => q) s' o' [] x
  refine ⟨by rw [h3] at q ⊢; exact q, R.nd, R.fr, R.fe, R.ow, R.bt, fun p hp => ?_⟩
  obtain ⟨q1, d', q2⟩ := R.io p hp
  have ne : p.1 ≠ i := fun z => by
    rw [z, e] at q2
    cases Option.some.inj q2
    cases l
  rw [List.getElem?_set_ne (Ne.symm ne), List.getElem?_set_ne (Ne.symm ne)]
  exact ⟨q1, d', q2⟩
/-- a list that a slot owns is changed -/
theorem RL.mutL (R : RL K fa F B O r σ H) {i : Nat} {ds : List D} (e : r[i]? = some (.own (.list ds))) : ∃ a xs, σ[i]? = some (some (.ref a)) ∧ H a = some (.lst xs) ∧ DVs K H (Bn B O) xs ds ∧ a ∈ O ∧
    ∀ ys es, DVs K H (Bn B O) ys es → RL K fa F B O (r.set i (.own (.list es))) σ (upd H a (.lst ys)) ∧ Ext O H O (upd H a (.lst ys)) := by
  obtain ⟨o, as, l1, l2, h1, h2, h3, h4⟩ := R.sl.at e
  cases h2 with
  | @own a xs _ ea x =>
    have aO : a ∈ O := by rw [h3]; simp
    have hset : σ.set i (some (.ref a)) = σ := by
      apply List.ext_getElem?
      intro j
      by_cases hj : j = i
      · subst hj
        rw [h1, List.getElem?_set_self (by exact (List.getElem?_eq_some_iff.mp h1).1)]
      · rw [List.getElem?_set_ne (Ne.symm hj)]
    refine ⟨a, xs, h1, ea, x, aO, fun ys es y => ?_⟩
    have rd : ∀ b u, Rd H b u → ¬ Bn B O b → Rd (upd H a (.lst ys)) b u ∧ ¬ Bn B O b := fun b u q nb => by
      have hb : b ≠ a := fun z => nb (.inr (by rw [z]; exact aO))
      refine ⟨?_, nb⟩
      rcases q with q | ⟨o', q⟩
      · exact .inl (by rw [upd_ne hb]; exact q)
      · exact .inr ⟨o', by rw [upd_ne hb]; exact q⟩
    have ndp := R.nd
    rw [h3] at ndp
    have na : ∀ b, b ∈ l1 ∨ b ∈ l2 → b ≠ a := fun b m z => by
      subst z
      simp only [List.mem_append, List.cons_append, List.nil_append, List.nodup_append, List.nodup_cons] at ndp
      rcases m with m | m
      · exact ndp.2.2 b m b List.mem_cons_self rfl
      · exact ndp.2.1.1 m
    have ne : ∀ c, H c ≠ none → upd H a (.lst ys) c ≠ none := fun c n => by
      by_cases hc : c = a
      · subst hc; rw [upd_same]; exact fun z => nomatch z
      · rw [upd_ne hc]; exact n
    have q := h4 (upd H a (.lst ys)) (Bn B O) rd (fun b m u q => by rw [upd_ne (na b m)]; exact q) (.own (.list es)) (some (.ref a)) [a] (.own upd_same (DVs.mono rd _ _ y))
    rw [hset] at q
    refine ⟨⟨by rw [h3] at q ⊢; exact q, R.nd, fun c u q n => ?_, fun c n => ne c (R.fe c n), R.ow, fun c z => ne c (R.bt c z), fun p hp => ?_⟩, ⟨fun c u n q => ?_, fun _ m => .inl m, ne⟩⟩
    · have hc : c ≠ a := fun z => by
        rw [z] at q n
        rcases (R.ow a aO).2 with w | w
        · exact n w
        · rw [w] at q; cases q
      rw [upd_ne hc]; exact R.fr c u q n
    · obtain ⟨q1, d', q2⟩ := R.io p hp
      have np : p.1 ≠ i := fun z => by
        rw [z, e] at q2
        cases Option.some.inj q2
      rw [List.getElem?_set_ne (Ne.symm np)]
      exact ⟨q1, d', q2⟩
    · have hc : c ≠ a := fun z => n (by rw [z]; exact aO)
      rw [upd_ne hc]; exact q
end

/-! ### fresh lists -/
abbrev Ad (B : Addr → Prop) (a : Addr) : Addr → Prop := fun b => B b ∨ b = a
def tF (K : PySem.W.Frag) (fa : Nat → Addr) (W : Wi) (f : M (List D)) : TE := fun σ H Q => ∃ F B O r, RL K fa F B O r σ H ∧ match f r with
  | .ok ds r' => ∀ O' a xs H', H a = none → RL K fa F (Ad B a) O' r' σ H' → Ext O H O' H' → H' a = some (.lst xs) → DVs K H' (Bn (Ad B a) O') xs ds → Q (.ref a) H'
  | .ex c ds r' => ∀ O' σ' H', RL K fa F B O' r' σ' H' → Ext O H O' H' → W c ds H'
  | .bad => False
abbrev PF (X : Cx) (fa : Nat → Addr) (W : Wi) (e : Expr) (f : M (List D)) : Prop := PE X e (tF X.K fa W f)
def lstOf (f : M (List D)) : M D := fun r => (f r).bind fun ds r1 => .ok (.list ds) r1
section
variable {X : Cx} {fa : Nat → Addr} {W : Wi}
theorem tF_of {K : PySem.W.Frag} {f : M (List D)} {σ : L2.St} {H : Hp} {Q : VK} (h : tV K fa W (lstOf f) σ H Q) : tF K fa W f σ H Q := by
  obtain ⟨F, B, O, r, R, h⟩ := h
  refine ⟨F, B, O, r, R, ?_⟩
  unfold lstOf at h
  cases e : f r with
  | ok ds r' =>
    rw [e] at h
    intro O' a xs H' n R' E' ea x
    refine h O' σ H' (R'.unBan fun _ z => .inl z) E' rfl _ (.lst (.inl ea) (fun z => ?_) (x.ban fun b z => z.imp .inl id))
    rcases z with z | z
    · exact R.bt a z n
    · exact (R'.ow a z).1 (.inr rfl)
  | ex c ds r' => rw [e] at h; exact h
  | bad => rw [e] at h; exact h
theorem pv_ofF {e : Expr} {f : M (List D)} (h : PF X fa W e f) : PV X fa W e (lstOf f) := PE.imp h fun _ _ _ q => tF_of q
def lnM (f : M (List D)) : M (List D) := fun r => (f r).bind fun x r1 => if x.length ≤ sizeLine then .ok x r1 else .bad
theorem pf_lst {es : List Expr} {f : M (List D)} {pos : Pos} (h : PVs X fa W es f) : PF X fa W (.List es pos) (lnM f) := by
  refine PE.imp (pe_lst h) fun σ H Q ⟨F, B, O, r, R, h⟩ => ⟨F, B, O, r, R, ?_⟩
  unfold lnM at h
  cases e : f r with
  | ok ds r' =>
    rw [e, Res.ok_bind] at h
    intro O' σ' H' R' E' es vs x
    subst es
    by_cases hl : ds.length ≤ sizeLine
    · rw [if_pos hl] at h
      refine ⟨by rw [x.length]; exact hl, fun p n => ?_⟩
      have S := same_fresh (o := .lst vs) n
      have nH : H p = none := by
        cases q : H p with
        | none => rfl
        | some o => exact absurd n (E'.th p (by rw [q]; exact fun z => nomatch z))
      exact h O' p vs _ nH (R'.addBan n S (by rw [upd_same]; exact fun z => nomatch z)) (E'.trans (Ext.same S)) upd_same
        (DVs.mono (fun b u q nb => ⟨rd_same S q, fun z => z.elim (fun z => z.elim (fun z => nb (.inl z)) fun z => by subst z; exact rd_some q n) fun z => nb (.inr z)⟩) _ _ x)
    · rw [if_neg hl] at h; exact False.elim h
  | ex c ds r' => rw [e] at h; exact h
  | bad => rw [e] at h; exact h
end
end DL

namespace DL
open PySem PySem.Spec PyProof.Rows L2

/-! ### comprehensions -/
def wR : Rho → List Nat → Rho
  | r, [] => r
  | r, v :: vs => (wR r vs).set v .emp
def okW (own : List Nat) (r : Rho) : Bool := own.all fun v => match r[v]? with
  | some s => light s
  | none => false
def bkR (r0 : Rho) : Rho → List Nat → Rho
  | r, [] => r
  | r, v :: vs => (bkR r0 r vs).set v ((r0[v]?).getD .emp)
/-- nothing is raised -/
def nE {α : Type} (x : Res α) : Res α := match x with
  | .ex _ _ _ => .bad
  | x => x
@[simp] theorem nE_ok {α : Type} (a : α) (r : Rho) : nE (.ok a r) = .ok a r := rfl
@[simp] theorem nE_ex {α : Type} (c : Nat) (ds : List D) (r : Rho) : nE (.ex c ds r : Res α) = .bad := rfl
@[simp] theorem nE_bad {α : Type} : nE (.bad : Res α) = .bad := rfl
def collM (own : List Nat) (t : D → M Ctl) (c : M Bool) (e : M D) : List D → M (List D)
  | [] => fun r => .ok [] r
  | d :: ds => fun r => if okW own r = true then (t d (wR r own)).bind fun _ r1 => (nE (c r1)).bind fun k r2 => if k = true then (nE (e r2)).bind fun y r3 => (collM own t c e ds r3).bind fun ys r4 => .ok (y :: ys) r4 else collM own t c e ds r2 else .bad
def lcM (own : List Nat) (f : M (List D)) (t : D → M Ctl) (c : M Bool) (e : M D) : M (List D) := fun r => (f r).bind fun ds r0 => if okW own r0 = true ∧ ds.length ≤ sizeLine then (collM own t c e ds r0).bind fun ys r1 => if okW own r1 = true then .ok ys (bkR r0 (wR r1 own) own) else .bad else .bad
section
variable {K : PySem.W.Frag} {fa : Nat → Addr} {F : Fx} {B : Addr → Prop} {O O' : List Addr} {r r0 : Rho} {σ σ0 : L2.St} {H H' : Hp}
theorem RL.len (R : RL K fa F B O r σ H) : r.length = σ.length := R.sl.length
theorem RL.slot (R : RL K fa F B O r σ H) {i : Nat} {s : Sl} (e : r[i]? = some s) (l : light s = true) : ∃ o, σ[i]? = some o ∧ SlV K fa H (Bn B O) s o [] := by
  obtain ⟨o, as, l1, l2, h1, h2, _⟩ := R.sl.at e
  have := h2.light l
  subst this
  exact ⟨o, h1, h2⟩
theorem okW_get {own : List Nat} (h : okW own r = true) {v : Nat} (m : v ∈ own) : ∃ s, r[v]? = some s ∧ light s = true := by
  have q := List.all_eq_true.mp h v m
  cases e : r[v]? with
  | none => rw [e] at q; cases q
  | some s => rw [e] at q; exact ⟨s, rfl, q⟩
theorem wR_len : ∀ (r : Rho) (vs : List Nat), (wR r vs).length = r.length
  | _, [] => rfl
  | r, v :: vs => by
    show ((wR r vs).set v .emp).length = _
    rw [List.length_set, wR_len r vs]
theorem wR_get : ∀ (vs : List Nat) (i : Nat), i ∈ vs → i < r.length → (wR r vs)[i]? = some .emp
  | v :: vs, i, m, hi => by
    show ((wR r vs).set v .emp)[i]? = _
    by_cases h : v = i
    · subst h
      rw [List.getElem?_set_self (by rw [wR_len]; exact hi)]
    · rw [List.getElem?_set_ne h]
      rcases List.mem_cons.mp m with z | z
      · exact absurd z.symm h
      · exact wR_get vs i z hi
theorem wR_out : ∀ (vs : List Nat) (i : Nat), i ∉ vs → (wR r vs)[i]? = r[i]?
  | [], i, _ => rfl
  | v :: vs, i, m => by
    show ((wR r vs).set v .emp)[i]? = _
    rw [List.getElem?_set_ne (fun z => m (by rw [z]; exact List.mem_cons_self))]
    exact wR_out vs i fun z => m (List.mem_cons_of_mem _ z)
theorem wipe_out : ∀ (vs : List Nat) (i : Nat), i ∉ vs → (wipe σ vs)[i]? = σ[i]?
  | [], i, _ => rfl
  | v :: vs, i, m => by
    show ((wipe σ vs).set v none)[i]? = _
    rw [List.getElem?_set_ne (fun z => m (by rw [z]; exact List.mem_cons_self))]
    exact wipe_out vs i fun z => m (List.mem_cons_of_mem _ z)
theorem wipe_get : ∀ (vs : List Nat) (i : Nat), i ∈ vs → i < σ.length → (wipe σ vs)[i]? = some none
  | v :: vs, i, m, hi => by
    show ((wipe σ vs).set v none)[i]? = _
    by_cases h : v = i
    · subst h
      rw [List.getElem?_set_self (by rw [wipe_length]; exact hi)]
    · rw [List.getElem?_set_ne h]
      rcases List.mem_cons.mp m with z | z
      · exact absurd z.symm h
      · exact wipe_get vs i z hi
theorem wipe_eq {vs : List Nat} {σ' : L2.St} (h : Out vs σ σ') : wipe σ' vs = wipe σ vs := by
  apply List.ext_getElem?
  intro i
  by_cases m : i ∈ vs
  · by_cases hi : i < σ.length
    · rw [wipe_get vs i m hi, wipe_get vs i m (by rw [h.1]; exact hi)]
    · rw [List.getElem?_eq_none (by rw [wipe_length, h.1]; omega), List.getElem?_eq_none (by rw [wipe_length]; omega)]
  · rw [wipe_out vs i m, wipe_out vs i m, h.2 i m]
theorem wipe_wipe {vs : List Nat} : wipe (wipe σ vs) vs = wipe σ vs := wipe_eq ⟨wipe_length _ _, fun j m => wipe_out vs j m⟩
theorem RL.wipe (R : RL K fa F B O r σ H) : ∀ {own : List Nat}, okW own r = true → RL K fa F B O (wR r own) (L2.wipe σ own) H
  | [], _ => R
  | v :: vs, h => by
    have h1 : okW vs r = true := by
      unfold okW at h ⊢
      rw [List.all_cons, Bool.and_eq_true] at h
      exact h.2
    have R1 := RL.wipe R h1
    obtain ⟨s, e, l⟩ := okW_get h List.mem_cons_self
    have hv : v < r.length := (List.getElem?_eq_some_iff.mp e).1
    by_cases m : v ∈ vs
    · exact R1.setS (wR_get vs v m hv) rfl (.emp none)
    · exact R1.setS (by rw [wR_out vs v m]; exact e) l (.emp none)
theorem RL.back {B' : Addr → Prop} {own : List Nat} (R0 : RL K fa F B O r0 σ H) (e : Mv H (Bn B O) H' (Bn B' O')) (R : RL K fa F B' O' (wR r own) (L2.wipe σ own) H') (h0 : okW own r0 = true) (hl : r.length = r0.length) :
    RL K fa F B' O' (bkR r0 (wR r own) own) σ H' := by
  have key : ∀ vs : List Nat, (∀ v ∈ vs, v ∈ own) → ∃ σ', RL K fa F B' O' (bkR r0 (wR r own) vs) σ' H' ∧ σ'.length = σ.length ∧ (∀ i, i ∈ vs → σ'[i]? = σ[i]?) ∧ (∀ i, i ∉ vs → σ'[i]? = (L2.wipe σ own)[i]?) ∧ (∀ i, i ∈ own → ∃ s, (bkR r0 (wR r own) vs)[i]? = some s ∧ light s = true) := by
    intro vs
    induction vs with
    | nil =>
      intro _
      refine ⟨_, R, wipe_length _ _, fun i m => by simp at m, fun i _ => rfl, fun i m => ?_⟩
      obtain ⟨s, es, l⟩ := okW_get h0 m
      exact ⟨.emp, wR_get own i m (by rw [hl]; exact (List.getElem?_eq_some_iff.mp es).1), rfl⟩
    | cons v vs ih =>
      intro hm
      obtain ⟨σ', R', h1, h2, h3, h4⟩ := ih fun w m => hm w (List.mem_cons_of_mem _ m)
      obtain ⟨s0, es0, l0⟩ := okW_get h0 (hm v List.mem_cons_self)
      obtain ⟨o0, eo0, x0⟩ := R0.slot es0 l0
      obtain ⟨s1, es1, l1⟩ := h4 v (hm v List.mem_cons_self)
      have x1 : SlV K fa H' (Bn B' O') s0 o0 [] := x0.mono e fun a m => by simp at m
      have hv : v < σ'.length := by rw [h1]; exact (List.getElem?_eq_some_iff.mp eo0).1
      refine ⟨σ'.set v o0, ?_, by rw [List.length_set]; exact h1, fun i m => ?_, fun i m => ?_, fun i m => ?_⟩
      · show RL K fa F B' O' ((bkR r0 (wR r own) vs).set v ((r0[v]?).getD .emp)) _ H'
        rw [es0]
        exact R'.setS es1 l1 x1
      · by_cases hi : v = i
        · subst hi
          rw [List.getElem?_set_self hv, eo0]
        · rw [List.getElem?_set_ne hi]
          rcases List.mem_cons.mp m with z | z
          · exact absurd z.symm hi
          · exact h2 i z
      · rw [List.getElem?_set_ne (fun z => m (by rw [z]; exact List.mem_cons_self))]
        exact h3 i fun z => m (List.mem_cons_of_mem _ z)
      · show ∃ s, ((bkR r0 (wR r own) vs).set v ((r0[v]?).getD .emp))[i]? = some s ∧ _
        rw [es0]
        by_cases hi : v = i
        · subst hi
          exact ⟨s0, by rw [List.getElem?_set_self (List.getElem?_eq_some_iff.mp es1).1]; rfl, l0⟩
        · rw [List.getElem?_set_ne hi]
          exact h4 i m
  obtain ⟨σ', R', h1, h2, h3, _⟩ := key own fun _ m => m
  have : σ' = σ := by
    apply List.ext_getElem?
    intro i
    by_cases m : i ∈ own
    · exact h2 i m
    · rw [h3 i m, wipe_out own i m]
  rw [this] at R'
  exact R'
theorem mv_new {a : Addr} (e : Mv H (Bn B O) H' (Bn B O')) (n : H a = none) : Mv H (Bn B O) H' (Bn (fun b => B b ∨ b = a) O') := fun b u q nb =>
  ⟨(e b u q nb).1, fun z => z.elim (fun z => z.elim (fun z => (e b u q nb).2 (.inl z)) fun z => by subst z; exact rd_some q n) fun z => (e b u q nb).2 (.inr z)⟩
theorem Ext.updNew {a : Addr} {o : HO} (e : Ext O H O' H') (n : H a = none) : Ext O H O' (upd H' a o) :=
  ⟨fun b u m q => by rw [upd_ne (ne_of_none q n)]; exact e.kp b u m q, e.nw, fun b m => by
    by_cases h : b = a
    · subst h; rw [upd_same]; exact fun z => nomatch z
    · rw [upd_ne h]; exact e.th b m⟩
end
theorem collM_noex {own : List Nat} {t : D → M Ctl} {c : M Bool} {e : M D} (ok : TgOk t) : ∀ (ds : List D) (r : Rho), nE (collM own t c e ds r) = collM own t c e ds r
  | [], r => rfl
  | d :: ds, r => by
    unfold collM
    split
    · rcases ok d (wR r own) with h | ⟨r1, h⟩
      · rw [h]; rfl
      · rw [h, Res.ok_bind]
        cases hc : c r1 with
        | bad => rfl
        | ex => rfl
        | ok k r2 =>
          rw [nE_ok, Res.ok_bind]
          split
          · cases he : e r2 with
            | bad => rfl
            | ex => rfl
            | ok y r3 =>
              rw [nE_ok, Res.ok_bind]
              have ih := collM_noex (own := own) (c := c) (e := e) ok ds r3
              cases hq : collM own t c e ds r3 with
              | bad => rfl
              | ex k' ds' r' => rw [hq] at ih; cases ih
              | ok ys r4 => rfl
          · exact collM_noex ok ds r2
    · rfl
theorem collM_okW {own : List Nat} {t : D → M Ctl} {c : M Bool} {e : M D} : ∀ (ds : List D) (r : Rho) {ys : List D} {rE : Rho}, collM own t c e ds r = .ok ys rE → okW own rE = true → okW own r = true
  | [], r, ys, rE, h, w => by cases h; exact w
  | d :: ds, r, ys, rE, h, w => by
    unfold collM at h
    by_cases q : okW own r = true
    · exact q
    · rw [if_neg q] at h; cases h
abbrev W0 : Wi := fun _ _ _ => False
/-- the reading of a comprehension -/
theorem tF_lc {K : PySem.W.Frag} {fa : Nat → Addr} {W : Wi} {own S : List Nat} {f : M (List D)} {t : D → M Ctl} {c : M Bool} {e : M D} {σ : L2.St} {H : Hp} {Q : VK} (hS : ∀ i ∈ S, i ∈ own) (ok : TgOk t) (h : tF K fa W (lcM own f t c e) σ H Q) :
    tLc (tI K fa W f) (tG K fa S t) (tM K fa W0 c) (tV K fa W0 e) own σ H Q := by
  obtain ⟨F, B, O, r, R, h⟩ := h
  refine ⟨F, B, O, r, R, ?_⟩
  cases ef : f r with
  | bad => simp only [lcM, ef, Res.bad_bind] at h
  | ex k ds r' => simp only [lcM, ef, Res.ex_bind] at h; exact h
  | ok ds r0 =>
    simp only [lcM, ef, Res.ok_bind] at h
    by_cases hk : okW own r0 = true ∧ ds.length ≤ sizeLine
    case neg => rw [if_neg hk] at h; exact False.elim h
    rw [if_pos hk] at h
    obtain ⟨hw0, hlen⟩ := hk
    intro O1 σ1 H1 R1 E1 es J itok Dd hD
    subst es
    have nD : H Dd = none := by
      cases q : H Dd with
      | none => rfl
      | some o => exact absurd hD (E1.th Dd (by rw [q]; exact fun z => nomatch z))
    have e0D : F.H0 Dd = none := R.new0 nD
    -- what the whole run comes to
    cases ec : collM own t c e ds r0 with
    | bad => rw [ec] at h; exact False.elim h
    | ex k ds' r' =>
      have q := collM_noex (own := own) (c := c) (e := e) ok ds r0
      rw [ec] at q
      cases q
    | ok out rE =>
      rw [ec, Res.ok_bind] at h
      by_cases hwE : okW own rE = true
      case neg => rw [if_neg hwE] at h; exact False.elim h
      rw [if_pos hwE] at h
      have S1 := same_fresh (o := .lst []) hD
      have RB : RL K fa F (Ad B Dd) O1 r0 σ1 (upd H1 Dd (.lst [])) := R1.addBan hD S1 (by rw [upd_same]; exact fun z => nomatch z)
      have RW := RB.wipe hw0
      refine ⟨fun i m H2 => m = ds.length - i ∧ i ≤ ds.length ∧ ∃ O2 r2 acc vs, RL K fa F (Ad B Dd) O2 (wR r2 own) (L2.wipe σ1 own) H2 ∧ okW own r2 = true ∧ Ext O1 H1 O2 H2 ∧ r2.length = r0.length ∧ H2 Dd = some (.lst vs) ∧ DVs K H2 (Bn (Ad B Dd) O2) vs acc ∧ acc.length ≤ i ∧
        ∃ rest, collM own t c e (ds.drop i) r2 = .ok rest rE ∧ acc ++ rest = out, ⟨ds.length, rfl, Nat.zero_le _, O1, r0, [], [], RW, hw0, Ext.same S1, rfl, upd_same, .nil, Nat.le_refl _, out, ec, rfl⟩, ?_⟩
      rintro i m H2 ⟨rfl, hi, O2, r2, acc, vs, R2, hw2, E2, hl2, eD, xa, hla, rest, er, eo⟩
      have mv : Mv H1 (Bn B O1) H2 (Bn (Ad B Dd) O2) := mv_new (ext_mono E2) hD
      obtain ⟨k1, k2⟩ := itok _ H2 mv R2.trk
      by_cases hlt : i < ds.length
      · refine .inr ?_
        have hd : ds[i]? = some ds[i] := List.getElem?_eq_getElem hlt
        obtain ⟨g1, g2⟩ := k1 i _ hd
        have hdr : ds.drop i = ds[i] :: ds.drop (i + 1) := List.drop_eq_getElem_cons hlt
        rw [hdr] at er
        simp only [collM, hw2, if_true] at er
        refine ⟨g1, fun H' => ∃ O3 r3 acc vs, RL K fa F (Ad B Dd) O3 (wR r3 own) (L2.wipe σ1 own) H' ∧ okW own r3 = true ∧ Ext O1 H1 O3 H' ∧ r3.length = r0.length ∧ H' Dd = some (.lst vs) ∧ DVs K H' (Bn (Ad B Dd) O3) vs acc ∧ acc.length ≤ i + 1 ∧
          ∃ rest, collM own t c e (ds.drop (i + 1)) r3 = .ok rest rE ∧ acc ++ rest = out, fun H' q => ⟨ds.length - (i + 1), by omega, rfl, hlt, q⟩, fun x H3 hy => ?_⟩
        obtain ⟨S2, x2⟩ := g2 x H3 hy
        rcases ok ds[i] (wR r2 own) with et | ⟨r4, et⟩
        · rw [et] at er; cases er
        · rw [et, Res.ok_bind] at er
          refine ⟨F, Ad B Dd, O2, wR r2 own, ds[i], R2.same S2, x2, r4, et, fun O4 σ4 H4 R4 e4 o4 => ?_⟩
          have wq : L2.wipe σ4 own = L2.wipe σ1 own := by
            have o5 : Out own (L2.wipe σ1 own) σ4 := ⟨o4.1, fun j m => o4.2 j fun z => m (hS j z)⟩
            rw [wipe_eq o5, wipe_wipe]
          have E4 : Ext O1 H1 O4 H4 := (E2.trans (Ext.same S2)).trans e4
          have l4 : r4.length = r0.length := by rw [R4.len, o4.1, wipe_length, R1.len]
          refine ⟨wq, F, Ad B Dd, O4, r4, R4, ?_⟩
          cases hc : c r4 with
          | bad => rw [hc] at er; cases er
          | ex => rw [hc] at er; cases er
          | ok k r5 =>
            rw [hc, nE_ok, Res.ok_bind] at er
            intro O5 σ5 H5 R5 e5 es5
            subst es5
            have eD5 : H5 Dd = some (.lst vs) := by
              refine e5.kp Dd _ (fun z => (R4.ow Dd z).1 (.inr rfl)) (e4.kp Dd _ (fun z => (R2.ow Dd z).1 (.inr rfl)) (S2 _ _ eD))
            have xa5 : DVs K H5 (Bn (Ad B Dd) O5) vs acc := ((xa.same S2).ext e4).ext e5
            have l5 : r5.length = r0.length := by rw [R5.len, ← R4.len]; exact l4
            have E5 := E4.trans e5
            cases k with
            | true =>
              rw [if_pos rfl] at er ⊢
              refine ⟨F, Ad B Dd, O5, r5, R5, ?_⟩
              cases he : e r5 with
              | bad => rw [he] at er; cases er
              | ex => rw [he] at er; cases er
              | ok y r6 =>
                rw [he, nE_ok, Res.ok_bind] at er
                intro O6 σ6 H6 R6 e6 es6 v x6
                subst es6
                cases hq : collM own t c e (ds.drop (i + 1)) r6 with
                | bad => rw [hq] at er; cases er
                | ex => rw [hq] at er; cases er
                | ok ys r7 =>
                  rw [hq, Res.ok_bind] at er
                  cases er
                  have eD6 : H6 Dd = some (.lst vs) := e6.kp Dd _ (fun z => (R5.ow Dd z).1 (.inr rfl)) eD5
                  have xa6 := xa5.ext e6
                  have hw6 := collM_okW _ _ hq hwE
                  refine ⟨vs, eD6, by rw [xa6.length]; omega, O6, r6, acc ++ [y], vs ++ [v], ?_, hw6, (E5.trans e6).updNew hD, by rw [R6.len, ← R5.len]; exact l5, upd_same, (xa6.append (.cons x6 .nil)).updBan (.inl (.inr rfl)), by rw [List.length_append, List.length_singleton]; omega, ys, hq, by rw [← eo, List.append_assoc]; rfl⟩
                  have R7 := (R6.updBan (o := .lst (vs ++ [v])) (.inr rfl) e0D).wipe hw6
                  rw [wq] at R7
                  exact R7
            | false =>
              rw [if_neg Bool.false_ne_true] at er ⊢
              have hw5 := collM_okW _ _ er hwE
              have R7 := R5.wipe hw5
              rw [wq] at R7
              exact ⟨O5, r5, acc, vs, R7, hw5, E5, l5, eD5, xa5, by omega, rest, er, eo⟩
      · have hi2 : i = ds.length := by omega
        subst hi2
        rw [List.drop_length] at er
        cases er
        rw [List.append_nil] at eo
        subst eo
        exact .inl ⟨k2, h O2 Dd vs H2 nD (R1.back mv R2 hw0 hl2) (E1.trans E2) eD xa⟩
section
variable {X : Cx} {fa : Nat → Addr} {W : Wi} {tg iter elt : Expr} {ifs : List Expr} {scope : Scope} {own : List (Str × Nat)} {S : List Nat} {f : M (List D)} {t : D → M Ctl} {c : M Bool} {e : M D} {pos : Pos}
def yesM : M Bool := fun r => .ok true r
theorem pts_none : PTs X [] (tM X.K fa W yesM) := ⟨fun pins s σ H Q I ⟨F, B, O, r, R, h⟩ => pts_nil.run pins s σ H Q I (h O σ H R Ext.refl rfl)⟩
theorem pts_1 {a : Expr} (h : PM X fa W a c) : PTs X [a] (tM X.K fa W c) := pts_one h
theorem pf_lc (hc : X.calm = true) (hN : X.N.Nodup) (hi : PIt X fa W tg iter f) (ok : BlkOk X.N X.env.scope scope own) (hS : ∀ i ∈ S, i ∈ own.map (·.2)) (tok : TgOk t)
    (hg : ∀ (s : Shared) (H : Hp) (C : Addr) (cl : List (Str × Addr)) (fp : List Addr), PT1 (X.blk s H scope (compEnvC scope cl C X.env) fp) fa S tg t)
    (ht : ∀ (s : Shared) (H : Hp) (C : Addr) (cl : List (Str × Addr)) (fp : List Addr), PTs (X.blk s H scope (compEnvC scope cl C X.env) fp) ifs (tM X.K fa W0 c))
    (he : ∀ (s : Shared) (H : Hp) (C : Addr) (cl : List (Str × Addr)) (fp : List Addr), PV (X.blk s H scope (compEnvC scope cl C X.env) fp) fa W0 elt e) (hs : ∀ x, foldedSetIterable iter X.env x = pure x := by intro _; rfl) :
    PF X fa W (.ListComp elt [⟨tg, iter, ifs, 0⟩] scope pos) (lcM (own.map (·.2)) f t c e) :=
  PE.imp (pe_lc hc hN hi ok (fun s H C cl fp => (hg s H C cl fp).pg) ht he hs) fun _ _ _ q => tF_lc hS tok q
/-- a name gets a fresh list -/
def setOwn (i : Nat) (f : M (List D)) : M Ctl := fun r => (f r).bind fun ds r1 => match r1[i]? with
  | some (.deep _) => .bad
  | some _ => .ok .nx (r1.set i (.own (.list ds)))
  | none => .bad
theorem tSetF {K : PySem.W.Frag} {i : Nat} {f : M (List D)} {Dn : Ends} {σ : L2.St} {H : Hp} (h : tS K fa W (setOwn i f) Dn σ H) : tF K fa W f σ H fun x H1 => gName i x σ H1 Dn.nx := by
  obtain ⟨F, B, O, r, R, h⟩ := h
  refine ⟨F, B, O, r, R, ?_⟩
  unfold setOwn at h
  cases e : f r with
  | bad => rw [e] at h; exact h
  | ex => rw [e] at h; exact h
  | ok ds r' =>
    rw [e, Res.ok_bind] at h
    intro O' a xs H' n R' E' ea x
    have main : ∀ s, r'[i]? = some s → (∀ d, s ≠ .deep d) → Aft K fa W F B O H (.ok Ctl.nx (r'.set i (.own (.list ds)))) (fun c r' O' σ' H' => CtlQ K F B Dn O' σ' H' c) → Dn.nx (σ.set i (some (.ref a))) H' := by
      intro s es nd q
      obtain ⟨O2, R2, sub⟩ := R'.putNew es nd (fun z => R.bt a z n) (R.new0 n) (s' := .own (.list ds)) (o' := some (.ref a)) fun O2 sub => .own ea (x.ban fun b z => z.elim (fun z => .inl (.inl z)) fun z => (sub b z).elim (fun z => .inl (.inr z)) .inr)
      refine q O2 _ H' R2 ⟨E'.kp, fun b m => ?_, E'.th⟩
      rcases sub b m with z | z
      · subst z; exact .inr n
      · exact E'.nw b z
    cases es : r'[i]? with
    | none => simp only [es] at h; exact False.elim h
    | some s =>
      cases s with
      | deep d => simp only [es] at h; exact False.elim h
      | emp => simp only [es] at h; exact main _ es (fun _ z => nomatch z) h
      | fz d => simp only [es] at h; exact main _ es (fun _ z => nomatch z) h
      | own d => simp only [es] at h; exact main _ es (fun _ z => nomatch z) h
      | fn j => simp only [es] at h; exact main _ es (fun _ z => nomatch z) h
theorem g_setF (i : Nat) {a : Expr} {x : Str} {pos' : Pos} (hN : X.N.Nodup) (h : PF X fa W a f) (hi : X.N[i]? = some x := by rfl) (hx : Loc X.env.scope x := by first | exact Or.inl rfl | exact Or.inr rfl) (hs : swapsWith a (some (.Name x pos')) pos.line X.env = pure false := by rfl)
    (hf : X.fn x = true ∨ X.env.scope.names.lookup x = some .local := by first | exact .inl rfl | exact .inr rfl | assumption) : PG1 X fa W (.Assign [.Name x pos'] a pos) (setOwn i f) :=
  PS.imp (ps_set hN hi hx h hs hf) fun Dn σ H h => tSetF h
/-- y = [.. for ..] -/
theorem g_setLcF (i : Nat) {y : Str} {py spos : Pos} (hc : X.calm = true) (hN : X.N.Nodup) (hsw : swapsWith (.ListComp elt [⟨tg, iter, ifs, 0⟩] scope pos) (some (.Name y py)) spos.line X.env = pure true) (hi : PIt X fa W tg iter f) (ok : BlkOk X.N X.env.scope scope own) (hS : ∀ i ∈ S, i ∈ own.map (·.2)) (tok : TgOk t)
    (hg : ∀ (s : Shared) (H : Hp) (C : Addr) (cl : List (Str × Addr)) (fp : List Addr), PT1 (X.blk s H scope (compEnvC scope cl C X.env) fp) fa S tg t)
    (ht : ∀ (s : Shared) (H : Hp) (C : Addr) (cl : List (Str × Addr)) (fp : List Addr), PTs (X.blk s H scope (compEnvC scope cl C X.env) fp) ifs (tM X.K fa W0 c))
    (he : ∀ (s : Shared) (H : Hp) (C : Addr) (cl : List (Str × Addr)) (fp : List Addr), PV (X.blk s H scope (compEnvC scope cl C X.env) fp) fa W0 elt e) (hy : X.N[i]? = some y := by rfl) (hyl : X.env.scope.names.lookup y = some .local := by rfl) (hs : ∀ x, foldedSetIterable iter X.env x = pure x := by intro _; rfl) :
    PG1 X fa W (.Assign [.Name y py] (.ListComp elt [⟨tg, iter, ifs, 0⟩] scope pos) spos) (setOwn i (lcM (own.map (·.2)) f t c e)) :=
  PS.imp (ps_setLc hc hN hy hyl hsw hi ok (fun s H C cl fp => (hg s H C cl fp).pg) ht he hs) fun Dn σ H h => tF_lc hS tok (tSetF h)
end
end DL

namespace DL
open PySem PySem.Spec PyProof.Rows L2

/-! ### defs: what they are as functions of slots -/
abbrev Fn := List Sl → Res D
abbrev XV := Hp → Nat → List D → Value → Option Addr → Prop
def isDeep : Sl → Bool
  | .deep _ => true
  | _ => false
/-- what is left of the lent objects -/
def Back (K : PySem.W.Frag) (fa : Nat → Addr) (H' : Hp) (B : Addr → Prop) (I' : List Addr) (sls sls' : List Sl) (vs : List V) : Prop :=
  ∀ (p : Nat) (d : D), sls[p]? = some (.deep d) → ∃ d' as v, sls'[p]? = some (.deep d') ∧ vs[p]? = some v ∧ SlV K fa H' (Bn B I') (.deep d') (some v) as ∧ as.Sublist I'
def spF (K : PySem.W.Frag) (fa : Nat → Addr) (xv : XV) (n : Nat) (G : Fn) : Sp := fun vs H Q E => vs.length = n ∧ ∃ (B : Addr → Prop) (sls : List Sl) (I : List Addr),
  SlVs K fa H (Bn B I) sls (vs.map some) I ∧ I.Nodup ∧ (∀ a ∈ I, ¬ B a) ∧ Trk B H ∧ match G sls with
  | .ok d sls' => ∀ v H' I', Ext I H I' H' → I'.Nodup → (∀ a ∈ I', ¬ B a) → Back K fa H' B I' sls sls' vs → DV K H' (Bn B I') v d → Q v H'
  | .ex c ds _ => ∀ H' I', Ext I H I' H' → ∀ cls dct, xv H' c ds cls dct → E cls dct H'
  | .bad => False
structure FnG (P : Program) (w : World) (K : PySem.W.Frag) (mg : Str → Option Value) (base : Heap) (CX : CXT) (k : Nat) (f : Addr) (fd : FuncData) (ps : List Str) (sp : Sp) : Prop where
  len : ∀ vs H Q E, sp vs H Q E → vs.length = ps.length
  run : ∀ (A : Around) (outer : List Env) (s : Shared) (H : Hp) (args : Args) (us : List Value) (vs : List V) (Q : VK) (E : XK), Room k A → A.guards = some [] → Env0 P w K mg base A outer s H → BindsTo s fd args (ps.zip us) →
    Vals vs us → sp vs H Q E → codeAny (model P w) A (.call (.ref f) args) (CR CX outer P w H s Q E) s
section
variable {P : Program} {w : World} {K : PySem.W.Frag} {mg : Str → Option Value} {base : Heap} {CX : CXT} {j k : Nat} {f : Addr} {fd : FuncData} {ps : List Str} {sp sp' : Sp}
theorem FnG.mono (F : FnG P w K mg base CX j f fd ps sp) (h : j ≤ k) : FnG P w K mg base CX k f fd ps sp :=
  ⟨F.len, fun A outer s H args us vs Q E hr => F.run A outer s H args us vs Q E (hr.mono h)⟩
theorem FnG.imp (F : FnG P w K mg base CX k f fd ps sp) (h : ∀ vs H Q E, sp' vs H Q E → sp vs H Q E) : FnG P w K mg base CX k f fd ps sp' :=
  ⟨fun vs H Q E q => F.len vs H Q E (h _ _ _ _ q), fun A outer s H args us vs Q E hr hg he hb hv hs => F.run A outer s H args us vs Q E hr hg he hb hv (h _ _ _ _ hs)⟩
/-- a def of the text by its body -/
theorem fnG_of {name qual : Str} {params : Arguments} {body : List Stmt} {scope : Scope} {dV kV doc pm cdv ct oc : Value} {an od : Option Addr} {osl : Array (Option Value)} {N : List Str}
    (lk : K.lookup f = some ⟨oc, od, .func (PySem.W.fnOf name qual params body scope dV kV doc pm an cdv ct), osl⟩) (hcd : PySem.W.codeIn K cdv qual = true) (S : FnScope N ps scope) (len : ∀ vs H Q E, sp vs H Q E → vs.length = ps.length)
    (hbody : ∀ (A : Around) (outer : List Env) (s : Shared) (H : Hp) (vs : List V) (Q : VK) (E : XK), Room k (A.deeper (envOfC qual scope s.heap.objs.size f cdv)) → (A.deeper (envOfC qual scope s.heap.objs.size f cdv)).guards = some [] → sp vs H Q E →
      ∃ t, L2.PSs (cxOf CX P w K mg base N qual scope f cdv A outer s H E) body t ∧ t { nx := fun _ H' => Q .non H', rt := Q } (L2.start N vs) H) :
    FnG P w K mg base CX (k + 1) f (PySem.W.fnOf name qual params body scope dV kV doc pm an cdv ct) ps sp := by
  refine ⟨len, fun A outer s H args us vs Q E hr hgd env0 hbnd hvals hsp => ?_⟩
  have hlen := len vs H Q E hsp
  have hK : K.In s.heap := env0.mod.kin.keeps fun b o e => (env0.bs b o e).1
  have hlim : s.heap.NoLimit := env0.mod.nolimit.keeps fun b o e => (env0.bs b o e).1
  have kinds : ∀ y ∈ ps.zip us, scope.names.lookup y.1 = some .local ∨
      (scope.names.lookup y.1 = some .cell ∧ ((cellsFrom (s.heap.objs.size + 1) scope.names []).lookup y.1).isSome = true) := by
    rintro ⟨n, v⟩ hy
    rcases S.par n (List.of_mem_zip hy).1 with q | q
    · exact .inl q
    · exact .inr ⟨q, PySem.W.cellsFrom_some _ _ _ (.inl q)⟩
  refine codeAny_call_function hr.depth (hK _ _ lk) rfl S.co S.gen rfl (PySem.W.codeRec_of hK hcd) (hbnd _ _ _ _ ?_)
  refine wpAny_newFunctionEnv_cells S.kind kinds fun env he s1 x => ?_
  subst he
  refine ⟨hlim.keeps x.toInCall.keep, codeAny_func ?_⟩
  obtain ⟨t, ht, hq⟩ := hbody A outer s H vs Q E (hr.deeper _) hgd hsp
  have I0 := inv_start (CX := CX) (E := E) S hr.hd env0 hlen hvals x
  refine wpAny_mono (ht.run [] s1 (L2.start N vs) H _ I0 hq) (fun fl s2 h2 => ?_) fun e s2 h2 => h2
  cases fl with
  | ret u =>
    obtain ⟨v, σ2, H2, J, rv, q⟩ := h2
    exact ⟨v, H2, J.os, J.bare, J.base, J.hok, rv, q⟩
  | next =>
    obtain ⟨σ2, H2, J, q⟩ := h2
    exact ⟨.non, H2, J.os, J.bare, J.base, J.hok, rfl, q⟩
  | brk =>
    obtain ⟨_, _, _, q⟩ := h2
    exact False.elim q
  | cont =>
    obtain ⟨_, _, _, q⟩ := h2
    exact False.elim q
end

/-! ### the slots at the entry -/
section
variable {K : PySem.W.Frag} {fa : Nat → Addr} {H : Hp} {B : Addr → Prop}
theorem SlVs.emps : ∀ n : Nat, SlVs K fa H B (List.replicate n .emp) (List.replicate n none) []
  | 0 => .nil
  | n + 1 => SlVs.cons (.emp none) (SlVs.emps n)
theorem SlVs.append : ∀ {r r' : Rho} {σ σ' : L2.St} {as bs : List Addr}, SlVs K fa H B r σ as → SlVs K fa H B r' σ' bs → SlVs K fa H B (r ++ r') (σ ++ σ') (as ++ bs)
  | _, _, _, _, _, _, .nil, y => y
  | _, _, _, _, _, _, .cons x t, y => by
    have w := SlVs.cons x (SlVs.append t y)
    simpa using w
theorem SlV.ref {d : D} {o : Option V} {as : List Addr} (x : SlV K fa H B (.deep d) o as) : ∃ a, o = some (.ref a) := by
  cases x
  exact ⟨_, rfl⟩
end
def lent (sls : List Sl) (vs : List V) : List (Nat × Addr) := (List.range sls.length).filterMap fun (p : Nat) => match sls[p]?, vs[p]? with
  | some (Sl.deep _), some (V.ref a) => some (p, a)
  | _, _ => none
def inRho (n : Nat) (sls : List Sl) : Rho := sls ++ List.replicate (n - sls.length) .emp
/-- a body as a function of slots -/
def bodyF (n : Nat) (g : M Ctl) : Fn := fun sls => match g (inRho n sls) with
  | .ok .nx r => .ok .none r
  | .ok (.rt d) r => .ok d r
  | .ok _ _ => .bad
  | .ex c ds r => .ex c ds r
  | .bad => .bad
theorem rl_start {K : PySem.W.Frag} {fa : Nat → Addr} {H : Hp} {B : Addr → Prop} {sls : List Sl} {vs : List V} {I : List Addr} {N : List Str} (x : SlVs K fa H (Bn B I) sls (vs.map some) I) (nd : I.Nodup) (nb : ∀ a ∈ I, ¬ B a) (tb : Trk B H) :
    RL K fa ⟨H, I, lent sls vs⟩ B I (inRho N.length sls) (L2.start N vs) H := by
  have hl := x.length
  rw [List.length_map] at hl
  refine ⟨?_, nd, fun a o e _ => e, fun a n => n, fun a m => ⟨nb a m, .inl m⟩, tb, fun p hp => ?_⟩
  · unfold inRho L2.start
    rw [hl]
    have w := x.append (SlVs.emps (K := K) (fa := fa) (H := H) (B := Bn B I) (N.length - vs.length))
    rw [List.append_nil] at w
    exact w
  · obtain ⟨i, hi, e⟩ := List.mem_filterMap.mp hp
    have hi' : i < sls.length := List.mem_range.mp hi
    have hv : i < vs.length := by omega
    split at e
    · rename_i d a e1 e2
      cases e
      refine ⟨?_, d, ?_⟩
      · unfold L2.start
        rw [List.getElem?_append_left (by rw [List.length_map]; exact hv), List.getElem?_map, e2]
        rfl
      · unfold inRho
        rw [List.getElem?_append_left hi']
        exact e1
    · cases e
theorem back_of {K : PySem.W.Frag} {fa : Nat → Addr} {H H' : Hp} {B : Addr → Prop} {sls : List Sl} {vs : List V} {I O' : List Addr} {r' : Rho} {σ' : L2.St} (x : SlVs K fa H (Bn B I) sls (vs.map some) I) (R : RL K fa ⟨H, I, lent sls vs⟩ B O' r' σ' H') :
    Back K fa H' B O' sls r' vs := by
  intro p d e
  obtain ⟨o, as, l1, l2, h1, h2, h3, _⟩ := x.at e
  obtain ⟨a, rfl⟩ := h2.ref
  have hv : vs[p]? = some (.ref a) := by
    rw [List.getElem?_map] at h1
    cases q : vs[p]? with
    | none => rw [q] at h1; cases h1
    | some v => rw [q] at h1; cases h1; rfl
  have hm : (p, a) ∈ lent sls vs := by
    refine List.mem_filterMap.mpr ⟨p, List.mem_range.mpr (List.getElem?_eq_some_iff.mp e).1, ?_⟩
    rw [e, hv]
  obtain ⟨q1, d', q2⟩ := R.io _ hm
  obtain ⟨o', as', l1', l2', k1, k2, k3, _⟩ := R.sl.at q2
  have k1' : σ'[p]? = some o' := k1
  rw [q1] at k1'
  cases k1'
  refine ⟨d', as', .ref a, q2, hv, k2, ?_⟩
  rw [k3]
  exact List.Sublist.trans (List.sublist_append_left as' l2') (List.sublist_append_right l1' _)

section
variable {P : Program} {w : World} {K : PySem.W.Frag} {mg : Str → Option Value} {base : Heap} {CX : CXT} {k : Nat} {f : Addr} {fd : FuncData} {ps N : List Str} {fa : Nat → Addr} {xv : XV} {x qual : Str} {st : Stmt}
/-- what a body wants of what it raises -/
def wOf (xv : XV) (E : XK) : Wi := fun c ds H' => ∀ cls dct, xv H' c ds cls dct → E cls dct H'
theorem body_run {X : Cx} {body : List Stmt} {g : M Ctl} {vs : List V} {H : Hp} {Q : VK} {E : XK} {n : Nat} (hg : PGs X fa (wOf xv E) body g) (h : spF X.K fa xv n (bodyF X.N.length g) vs H Q E) :
    ∃ t, L2.PSs X body t ∧ t { nx := fun _ H' => Q .non H', rt := Q } (L2.start X.N vs) H := by
  obtain ⟨hn, B, sls, I, hx, nd, nb, tb, h⟩ := h
  refine ⟨_, hg, ⟨H, I, lent sls vs⟩, B, I, _, rl_start (N := X.N) hx nd nb tb, ?_⟩
  unfold bodyF at h
  cases e : g (inRho X.N.length sls) with
  | bad => rw [e] at h; exact h
  | ex c ds r' =>
    rw [e] at h
    exact fun O' σ' H' R' E' => h H' O' E'
  | ok c r' =>
    rw [e] at h
    intro O' σ' H' R' E'
    cases c with
    | nx => exact h .non H' O' E' R'.nd (fun a m => (R'.ow a m).1) (back_of hx R') .non
    | rt d => exact fun v xd => h v H' O' E' R'.nd (fun a m => (R'.ow a m).1) (back_of hx R') xd
    | bk => exact h
    | ct => exact h
theorem fn_body (Fd : Fun K x qual st f fd) (S : FnScope N ps (defScope st)) {g : M Ctl}
    (hb : ∀ (cdv : Value) (A : Around) (outer : List Env) (s : Shared) (H : Hp) (E : XK), Room k (A.deeper (envOfC qual (defScope st) s.heap.objs.size f cdv)) → (A.deeper (envOfC qual (defScope st) s.heap.objs.size f cdv)).guards = some [] →
      PGs (cxOf CX P w K mg base N qual (defScope st) f cdv A outer s H E) fa (wOf xv E) (defBody st) g) :
    FnG P w K mg base CX (k + 1) f fd ps (spF K fa xv ps.length (bodyF N.length g)) := by
  obtain ⟨oc, od, kV, doc, pm, an, cdv, ct, osl, rfl, lk, hcd⟩ := Fd.ex
  refine fnG_of lk hcd S (fun vs H Q E h => h.1) fun A outer s H vs Q E hr hgd hsp => ?_
  exact body_run (X := cxOf CX P w K mg base N qual (defScope st) f cdv A outer s H E) (hb cdv A outer s H E hr hgd) hsp
/-- .. where nothing is raised -/
def bodyF0 (n : Nat) (g : M Ctl) : Fn := fun sls => match g (inRho n sls) with
  | .ok .nx r => .ok .none r
  | .ok (.rt d) r => .ok d r
  | _ => .bad
theorem body_run0 {X : Cx} {body : List Stmt} {g : M Ctl} {vs : List V} {H : Hp} {Q : VK} {E : XK} {n : Nat} (hg : PGs X.nox fa W0 body g) (h : spF X.K fa xv n (bodyF0 X.N.length g) vs H Q E) :
    ∃ t, L2.PSs X body t ∧ t { nx := fun _ H' => Q .non H', rt := Q } (L2.start X.N vs) H := by
  obtain ⟨hn, B, sls, I, hx, nd, nb, tb, h⟩ := h
  refine ⟨_, L2.PSs.nox hg, ⟨H, I, lent sls vs⟩, B, I, _, rl_start (N := X.N) hx nd nb tb, ?_⟩
  unfold bodyF0 at h
  cases e : g (inRho X.N.length sls) with
  | bad => rw [e] at h; exact h
  | ex c ds r' => rw [e] at h; exact False.elim h
  | ok c r' =>
    rw [e] at h
    intro O' σ' H' R' E'
    cases c with
    | nx => exact h .non H' O' E' R'.nd (fun a m => (R'.ow a m).1) (back_of hx R') .non
    | rt d => exact fun v xd => h v H' O' E' R'.nd (fun a m => (R'.ow a m).1) (back_of hx R') xd
    | bk => exact h
    | ct => exact h
theorem fn_body0 (Fd : Fun K x qual st f fd) (S : FnScope N ps (defScope st)) {g : M Ctl}
    (hb : ∀ (cdv : Value) (A : Around) (outer : List Env) (s : Shared) (H : Hp) (E : XK), Room k (A.deeper (envOfC qual (defScope st) s.heap.objs.size f cdv)) → (A.deeper (envOfC qual (defScope st) s.heap.objs.size f cdv)).guards = some [] →
      PGs (cxOf CX P w K mg base N qual (defScope st) f cdv A outer s H E).nox fa W0 (defBody st) g) :
    FnG P w K mg base CX (k + 1) f fd ps (spF K fa xv ps.length (bodyF0 N.length g)) := by
  obtain ⟨oc, od, kV, doc, pm, an, cdv, ct, osl, rfl, lk, hcd⟩ := Fd.ex
  refine fnG_of lk hcd S (fun vs H Q E h => h.1) fun A outer s H vs Q E hr hgd hsp => ?_
  exact body_run0 (X := cxOf CX P w K mg base N qual (defScope st) f cdv A outer s H E) (hb cdv A outer s H E hr hgd) hsp
/-- another function that is the same where it says something -/
def Le (G G' : Fn) : Prop := ∀ sls : List Sl, (∀ (d : D) (r : Rho), G sls = Res.ok d r → ∃ r', G' sls = Res.ok d r' ∧ ∀ (p : Nat) (d' : D), sls[p]? = some (Sl.deep d') → r'[p]? = r[p]?) ∧ ∀ (c : Nat) (ds : List D) (r : Rho), G sls = Res.ex c ds r → ∃ r', G' sls = Res.ex c ds r'
theorem spF_le {n : Nat} {G G' : Fn} (h : Le G G') (vs : List V) (H : Hp) (Q : VK) (E : XK) (q : spF K fa xv n G vs H Q E) : spF K fa xv n G' vs H Q E := by
  obtain ⟨hn, B, sls, I, hx, nd, nb, tb, q⟩ := q
  refine ⟨hn, B, sls, I, hx, nd, nb, tb, ?_⟩
  obtain ⟨l1, l2⟩ := h sls
  cases e : G sls with
  | bad => rw [e] at q; exact False.elim q
  | ex c ds r =>
    rw [e] at q
    obtain ⟨r', e'⟩ := l2 c ds r e
    rw [e']
    exact q
  | ok d r =>
    rw [e] at q
    obtain ⟨r', e', hp⟩ := l1 d r e
    rw [e']
    intro v H' I' a1 a2 a3 bk xd
    refine q v H' I' a1 a2 a3 (fun p d' hd => ?_) xd
    obtain ⟨d2, as, v2, b1, b2⟩ := bk p d' hd
    exact ⟨d2, as, v2, by rw [← hp p d' hd]; exact b1, b2⟩
theorem FnG.le {n : Nat} {G G' : Fn} (F : FnG P w K mg base CX k f fd ps (spF K fa xv n G')) (h : Le G G') : FnG P w K mg base CX k f fd ps (spF K fa xv n G) := F.imp (spF_le h)
end

/-! ### calls of defs -/
inductive AS where
  | val (f : M D)
  | ref (i : Nat)
  | fn (j : Nat)
def evA : List AS → M (List Sl)
  | [] => fun r => .ok [] r
  | .val f :: as => fun r => (f r).bind fun d r1 => (evA as r1).bind fun s r2 => .ok (.fz d :: s) r2
  | .ref i :: as => fun r => match r[i]? with
    | some (.deep _) => (evA as r).bind fun s r2 => .ok (.emp :: s) r2
    | _ => .bad
  | .fn j :: as => fun r => (evA as r).bind fun s r2 => .ok (.fn j :: s) r2
/-- where the lent slot is: its place among the arguments, its slot -/
def refs : Nat → List AS → List (Nat × Nat)
  | _, [] => []
  | p, .ref i :: as => (p, i) :: refs (p + 1) as
  | p, _ :: as => refs (p + 1) as
def callM (G : Fn) (as : List AS) : M D := fun r => (evA as r).bind fun sls r1 => match refs 0 as with
  | [] => match G sls with
    | .ok d _ => .ok d r1
    | .ex c ds _ => .ex c ds r1
    | .bad => .bad
  | [(p, i)] => match r1[i]? with
    | some (.deep d0) => match G (sls.set p (.deep d0)) with
      | .ok d sls' => match sls'[p]? with
        | some (.deep d1) => .ok d (r1.set i (.deep d1))
        | _ => .bad
      | _ => .bad
    | _ => .bad
  | _ => .bad
inductive ArgV (K : PySem.W.Frag) (fa : Nat → Addr) (H : Hp) (B : Addr → Prop) (σ : L2.St) : List AS → List Sl → List V → Prop
  | nil : ArgV K fa H B σ [] [] []
  | val {f : M D} {d : D} {v : V} {as : List AS} {sls : List Sl} {vs : List V} : DV K H B v d → ArgV K fa H B σ as sls vs → ArgV K fa H B σ (.val f :: as) (.fz d :: sls) (v :: vs)
  | ref {i : Nat} {v : V} {as : List AS} {sls : List Sl} {vs : List V} : σ[i]? = some (some v) → ArgV K fa H B σ as sls vs → ArgV K fa H B σ (.ref i :: as) (.emp :: sls) (v :: vs)
  | fn {j : Nat} {as : List AS} {sls : List Sl} {vs : List V} : ArgV K fa H B σ as sls vs → ArgV K fa H B σ (.fn j :: as) (.fn j :: sls) (.ref (fa j) :: vs)
def tAs (K : PySem.W.Frag) (fa : Nat → Addr) (W : Wi) (as : List AS) : TA := fun σ H Q => ∃ F B O r, RL K fa F B O r σ H ∧ Aft K fa W F B O H (evA as r) fun sls r' O' σ' H' => σ' = σ → ∀ vs, ArgV K fa H' (Bn B O') σ as sls vs → Q vs H'
abbrev PAs (X : Cx) (fa : Nat → Addr) (W : Wi) (es : List Expr) (as : List AS) : Prop := PA X es (tAs X.K fa W as)
section
variable {X : Cx} {fa : Nat → Addr} {W : Wi}
theorem as_nil : PAs X fa W [] [] := PA.imp pa_nil fun σ H Q ⟨F, B, O, r, R, q⟩ => q O σ H R Ext.refl rfl [] .nil
theorem as_val {e : Expr} {es : List Expr} {f : M D} {as : List AS} (ha : PV X fa W e f) (hb : PAs X fa W es as) (hs : starEach (e :: es) X.env = (false, eval e X.env) :: starEach es X.env := by rfl) : PAs X fa W (e :: es) (.val f :: as) := by
  refine PA.imp (pa_cons ha hb hs) fun σ H Q ⟨F, B, O, r, R, h⟩ => ?_
  refine ⟨F, B, O, r, R, (Aft.bind h).mono fun x r1 O1 σ1 H1 _ R1 e1 ⟨_, _, h1⟩ es v1 x1 => ?_⟩
  subst es
  refine ⟨F, B, O1, r1, R1, (Aft.bind h1).mono fun y r2 O2 σ2 H2 _ R2 e2 ⟨_, _, h2⟩ es v2 x2 => ?_⟩
  subst es
  exact h2 O2 _ H2 R2 Ext.refl rfl _ (.val (x1.ext e2) x2)
theorem as_ref (i : Nat) {x : Str} {p : Pos} {es : List Expr} {as : List AS} (hb : PAs X fa W es as) (hN : X.N[i]? = some x := by rfl) (hv : Vis X.env.scope x := by first | exact Or.inl rfl | exact Or.inr (Or.inl rfl) | exact Or.inr (Or.inr rfl)) (hd : (x == ("__debug__" : Str)) = false := by decide)
    (hcd : (x == ("__classdict__" : Str)) = false := by decide) (hs : starEach (.Name x p :: es) X.env = (false, eval (.Name x p) X.env) :: starEach es X.env := by rfl) : PAs X fa W (.Name x p :: es) (.ref i :: as) := by
  refine PA.imp (pa_cons (pe_var hN hv hd hcd) hb hs) fun σ H Q ⟨F, B, O, r, R, h⟩ => ?_
  cases e : r[i]? with
  | none => simp only [evA, e] at h; exact False.elim h
  | some s =>
    cases s with
    | deep d =>
      simp only [evA, e] at h
      obtain ⟨o, as', l1, l2, h1, h2, _⟩ := R.sl.at e
      obtain ⟨a, rfl⟩ := h2.ref
      refine ⟨_, h1, F, B, O, r, R, (Aft.bind h).mono fun y r2 O2 σ2 H2 _ R2 e2 ⟨_, _, h2⟩ es v2 x2 => ?_⟩
      subst es
      exact h2 O2 _ H2 R2 Ext.refl rfl _ (.ref h1 x2)
    | emp => simp only [evA, e] at h; exact False.elim h
    | fz => simp only [evA, e] at h; exact False.elim h
    | own => simp only [evA, e] at h; exact False.elim h
    | fn => simp only [evA, e] at h; exact False.elim h
theorem as_fn (j : Nat) {e : Expr} {es : List Expr} {as : List AS} (he : PE X e (tC (.ref (fa j)))) (hb : PAs X fa W es as) (hs : starEach (e :: es) X.env = (false, eval e X.env) :: starEach es X.env := by rfl) : PAs X fa W (e :: es) (.fn j :: as) := by
  refine PA.imp (pa_cons he hb hs) fun σ H Q ⟨F, B, O, r, R, h⟩ => ?_
  refine ⟨F, B, O, r, R, (Aft.bind h).mono fun y r2 O2 σ2 H2 _ R2 e2 ⟨_, _, h2⟩ es v2 x2 => ?_⟩
  subst es
  exact h2 O2 _ H2 R2 Ext.refl rfl _ (.fn x2)
/-- a parameter that holds a def, handed on -/
theorem ArgV.light {K : PySem.W.Frag} {H : Hp} {B : Addr → Prop} {σ : L2.St} : ∀ {as : List AS} {sls : List Sl} {vs : List V} (p : Nat), ArgV K fa H B σ as sls vs → refs p as = [] → SlVs K fa H B sls (vs.map some) []
  | _, _, _, _, .nil, _ => .nil
  | _, _, _, p, .val x t, h => SlVs.cons (.fz x) (ArgV.light (p + 1) t (by simpa [refs] using h))
  | _, _, _, p, .ref _ t, h => by simp [refs] at h
  | _, _, _, p, .fn t, h => SlVs.cons (.fn _) (ArgV.light (p + 1) t (by simpa [refs] using h))
/-- one slot is lent -/
theorem ArgV.one {K : PySem.W.Frag} {H : Hp} {B : Addr → Prop} {σ : L2.St} {q i : Nat} {d : D} {v0 : V} {ls : List Addr} (e0 : σ[i]? = some (some v0)) (x0 : SlV K fa H B (.deep d) (some v0) ls) :
    ∀ {as : List AS} {sls : List Sl} {vs : List V} (p : Nat), ArgV K fa H B σ as sls vs → refs p as = [(q, i)] → p ≤ q ∧ SlVs K fa H B (sls.set (q - p) (.deep d)) (vs.map some) ls ∧ sls[q - p]? = some .emp ∧ vs[q - p]? = some v0
  | _, _, _, _, .nil, h => by simp [refs] at h
  | _, _, _, p, .val (vs := vs) x t, h => by
    obtain ⟨h1, h2, h3, h4⟩ := ArgV.one e0 x0 (p + 1) t (by simpa [refs] using h)
    have e : q - p = (q - (p + 1)) + 1 := by omega
    refine ⟨by omega, ?_, by rw [e]; exact h3, by rw [e]; exact h4⟩
    rw [e]
    exact SlVs.cons (as := []) (.fz x) h2
  | _, _, _, p, .fn t, h => by
    obtain ⟨h1, h2, h3, h4⟩ := ArgV.one e0 x0 (p + 1) t (by simpa [refs] using h)
    have e : q - p = (q - (p + 1)) + 1 := by omega
    refine ⟨by omega, ?_, by rw [e]; exact h3, by rw [e]; exact h4⟩
    rw [e]
    exact SlVs.cons (as := []) (.fn _) h2
  | _, _, _, p, .ref (i := i') ev t, h => by
    simp only [refs, List.cons.injEq, Prod.mk.injEq] at h
    obtain ⟨⟨rfl, rfl⟩, h2⟩ := h
    rw [e0] at ev
    cases ev
    rw [Nat.sub_self]
    have w := SlVs.cons x0 (ArgV.light (p + 1) t h2)
    rw [List.append_nil] at w
    exact ⟨Nat.le_refl _, w, rfl, rfl⟩
end
/-! ### the call -/
section
variable {X : Cx} {fa : Nat → Addr} {W : Wi} {xv : XV} {CX : CXT} {k n : Nat} {f : Addr} {fd : FuncData} {ps : List Str} {sp : Sp} {G : Fn} {E : XK} {x : Str} {p pos : Pos} {e : Expr} {es : List Expr} {as : List AS}
theorem after_call {pins : List (Addr × Obj)} {σ : L2.St} {H : Hp} {s s' : Shared} {Q : VK} {r : Result} (hx : Passes CX X E) (I : Inv X pins σ H s) (h : CR CX X.stack X.prog X.w H s Q E r s') :
    match r with
    | .ok (.ret u) => EP X pins σ Q u s'
    | .ok _ => False
    | .error e => X.xe e s' := by
  cases r with
  | error e => exact hx pins σ H s e s' I h
  | ok fl =>
    cases fl with
    | ret u => exact I.after h
    | _ => exact False.elim h
theorem run_fnG {pins : List (Addr × Obj)} {σ : L2.St} {H : Hp} {s : Shared} {Q : VK} {us : List Value} {vs : List V} (F : FnG X.prog X.w X.K X.mg X.base CX k f fd ps sp) (hr : Room k X.A) (hgd : X.A.guards = some []) (hb : Binds X.K fd ps []) (hx : Passes CX X E)
    (I : Inv X pins σ H s) (r : Vals vs us) (h : sp vs H Q E) : wpAny (model X.prog X.w) X.A (call (.ref f) us) (EP X pins σ Q) X.xe s := by
  have hl : (us ++ []).length = ps.length := by
    rw [List.append_nil, ← r.length]
    exact F.len _ _ _ _ h
  have hbt := hb s us I.kIn hl
  rw [List.append_nil] at hbt
  refine wpAny_call (codeAny_mono (F.run X.A X.stack s H ⟨us, []⟩ us vs Q E hr hgd I.env0 hbt r h) fun r s' hq => ?_)
  have w := after_call hx I hq
  cases r with
  | error e => exact w
  | ok fl =>
    cases fl with
    | ret u => exact w
    | _ => exact False.elim w
theorem pe_callG {t : TA} (F : FnG X.prog X.w X.K X.mg X.base CX k f fd ps sp) (hr : Room k X.A) (hgd : X.A.guards = some []) (hg : Gl X x) (hm : X.mg x = some (.ref f)) (hk : PySem.W.keepIn X.K (.ref f) = true) (hb : Binds X.K fd ps []) (hx : Passes CX X E) (ha : PA X (e :: es) t)
    (hdb : (x == ("__debug__" : Str)) = false := by decide) (he : starEach (e :: es) X.env = (false, eval e X.env) :: starEach es X.env := by rfl) (hpl : (backTo pos (starEach es X.env)).any (·.1) = false := by rfl) :
    PE X (.Call (.Name x p) (e :: es) [] pos) (tCall sp [] E t) := by
  refine ⟨fun pins s σ H Q I h => wpAny_Call_Name_kw (ld_glob I hg hm ?_ hdb)⟩
  refine PySem.W.callWith_K (h₀ := X.base) I.ok.mod.kin hk (thn (ha.run pos pins s σ H _ I h) fun us s1 ⟨vs, H1, I1, r, q⟩ => ⟨I1.kIn, ?_⟩) he hpl
  have q' : sp (vs ++ []) H1 Q E := q
  rw [List.append_nil] at q'
  exact run_fnG F hr hgd hb hx I1 r q'
theorem pe_callG0 (F : FnG X.prog X.w X.K X.mg X.base CX k f fd ps sp) (hr : Room k X.A) (hgd : X.A.guards = some []) (hg : Gl X x) (hm : X.mg x = some (.ref f)) (hk : PySem.W.keepIn X.K (.ref f) = true) (hb : Binds X.K fd ps []) (hx : Passes CX X E)
    (hdb : (x == ("__debug__" : Str)) = false := by decide) : PE X (.Call (.Name x p) [] [] pos) (tCall sp [] E tNil) := by
  refine ⟨fun pins s σ H Q I h => wpAny_Call_Name_kw (ld_glob I hg hm ?_ hdb)⟩
  exact PySem.W.callWith_K0 I.kIn hk (run_fnG (us := []) (vs := []) F hr hgd hb hx I .nil h)
theorem ArgV.len {K : PySem.W.Frag} {H : Hp} {B : Addr → Prop} {σ : L2.St} : ∀ {as : List AS} {sls : List Sl} {vs : List V}, ArgV K fa H B σ as sls vs → vs.length = as.length
  | _, _, _, .nil => rfl
  | _, _, _, .val _ t => by rw [List.length_cons, List.length_cons, t.len]
  | _, _, _, .ref _ t => by rw [List.length_cons, List.length_cons, t.len]
  | _, _, _, .fn t => by rw [List.length_cons, List.length_cons, t.len]
theorem tCallV {K : PySem.W.Frag} {σ : L2.St} {H : Hp} {Q : VK} (hlen : as.length = n) (hW : ∀ c ds H', W c ds H' → ∀ cls dct, xv H' c ds cls dct → E cls dct H') (h : tV K fa W (callM G as) σ H Q) :
    tCall (spF K fa xv n G) [] E (tAs K fa W as) σ H Q := by
  obtain ⟨F, B, O, r, R, h⟩ := h
  refine ⟨F, B, O, r, R, (Aft.bind h).mono fun sls r1 O1 σ1 H1 _ R1 e1 ⟨_, _, h1⟩ es vs xa => ?_⟩
  subst es
  have lv : vs.length = n := by rw [xa.len, hlen]
  rw [List.append_nil]
  refine ⟨lv, ?_⟩
  split at h1
  · rename_i er
    have xs := xa.light 0 er
    refine ⟨Bn B O1, sls, [], SlVs.mono (fun a u q nb => ⟨q, fun z => z.elim nb fun m => by simp at m⟩) xs (fun _ _ _ q => q), List.nodup_nil, fun a m => by simp at m, R1.trk, ?_⟩
    cases eg : G sls with
    | bad => rw [eg] at h1; exact h1
    | ex c ds r' =>
      rw [eg] at h1
      intro H' I' e' cls dct hxv
      have S : Same H1 H' := fun a o q => e'.kp a o (by simp) q
      exact hW c ds H' (h1 O1 _ H' (R1.same S) (Ext.same S)) cls dct hxv
    | ok d r' =>
      rw [eg] at h1
      intro v H' I' e' nd nb bk xd
      have S : Same H1 H' := fun a o q => e'.kp a o (by simp) q
      exact h1 O1 _ H' (R1.same S) (Ext.same S) rfl v (xd.ban fun a z => .inl z)
  · rename_i q i er
    cases ei : r1[i]? with
    | none => simp only [ei] at h1; exact False.elim h1
    | some s0 =>
      cases s0 with
      | emp => simp only [ei] at h1; exact False.elim h1
      | fz => simp only [ei] at h1; exact False.elim h1
      | own => simp only [ei] at h1; exact False.elim h1
      | fn => simp only [ei] at h1; exact False.elim h1
      | deep d0 =>
        simp only [ei] at h1
        obtain ⟨o, ls, l1, l2, k1, k2, k3, k4⟩ := R1.sl.at ei
        obtain ⟨a0, rfl⟩ := k2.ref
        obtain ⟨_, xs, eemp, ev⟩ := ArgV.one k1 k2 0 xa er
        rw [Nat.sub_zero] at xs eemp ev
        have ndO := R1.nd
        rw [k3] at ndO
        have sub : ∀ a, Bn (fun a => B a ∨ a ∈ l1 ++ l2) ls a → Bn B O1 a := fun a z => by
          rw [k3]
          simp only [Bn, List.mem_append] at z ⊢
          rcases z with (z | z | z) | z
          · exact .inl z
          · exact .inr (.inl z)
          · exact .inr (.inr (.inr z))
          · exact .inr (.inr (.inl z))
        have lsO : ∀ a, a ∈ ls → a ∈ O1 := fun a m => by rw [k3]; simp [m]
        have l12O : ∀ a, a ∈ l1 ++ l2 → a ∈ O1 := fun a m => by
          rw [k3]
          simp only [List.mem_append] at m ⊢
          rcases m with m | m
          · exact .inl m
          · exact .inr (.inr m)
        have dj : ∀ a, a ∈ ls → a ∉ l1 ++ l2 := fun a m z => by
          simp only [List.mem_append, List.nodup_append] at z ndO
          rcases z with z | z
          · exact ndO.2.2 a z a (.inl m) rfl
          · exact ndO.2.1.2.2 a m a z rfl
        have ndls : ls.Nodup := ndO.sublist (List.Sublist.trans (List.sublist_append_left ls l2) (List.sublist_append_right l1 _))
        have nd12 : (l1 ++ l2).Nodup := ndO.sublist (List.Sublist.append (List.Sublist.refl l1) (List.sublist_append_right ls l2))
        refine ⟨fun a => B a ∨ a ∈ l1 ++ l2, sls.set q (.deep d0), ls, SlVs.mono (fun a u z nb => ⟨z, fun w => nb (sub a w)⟩) xs (fun _ _ _ z => z), ndls, fun a m z => z.elim (R1.ow a (lsO a m)).1 (dj a m), fun a z => R1.trk a (z.imp id (l12O a)), ?_⟩
        cases eg : G (sls.set q (.deep d0)) with
        | bad => simp only [eg] at h1; exact h1
        | ex c ds r' => simp only [eg] at h1; exact False.elim h1
        | ok d sls' =>
          simp only [eg] at h1
          intro v H' I' e' ndI nbI bk xd
          have hq : q < sls.length := (List.getElem?_eq_some_iff.mp eemp).1
          obtain ⟨d1, ls', v2, b1, b2, b3, b4⟩ := bk q d0 (by rw [List.getElem?_set_self hq])
          rw [ev] at b2
          cases b2
          simp only [b1] at h1
          have mI : ∀ a, a ∈ ls' → a ∈ I' := fun a m => b4.subset m
          -- the slots behind the call
          have keepO : ∀ a, a ∈ l1 ∨ a ∈ l2 → ∀ u, H1 a = some u → H' a = some u := fun a m u z => e'.kp a u (fun w => dj a w (List.mem_append.mpr m)) z
          have mv : Mv H1 (Bn B O1) H' (Bn B (l1 ++ (ls' ++ l2))) := fun a u z nb => by
            have nls : a ∉ ls := fun w => nb (.inr (lsO a w))
            refine ⟨?_, ?_⟩
            · rcases z with z | ⟨o', z⟩
              · exact .inl (e'.kp a _ nls z)
              · exact .inr ⟨o', e'.kp a _ nls z⟩
            · rintro (w | w)
              · exact nb (.inl w)
              · simp only [List.mem_append] at w
                rcases w with w | w | w
                · exact nb (.inr (l12O a (List.mem_append_left _ w)))
                · rcases e'.nw a (mI a w) with w2 | w2
                  · exact nls w2
                  · exact rd_some z w2
                · exact nb (.inr (l12O a (List.mem_append_right _ w)))
          have x1 : SlV K fa H' (Bn B (l1 ++ (ls' ++ l2))) (.deep d1) (some (.ref a0)) ls' := b3.mono (fun a u z nb => ⟨z, fun w => nb (by
            rcases w with w | w
            · exact .inl (.inl w)
            · simp only [List.mem_append] at w
              rcases w with w | w | w
              · exact .inl (.inr (List.mem_append_left _ w))
              · exact .inr (mI a w)
              · exact .inl (.inr (List.mem_append_right _ w)))⟩) fun _ _ _ z => z
          have Rnew := k4 H' (Bn B (l1 ++ (ls' ++ l2))) mv keepO (.deep d1) (some (.ref a0)) ls' x1
          have hset : σ1.set i (some (.ref a0)) = σ1 := by
            apply List.ext_getElem?
            intro j
            by_cases hj : j = i
            · subst hj
              rw [k1, List.getElem?_set_self (by exact (List.getElem?_eq_some_iff.mp k1).1)]
            · rw [List.getElem?_set_ne (Ne.symm hj)]
          rw [hset] at Rnew
          have inO : ∀ a, a ∈ l1 ++ (ls' ++ l2) → a ∈ O1 ∨ H1 a = none := fun a m => by
            simp only [List.mem_append] at m
            rcases m with m | m | m
            · exact .inl (l12O a (List.mem_append_left _ m))
            · exact (e'.nw a (mI a m)).imp (lsO a) id
            · exact .inl (l12O a (List.mem_append_right _ m))
          have E2 : Ext O1 H1 (l1 ++ (ls' ++ l2)) H' := ⟨fun a o m z => e'.kp a o (fun w => m (lsO a w)) z, inO, e'.th⟩
          have R2 : RL K fa F B (l1 ++ (ls' ++ l2)) (r1.set i (.deep d1)) σ1 H' := by
            refine ⟨Rnew, ?_, fun a o z n => ?_, fun a n => e'.th a (R1.fe a n), fun a m => ?_, fun a z => e'.th a (R1.bt a z), fun pp hp => ?_⟩
            · have djI : ∀ a, a ∈ ls' → a ∉ l1 ++ l2 := fun a m z => nbI a (mI a m) (.inr z)
              have nd' : ls'.Nodup := ndI.sublist b4
              rw [List.nodup_append] at nd12 ⊢
              refine ⟨nd12.1, ?_, fun a ha b hb => ?_⟩
              · rw [List.nodup_append]
                exact ⟨nd', nd12.2.1, fun a ha b hb z => djI a ha (by rw [z]; exact List.mem_append_right _ hb)⟩
              · rcases List.mem_append.mp hb with hb | hb
                · exact fun z => djI b hb (by rw [← z]; exact List.mem_append_left _ ha)
                · exact nd12.2.2 a ha b hb
            · refine e'.kp a o (fun w => ?_) (R1.fr a o z n)
              rcases (R1.ow a (lsO a w)).2 with y | y
              · exact n y
              · rw [y] at z; cases z
            · simp only [List.mem_append] at m
              rcases m with m | m | m
              · exact R1.ow a (l12O a (List.mem_append_left _ m))
              · refine ⟨fun z => nbI a (mI a m) (.inl z), ?_⟩
                rcases e'.nw a (mI a m) with y | y
                · exact (R1.ow a (lsO a y)).2
                · exact .inr (R1.new0 y)
              · exact R1.ow a (l12O a (List.mem_append_right _ m))
            · obtain ⟨q1, d', q2⟩ := R1.io pp hp
              refine ⟨q1, ?_⟩
              by_cases hi : pp.1 = i
              · rw [hi, List.getElem?_set_self (List.getElem?_eq_some_iff.mp ei).1]
                exact ⟨d1, rfl⟩
              · rw [List.getElem?_set_ne (Ne.symm hi)]
                exact ⟨d', q2⟩
          refine h1 _ _ H' R2 E2 rfl v (xd.ban fun a w => ?_)
          rcases w with w | w
          · exact .inl (.inl w)
          · simp only [List.mem_append] at w
            rcases w with w | w | w
            · exact .inl (.inr (List.mem_append_left _ w))
            · exact .inr (mI a w)
            · exact .inl (.inr (List.mem_append_right _ w))
  · exact False.elim h1
theorem pv_call (F : FnG X.prog X.w X.K X.mg X.base CX k f fd ps (spF X.K fa xv n G)) (hr : Room k X.A) (hgd : X.A.guards = some []) (hm : X.mg x = some (.ref f)) (hk : PySem.W.keepIn X.K (.ref f) = true) (hb : Binds X.K fd ps []) (hx : Passes CX X E) (hW : ∀ c ds H', W c ds H' → ∀ cls dct, xv H' c ds cls dct → E cls dct H')
    (ha : PAs X fa W (e :: es) as) (hlen : as.length = n := by rfl) (hg : Gl X x := by rfl) (hdb : (x == ("__debug__" : Str)) = false := by decide) (he : starEach (e :: es) X.env = (false, eval e X.env) :: starEach es X.env := by rfl) (hpl : (backTo pos (starEach es X.env)).any (·.1) = false := by rfl) :
    PV X fa W (.Call (.Name x p) (e :: es) [] pos) (callM G as) := PE.imp (pe_callG F hr hgd hg hm hk hb hx ha hdb he hpl) fun _ _ _ h => tCallV hlen hW h
end
end DL

namespace DL
open PySem PySem.Spec PyProof.Rows L2

/-! ### operations that hang on no heap -/
section
variable {X : Cx}
/-- the result is plain -/
theorem EP.plain {pins : List (Addr × Obj)} {σ : L2.St} {H : Hp} {s : Shared} {Q : VK} {v : V} {d : D} {u : Value} {P : (Addr → Prop) → Prop} (I : Inv X pins σ H s) (r : RelV v u) (x : ∀ B, DV X.K H B v d)
    (k : ∀ v H', Same H H' → (∀ B, Trk B H → P B → DV X.K H' B v d) → Q v H') : EP X pins σ Q u s := ⟨v, H, I, r, k v H (fun _ _ q => q) fun B _ _ => x B⟩
def intG (f : Int → Int → Option D) : D → D → Option D
  | .int i, .int j => f i j
  | _, _ => none
theorem opd_int {f : Value → Value → Sem Value} {C : Int → Int → Prop} {g : Int → Int → V} {h : Int → Int → Option D} (ho : OpR X f (rI C g)) (hc : ∀ i j d, h i j = some d → C i j) (hg : ∀ i j d, h i j = some d → ∀ H B, DV X.K H B (g i j) d) : OpD X f (intG h) := by
  intro pins s σ H x y v u Q I rx ry ⟨d, e, z, dx, dy, eg, k⟩
  cases dx with
  | int i =>
    cases dy with
    | int j =>
      refine ho pins s σ H _ _ v u Q I rx ry ⟨i, j, rfl, rfl, hc i j z eg, ?_⟩
      exact k _ H (fun _ _ q => q) fun B _ _ _ => hg i j z eg H B
    | _ => cases eg
  | _ => cases eg
theorem opd_int0 {f : Value → Value → Sem Value} {g : Int → Int → V} {h : Int → Int → D} (ho : OpR X f (rI0 g)) (hg : ∀ i j H B, DV X.K H B (g i j) (h i j)) : OpD X f (intG fun i j => some (h i j)) := by
  intro pins s σ H x y v u Q I rx ry ⟨d, e, z, dx, dy, eg, k⟩
  cases dx with
  | int i =>
    cases dy with
    | int j =>
      cases eg
      exact ho pins s σ H _ _ v u Q I rx ry ⟨i, j, rfl, rfl, k _ H (fun _ _ q => q) fun B _ _ _ => hg i j H B⟩
    | _ => cases eg
  | _ => cases eg
abbrev subG : D → D → Option D := intG fun i j => some (.int (i - j))
theorem od_sub : OpD X (binaryOp .Sub) subG := opd_int0 op_sub fun i j H B => .int _
/-- one factor within 2^64 -/
def mulOk (i j : Int) : Bool := decide ((-(2 ^ 64) < i ∧ i < 2 ^ 64) ∨ (-(2 ^ 64) < j ∧ j < 2 ^ 64))
abbrev modG : D → D → Option D := intG fun i j => if 0 < j then some (.int (i % j)) else none
theorem od_mod : OpD X (binaryOp .Mod) modG := opd_int op_mod (fun i j d e => by
  split at e
  · assumption
  · cases e) fun i j d e H B => by
  split at e
  · cases e; exact .int _
  · cases e
abbrev fdivG : D → D → Option D := intG fun i j => if 0 < j ∧ j < 1073741824 then some (.int (i / j)) else none
theorem od_fdiv : OpD X (binaryOp .FloorDiv) fdivG := opd_int op_fdiv (fun i j d e => by
  split at e
  · assumption
  · cases e) fun i j d e H B => by
  split at e
  · cases e; exact .int _
  · cases e
abbrev powG : D → D → Option D := intG fun i j => if 0 ≤ j ∧ j ≤ 1000000 ∧ i.natAbs < 2 ^ 64 then some (.int (i ^ j.toNat)) else none
theorem od_pow : OpD X (binaryOp .Pow) powG := opd_int op_pow (fun i j d e => by
  split at e
  · assumption
  · cases e) fun i j d e H B => by
  split at e
  · cases e; exact .int _
  · cases e
/-! ### comparisons by size -/
def ltS (x y : Str) : Bool := decide (x.cps.toList < y.cps.toList)
def ltG : D → D → Option D
  | .int i, .int j => some (.bool (decide (i < j)))
  | .str x, .str y => some (.bool (ltS x y))
  | _, _ => none
theorem od_lt : OpD X (compareOp .Lt) ltG := by
  intro pins s σ H x y v u Q I rx ry ⟨d, e, z, dx, dy, eg, k⟩
  cases dx with
  | int i =>
    cases dy with
    | int j => cases eg; exact op_lt pins s σ H _ _ v u Q I rx ry ⟨i, j, rfl, rfl, k _ H (fun _ _ q => q) fun B _ _ _ => .bl _⟩
    | _ => cases eg
  | str i =>
    cases dy with
    | str j => cases eg; exact op_lt_str pins s σ H _ _ v u Q I rx ry ⟨i, j, rfl, rfl, k _ H (fun _ _ q => q) fun B _ _ _ => .bl _⟩
    | _ => cases eg
  | _ => cases eg
abbrev leG : D → D → Option D := intG fun i j => some (.bool (decide (i ≤ j)))
theorem od_le : OpD X (compareOp .LtE) leG := opd_int0 op_le fun i j H B => .bl _
abbrev gtG : D → D → Option D := intG fun i j => some (.bool (decide (j < i)))
theorem od_gt : OpD X (compareOp .Gt) gtG := opd_int0 op_gt fun i j H B => .bl _
abbrev geG : D → D → Option D := intG fun i j => some (.bool (decide (j ≤ i)))
theorem od_ge : OpD X (compareOp .GtE) geG := opd_int0 op_ge fun i j H B => .bl _
theorem intG_bool {f : Int → Int → Option D} (h : ∀ i j z, f i j = some z → ∃ b, z = .bool b) : BoolG (intG f) := fun x y z e => by
  unfold intG at e
  split at e
  · exact h _ _ _ e
  · cases e
theorem bg_lt : BoolG ltG := fun x y z e => by
  unfold ltG at e
  split at e
  · cases e; exact ⟨_, rfl⟩
  · cases e; exact ⟨_, rfl⟩
  · cases e
theorem bg_le : BoolG leG := intG_bool fun i j z e => by cases e; exact ⟨_, rfl⟩
theorem bg_gt : BoolG gtG := intG_bool fun i j z e => by cases e; exact ⟨_, rfl⟩
theorem bg_ge : BoolG geG := intG_bool fun i j z e => by cases e; exact ⟨_, rfl⟩
/-! ### is None -/
def isNone : D → Bool
  | .none => true
  | _ => false
def isG : D → D → Option D := fun x y => match y with
  | .none => some (.bool (isNone x))
  | _ => none
def isnG : D → D → Option D := fun x y => match y with
  | .none => some (.bool (!isNone x))
  | _ => none
theorem isNone_of {K : PySem.W.Frag} {H : Hp} {B : Addr → Prop} {v : V} {d : D} (x : DV K H B v d) : decide (v = .non) = isNone d := by
  cases x <;> simp [isNone]
theorem od_is : OpD X (compareOp .Is) isG := by
  intro pins s σ H x y v u Q I rx ry ⟨d, e, z, dx, dy, eg, k⟩
  cases dy with
  | non =>
    cases eg
    refine op_isN pins s σ H _ _ v u Q I rx ry ⟨rfl, ?_⟩
    rw [isNone_of dx]
    exact k _ H (fun _ _ q => q) fun B _ _ _ => .bl _
  | _ => cases eg
theorem od_isn : OpD X (compareOp .IsNot) isnG := by
  intro pins s σ H x y v u Q I rx ry ⟨d, e, z, dx, dy, eg, k⟩
  cases dy with
  | non =>
    cases eg
    refine op_notN pins s σ H _ _ v u Q I rx ry ⟨rfl, ?_⟩
    rw [isNone_of dx]
    exact k _ H (fun _ _ q => q) fun B _ _ _ => .bl _
  | _ => cases eg
theorem bg_is : BoolG isG := fun x y z e => by
  unfold isG at e
  split at e
  · cases e; exact ⟨_, rfl⟩
  · cases e
theorem bg_isn : BoolG isnG := fun x y z e => by
  unfold isnG at e
  split at e
  · cases e; exact ⟨_, rfl⟩
  · cases e

/-! ### data as the library reads it -/
theorem DV.lenL {pins : List (Addr × Obj)} {σ : L2.St} {H : Hp} {s : Shared} {B : Addr → Prop} {a : Addr} {ds : List D} (I : Inv X pins σ H s) (x : DV X.K H B (.ref a) (.list ds)) : ds.length ≤ sizeLine := by
  obtain ⟨xs, h1, h2⟩ := SqL.ofD x
  obtain ⟨_, _, _, hz⟩ := I.list h1
  rw [← h2.length]
  exact hz
theorem DV.lenT {pins : List (Addr × Obj)} {σ : L2.St} {H : Hp} {s : Shared} {B : Addr → Prop} {a : Addr} {ds : List D} (I : Inv X pins σ H s) (x : DV X.K H B (.ref a) (.tuple ds)) : ds.length ≤ sizeLine := by
  obtain ⟨xs, h1, h2⟩ := SqT.ofD x
  obtain ⟨_, _, _, hz⟩ := I.tuple h1
  rw [← h2.length]
  exact hz
theorem ReadsAll.app {h : Heap} : ∀ {us : List Value} {ds : List D} {as : List Addr}, ReadsAll h us ds as → us.length = ds.length
  | _, _, _, .nil => rfl
  | _, _, _, .cons _ t => by rw [List.length_cons, List.length_cons, ReadsAll.app t]
theorem keyIs_reads {h : Heap} {k : Key} {u : Value} (e : keyIs k u = true) : Reads h u (kD k) [] := by
  rcases keyIs_shape e with ⟨i, t, rfl, rfl⟩ | ⟨x, t, rfl, rfl⟩
  · exact .int i t
  · exact .str x t
theorem sys_ne {pins : List (Addr × Obj)} {σ : L2.St} {H : Hp} {s : Shared} {a : Addr} (hs : ∃ o, X.base.get? sysModules = some o) (I : Inv X pins σ H s) (n : H a ≠ none) : sysModules ≠ a := fun e => by
  obtain ⟨o, ho⟩ := hs
  subst e
  exact n (I.bs _ _ ho).2
theorem pairs_reads {h : Heap} {P : Program} {w : World} : ∀ {es : List DictEntry} {vs : List (Key × Value)}, Pairs (mixKind P w) es vs → ∀ {kvs : List (Key × V)}, KV kvs vs → ∀ {ds : List (D × D)} {bs : List Addr}, ds.map (·.1) = kvs.map (fun p => kD p.1) → ReadsAll h (vs.map (·.2)) (ds.map (·.2)) bs →
    ReadsAll h (es.map (·.key)) (ds.map (·.1)) [] ∧ ReadsAll h (es.map (·.val)) (ds.map (·.2)) bs
  | _, _, .nil, _, .nil, ds, bs, e, r => by
    cases ds with
    | nil => exact ⟨.nil, r⟩
    | cons => cases e
  | _, _, .cons (e := e) (kv := kv) h1 h2 t, _, .cons rk rt, ds, bs, eq, r => by
    cases ds with
    | nil => cases eq
    | cons d ds =>
      simp only [List.map_cons, List.cons.injEq] at eq r ⊢
      cases r with
      | cons r1 r2 =>
        obtain ⟨a, b⟩ := pairs_reads t rt eq.2 r2
        refine ⟨?_, ?_⟩
        · rw [eq.1, rk.1]
          exact ReadsAll.cons (as := []) (bs := []) (keyIs_reads h1) a
        · rw [h2]
          exact ReadsAll.cons r1 b
theorem DKs.keys {K : PySem.W.Frag} {H : Hp} {B : Addr → Prop} : ∀ {kvs : List (Key × V)} {ds : List (D × D)}, DKs K H B kvs ds → ds.map (·.1) = kvs.map fun p => kD p.1
  | _, _, .nil => rfl
  | _, _, .cons _ t => by rw [List.map_cons, List.map_cons, DKs.keys t]
mutual
theorem DV.reads {pins : List (Addr × Obj)} {σ : L2.St} {H : Hp} {s : Shared} {B : Addr → Prop} (hs : ∃ o, X.base.get? sysModules = some o) (I : Inv X pins σ H s) : ∀ (d : D) (v : V) (u : Value), DV X.K H B v d → RelV v u → ∃ as, Reads s.heap u d as ∧ sysModules ∉ as
  | .none, _, _, .non, r => by cases r; exact ⟨_, Reads.none, by simp⟩
  | .bool _, _, _, .bl b, r => by cases r; exact ⟨_, Reads.bool b, by simp⟩
  | .int _, _, _, .int i, r => by obtain ⟨t, rfl⟩ := r; exact ⟨_, Reads.int i t, by simp⟩
  | .str _, _, _, .str x, r => by obtain ⟨t, rfl⟩ := r; exact ⟨_, Reads.str x t, by simp⟩
  | .list ds, _, _, .lst (a := a) q _ t, r => by
    cases r
    obtain ⟨its, rv, ⟨o, n, ho, hc, _, hd⟩, _⟩ := I.list (.inl q)
    obtain ⟨as, hr, hn⟩ := DVs.reads hs I ds _ its t rv
    refine ⟨_, Reads.list ho hc hd hr, fun m => ?_⟩
    rcases List.mem_cons.mp m with m | m
    · exact sys_ne hs I (rd_some q) m
    · exact hn m
  | .tuple ds, _, _, .tup q _ t, r => by
    cases r
    obtain ⟨its, rv, ⟨o, ho, hc, n, hd⟩, _⟩ := I.tuple (.inl q)
    obtain ⟨as, hr, hn⟩ := DVs.reads hs I ds _ its t rv
    exact ⟨_, Reads.tuple ho hc hd hr, hn⟩
  | .tuple ds, _, _, .ktup q t, r => by
    cases r
    obtain ⟨its, rv, ⟨o, ho, hc, n, hd⟩, _⟩ := I.tuple (.inr q)
    obtain ⟨as, hr, hn⟩ := DVs.reads hs I ds _ its t rv
    exact ⟨_, Reads.tuple ho hc hd hr, hn⟩
  | .dict ds, _, _, .dct (a := a) (kvs := kvs) q _ t, r => by
    cases r
    obtain ⟨z, hd, vs, rel, o, es, ep, ho, hx, hdat, _, hp, _⟩ := dk_rd I.hok q
    obtain ⟨bs, rb, nb⟩ := DKs.reads hs I ds kvs vs t rel
    obtain ⟨r1, r2⟩ := pairs_reads hp rel t.keys rb
    refine ⟨_, Reads.dict ho hx.1 hdat r1 r2, fun m => ?_⟩
    rcases List.mem_cons.mp m with m | m
    · rw [← m] at hd
      exact absurd hd (by decide)
    · exact nb (by simpa using m)
theorem DVs.reads {pins : List (Addr × Obj)} {σ : L2.St} {H : Hp} {s : Shared} {B : Addr → Prop} (hs : ∃ o, X.base.get? sysModules = some o) (I : Inv X pins σ H s) : ∀ (ds : List D) (vs : List V) (us : List Value), DVs X.K H B vs ds → Vals vs us → ∃ as, ReadsAll s.heap us ds as ∧ sysModules ∉ as
  | [], _, _, .nil, r => by cases r; exact ⟨_, ReadsAll.nil, by simp⟩
  | d :: ds, _, _, .cons x t, r => by
    cases r with
    | cons r1 r2 =>
      obtain ⟨as, q1, n1⟩ := DV.reads hs I d _ _ x r1
      obtain ⟨bs, q2, n2⟩ := DVs.reads hs I ds _ _ t r2
      exact ⟨_, ReadsAll.cons q1 q2, fun m => (List.mem_append.mp m).elim n1 n2⟩
theorem DKs.reads {pins : List (Addr × Obj)} {σ : L2.St} {H : Hp} {s : Shared} {B : Addr → Prop} (hs : ∃ o, X.base.get? sysModules = some o) (I : Inv X pins σ H s) : ∀ (ds : List (D × D)) (kvs : List (Key × V)) (vs : List (Key × Value)), DKs X.K H B kvs ds → KV kvs vs → ∃ as, ReadsAll s.heap (vs.map (·.2)) (ds.map (·.2)) as ∧ sysModules ∉ as
  | [], _, _, .nil, r => by cases r; exact ⟨_, ReadsAll.nil, by simp⟩
  | (_, d) :: ds, _, _, .cons x t, r => by
    cases r with
    | cons r1 r2 =>
      obtain ⟨as, q1, n1⟩ := DV.reads hs I d _ _ x r1.2
      obtain ⟨bs, q2, n2⟩ := DKs.reads hs I ds _ _ t r2
      exact ⟨_, ReadsAll.cons q1 q2, fun m => (List.mem_append.mp m).elim n1 n2⟩
end
end
end DL

namespace DL
open PySem PySem.Spec PyProof.Rows L2
section
variable {X : Cx}
/-! ### the kind of a value -/
def tyN : D → String
  | .none => "NoneType"
  | .bool _ => "bool"
  | .int _ => "int"
  | .str _ => "str"
  | .list _ => "list"
  | .tuple _ => "tuple"
  | .dict _ => "dict"
theorem tyX_of {K : PySem.W.Frag} {H : Hp} {B : Addr → Prop} {v : V} {d : D} (x : DV K H B v d) : TyX K H v (.type (tyN d)) := by
  cases x with
  | non => exact .base .non
  | bl b => exact .base (.bl b)
  | int i => exact .base (.int i)
  | str y => exact .base (.str y)
  | lst q _ t =>
    rcases q with q | ⟨o, q⟩
    · exact .base (.lst q)
    · exact .base (.frz q)
  | tup q _ t =>
    rcases q with q | ⟨o, q⟩
    · exact .base (.tup q)
    · exact .fTuple q
  | ktup q t =>
    obtain ⟨o, its, n, h1, h2, _⟩ := q
    exact .kTuple h1 h2
  | dct q _ t =>
    rcases q with q | ⟨o, q⟩
    · exact .base (.dK q)
    · exact .fDict q
/-- isinstance: T's answer for each kind -/
def isiD (T : String) (d : D) : Bool := tyN d == T || (T == "int" && tyN d == "bool")
def IsiT (T : String) : Prop := kitB "NoneType" T = some (T == "NoneType") ∧ kitB "bool" T = some (T == "bool" || T == "int") ∧ kitB "int" T = some (T == "int") ∧ kitB "str" T = some (T == "str") ∧ kitB "list" T = some (T == "list") ∧
  kitB "tuple" T = some (T == "tuple") ∧ kitB "dict" T = some (T == "dict")
theorem it_int : IsiT "int" := ⟨by decide +kernel, by decide +kernel, by decide +kernel, by decide +kernel, by decide +kernel, by decide +kernel, by decide +kernel⟩
theorem it_bool : IsiT "bool" := ⟨by decide +kernel, by decide +kernel, by decide +kernel, by decide +kernel, by decide +kernel, by decide +kernel, by decide +kernel⟩
theorem it_str : IsiT "str" := ⟨by decide +kernel, by decide +kernel, by decide +kernel, by decide +kernel, by decide +kernel, by decide +kernel, by decide +kernel⟩
theorem it_list : IsiT "list" := ⟨by decide +kernel, by decide +kernel, by decide +kernel, by decide +kernel, by decide +kernel, by decide +kernel, by decide +kernel⟩
theorem it_tuple : IsiT "tuple" := ⟨by decide +kernel, by decide +kernel, by decide +kernel, by decide +kernel, by decide +kernel, by decide +kernel, by decide +kernel⟩
theorem it_dict : IsiT "dict" := ⟨by decide +kernel, by decide +kernel, by decide +kernel, by decide +kernel, by decide +kernel, by decide +kernel, by decide +kernel⟩
theorem beq_swap (a b : String) : (a == b) = (b == a) := by
  by_cases h : a = b
  · subst h; rfl
  · rw [beq_eq_false_iff_ne.mpr h, beq_eq_false_iff_ne.mpr (Ne.symm h)]
theorem isi_of {T : String} (h : IsiT T) (d : D) : kitB (tyN d) T = some (isiD T d) := by
  obtain ⟨h1, h2, h3, h4, h5, h6, h7⟩ := h
  cases d with
  | none => rw [show tyN .none = "NoneType" from rfl, h1]; unfold isiD; rw [beq_swap T]; simp [tyN]
  | bool b => rw [show tyN (.bool b) = "bool" from rfl, h2]; unfold isiD; rw [beq_swap T]; simp [tyN]
  | int i => rw [show tyN (.int i) = "int" from rfl, h3]; unfold isiD; rw [beq_swap T]; simp [tyN]
  | str x => rw [show tyN (.str x) = "str" from rfl, h4]; unfold isiD; rw [beq_swap T]; simp [tyN]
  | list x => rw [show tyN (.list x) = "list" from rfl, h5]; unfold isiD; rw [beq_swap T]; simp [tyN]
  | tuple x => rw [show tyN (.tuple x) = "tuple" from rfl, h6]; unfold isiD; rw [beq_swap T]; simp [tyN]
  | dict x => rw [show tyN (.dict x) = "dict" from rfl, h7]; unfold isiD; rw [beq_swap T]; simp [tyN]
def isiB (T : String) (f : Rho → Option D) : Rho → Option D := fun r => match f r with
  | some d => some (.bool (isiD T d))
  | none => none
theorem pb_isi {fa : Nat → Addr} {e : Expr} {f : Rho → Option D} {T : String} {cn : Str} {p p2 pos : Pos} (hT : IsiT T) (h : PB X fa e f) (hm : X.mg "isinstance" = none) (hmT : X.mg cn = none) (hbT : bootBuiltins cn = some (.type T)) (hg : Gl X "isinstance" := by rfl) (hgT : Gl X cn := by rfl) (hnT : cn ≠ "__name__" := by decide) (hdT : (cn == ("__debug__" : Str)) = false := by decide)
    (he : starEach (e :: [.Name cn p2]) X.env = (false, eval e X.env) :: starEach [.Name cn p2] X.env := by rfl) (hpl : (backTo pos (starEach [.Name cn p2] X.env)).any (·.1) = false := by rfl) (he2 : starEach [Expr.Name cn p2] X.env = (false, eval (Expr.Name cn p2) X.env) :: starEach [] X.env := by rfl) :
    PB X fa (.Call (.Name "isinstance" p) [e, .Name cn p2] [] pos) (isiB T f) := by
  refine PE.imp (pe_callB call_isi hg hm (by decide +kernel) (pa_cons h (pa_cons (pe_bltn (v := .ty T) hgT hmT hbT rfl hnT hdT) pa_nil he2) he) (by decide) (by decide) he hpl) fun σ H Q ⟨F, B, O, r, R, d, e, h⟩ => ?_
  cases ef : f r with
  | none => simp only [isiB, ef] at e; cases e
  | some x =>
    simp only [isiB, ef] at e
    cases e
    refine ⟨F, B, O, r, R, x, ef, fun v H' S xd => ?_⟩
    exact ⟨v, .ty T, .type (tyN x), .type T, isiD T x, rfl, .ty T, tyX_of xd, kit_ty (isi_of hT x), h _ H' S (.bl _)⟩

/-! ### len -/
def lenG : List D → Option D
  | [.str x] => if x.length ≤ sizeLine then some (.int x.length) else none
  | [.list ds] => some (.int ds.length)
  | [.tuple ds] => some (.int ds.length)
  | _ => none
theorem cd_len : CallD X (.builtin "len") lenG := by
  intro pins s σ H xs us Q I rv ⟨ds, z, dx, eg, k⟩
  have fin : ∀ {i : Int}, z = .int i → Q (.int i) H := fun {i} e => by
    subst e
    exact k _ H (fun _ _ q => q) fun B _ _ => .int _
  cases dx with
  | nil => cases eg
  | cons x t =>
    cases t with
    | cons _ _ => unfold lenG at eg; split at eg <;> simp_all
    | nil =>
      cases x with
      | str y =>
        simp only [lenG] at eg
        split at eg
        · rename_i hl
          cases eg
          exact call_len_str pins s σ H _ us Q I rv ⟨y, rfl, hl, fin rfl⟩
        · cases eg
      | lst q b t =>
        cases eg
        refine call_len_seq pins s σ H _ us Q I rv ⟨_, _, rfl, .inl (.inl q), ?_⟩
        rw [t.length]
        exact fin rfl
      | tup q b t =>
        cases eg
        refine call_len_seq pins s σ H _ us Q I rv ⟨_, _, rfl, .inr (.inl q), ?_⟩
        rw [t.length]
        exact fin rfl
      | ktup q t =>
        cases eg
        refine call_len_seq pins s σ H _ us Q I rv ⟨_, _, rfl, .inr (.inr q), ?_⟩
        rw [t.length]
        exact fin rfl
      | _ => cases eg

/-! ### repr -/
def reprG : List D → Option D
  | [d] => if d.showable = true ∧ d.shown.length ≤ sizeLine ∧ d.depth ≤ 100 then some (.str d.shown) else none
  | _ => none
theorem cd_repr {k : Nat} (hr : Room k X.A) (hgd : X.A.guards = some []) (hs : ∃ o, X.base.get? sysModules = some o) : CallD X (.builtin "repr") reprG := by
  intro pins s σ H xs us Q I rv ⟨ds, z, dx, eg, kq⟩
  cases dx with
  | nil => cases eg
  | @cons v vs d ds x t =>
    cases t with
    | cons _ _ => cases eg
    | nil =>
      simp only [reprG] at eg
      split at eg
      · rename_i hc
        obtain ⟨h1, h2, h3⟩ := hc
        cases eg
        obtain ⟨u, rfl, ru⟩ := vals1 rv
        obtain ⟨as, rd, hn⟩ := DV.reads hs I d v u x ru
        have hun := hr.un
        have fin : ∀ (h' : Heap) (tk t : Nat), (∀ b o, s.heap.get? b = some o → h'.get? b = some o) → EP X pins σ Q (.str d.shown tk) { s with heap := h', toks := t } := fun h' tk t hk =>
          ⟨.str d.shown, H, I.kept hk, ⟨tk, rfl⟩, kq _ H (fun _ _ q => q) fun B _ _ => .str _⟩
        have here : ∀ b o, s.heap.get? b = some o → s.heap.get? b = some o := fun _ _ e => e
        cases rd with
        | none => exact PySem.P.repr_of_none (fin s.heap _ _ here)
        | bool b => exact PySem.P.repr_of_bool (fin s.heap _ _ here)
        | int i t =>
          have hi : i.natAbs.log2 < 1920 := by simpa [PyData.showable] using h1
          exact PySem.P.repr_of_int hi (fin s.heap _ _ here)
        | str y t => exact PySem.P.repr_of_str (fin s.heap _ _ here) h2
        | list a b c e => exact repr_of_reads' (.list a b c e) h1 (fun _ => hn) hgd (by omega) here (fun h' u tk hk => fin h' u tk hk) h2
        | tuple a b c e => exact repr_of_reads' (.tuple a b c e) h1 (fun _ => hn) hgd (by omega) here (fun h' u tk hk => fin h' u tk hk) h2
        | dict a b c e f => exact repr_of_reads' (.dict a b c e f) h1 (fun _ => hn) hgd (by omega) here (fun h' u tk hk => fin h' u tk hk) h2
      · cases eg

/-! ### adding -/
def addG : D → D → Option D
  | .int i, .int j => some (.int (i + j))
  | .int i, .bool b => some (.int (i + b2i b))
  | .str x, .str y => if x.length + y.length ≤ sizeLine then some (.str (x ++ y)) else none
  | .list xs, .list ys => if xs.length + ys.length ≤ sizeLine then some (.list (xs ++ ys)) else none
  | .tuple xs, .tuple ys => if xs.length + ys.length ≤ sizeLine then some (.tuple (xs ++ ys)) else none
  | _, _ => none
theorem cat0_tup {prog : Program} {w : World} {A : Around} {E : Value → Shared → Prop} {s : Shared} {t b : Addr} {ws : Array Value} {Q : Value → Shared → Prop} (ht : IsTup s.heap t #[]) (hb : IsTup s.heap b ws) (h : Q (.ref b) s) : wpAny (model prog w) A (binaryOp .Add (.ref t) (.ref b)) Q E s := by
  obtain ⟨⟨c1, d1, e1, f1⟩, ho, hc, n1, hd⟩ := id ht
  obtain ⟨⟨c2, d2, e2, f2⟩, ho2, hc2, n2, hd2⟩ := id hb
  simp only at hc hd hc2 hd2
  subst hc hd hc2 hd2
  exact concat_meets ⟨_, ho, rfl⟩ ⟨_, ho2, rfl⟩ noFill_tuple_add seq_tuple_add PySem.F.slot_tuple_add PySem.F.entry_tuple_add (PySem.F.args_tuple_add_2 _ _) (tuple_addW0 t b #[] ws n1 n2 d1 d2 f1 f2 rfl) ⟨ho, ho2, h⟩
theorem DV.isRef {K : PySem.W.Frag} {H : Hp} {B : Addr → Prop} {v : V} {ds : List D} (x : DV K H B v (.tuple ds)) : ∃ a, v = .ref a := by cases x <;> exact ⟨_, rfl⟩
/-- how a tuple is read is one -/
theorem DV.tupAt {pins : List (Addr × Obj)} {σ : L2.St} {H : Hp} {s : Shared} {B : Addr → Prop} {a : Addr} {ds : List D} {xs : List V} (I : Inv X pins σ H s) (q : SqT X.K H a xs) (x : DV X.K H B (.ref a) (.tuple ds)) : DVs X.K H B xs ds := by
  obtain ⟨ys, h1, h2⟩ := SqT.ofD x
  have e := I.tuple_inj h1 q
  subst e
  exact h2
theorem DV.lstAt {pins : List (Addr × Obj)} {σ : L2.St} {H : Hp} {s : Shared} {B : Addr → Prop} {a : Addr} {ds : List D} {xs : List V} (I : Inv X pins σ H s) (q : SqL X.K H a xs) (x : DV X.K H B (.ref a) (.list ds)) : DVs X.K H B xs ds := by
  obtain ⟨ys, h1, h2⟩ := SqL.ofD x
  have e := I.list_inj h1 q
  subst e
  exact h2
/-- a new tuple, a new list -/
theorem EP.newT {pins : List (Addr × Obj)} {σ : L2.St} {H : Hp} {s : Shared} {Q : VK} {ys : List V} {its : List Value} {es : List D} {P : (Addr → Prop) → Prop} (I : Inv X pins σ H s) (rv : Vals ys its) (hz : ys.length ≤ sizeLine) (x : ∀ B, P B → DVs X.K H B ys es)
    (k : ∀ v H', Same H H' → (∀ B, Trk B H → P B → DV X.K H' B v (.tuple es)) → Q v H') : EP X pins σ Q (.ref s.heap.objs.size) { s with heap := s.heap.push { cls := .type "tuple", data := .seq its.toArray } } := by
  have n : H s.heap.objs.size = none := I.hok.fresh (Nat.le_refl _)
  have S := same_fresh (o := .tup ys) n
  refine ⟨.ref s.heap.objs.size, _, I.laid (t' := s.toks) (o := .tup ys) (fun b ob q => Heap.get?_push_of_some _ q) (Nat.le_refl _) ⟨hz, its, rv, IsTup.new _ _⟩, rfl, k _ _ S fun B tb p => ?_⟩
  exact .tup (.inl upd_same) (fun z => tb _ z n) ((x B p).same S)
theorem EP.newL {pins : List (Addr × Obj)} {σ : L2.St} {H : Hp} {s : Shared} {Q : VK} {ys : List V} {its : List Value} {es : List D} {P : (Addr → Prop) → Prop} (I : Inv X pins σ H s) (rv : Vals ys its) (hz : ys.length ≤ sizeLine) (x : ∀ B, P B → DVs X.K H B ys es)
    (k : ∀ v H', Same H H' → (∀ B, Trk B H → P B → DV X.K H' B v (.list es)) → Q v H') : EP X pins σ Q (.ref s.heap.objs.size) { s with heap := s.heap.push { cls := .type "list", data := .seq its.toArray } } := by
  have n : H s.heap.objs.size = none := I.fresh
  have S := same_fresh (o := .lst ys) n
  refine ⟨.ref _, _, I.lnew (t' := s.toks) rv hz, rfl, k _ _ S fun B tb p => ?_⟩
  exact .lst (.inl upd_same) (fun z => tb _ z n) ((x B p).same S)
theorem od_add : OpD X (binaryOp .Add) addG := by
  intro pins s σ H x y v u Q I rx ry ⟨d, e, z, dx, dy, eg, k⟩
  unfold addG at eg
  split at eg
  · cases eg
    cases dx
    cases dy
    exact op_add pins s σ H _ _ v u Q I rx ry ⟨_, _, rfl, rfl, k _ H (fun _ _ q => q) fun B _ _ _ => .int _⟩
  · cases eg
    cases dx
    cases dy
    exact op_add_ib pins s σ H _ _ v u Q I rx ry ⟨_, _, rfl, rfl, k _ H (fun _ _ q => q) fun B _ _ _ => .int _⟩
  · split at eg
    · rename_i hl
      cases eg
      cases dx
      cases dy
      exact op_add_str pins s σ H _ _ v u Q I rx ry ⟨_, _, rfl, rfl, hl, k _ H (fun _ _ q => q) fun B _ _ _ => .str _⟩
    · cases eg
  · split at eg
    · rename_i hl
      cases eg
      cases dx with
      | @lst a xs ds q b t =>
        cases dy with
        | @lst a2 xs2 ds2 q2 b2 t2 =>
          cases rx
          cases ry
          obtain ⟨z1, its, n1, rv1, ho1⟩ := q.ok I.hok
          obtain ⟨z2, its2, n2, rv2, ho2⟩ := q2.ok I.hok
          have l1 := rv1.length
          have l2 := rv2.length
          have m1 := t.length
          have m2 := t2.length
          refine PySem.P.add_list ho1 ho2 ?_ (by rw [List.size_toArray, List.size_toArray]; omega)
          rw [show its.toArray ++ its2.toArray = (its ++ its2).toArray by simp]
          exact EP.newL I (rv1.append rv2) (by rw [List.length_append]; omega) (P := fun B => DV X.K H B (.ref a) (.list _) ∧ DV X.K H B (.ref a2) (.list _)) (fun B p => ((p.1.lstAt I (.inl q)).append (p.2.lstAt I (.inl q2)))) fun v H' S g => k v H' S fun B tb x1 x2 => g B tb ⟨x1, x2⟩
    · cases eg
  · split at eg
    · rename_i xs ys hl
      cases eg
      obtain ⟨a, rfl⟩ := dx.isRef
      obtain ⟨b, rfl⟩ := dy.isRef
      cases rx
      cases ry
      obtain ⟨vs, q, t⟩ := SqT.ofD dx
      obtain ⟨ws, q2, t2⟩ := SqT.ofD dy
      obtain ⟨its, rv1, p1, _⟩ := I.tuple q
      obtain ⟨its2, rv2, p2, _⟩ := I.tuple q2
      have l1 := rv1.length
      have l2 := rv2.length
      have m1 := t.length
      have m2 := t2.length
      cases its with
      | nil =>
        have e1 : xs = [] := List.eq_nil_of_length_eq_zero (by rw [← m1, l1]; rfl)
        subst e1
        refine cat0_tup p1 p2 ⟨.ref b, H, I, rfl, k _ H (fun _ _ q => q) fun B _ _ x2 => ?_⟩
        rw [List.nil_append]
        exact x2
      | cons i0 its =>
        refine HT.cat_tup p1 p2 (fun z => nomatch z) (fun z => ?_) (fun z => ?_) (by omega)
        · subst z
          have e2 : ys = [] := List.eq_nil_of_length_eq_zero (by rw [← m2, l2]; rfl)
          subst e2
          refine ⟨.ref a, H, I, rfl, k _ H (fun _ _ q => q) fun B _ x1 _ => ?_⟩
          rw [List.append_nil]
          exact x1
        · exact EP.newT I (rv1.append rv2) (by rw [List.length_append]; omega) (P := fun B => DV X.K H B (.ref a) (.tuple _) ∧ DV X.K H B (.ref b) (.tuple _)) (fun B p => ((p.1.tupAt I q).append (p.2.tupAt I q2))) fun v H' S g => k v H' S fun B tb x1 x2 => g B tb ⟨x1, x2⟩
    · cases eg
  · cases eg
/-! ### items -/
def ixG : D → D → Option D
  | .list ds, .int i => atI ds i
  | .tuple ds, .int i => atI ds i
  | .str x, .int i => if x.length ≤ sizeLine then (atI x.cps.toList i).map sgn else none
  | _, _ => none
theorem DVs.atI {K : PySem.W.Frag} {H : Hp} {B : Addr → Prop} {vs : List V} {ds : List D} {i : Int} {d : D} (t : DVs K H B vs ds) (e : L2.atI ds i = some d) : ∃ v, L2.atI vs i = some v ∧ DV K H B v d := by
  unfold L2.atI at e ⊢
  rw [t.length]
  cases q : ixN ds.length i with
  | none => rw [q] at e; cases e
  | some j =>
    rw [q] at e
    exact t.get e
theorem ix_seqD : IxR X (rD X.K ixG) := by
  intro value slice pins s σ H x y v u Q I rx ry ⟨d, e, z, dx, dy, eg, k⟩ hs
  unfold ixG at eg
  split at eg
  · cases dy
    cases dx with
    | lst q b t =>
      obtain ⟨v1, h1, h2⟩ := t.atI eg
      refine ix_list value slice pins s σ H _ _ v u Q I rx ry ⟨_, _, _, _, rfl, rfl, .inl q, h1, k _ H (fun _ _ q => q) fun B _ x1 _ => ?_⟩ hs
      obtain ⟨v2, h3, h4⟩ := (x1.lstAt I (.inl q)).atI eg
      rw [h1] at h3
      cases h3
      exact h4
  · cases dy
    obtain ⟨a, rfl⟩ := dx.isRef
    obtain ⟨vs, q, t⟩ := SqT.ofD dx
    obtain ⟨v1, h1, h2⟩ := t.atI eg
    refine ix_tup value slice pins s σ H _ _ v u Q I rx ry ⟨_, _, _, _, rfl, rfl, q, h1, k _ H (fun _ _ q => q) fun B _ x1 _ => ?_⟩ hs
    obtain ⟨v2, h3, h4⟩ := (x1.tupAt I q).atI eg
    rw [h1] at h3
    cases h3
    exact h4
  · cases dx
    cases dy
    split at eg
    · rename_i hl
      rename_i w i
      cases ha : atI w.cps.toList i with
      | none => rw [ha] at eg; cases eg
      | some c =>
        rw [ha] at eg
        cases eg
        exact ix_str value slice pins s σ H _ _ v u Q I rx ry ⟨_, _, _, rfl, rfl, hl, ha, k _ H (fun _ _ q => q) fun B _ _ _ => .str _⟩ hs
    · cases eg
  · cases eg
end
end DL

namespace DL
open PySem PySem.Spec PyProof.Rows L2
open PySem.AutoSeq1 (wpAny_loadPart')

/-! ### a text beside a dict -/
theorem dict_declines_str (l : Addr) (es : Array DictEntry) (n : Nat) (dd : Option Addr) (sl : Array (Option Value)) (b : Str) (u : Tok) :
    Meets (Builtin.«dict.__eq__» ⟨[.ref l, .str b u], []⟩) (fun _ R s => s.heap.get? l = some { cls := .type "dict", dict := dd, data := .dict es n, slots := sl } ∧ R (.ok (.ret .notImplemented)) s) :=
  .of_wp fun prog w A R s h => by
    obtain ⟨hp, g, d, tk, os⟩ := s
    obtain ⟨hl, h⟩ := h
    have f1 := PySem.F.sub_str_dict
    wp_walk using wpAny_loadPart' hl
    exact ⟨_, rfl, h⟩
theorem str_declines_dict (b : Str) (u : Tok) (l : Addr) (c : Value) (es : Array DictEntry) (n : Nat) (dd : Option Addr) (sl : Array (Option Value)) :
    Meets (Builtin.«str.__eq__» ⟨[.str b u, .ref l], []⟩) (fun _ R s => s.heap.get? l = some { cls := c, dict := dd, data := .dict es n, slots := sl } ∧ R (.ok (.ret .notImplemented)) s) :=
  .of_wp fun prog w A R s h => by
    obtain ⟨hp, g, d, tk, os⟩ := s
    obtain ⟨hl, h⟩ := h
    wp_walk using wpAny_loadPart' hl, wpAny_load hl
    exact ⟨_, rfl, h⟩
theorem rc_str_dict {A : Around} {s : Shared} {l : Addr} {o : Obj} {es : Array DictEntry} {n : Nat} (b : Str) (u : Tok) (ho : s.heap.get? l = some o) (hx : o.ExactDict) (hd : o.data = .dict es n) (hu : A.units < cLine) : SeqAt.RcAt A s (.str b u) (.ref l) false := fun prog w E Q h => by
  obtain ⟨cls, dd, data, sl⟩ := o
  obtain ⟨h1, h2, h3⟩ := hx
  simp only at h1 h2 h3 hd
  subst h1 h2 h3 hd
  exact SeqAt.rc_eq_decline_or (k := false) (typeIs_str s b u) ⟨_, ho, rfl⟩ (by decide) PySem.F.sub_dict_str PySem.F.slot_str_eq PySem.F.slot_dict_eq_refl
    (fun _ hq => call_meets PySem.F.slot_str_eq (typeIs_str s b u) PySem.F.entry_str_eq (PySem.F.args_str_eq_2 _ _) (str_declines_dict b u l (.type "dict") es n _ _) ⟨ho, hq⟩)
    (fun _ hq => call_meets PySem.F.slot_dict_eq_refl ⟨_, ho, rfl⟩ PySem.F.entry_dict_eq (PySem.F.args_dict_eq_2 _ _) (dict_declines_str l es n _ _ b u) ⟨ho, hq⟩)
    (fun _ hq => wpAny_of_eq (rfl : isSame (.str b u) (.ref l) = pure false) hq) (.inr hu) h
theorem rc_dict_str {A : Around} {s : Shared} {l : Addr} {o : Obj} {es : Array DictEntry} {n : Nat} (b : Str) (u : Tok) (ho : s.heap.get? l = some o) (hx : o.ExactDict) (hd : o.data = .dict es n) (hu : A.units < cLine) : SeqAt.RcAt A s (.ref l) (.str b u) false := fun prog w E Q h => by
  obtain ⟨cls, dd, data, sl⟩ := o
  obtain ⟨h1, h2, h3⟩ := hx
  simp only at h1 h2 h3 hd
  subst h1 h2 h3 hd
  exact SeqAt.rc_eq_decline_or (k := false) ⟨_, ho, rfl⟩ (typeIs_str s b u) (by decide) PySem.F.sub_str_dict PySem.F.slot_dict_eq PySem.F.slot_str_eq_refl
    (fun _ hq => call_meets PySem.F.slot_dict_eq ⟨_, ho, rfl⟩ PySem.F.entry_dict_eq (PySem.F.args_dict_eq_2 _ _) (dict_declines_str l es n _ _ b u) ⟨ho, hq⟩)
    (fun _ hq => call_meets PySem.F.slot_str_eq_refl (typeIs_str s b u) PySem.F.entry_str_eq (PySem.F.args_str_eq_2 _ _) (str_declines_dict b u l (.type "dict") es n _ _) ⟨ho, hq⟩)
    (fun _ hq => wpAny_of_eq (rfl : isSame (.ref l) (.str b u) = pure false) hq) (.inr hu) h
theorem eq_str_dict {A : Around} {s : Shared} {l : Addr} {x : Str} {t : Tok} (h : SeqAt.RcAt A s (.str x t) (.ref l) false) : SeqAt.EqAt A s (.str x t) (.ref l) false := fun prog w E Q hq => by
  unfold eqBool
  refine wpAny_holding ?_
  refine wpAny_ite_split (fun e => absurd (eq_of_beq e) nofun) (fun _ => ?_)
  exact wpAny_bind (h prog w E _ (wpAny_truthy_bool hq))

/-! ### a text and anything -/
def eqS (x : Str) : D → Bool
  | .str y => x == y
  | _ => false
section
variable {X : Cx}
theorem rcS {pins : List (Addr × Obj)} {σ : L2.St} {H : Hp} {s : Shared} {B : Addr → Prop} {A : Around} (I : Inv X pins σ H s) (hu : A.units < cLine) (x : Str) (t : Tok) {d : D} {v : V} {u : Value} (dv : DV X.K H B v d) (r : RelV v u) : SeqAt.RcAt A s (.str x t) u (eqS x d) ∧ SeqAt.RcAt A s u (.str x t) (eqS x d) ∧ SeqAt.EqAt A s (.str x t) u (eqS x d) := by
  cases dv with
  | non => cases r; exact ⟨SeqAt.RcAt.str_none x t, SeqAt.RcAt.none_str x t, SeqAt.EqAt.str_none x t⟩
  | bl b => cases r; exact ⟨SeqAt.RcAt.str_bool x t b, SeqAt.RcAt.bool_str b x t, SeqAt.EqAt.str_bool x t b⟩
  | int i => obtain ⟨t', rfl⟩ := r; exact ⟨SeqAt.RcAt.str_int x t i t', SeqAt.RcAt.int_str i t' x t, SeqAt.EqAt.str_int x t i t'⟩
  | str y =>
    obtain ⟨t', rfl⟩ := r
    refine ⟨SeqAt.RcAt.str_str x t y t', ?_, SeqAt.EqAt.str_str x t y t'⟩
    have q := SeqAt.RcAt.str_str (A := A) (s := s) y t' x t
    have e : (y == x) = eqS x (.str y) := by
      show (y == x) = (x == y)
      by_cases h : x = y
      · subst h; rfl
      · rw [beq_eq_false_iff_ne.mpr h, beq_eq_false_iff_ne.mpr (Ne.symm h)]
    rw [e] at q
    exact q
  | lst q b t' =>
    cases r
    obtain ⟨its, rv, pl, _⟩ := I.list (.inl q)
    exact ⟨SeqAt.RcAt.str_list x t pl.isList hu, SeqAt.RcAt.list_str x t pl.isList hu, SeqAt.EqAt.str_list x t pl.isList hu⟩
  | tup q b t' =>
    cases r
    obtain ⟨its, rv, pl, _⟩ := I.tuple (.inl q)
    exact ⟨SeqAt.RcAt.str_tuple x t pl hu, SeqAt.RcAt.tuple_str x t pl hu, SeqAt.EqAt.str_tuple x t pl hu⟩
  | ktup q t' =>
    cases r
    obtain ⟨its, rv, pl, _⟩ := I.tuple (.inr q)
    exact ⟨SeqAt.RcAt.str_tuple x t pl hu, SeqAt.RcAt.tuple_str x t pl hu, SeqAt.EqAt.str_tuple x t pl hu⟩
  | dct q b t' =>
    cases r
    obtain ⟨z, hd, vs, rel, o, es, ep, ho, hx, hdat, _⟩ := dk_rd I.hok q
    have k1 := rc_str_dict (A := A) x t ho hx hdat hu
    exact ⟨k1, rc_dict_str x t ho hx hdat hu, eq_str_dict k1⟩
/-! ### == and != -/
def eqG : D → D → Option D := fun x y =>
  if SeqAt.shaped x = true ∧ SeqAt.shaped y = true then some (.bool (PyData.eqv x y)) else
  match x, y with
  | .str a, d => some (.bool (eqS a d))
  | d, .str a => some (.bool (eqS a d))
  | _, _ => none
def neG : D → D → Option D := fun x y =>
  match x, y with
  | .str a, .str b => some (.bool (a != b))
  | x, y => if SeqAt.shaped x = true ∧ SeqAt.shaped y = true then some (.bool (!PyData.eqv x y)) else none
theorem bg_eq : BoolG eqG := fun x y z e => by
  unfold eqG at e
  split at e
  · cases e; exact ⟨_, rfl⟩
  · split at e
    · cases e; exact ⟨_, rfl⟩
    · cases e; exact ⟨_, rfl⟩
    · cases e
theorem bg_ne : BoolG neG := fun x y z e => by
  unfold neG at e
  split at e
  · cases e; exact ⟨_, rfl⟩
  · split at e
    · cases e; exact ⟨_, rfl⟩
    · cases e
theorem EP.bl {pins : List (Addr × Obj)} {σ : L2.St} {H : Hp} {s : Shared} {Q : VK} {b : Bool} {P : (Addr → Prop) → Prop} (I : Inv X pins σ H s) (k : ∀ v H', Same H H' → (∀ B, Trk B H → P B → DV X.K H' B v (.bool b)) → Q v H') : EP X pins σ Q (.bool b) s :=
  ⟨.bl b, H, I, rfl, k _ H (fun _ _ q => q) fun B _ _ => .bl _⟩
theorem od_eq {k : Nat} (hr : Room k X.A) (hs : ∃ o, X.base.get? sysModules = some o) : OpD X (compareOp .Eq) eqG := by
  intro pins s σ H x y v u Q I rx ry ⟨d, e, z, dx, dy, eg, k⟩
  have hu := hr.units0
  unfold eqG at eg
  split at eg
  · rename_i hc
    cases eg
    obtain ⟨as, r1, _⟩ := DV.reads hs I d x v dx rx
    obtain ⟨bs, r2, _⟩ := DV.reads hs I e y u dy ry
    exact SeqAt.compareEq_shaped r1 r2 hc.1 hc.2 hr.units (EP.bl I (P := fun B => DV X.K H B x d ∧ DV X.K H B y e) fun v H' S g => k v H' S fun B tb a b => g B tb ⟨a, b⟩)
  · split at eg
    · cases eg
      cases dx
      obtain ⟨t, rfl⟩ := rx
      exact (rcS I hu _ t dy ry).1 X.prog X.w X.xe _ (EP.bl I (P := fun B => True) fun v H' S g => k v H' S fun B tb a b => g B tb trivial)
    · cases eg
      cases dy
      obtain ⟨t, rfl⟩ := ry
      exact (rcS I hu _ t dx rx).2.1 X.prog X.w X.xe _ (EP.bl I (P := fun B => True) fun v H' S g => k v H' S fun B tb a b => g B tb trivial)
    · cases eg
theorem od_ne {k : Nat} (hr : Room k X.A) (hs : ∃ o, X.base.get? sysModules = some o) : OpD X (compareOp .NotEq) neG := by
  intro pins s σ H x y v u Q I rx ry ⟨d, e, z, dx, dy, eg, k⟩
  unfold neG at eg
  split at eg
  · cases eg
    cases dx
    cases dy
    obtain ⟨t, rfl⟩ := rx
    obtain ⟨t', rfl⟩ := ry
    exact ne_str (EP.bl I (P := fun B => True) fun v H' S g => k v H' S fun B tb a b => g B tb trivial)
  · split at eg
    · rename_i hc
      cases eg
      obtain ⟨as, r1, _⟩ := DV.reads hs I d x v dx rx
      obtain ⟨bs, r2, _⟩ := DV.reads hs I e y u dy ry
      exact SeqAt.compareNe_shaped r1 r2 hc.1 hc.2 hr.units (EP.bl I (P := fun B => DV X.K H B x d ∧ DV X.K H B y e) fun v H' S g => k v H' S fun B tb a b => g B tb ⟨a, b⟩)
    · cases eg
/-! ### in -/
def isStrs : List D → Bool
  | [] => true
  | .str _ :: r => isStrs r
  | _ => false
def inS (x : D) : List D → Bool
  | [] => false
  | .str y :: r => eqS y x || inS x r
  | _ :: r => inS x r
/-- whether x stands in ds -/
def inB (x : D) (ds : List D) : Option Bool := if isStrs ds = true then some (inS x ds) else if SeqAt.shaped x = true ∧ SeqAt.shaped (.list ds) = true then some (ds.any fun z => PyData.eqv z x) else none
def inG : D → D → Option D
  | x, .list ds => (inB x ds).map .bool
  | x, .tuple ds => (inB x ds).map .bool
  | .str x, .str z => match x.cps.toList with
    | [c] => some (.bool (decide (c ∈ z.cps.toList)))
    | _ => none
  | _, _ => none
def notG : D → Option D
  | .bool b => some (.bool (!b))
  | _ => none
def ninG : D → D → Option D := fun x y => (inG x y).bind notG
theorem bg_in : BoolG inG := fun x y z e => by
  unfold inG at e
  split at e
  · cases q : inB _ _ with
    | none => rw [q] at e; cases e
    | some b => rw [q] at e; cases e; exact ⟨b, rfl⟩
  · cases q : inB _ _ with
    | none => rw [q] at e; cases e
    | some b => rw [q] at e; cases e; exact ⟨b, rfl⟩
  · split at e
    · cases e; exact ⟨_, rfl⟩
    · cases e
  · cases e
theorem bg_nin : BoolG ninG := fun x y z e => by
  unfold ninG at e
  cases q : inG x y with
  | none => rw [q] at e; cases e
  | some w =>
    rw [q] at e
    obtain ⟨b, rfl⟩ := bg_in _ _ _ q
    cases e
    exact ⟨_, rfl⟩
def eqW (d : D) (u : Value) : Bool := match u with
  | .str y _ => eqS y d
  | _ => false
theorem strs_any {K : PySem.W.Frag} {H : Hp} {B : Addr → Prop} {d : D} : ∀ {ds : List D} {vs : List V} {us : List Value}, DVs K H B vs ds → Vals vs us → isStrs ds = true → us.any (eqW d) = inS d ds
  | [], _, _, .nil, .nil, _ => rfl
  | .str y :: r, _, _, .cons x t, .cons r1 r2, h => by
    cases x
    obtain ⟨t', rfl⟩ := r1
    rw [List.any_cons, strs_any t r2 h]
    rfl
  | .none :: r, _, _, .cons x t, .cons r1 r2, h => by cases h
  | .bool _ :: r, _, _, .cons x t, .cons r1 r2, h => by cases h
  | .int _ :: r, _, _, .cons x t, .cons r1 r2, h => by cases h
  | .list _ :: r, _, _, .cons x t, .cons r1 r2, h => by cases h
  | .tuple _ :: r, _, _, .cons x t, .cons r1 r2, h => by cases h
  | .dict _ :: r, _, _, .cons x t, .cons r1 r2, h => by cases h
theorem strs_eq {pins : List (Addr × Obj)} {σ : L2.St} {H : Hp} {s : Shared} {B B' : Addr → Prop} {A : Around} {d : D} {x : V} {v : Value} (I : Inv X pins σ H s) (hu : A.units < cLine) (dx : DV X.K H B' x d) (rx : RelV x v) :
    ∀ {ds : List D} {vs : List V} {us : List Value}, DVs X.K H B vs ds → Vals vs us → isStrs ds = true → ∀ u ∈ us, SeqAt.EqAt A s u v (eqW d u)
  | [], _, _, .nil, .nil, _, u, m => by simp at m
  | .str y :: r, _, _, .cons x1 t, .cons r1 r2, h, u, m => by
    rcases List.mem_cons.mp m with rfl | m
    · cases x1
      obtain ⟨t', rfl⟩ := r1
      exact (rcS I hu y t' dx rx).2.2
    · exact strs_eq I hu dx rx t r2 h u m
  | .none :: r, _, _, .cons x t, .cons r1 r2, h, _, _ => by cases h
  | .bool _ :: r, _, _, .cons x t, .cons r1 r2, h, _, _ => by cases h
  | .int _ :: r, _, _, .cons x t, .cons r1 r2, h, _, _ => by cases h
  | .list _ :: r, _, _, .cons x t, .cons r1 r2, h, _, _ => by cases h
  | .tuple _ :: r, _, _, .cons x t, .cons r1 r2, h, _, _ => by cases h
  | .dict _ :: r, _, _, .cons x t, .cons r1 r2, h, _, _ => by cases h
theorem in_room {A : Around} {d : D} {n : Nat} (h : SeqAt.shaped d = true) (hu : A.units + 66 < cLine) : A.units + 1 + min n d.depth < cLine := by
  have h1 := SeqAt.depth_of_shaped h
  have h2 : min n d.depth ≤ d.depth := Nat.min_le_right _ _
  omega
theorem canAll {ds : List D} (h : SeqAt.shaped (.list ds) = true) : PyData.canLayAll0 ds = true := SeqAt.canLay_of_shaped h
theorem od_in {k : Nat} (hr : Room k X.A) (hs : ∃ o, X.base.get? sysModules = some o) : OpD X (compareOp .In) inG := by
  intro pins s σ H x y v u Q I rx ry ⟨d, e, z, dx, dy, eg, k⟩
  have hu := hr.un
  have fin : ∀ (b : Bool) (t : Nat), z = .bool b → EP X pins σ Q (.bool b) { s with toks := t } := fun b t e => by
    subst e
    exact EP.bl (I.tok t) (P := fun B => True) fun v H' S g => k v H' S fun B tb a b => g B tb trivial
  unfold inG at eg
  split at eg
  · rename_i ds
    unfold inB at eg
    cases dy with
    | lst q b t =>
      cases ry
      obtain ⟨its, rv, pl, _⟩ := I.list (.inl q)
      split at eg
      · rename_i hst
        cases eg
        refine SeqAt.in_listAt (eqW d) pl.isList (fun w hw => strs_eq I (by show X.A.units + 1 < cLine; omega) dx rx t rv hst w (by simpa using hw)) ?_
        rw [show its.toArray.any (eqW d) = its.any (eqW d) by simp, strs_any t rv hst]
        exact fin _ s.toks rfl
      · split at eg
        · rename_i hc
          cases eg
          obtain ⟨as, r1, _⟩ := DV.reads hs I d x v dx rx
          obtain ⟨bs, r2, _⟩ := DV.reads hs I _ _ _ (.lst q b t) (show RelV (.ref _) (.ref _) from rfl)
          exact SeqAt.in_list_reads r2 r1 (canAll hc.2) (SeqAt.canLay_of_shaped hc.1) (in_room hc.1 (by omega)) (fin _ s.toks rfl)
        · cases eg
  · rename_i ds
    unfold inB at eg
    obtain ⟨a, rfl⟩ := dy.isRef
    cases ry
    obtain ⟨vs, q, t⟩ := SqT.ofD dy
    obtain ⟨its, rv, pl, _⟩ := I.tuple q
    split at eg
    · rename_i hst
      cases eg
      refine SeqAt.in_tupleAt (eqW d) pl (fun w hw => strs_eq I (by show X.A.units + 1 < cLine; omega) dx rx t rv hst w (by simpa using hw)) ?_
      rw [show its.toArray.any (eqW d) = its.any (eqW d) by simp, strs_any t rv hst]
      exact fin _ s.toks rfl
    · split at eg
      · rename_i hc
        cases eg
        obtain ⟨as, r1, _⟩ := DV.reads hs I d x v dx rx
        obtain ⟨bs, r2, _⟩ := DV.reads hs I _ _ _ dy (show RelV (.ref a) (.ref a) from rfl)
        exact SeqAt.in_tuple_reads r2 r1 (canAll hc.2) (SeqAt.canLay_of_shaped hc.1) (in_room hc.1 (by omega)) (fin _ s.toks rfl)
      · cases eg
  · rename_i x1 z1
    split at eg
    · rename_i c hc
      cases eg
      cases dx
      cases dy
      have e1 : x1 = ⟨#[c]⟩ := by
        cases x1 with
        | mk a =>
          have : a = #[c] := by rw [← Array.toArray_toList (xs := a), hc]
          rw [this]
      subst e1
      exact op_in_sign pins s σ H _ _ v u Q I rx ry ⟨_, _, rfl, rfl, k _ H (fun _ _ q => q) fun B _ _ _ => .bl _⟩
    · cases eg
  · cases eg
theorem od_nin {k : Nat} (hr : Room k X.A) (hs : ∃ o, X.base.get? sysModules = some o) : OpD X (compareOp .NotIn) ninG := by
  intro pins s σ H x y v u Q I rx ry ⟨d, e, z, dx, dy, eg, k⟩
  have hu := hr.un
  have fin : ∀ (b : Bool) (t : Nat), z = .bool b → EP X pins σ Q (.bool b) { s with toks := t } := fun b t e => by
    subst e
    exact EP.bl (I.tok t) (P := fun B => True) fun v H' S g => k v H' S fun B tb a b => g B tb trivial
  unfold ninG at eg
  unfold inG at eg
  split at eg
  · rename_i ds
    unfold inB at eg
    cases dy with
    | lst q b t =>
      cases ry
      obtain ⟨its, rv, pl, _⟩ := I.list (.inl q)
      split at eg
      · rename_i hst
        cases eg
        refine SeqAt.notIn_listAt (eqW d) pl.isList (fun w hw => strs_eq I (by show X.A.units + 1 < cLine; omega) dx rx t rv hst w (by simpa using hw)) ?_
        rw [show its.toArray.any (eqW d) = its.any (eqW d) by simp, strs_any t rv hst]
        exact fin _ s.toks rfl
      · split at eg
        · rename_i hc
          cases eg
          obtain ⟨as, r1, _⟩ := DV.reads hs I d x v dx rx
          obtain ⟨bs, r2, _⟩ := DV.reads hs I _ _ _ (.lst q b t) (show RelV (.ref _) (.ref _) from rfl)
          exact SeqAt.notIn_list_reads r2 r1 (canAll hc.2) (SeqAt.canLay_of_shaped hc.1) (in_room hc.1 (by omega)) (fin _ s.toks rfl)
        · cases eg
  · rename_i ds
    unfold inB at eg
    obtain ⟨a, rfl⟩ := dy.isRef
    cases ry
    obtain ⟨vs, q, t⟩ := SqT.ofD dy
    obtain ⟨its, rv, pl, _⟩ := I.tuple q
    split at eg
    · rename_i hst
      cases eg
      refine SeqAt.notIn_tupleAt (eqW d) pl (fun w hw => strs_eq I (by show X.A.units + 1 < cLine; omega) dx rx t rv hst w (by simpa using hw)) ?_
      rw [show its.toArray.any (eqW d) = its.any (eqW d) by simp, strs_any t rv hst]
      exact fin _ s.toks rfl
    · split at eg
      · rename_i hc
        cases eg
        obtain ⟨as, r1, _⟩ := DV.reads hs I d x v dx rx
        obtain ⟨bs, r2, _⟩ := DV.reads hs I _ _ _ dy (show RelV (.ref a) (.ref a) from rfl)
        exact SeqAt.notIn_tuple_reads r2 r1 (canAll hc.2) (SeqAt.canLay_of_shaped hc.1) (in_room hc.1 (by omega)) (fin _ s.toks rfl)
      · cases eg
  · rename_i x1 z1
    split at eg
    · rename_i c hc
      cases eg
      cases dx
      cases dy
      have e1 : x1 = ⟨#[c]⟩ := by
        cases x1 with
        | mk a =>
          have : a = #[c] := by rw [← Array.toArray_toList (xs := a), hc]
          rw [this]
      subst e1
      exact op_notIn_sign pins s σ H _ _ v u Q I rx ry ⟨_, _, rfl, rfl, k _ H (fun _ _ q => q) fun B _ _ _ => .bl _⟩
    · cases eg
  · cases eg
end
end DL

namespace DL
open PySem PySem.Spec PyProof.Rows L2

/-! ### slices of tuples -/
section
variable {prog : Program} {w : World} {A : Around} {E : Value → Shared → Prop} {s : Shared}
def wholeC (lo step : Int) (k n : Nat) : Bool := lo == 0 && step == 1 && k == n
theorem tup_slice {t sl : Addr} {items : Array Value} {lo step : Int} {k : Nat} {Q : Value → Shared → Prop} (ht : IsTup s.heap t items) (hTs : s.TypeIs (.ref sl) "slice")
    (happ : ∀ (A' : Around) (E' : Value → Shared → Prop) (Q' : Int × Int × Nat → Shared → Prop), Q' (lo, step, k) s → wpAny (model prog w) A' (Builtin.Slice.sliceApplied (.ref sl) (pure (items.size : Int))) Q' E' s)
    (hw : wholeC lo step k items.size = true → Q (.ref t) s)
    (hn : wholeC lo step k items.size = false → Q (.ref s.heap.objs.size) { s with heap := s.heap.push { cls := .type "tuple", data := .seq ((List.range k).filterMap fun (m : Nat) => items[(lo + (m : Int) * step).toNat]?).toArray } })
    (hsz : ((List.range k).filterMap fun (m : Nat) => items[(lo + (m : Int) * step).toNat]?).length ≤ sizeLine) : wpAny (model prog w) A (getItem (.ref t) (.ref sl)) Q E s := by
  unfold getItem
  try with_reducible refine wpAny_holding ?_
  first
    | refine wpAny_bind (wpAny_pure ?_)
    | skip
  refine wpAny_bind (wpAny_sequenceKey ht.typeIs (by decide) ?_)
  refine wpAny_bind (wpAny_callSpecial?_slot
    (name := Str.ofString "__getitem__") ht.typeIs PyProof.Rows.slot_tuple_getitem
    (wpAny_call_entry PyProof.Rows.slot_tuple_getitem ht.typeIs entry_tuple_getitem ?_
      (args_tuple_getitem _ _)))
  show wpAny _ _ (Builtin.Tuple.tupleItemsOf (.ref t) >>= _) _ _ s
  refine wpAny_bind (tupleItemsOf_ ht (wpAny_bind (wpAny_typeOf hTs ?_)))
  rw [if_pos (by decide)]
  refine wpAny_bind (happ _ _ _ ?_)
  cases hc : wholeC lo step k items.size with
  | true =>
    show wpAny _ _ (if wholeC lo step k items.size = true then _ else _) _ _ s
    rw [hc, if_pos rfl]
    have ex : ∀ (A' : Around) (E' : Value → Shared → Prop) (Q' : Bool → Shared → Prop), Q' true s → wpAny (model prog w) A' (Builtin.Tuple.tupleIsExact (.ref t)) Q' E' s := fun A' E' Q' q => by
      unfold Builtin.Tuple.tupleIsExact
      exact wpAny_bind (wpAny_typeOf ht.typeIs (wpAny_pure q))
    refine wpAny_bind (ex _ _ _ ?_)
    rw [if_pos rfl]
    exact wpAny_bind (wpAny_rule (wpAny_bind (wpAny_pure (wpAny_pure ⟨_, rfl, wpAny_pure (hw hc)⟩))))
  | false =>
    show wpAny _ _ (if wholeC lo step k items.size = true then _ else _) _ _ s
    rw [hc, if_neg Bool.false_ne_true]
    have so : sizeOk (.seq ((List.range k).filterMap fun (m : Nat) => items[(lo + (m : Int) * step).toNat]?).toArray) := by
      show (List.toArray _).size ≤ sizeLine
      rw [List.size_toArray]
      exact hsz
    first
      | exact wpAny_bind (m := Builtin.Tuple.tupleExact _) (wpAny_newObj_type (wpAny_pure ⟨_, rfl, wpAny_pure (hn hc)⟩) so)
      | exact wpAny_bind (m := Builtin.Tuple.tupleExact _) (wpAny_newObj_type (wpAny_bind (wpAny_pure (wpAny_pure ⟨_, rfl, wpAny_pure (hn hc)⟩))) so)
      | exact wpAny_bind (wpAny_bind (m := Builtin.Tuple.tupleExact _) (wpAny_newObj_type (wpAny_pure (wpAny_pure ⟨_, rfl, wpAny_pure (hn hc)⟩)) so))
end

/-! ### slices -/
def cutD {α : Type} (xs : List α) (lo hi : Option Int) : List α := (xs.drop (HT.sIx xs.length 0 lo)).take (HT.sIx xs.length xs.length hi - HT.sIx xs.length 0 lo)
def slD (d : D) (lo hi : Option Int) : Option D := match d with
  | .list ds => some (.list (cutD ds lo hi))
  | .tuple ds => some (.tuple (cutD ds lo hi))
  | .str x => if x.length ≤ sizeLine then some (.str (cutS x lo hi)) else none
  | _ => none
def rSl (K : PySem.W.Frag) : V → Option Int → Option Int → Hp → VK → Prop := fun x lo hi H Q => ∃ d z, DV K H NoB x d ∧ slD d lo hi = some z ∧ ∀ v H', Same H H' → (∀ B, Trk B H → DV K H B x d → DV K H' B v z) → Q v H'
theorem DVs.cut {K : PySem.W.Frag} {H : Hp} {B : Addr → Prop} {vs : List V} {ds : List D} {lo hi : Option Int} (t : DVs K H B vs ds) : DVs K H B (cutV vs lo hi) (cutD ds lo hi) := by
  unfold cutV cutD
  rw [t.length]
  exact (t.drop _).take _
theorem cutD_all {xs : List α} {lo hi : Option Int} (h1 : HT.sIx xs.length 0 lo = 0) (h2 : HT.sIx xs.length xs.length hi = xs.length) : cutD xs lo hi = xs := by
  unfold cutD
  rw [h1, h2, Nat.sub_zero, List.drop_zero, List.take_length]
section
variable {X : Cx}
theorem sl_seqD : SlR X (rSl X.K) := by
  intro pins s σ H x v vl vu lo hi sl Q I rx hs pl pu ⟨d, z, dx, eg, k⟩
  unfold slD at eg
  split at eg
  · cases eg
    cases dx with
    | @lst a xs ds q b t =>
      refine sl_list pins s σ H _ v vl vu lo hi sl Q I rx hs pl pu ⟨_, _, rfl, .inl q, fun p n => ?_⟩
      have S := same_fresh (o := .lst (cutV xs lo hi)) n
      exact k _ _ S fun B tb x1 => .lst (.inl upd_same) (fun z => tb _ z n) ((x1.lstAt I (.inl q)).cut.same S)
  · rename_i ds
    cases eg
    obtain ⟨a, rfl⟩ := dx.isRef
    obtain ⟨vs, q, t⟩ := SqT.ofD dx
    cases rx
    obtain ⟨its, rv, pt, hz⟩ := I.tuple q
    have l1 := rv.length
    have l2 := t.length
    have hlen : its.toArray.size = ds.length := by rw [List.size_toArray, ← l1, l2]
    refine ⟨"tuple", _, PyProof.Rows.slot_tuple_getitem.lookup, pt.typeIs, ?_⟩
    have hTs : s.TypeIs (.ref sl) "slice" := let ⟨os, h1, h2, _⟩ := hs; ⟨os, h1, h2⟩
    have epk := HT.pick_gen its.toArray (HT.sIx its.toArray.size 0 lo) (HT.sIx its.toArray.size its.toArray.size hi - HT.sIx its.toArray.size 0 lo)
    have epl := congrArg Array.toList epk
    simp only [List.toList_toArray] at epl
    refine tup_slice (lo := ((HT.sIx its.toArray.size 0 lo : Nat) : Int)) (step := 1) (k := HT.sIx its.toArray.size its.toArray.size hi - HT.sIx its.toArray.size 0 lo) pt hTs (fun A' E' Q' q => HT.sliceApplied_gen hs pl pu q) (fun hw => ?_) (fun hw => ?_) ?_
    · unfold wholeC at hw
      simp only [Bool.and_eq_true, beq_iff_eq] at hw
      obtain ⟨⟨w1, _⟩, w2⟩ := hw
      rw [hlen] at w1 w2
      have e1 : HT.sIx ds.length 0 lo = 0 := by omega
      have e2 : HT.sIx ds.length ds.length hi = ds.length := by
        rw [e1] at w2
        omega
      rw [cutD_all e1 e2] at k
      exact ⟨.ref a, H, I, rfl, k _ H (fun _ _ q => q) fun B _ x1 => x1⟩
    · rw [epk]
      rw [hlen]
      exact EP.newT (ys := (vs.drop (HT.sIx ds.length 0 lo)).take (HT.sIx ds.length ds.length hi - HT.sIx ds.length 0 lo)) I ((rv.drop _).take _) (by rw [List.length_take, List.length_drop]; omega) (P := fun B => DV X.K H B (.ref a) (.tuple ds)) (fun B p => (((p.tupAt I q).drop _).take _)) k
    · rw [epl, List.length_take, List.length_drop]
      omega
  · split at eg
    · rename_i hl
      cases eg
      cases dx
      exact sl_str pins s σ H _ v vl vu lo hi sl Q I rx hs pl pu ⟨_, rfl, hl, k _ H (fun _ _ q => q) fun B _ _ => .str _⟩
    · cases eg
  · cases eg
/-- a part of a slice -/
inductive SPart where
  | no
  | at (f : M D)
def prtM : SPart → M (Option Int)
  | .no => fun r => .ok none r
  | .at f => fun r => (f r).bind fun d r1 => match d with
    | .int i => .ok (some i) r1
    | _ => .bad
def slM (f : M D) (lo hi : SPart) : M D := fun r => (f r).bind fun d r1 => (prtM lo r1).bind fun l r2 => (prtM hi r2).bind fun h r3 => opt (slD d l h) r3
def tP (K : PySem.W.Frag) (fa : Nat → Addr) (W : Wi) (p : SPart) : TO := fun σ H Q => ∃ F B O r, RL K fa F B O r σ H ∧ Aft K fa W F B O H (prtM p r) fun o r' O' σ' H' => σ' = σ → Q o H'
abbrev PPt (X : Cx) (fa : Nat → Addr) (W : Wi) (e : Option Expr) (p : SPart) : Prop := PO X e (tP X.K fa W p)
variable {fa : Nat → Addr} {W : Wi} {e : Expr} {f : M D} {pos p2 : Pos}
theorem PO.imp {e : Option Expr} {t t' : TO} (h : PO X e t) (i : ∀ σ H Q, t' σ H Q → t σ H Q) : PO X e t' := ⟨fun pins s σ H Q I q => h.run pins s σ H Q I (i _ _ _ q)⟩
theorem pp_no : PPt X fa W none .no := PO.imp po_none fun σ H Q ⟨F, B, O, r, R, h⟩ => h O σ H R Ext.refl rfl
theorem pp_at (h : PV X fa W e f) : PPt X fa W (some e) (.at f) := PO.imp (po_some h) fun σ H Q ⟨F, B, O, r, R, h⟩ => ⟨F, B, O, r, R, (Aft.bind h).mono fun d r1 O1 σ1 H1 _ R1 _ ⟨_, _, q⟩ es v x => by
  subst es
  cases d with
  | int i =>
    cases x
    exact ⟨i, rfl, q O1 _ H1 R1 Ext.refl rfl⟩
  | _ => exact False.elim q⟩
theorem pv_sl {lo hi : Option Expr} {pl ph : SPart} (he : PV X fa W e f) (hl : PPt X fa W lo pl) (hh : PPt X fa W hi ph) : PV X fa W (.Subscript e (.Slice lo hi none p2) pos) (slM f pl ph) := by
  refine PE.imp (pe_slice sl_seqD he hl hh) fun σ H Q ⟨F, B, O, r, R, h⟩ => ?_
  refine ⟨F, B, O, r, R, (Aft.bind h).mono fun d r1 O1 σ1 H1 _ R1 e1 ⟨_, _, h1⟩ es v x => ?_⟩
  subst es
  refine ⟨F, B, O1, r1, R1, (Aft.bind h1).mono fun l r2 O2 σ2 H2 _ R2 e2 ⟨_, _, h2⟩ es => ?_⟩
  subst es
  refine ⟨F, B, O2, r2, R2, (Aft.bind h2).mono fun u r3 O3 σ3 H3 _ R3 e3 ⟨_, _, h3⟩ es => ?_⟩
  subst es
  cases hz : slD d l u with
  | none => rw [hz] at h3; exact False.elim h3
  | some z =>
    rw [hz] at h3
    have x3 := (x.ext e2).ext e3
    exact ⟨d, z, x3.free, hz, fun v H' S g => h3 O3 _ H' (R3.same S) (Ext.same S) rfl v (g _ R3.trk x3)⟩
/-! ### the other way round -/
theorem back_applied {prog : Program} {w : World} {A : Around} {E : Value → Shared → Prop} {s : Shared} {sl : Addr} {t : Tok} {n : Nat} {Q : Int × Int × Nat → Shared → Prop} (hs : s.heap.IsSliceOf sl .none .none (.int (-1) t)) (h : Q ((n : Int) - 1, -1, n) s) :
    wpAny (model prog w) A (Builtin.Slice.sliceApplied (.ref sl) (pure (n : Int))) Q E s := by
  obtain ⟨os, hos, hcs, hds⟩ := id hs
  unfold Builtin.Slice.sliceApplied Builtin.Slice.sliceFields
  refine wpAny_bind (wpAny_bind (wpAny_field hos hds (x := .none) rfl (wpAny_bind (wpAny_field hos hds (x := .none) rfl
    (wpAny_bind (wpAny_field hos hds (x := .int (-1) t) rfl (wpAny_pure ?_)))))))
  refine wpAny_bind (HT.slicePart_ (.int (-1) t) ?_)
  show wpAny _ _ (if ((-1 : Int) == 0) = true then _ else _) _ _ s
  rw [if_neg (by decide)]
  refine wpAny_bind (slicePart_none (wpAny_bind (slicePart_none (wpAny_bind (wpAny_pure ?_)))))
  have e1 : Builtin.Slice.sliceAdjust none none (-1) (n : Int) = ((n : Int) - 1, -1) := rfl
  have e2 : Builtin.Slice.slicePlaces ((n : Int) - 1) (-1) (-1) = n := by
    unfold Builtin.Slice.slicePlaces
    rw [if_neg (by decide), show (- -1 : Int) = 1 by decide, Int.ediv_one]
    by_cases hn : (n : Int) - 1 > -1
    · rw [if_pos hn]; omega
    · rw [if_neg hn]; omega
  show wpAny _ _ (match Builtin.Slice.sliceAdjust none none (-1) (n : Int) with | (lo, hi) => pure (lo, (-1 : Int), Builtin.Slice.slicePlaces lo hi (-1))) _ _ s
  rw [e1]
  show wpAny _ _ (pure ((n : Int) - 1, (-1 : Int), Builtin.Slice.slicePlaces ((n : Int) - 1) (-1) (-1))) _ _ s
  rw [e2]
  exact wpAny_pure h
theorem back_pick (xs : List Value) : (List.range xs.length).filterMap (fun (m : Nat) => xs.toArray[((xs.length : Int) - 1 + (m : Int) * -1).toNat]?) = xs.reverse := by
  have h : ∀ k, k ≤ xs.length → (List.range k).filterMap (fun (m : Nat) => xs.toArray[((xs.length : Int) - 1 + (m : Int) * -1).toNat]?) = xs.reverse.take k := by
    intro k
    induction k with
    | zero => intro _; simp
    | succ k ih =>
      intro hk
      have e1 : (((xs.length : Int) - 1 + (k : Int) * -1).toNat) = xs.length - 1 - k := by omega
      have e2 : xs.toArray[xs.length - 1 - k]? = some (xs[xs.length - 1 - k]'(by omega)) := by simp
      have e3 : xs.reverse[k]? = some (xs[xs.length - 1 - k]'(by omega)) := by
        rw [List.getElem?_reverse (by omega), List.getElem?_eq_getElem (by omega)]
      rw [List.range_succ, List.filterMap_append, ih (by omega), List.take_add_one, e3]
      simp only [List.filterMap_cons, List.filterMap_nil, e1, e2]
      rfl
  rw [h _ (Nat.le_refl _), ← List.length_reverse, List.take_length]
def revG : D → Option D
  | .tuple ds => some (.tuple ds.reverse)
  | _ => none
def mapM1 (g : D → Option D) (f : M D) : M D := fun r => (f r).bind fun d r1 => opt (g d) r1
theorem pv_back {p3 p4 : Pos} {j : Nat} (he : PV X fa W e f) : PV X fa W (.Subscript e (.Slice none none (some (.UnaryOp .USub (.Constant (.int 1) j p4) p3)) p2) pos) (mapM1 revG f) := by
  refine ⟨fun pins s σ H Q I ⟨F, B, O, r, R, h⟩ => ?_⟩
  have h0 : tV X.K fa W f σ H fun v H1 => ∃ d O1 r1, RL X.K fa F B O1 r1 σ H1 ∧ DV X.K H1 (Bn B O1) v d ∧ Aft X.K fa W F B O1 H1 (opt (revG d) r1) fun d r' O' σ' H' => σ' = σ → ∀ v, DV X.K H' (Bn B O') v d → Q v H' :=
    ⟨F, B, O, r, R, (Aft.bind h).mono fun d r1 O1 σ1 H1 _ R1 e1 ⟨_, _, h1⟩ es v x => by
      subst es
      exact ⟨d, O1, r1, R1, x, h1⟩⟩
  refine Subscript_ (thn (he.run pins s σ H _ I h0) fun v s1 hv => ?_)
  obtain ⟨y, H1, I1, ry, d, O1, r1, R1, x, h1⟩ := hv
  refine wpAny_Slice ?_
  rw [evalPart_none]
  refine wpAny_pure ?_
  refine wpAny_pure ?_
  rw [evalPart_some]
  refine thn ((pe_un un_neg (pe_int (i := 1) (j := j) (pos := p4)) (pos := p3)).run pins s1 σ H1 (fun v H2 => v = .int (-1) ∧ H2 = H1) I1 ⟨1, rfl, rfl, rfl⟩) fun vk s2 ⟨z, H2, I2, rz, ez, eH⟩ => ?_
  subst ez eH
  obtain ⟨tk, rfl⟩ := rz
  have I4 : Inv X pins σ H2 { s2 with heap := s2.heap.push { cls := .type "slice", data := .fields #[.none, .none, .int (-1) tk] } } := I2.kept (t' := s2.toks) fun b ob q => Heap.get?_push_of_some _ q
  have hs : Heap.IsSliceOf (s2.heap.push { cls := .type "slice", data := .fields #[.none, .none, .int (-1) tk] }) s2.heap.objs.size .none .none (.int (-1) tk) := Heap.IsSliceOf.new ..
  cases d with
  | tuple ds =>
    have h2 : Aft X.K fa W F B O1 H2 (.ok (.tuple ds.reverse) r1) fun d r' O' σ' H' => σ' = σ → ∀ v, DV X.K H' (Bn B O') v d → Q v H' := h1
    obtain ⟨a, rfl⟩ := x.isRef
    obtain ⟨vs, q, t⟩ := SqT.ofD x
    cases ry
    obtain ⟨its, rv, pt, hz⟩ := I4.tuple q
    have l1 := rv.length
    have l2 := t.length
    have hTs : Shared.TypeIs { s2 with heap := s2.heap.push { cls := .type "slice", data := .fields #[.none, .none, .int (-1) tk] } } (.ref s2.heap.objs.size) "slice" := let ⟨os, h1, h2, _⟩ := hs; ⟨os, h1, h2⟩
    have ebp := back_pick its
    have esz : its.toArray.size = its.length := List.size_toArray ..
    refine tail_any (ops := [.ref a, .ref s2.heap.objs.size]) pt.typeIs PyProof.Rows.slot_tuple_getitem.lookup ?_ (by with_unfolding_all rfl)
    refine tup_slice (lo := (its.length : Int) - 1) (step := -1) (k := its.length) pt hTs (fun A' E' Q' q => by rw [esz]; exact back_applied hs q) (fun hw => ?_) (fun hw => ?_) ?_
    · unfold wholeC at hw
      simp at hw
    · rw [ebp]
      have nn : H2 (Heap.objs (s2.heap.push { cls := .type "slice", data := .fields #[.none, .none, .int (-1) tk] })).size = none := I4.hok.fresh (Nat.le_refl _)
      refine EP.newT (ys := vs.reverse) I4 rv.reverse (by rw [List.length_reverse]; exact hz) (P := fun B => DV X.K H2 B (.ref a) (.tuple ds)) (fun B p => (p.tupAt I4 q).reverse) fun v H' S g => ?_
      exact h2 O1 σ H' (R1.same S) (Ext.same S) rfl v (g _ R1.trk x)
    · rw [ebp, List.length_reverse]
      omega
  | _ => exact False.elim h1
end
end DL

namespace DL
open PySem PySem.Spec PyProof.Rows L2
open PySem.AutoSeq1 (wpAny_loadPart')
/-! ### products -/
theorem tuple_mul0 (l : Addr) (n : Nat) (dd : Option Addr) (sl : Array (Option Value)) (x : Int) (u : Tok) (c0 : (decide (x < -(2 ^ 63)) || decide (x ≥ 2 ^ 63)) = false) :
    Meets (Builtin.«tuple.__mul__» ⟨[.ref l, .int x u], []⟩) (fun _ R s => s.heap.get? l = some { cls := .type "tuple", dict := dd, data := .seq #[] n, slots := sl } ∧ R (.ok (.ret (.ref l))) s) :=
  .of_wp fun prog w A R s h => by
    obtain ⟨hp, g, d, tk, os⟩ := s
    obtain ⟨hl, h⟩ := h
    have f1 := AutoSeq1.idx_int
    wp_walk using wpAny_loadPart' hl
    refine wpAny_ite_false (decide_eq_false (by rw [c0]; exact Bool.false_ne_true)) ?_
    wp_walk using wpAny_loadPart' hl
    all_goals first
      | exact ⟨_, rfl, h⟩
      | skip
theorem tuple_mul1 (l : Addr) (its : Array Value) (n : Nat) (dd : Option Addr) (sl : Array (Option Value)) (x : Int) (u : Tok) (c0 : (decide (x < -(2 ^ 63)) || decide (x ≥ 2 ^ 63)) = false) (c1 : (its.isEmpty || x == 1) = true) :
    Meets (Builtin.«tuple.__mul__» ⟨[.ref l, .int x u], []⟩) (fun _ R s => s.heap.get? l = some { cls := .type "tuple", dict := dd, data := .seq its n, slots := sl } ∧ R (.ok (.ret (.ref l))) s) :=
  .of_wp fun prog w A R s h => by
    obtain ⟨hp, g, d, tk, os⟩ := s
    obtain ⟨hl, h⟩ := h
    have f1 := AutoSeq1.idx_int
    wp_walk using wpAny_loadPart' hl
    refine wpAny_ite_false (decide_eq_false (by rw [c0]; exact Bool.false_ne_true)) ?_
    wp_walk using wpAny_loadPart' hl
    exact ⟨_, rfl, h⟩
theorem mulOk_c {i j : Int} (h : mulOk i j = true) : CMul i j := by
  unfold mulOk at h
  exact (of_decide_eq_true h : (-(2 ^ 64) < i ∧ i < 2 ^ 64) ∨ (-(2 ^ 64) < j ∧ j < 2 ^ 64))
/-- a text over and over -/
def repS (x : Str) (k : Int) : Str := if k < 1 then Str.empty else if (k == 1 || x.length == 0) = true then x else ⟨(List.replicate k.toNat x.cps).foldl (· ++ ·) #[]⟩
def mulG : D → D → Option D
  | .str x, .int k => if -1000000 ≤ k ∧ k ≤ 100000 ∧ x.length ≤ 100 then some (.str (repS x k)) else none
  | .int i, .int j => if mulOk i j = true then some (.int (i * j)) else none
  | .list xs, .int k => if 0 ≤ k ∧ k < 2 ^ 63 ∧ xs.length * k.toNat ≤ sizeLine then some (.list (List.replicate k.toNat xs).flatten) else none
  | .tuple xs, .int k => if 2 ≤ k ∧ k ≤ 1000 ∧ xs.length ≤ 1000 then some (.tuple (List.replicate k.toNat xs).flatten) else if k = 1 then some (.tuple xs) else none
  | _, _ => none

section
variable {X : Cx}
theorem rep_arr (its : List Value) (m : Nat) : List.foldl (fun a b => a ++ b) #[] (List.replicate m its.toArray) = (List.replicate m its).flatten.toArray := by
  have h := foldl_rep its m []
  rw [List.nil_append] at h
  exact h
theorem mul_lst {pins : List (Addr × Obj)} {σ : L2.St} {H : Hp} {s : Shared} {Q : VK} {a : Addr} {xs : List V} {ds : List D} {k : Int} {t : Tok} (I : Inv X pins σ H s) (q : Rd H a (.lst xs)) (h0 : 0 ≤ k) (h2 : k < 2 ^ 63) (hz : xs.length * k.toNat ≤ sizeLine) (el : xs.length = ds.length)
    (kq : ∀ v H', Same H H' → (∀ B, Trk B H → DV X.K H B (.ref a) (.list ds) → DV X.K H' B v (.list (List.replicate k.toNat ds).flatten)) → Q v H') : wpAny (model X.prog X.w) X.A (binaryOp .Mult (.ref a) (.int k t)) (EP X pins σ Q) X.xe s := by
  obtain ⟨zz, its, n, r, e⟩ := q.ok I.hok
  have hl := r.length
  have c1 : its.toArray.size * k.toNat ≤ sizeLine := by rw [List.size_toArray, ← hl]; exact hz
  have c2 : ¬ its.toArray.size * k.toNat > (2 ^ 63 - 1) / 8 := fun w => by
    have w2 : (sizeLine : Nat) ≤ (2 ^ 63 - 1) / 8 := by decide
    omega
  have c3 : ¬ (!Builtin.List.listFitsIndex k) = true := fun w => by
    rw [fitsIndex_both (by omega) h2] at w
    cases w
  have c4 : ¬ Builtin.List.listTooLong (its.toArray.size * k.toNat) = true := fun w => by
    rw [notLongL c1] at w
    cases w
  have c5 : List.foldl (fun x1 x2 => x1 ++ x2) #[] (List.replicate (if its.toArray.isEmpty = true then 0 else k.toNat) its.toArray) = (List.replicate k.toNat its).flatten.toArray := by
    rw [rep_arr]
    cases its with
    | nil => simp
    | cons i0 ir => simp
  refine wpAny_binaryOp_repeat_ref (T := "list") (U := "int") (by decide) ⟨_, e, rfl⟩ (fun s' => typeIs_int s' k t)
    noFill_list_mul F.fills_int_mul F.slot_int_rmul repeat_list F.slot_int_index.lookup ?_
  refine call_meets F.slot_int_rmul (typeIs_int s k t) F.entry_int_rmul (F.args_int_rmul_2 _ _)
    (int___rmul___int_list k t a its.toArray n) ⟨e, rfl, ⟨_, e, rfl⟩, ?_⟩
  refine call_meets F.slot_list_mul ⟨_, e, rfl⟩ F.entry_list_mul (F.args_list_mul_2 _ _)
    (AutoListH.list___mul___list_int_3 a its.toArray n k t c3 c2 c4) ⟨e, ?_⟩
  rw [c5]
  exact EP.newL I (r.rep k.toNat) (by rw [PyProof.Rows.lm_len_rep_flat, Nat.mul_comm]; exact hz) (P := fun B => DV X.K H B (.ref a) (.list ds)) (fun B p => (p.lstAt I (.inl q)).rep k.toNat) kq
theorem mul_txt {pins : List (Addr × Obj)} {σ : L2.St} {H : Hp} {s : Shared} {Q : VK} {x : Str} {k : Int} {t u : Tok} (I : Inv X pins σ H s) (h : -1000000 ≤ k ∧ k ≤ 100000 ∧ x.length ≤ 100) (q : Q (.str (repS x k)) H) :
    wpAny (model X.prog X.w) X.A (binaryOp .Mult (.str x t) (.int k u)) (EP X pins σ Q) X.xe s := by
  have hl : Builtin.Str.tooLong (x.length * k.toNat) = false := by
    have h1 : x.length * k.toNat ≤ 100 * 100000 := Nat.mul_le_mul h.2.2 (by omega)
    have h2 : (100 * 100000 : Nat) ≤ sizeLine := by decide
    exact decide_eq_false (by omega)
  refine P.mul_str (by rw [decide_eq_false (by omega), decide_eq_false (by omega)]; rfl) (fun h1 _ w => ?_) (fun _ _ => hl) ?_
  · have h3 : (100 : Int) ≤ (2 ^ 63 - 1) / k := (Int.le_ediv_iff_mul_le (by omega)).2 (by omega)
    omega
  · unfold repS at q
    by_cases c : k < 1
    · rw [if_pos c] at q ⊢
      exact ⟨by decide, .str _, H, I.tok _, ⟨_, rfl⟩, q⟩
    · rw [if_neg c] at q ⊢
      by_cases d : (k == 1 || x.length == 0) = true
      · rw [if_pos d] at q ⊢
        exact ⟨.str x, H, I, ⟨t, rfl⟩, q⟩
      · rw [if_neg d] at q ⊢
        exact ⟨fits_reps hl, .str _, H, I.tok _, ⟨_, rfl⟩, q⟩
theorem od_mul : OpD X (binaryOp .Mult) mulG := by
  intro pins s σ H x y v u Q I rx ry ⟨d, e, z, dx, dy, eg, k⟩
  unfold mulG at eg
  split at eg
  · split at eg
    · rename_i hm
      cases eg
      cases dx
      cases dy
      obtain ⟨t1, rfl⟩ := rx
      obtain ⟨t2, rfl⟩ := ry
      exact mul_txt I hm (k _ H (fun _ _ q => q) fun B _ _ _ => .str _)
    · cases eg
  · split at eg
    · rename_i hm
      cases eg
      cases dx
      cases dy
      exact op_mul pins s σ H _ _ v u Q I rx ry ⟨_, _, rfl, rfl, mulOk_c hm, k _ H (fun _ _ q => q) fun B _ _ _ => .int _⟩
    · cases eg
  · split at eg
    · rename_i hc
      cases eg
      cases dy
      cases dx with
      | lst q b t =>
        cases rx
        obtain ⟨tk, rfl⟩ := ry
        exact mul_lst I q hc.1 hc.2.1 (by rw [t.length]; exact hc.2.2) t.length fun v H' S g => k v H' S fun B tb x1 _ => g B tb x1
    · cases eg
  · rename_i xs0 kk
    split at eg
    · rename_i hc
      cases eg
      cases dy
      obtain ⟨a, rfl⟩ := dx.isRef
      obtain ⟨vs, q, t⟩ := SqT.ofD dx
      by_cases hv : vs = []
      · subst hv
        cases t
        cases rx
        obtain ⟨tk, rfl⟩ := ry
        obtain ⟨its, rv, ⟨⟨c1, d1, da, sl⟩, ho, hcc, n, hd⟩, _⟩ := I.tuple q
        cases rv
        simp only at hcc hd
        subst hcc hd
        have c0 : (decide (kk < -(2 ^ 63)) || decide (kk ≥ 2 ^ 63)) = false := by
          rw [decide_eq_false (by omega), decide_eq_false (by omega)]
          rfl
        refine wpAny_binaryOp_repeat_ref (T := "tuple") (U := "int") (by decide) ⟨_, ho, rfl⟩ (fun s' => typeIs_int s' kk tk)
          noFill_tuple_mul F.fills_int_mul F.slot_int_rmul repeat_tuple F.slot_int_index.lookup ?_
        refine call_meets F.slot_int_rmul (typeIs_int s kk tk) F.entry_int_rmul (F.args_int_rmul_2 _ _)
          (int_rmul_tuple kk tk a #[] n d1 sl) ⟨ho, rfl, ⟨_, ho, rfl⟩, ?_⟩
        refine call_meets F.slot_tuple_mul ⟨_, ho, rfl⟩ F.entry_tuple_mul (F.args_tuple_mul_2 _ _) (tuple_mul0 a n d1 sl kk tk c0) ⟨ho, ?_⟩
        refine ⟨.ref a, H, I, rfl, k _ H (fun _ _ q => q) fun B _ x1 _ => ?_⟩
        have e0 : (List.replicate kk.toNat ([] : List D)).flatten = [] := by simp
        rw [e0]
        exact x1
      · refine op_repT pins s σ H _ _ v u Q I rx ry ⟨a, _, vs, rfl, rfl, q, hv, hc.1, hc.2.1, by rw [t.length]; exact hc.2.2, fun p n => ?_⟩
        have S := same_fresh (o := .tup (List.replicate kk.toNat vs).flatten) n
        exact k _ _ S fun B tb x1 _ => .tup (.inl upd_same) (fun z => tb _ z n) (((x1.tupAt I q).rep _).same S)
    · split at eg
      · rename_i hk1
        cases eg
        subst hk1
        cases dy
        obtain ⟨a, rfl⟩ := dx.isRef
        obtain ⟨vs, q, t⟩ := SqT.ofD dx
        cases rx
        obtain ⟨tk, rfl⟩ := ry
        obtain ⟨its, rv, ⟨⟨c1, d1, da, sl⟩, ho, hcc, n, hd⟩, _⟩ := I.tuple q
        simp only at hcc hd
        subst hcc hd
        have c0 : (decide ((1 : Int) < -(2 ^ 63)) || decide ((1 : Int) ≥ 2 ^ 63)) = false := by decide
        refine wpAny_binaryOp_repeat_ref (T := "tuple") (U := "int") (by decide) ⟨_, ho, rfl⟩ (fun s' => typeIs_int s' 1 tk)
          noFill_tuple_mul F.fills_int_mul F.slot_int_rmul repeat_tuple F.slot_int_index.lookup ?_
        refine call_meets F.slot_int_rmul (typeIs_int s 1 tk) F.entry_int_rmul (F.args_int_rmul_2 _ _)
          (int_rmul_tuple 1 tk a its.toArray n d1 sl) ⟨ho, rfl, ⟨_, ho, rfl⟩, ?_⟩
        refine call_meets F.slot_tuple_mul ⟨_, ho, rfl⟩ F.entry_tuple_mul (F.args_tuple_mul_2 _ _) (tuple_mul1 a its.toArray n d1 sl 1 tk c0 (by simp)) ⟨ho, ?_⟩
        exact ⟨.ref a, H, I, rfl, k _ H (fun _ _ q => q) fun B _ x1 _ => x1⟩
      · cases eg
  · cases eg
/-! ### small built-ins -/
def negG : D → Option D
  | .int i => some (.int (-i))
  | _ => none
theorem pv_neg {fa : Nat → Addr} {W : Wi} {e : Expr} {f : M D} {pos : Pos} (h : PV X fa W e f) : PV X fa W (.UnaryOp .USub e pos) (mapM1 negG f) :=
  PE.imp (pe_un un_neg h) fun σ H Q ⟨F, B, O, r, R, h⟩ => ⟨F, B, O, r, R, (Aft.bind h).mono fun d r1 O1 σ1 H1 _ R1 _ ⟨_, _, q⟩ es v x => by
    subst es
    cases d with
    | int i =>
      cases x
      exact ⟨i, rfl, q O1 _ H1 R1 Ext.refl rfl _ (.int _)⟩
    | _ => exact False.elim q⟩
def absG : List D → Option D
  | [.int i] => some (.int (if i < 0 then -i else i))
  | _ => none
theorem cd_abs : CallD X (.builtin "abs") absG := by
  intro pins s σ H xs us Q I rv ⟨ds, z, dx, eg, k⟩
  unfold absG at eg
  split at eg
  · cases eg
    cases dx with
    | cons x t =>
      cases t
      cases x
      exact call_abs pins s σ H _ us Q I rv ⟨_, rfl, k _ H (fun _ _ q => q) fun B _ _ => .int _⟩
  · cases eg
def toIntG : List D → Option D
  | [.int i] => some (.int i)
  | [.bool b] => some (.int (if b then 1 else 0))
  | _ => none
theorem cd_int : CallD X (.type "int") toIntG := by
  intro pins s σ H xs us Q I rv ⟨ds, z, dx, eg, k⟩
  unfold toIntG at eg
  split at eg
  · cases eg
    cases dx with
    | cons x t =>
      cases t
      cases x
      exact call_int1 pins s σ H _ us Q I rv (.inl ⟨_, rfl, k _ H (fun _ _ q => q) fun B _ _ => .int _⟩)
  · cases eg
    cases dx with
    | cons x t =>
      cases t
      cases x
      exact call_int1 pins s σ H _ us Q I rv (.inr ⟨_, rfl, k _ H (fun _ _ q => q) fun B _ _ => .int _⟩)
  · cases eg
def tupleG : List D → Option D
  | [.list ds] => some (.tuple ds)
  | [.tuple ds] => some (.tuple ds)
  | _ => none
theorem cd_tuple : CallD X (.type "tuple") tupleG := by
  intro pins s σ H xs us Q I rv ⟨ds, z, dx, eg, k⟩
  unfold tupleG at eg
  split at eg
  · cases eg
    cases dx with
    | cons x t =>
      cases t
      cases x with
      | @lst a0 vs0 ds0 q b t =>
        refine call_tuple_of pins s σ H _ us Q I rv ⟨_, _, rfl, .inl ⟨.inl q, fun l n => ?_⟩⟩
        have S := same_fresh (o := .tup vs0) n
        refine k _ _ S fun B tb x1 => ?_
        cases x1 with
        | cons y _ => exact .tup (.inl upd_same) (fun z => tb _ z n) ((y.lstAt I (.inl q)).same S)
  · cases eg
    cases dx with
    | cons x t =>
      cases t
      obtain ⟨a, rfl⟩ := x.isRef
      obtain ⟨vs, q, t⟩ := SqT.ofD x
      refine call_tuple_of pins s σ H _ us Q I rv ⟨_, _, rfl, .inr ⟨q, k _ H (fun _ _ q => q) fun B _ x1 => ?_⟩⟩
      cases x1 with
      | cons y _ => exact y
  · cases eg
def listG : List D → Option D
  | [.list ds] => some (.list ds)
  | [.tuple ds] => some (.list ds)
  | _ => none
theorem cd_list : CallD X (.type "list") listG := by
  intro pins s σ H xs us Q I rv ⟨ds, z, dx, eg, k⟩
  unfold listG at eg
  split at eg
  · cases eg
    cases dx with
    | cons x t =>
      cases t
      cases x with
      | @lst a0 vs0 ds0 q b t =>
        refine call_list_of pins s σ H _ us Q I rv ⟨_, _, rfl, .inl (.inl q), fun l n => ?_⟩
        have S := same_fresh (o := .lst vs0) n
        refine k _ _ S fun B tb x1 => ?_
        cases x1 with
        | cons y _ => exact .lst (.inl upd_same) (fun z => tb _ z n) ((y.lstAt I (.inl q)).same S)
  · cases eg
    cases dx with
    | cons x t =>
      cases t
      obtain ⟨a, rfl⟩ := x.isRef
      obtain ⟨vs, q, t⟩ := SqT.ofD x
      refine call_list_of pins s σ H _ us Q I rv ⟨_, _, rfl, .inr q, fun l n => ?_⟩
      have S := same_fresh (o := .lst vs) n
      refine k _ _ S fun B tb x1 => ?_
      cases x1 with
      | cons y _ => exact .lst (.inl upd_same) (fun z => tb _ z n) ((y.tupAt I q).same S)
  · cases eg
def bools : List D → Option (List Bool)
  | [] => some []
  | .bool b :: r => (bools r).map (b :: ·)
  | _ => none
theorem bools_of {K : PySem.W.Frag} {H : Hp} {B : Addr → Prop} : ∀ {ds : List D} {vs : List V} {bs : List Bool}, DVs K H B vs ds → bools ds = some bs → vs = bs.map V.bl
  | [], _, _, .nil, e => by cases e; rfl
  | .bool b :: r, _, bs, .cons x t, e => by
    cases x
    simp only [bools] at e
    cases q : bools r with
    | none => rw [q] at e; cases e
    | some cs =>
      rw [q] at e
      cases e
      rw [bools_of t q]
      rfl
  | .none :: r, _, _, .cons x t, e => by cases e
  | .str _ :: r, _, _, .cons x t, e => by cases e
  | .int _ :: r, _, _, .cons x t, e => by cases e
  | .list _ :: r, _, _, .cons x t, e => by cases e
  | .tuple _ :: r, _, _, .cons x t, e => by cases e
  | .dict _ :: r, _, _, .cons x t, e => by cases e
def allG : List D → Option D
  | [.list ds] => (bools ds).map fun bs => .bool (bs.all id)
  | _ => none
def anyG : List D → Option D
  | [.list ds] => (bools ds).map fun bs => .bool (bs.any id)
  | _ => none
theorem cd_all (hc : X.calm = true) : CallD X (.builtin "all") allG := by
  intro pins s σ H xs us Q I rv ⟨ds, z, dx, eg, k⟩
  unfold allG at eg
  split at eg
  · rename_i es
    cases hb : bools es with
    | none => rw [hb] at eg; cases eg
    | some bs =>
      rw [hb] at eg
      cases eg
      cases dx with
      | cons x t =>
        cases t
        cases x with
        | lst q b t =>
          have e := bools_of t hb
          subst e
          exact cr_all hc pins s σ H _ us Q I rv ⟨_, bs, rfl, .inl q, k _ H (fun _ _ q => q) fun B _ _ => .bl _⟩
  · cases eg
theorem cd_any (hc : X.calm = true) : CallD X (.builtin "any") anyG := by
  intro pins s σ H xs us Q I rv ⟨ds, z, dx, eg, k⟩
  unfold anyG at eg
  split at eg
  · rename_i es
    cases hb : bools es with
    | none => rw [hb] at eg; cases eg
    | some bs =>
      rw [hb] at eg
      cases eg
      cases dx with
      | cons x t =>
        cases t
        cases x with
        | lst q b t =>
          have e := bools_of t hb
          subst e
          exact cr_any hc pins s σ H _ us Q I rv ⟨_, bs, rfl, .inl q, k _ H (fun _ _ q => q) fun B _ _ => .bl _⟩
  · cases eg
/-! ### methods of texts -/
def txts : List D → Option (List Str)
  | [] => some []
  | .str x :: r => (txts r).map (x :: ·)
  | _ => none
theorem txts_of {K : PySem.W.Frag} {H : Hp} {B : Addr → Prop} : ∀ {ds : List D} {vs : List V} {ys : List Str}, DVs K H B vs ds → txts ds = some ys → vs = ys.map V.str
  | [], _, _, .nil, e => by cases e; rfl
  | .str b :: r, _, bs, .cons x t, e => by
    cases x
    simp only [txts] at e
    cases q : txts r with
    | none => rw [q] at e; cases e
    | some cs =>
      rw [q] at e
      cases e
      rw [txts_of t q]
      rfl
  | .none :: r, _, _, .cons x t, e => by cases e
  | .bool _ :: r, _, _, .cons x t, e => by cases e
  | .int _ :: r, _, _, .cons x t, e => by cases e
  | .list _ :: r, _, _, .cons x t, e => by cases e
  | .tuple _ :: r, _, _, .cons x t, e => by cases e
  | .dict _ :: r, _, _, .cons x t, e => by cases e
/-- the texts of a list or tuple -/
def txtsIn : D → Option (List Str)
  | .list ds => txts ds
  | .tuple ds => txts ds
  | _ => none
def joinOk (a : Str) (ys : List Str) : Bool := decide ((ys.map (·.length)).sum + ys.length * a.length ≤ 16777216)
/-- joining a list (or tuple) of texts by a text -/
def joinM (a b : M D) : M D := fun r => (a r).bind fun x r1 => match x with
  | .str a => (b r1).bind fun y r2 => match txtsIn y with
    | some ys => bif joinOk a ys then .ok (.str (Txt.join a ys)) r2 else .bad
    | none => .bad
  | _ => .bad
theorem txtsIn_of {K : PySem.W.Frag} {H : Hp} {y : V} {e : D} {ys : List Str} (dy : DV K H NoB y e) (hs : txtsIn e = some ys) : ∃ p, y = .ref p ∧ (SqL K H p (ys.map V.str) ∨ SqT K H p (ys.map V.str)) := by
  unfold txtsIn at hs
  split at hs
  · cases dy with
    | lst q b t =>
      have e := txts_of t hs
      subst e
      exact ⟨_, rfl, .inl (.inl q)⟩
  · obtain ⟨a, rfl⟩ := dy.isRef
    obtain ⟨vs, q, t⟩ := SqT.ofD dy
    have e := txts_of t hs
    subst e
    exact ⟨_, rfl, .inr q⟩
  · cases hs
variable {fa : Nat → Addr} {W : Wi}
theorem pv_join {a b : Expr} {f1 f2 : M D} {apos pos : Pos} (ha : PV X fa W a f1) (hb : PV X fa W b f2) (hs : starEach [b] X.env = [(false, eval b X.env)] := by rfl) (hbase : attributeBase a "join" X.env (eval a X.env) = eval a X.env := by rfl) (hline : (apos.endLine == pos.line) = true := by rfl) :
    PV X fa W (.Call (.Attribute a "join" apos) [b] [] pos) (joinM f1 f2) := by
  refine PE.imp (pe_join ha hb hs hbase hline) fun σ H Q ⟨F1, B, O, r, R, h⟩ => ?_
  refine ⟨F1, B, O, r, R, (Aft.bind h).mono fun x r1 O1 σ1 H1 _ R1 e1 ⟨_, _, h1⟩ es v1 x1 => ?_⟩
  subst es
  cases x with
  | str w =>
    cases x1
    refine ⟨⟨w, rfl⟩, F1, B, O1, r1, R1, (Aft.bind h1).mono fun y r2 O2 σ2 H2 _ R2 e2 ⟨_, _, h2⟩ es v2 x2 => ?_⟩
    subst es
    cases hy : txtsIn y with
    | none => simp only [hy] at h2; exact False.elim h2
    | some ys =>
      simp only [hy] at h2
      cases hk : joinOk w ys with
      | false => rw [hk] at h2; exact False.elim h2
      | true =>
        rw [hk] at h2
        obtain ⟨p, rfl, q⟩ := txtsIn_of x2.free hy
        exact ⟨w, p, ys, rfl, rfl, q, of_decide_eq_true hk, h2 O2 _ H2 R2 Ext.refl rfl _ (.str _)⟩
  | _ => exact False.elim h1
end
end DL

namespace DL
open PySem PySem.Spec PyProof.Rows L2
/-! ### what an object that a slot owns is changed to -/
section
variable {K : PySem.W.Frag} {fa : Nat → Addr} {F : Fx} {B : Addr → Prop} {O O' : List Addr} {r : Rho} {σ : L2.St} {H H' : Hp}
theorem set_self {σ : L2.St} {i : Nat} {o : Option V} (h : σ[i]? = some o) : σ.set i o = σ := by
  apply List.ext_getElem?
  intro j
  by_cases hj : j = i
  · subst hj
    rw [h, List.getElem?_set_self (by exact (List.getElem?_eq_some_iff.mp h).1)]
  · rw [List.getElem?_set_ne (Ne.symm hj)]
theorem RL.mutA (R : RL K fa F B O r σ H) {i : Nat} {s : Sl} (e : r[i]? = some s) : ∃ o as, σ[i]? = some o ∧ SlV K fa H (Bn B O) s o as ∧ (∀ a ∈ as, a ∈ O) ∧ as.Nodup ∧
    ∀ a ∈ as, ∀ (u : HO) (s' : Sl), (∀ d, s = .deep d → ∃ d', s' = .deep d') →
      (Mv H (Bn B O) (upd H a u) (Bn B O) → SlV K fa (upd H a u) (Bn B O) s' o as) → RL K fa F B O (r.set i s') σ (upd H a u) ∧ Ext O H O (upd H a u) := by
  obtain ⟨o, as, l1, l2, h1, h2, h3, h4⟩ := R.sl.at e
  have ndp := R.nd
  rw [h3] at ndp
  refine ⟨o, as, h1, h2, fun a m => by rw [h3]; simp [m], (List.nodup_append.mp (List.nodup_append.mp ndp).2.1).1, fun a am u s' dd hs => ?_⟩
  have aO : a ∈ O := by rw [h3]; simp [am]
  have rd : Mv H (Bn B O) (upd H a u) (Bn B O) := fun b w q nb => by
    have hb : b ≠ a := fun z => nb (.inr (by rw [z]; exact aO))
    refine ⟨?_, nb⟩
    rcases q with q | ⟨o', q⟩
    · exact .inl (by rw [upd_ne hb]; exact q)
    · exact .inr ⟨o', by rw [upd_ne hb]; exact q⟩
  have na : ∀ b, b ∈ l1 ∨ b ∈ l2 → b ≠ a := fun b m z => by
    subst z
    simp only [List.nodup_append] at ndp
    rcases m with m | m
    · exact ndp.2.2 b m b (List.mem_append_left _ am) rfl
    · exact ndp.2.1.2.2 b am b m rfl
  have ne : ∀ c, H c ≠ none → upd H a u c ≠ none := fun c n => by
    by_cases hc : c = a
    · subst hc; rw [upd_same]; exact fun z => nomatch z
    · rw [upd_ne hc]; exact n
  have q := h4 (upd H a u) (Bn B O) rd (fun b m w q => by rw [upd_ne (na b m)]; exact q) s' o as (hs rd)
  rw [set_self h1] at q
  refine ⟨⟨by rw [h3] at q ⊢; exact q, R.nd, fun c w q n => ?_, fun c n => ne c (R.fe c n), R.ow, fun c z => ne c (R.bt c z), fun p hp => ?_⟩, ⟨fun c w n q => ?_, fun _ m => .inl m, ne⟩⟩
  · have hc : c ≠ a := fun z => by
      rw [z] at q n
      rcases (R.ow a aO).2 with w | w
      · exact n w
      · rw [w] at q; cases q
    rw [upd_ne hc]; exact R.fr c w q n
  · obtain ⟨q1, d', q2⟩ := R.io p hp
    refine ⟨q1, ?_⟩
    by_cases np : p.1 = i
    · rw [np] at q2 ⊢
      rw [e] at q2
      obtain ⟨d2, w⟩ := dd d' (Option.some.inj q2)
      have hl : i < r.length := (List.getElem?_eq_some_iff.mp e).1
      exact ⟨d2, by rw [List.getElem?_set_self hl, w]⟩
    · exact ⟨d', by rw [List.getElem?_set_ne (Ne.symm np)]; exact q2⟩
  · have hc : c ≠ a := fun z => n (by rw [z]; exact aO)
    rw [upd_ne hc]; exact q
end
/-! ### dicts by their keys -/
def isK : D → Key → Bool
  | .int i, .inl j => decide (i = j)
  | .str x, .inr y => decide (x = y)
  | _, _ => false
theorem isK_kD (j k : Key) : isK (kD j) k = decide (j = k) := by
  cases j <;> cases k <;> simp [kD, isK]
def toK : D → Option Key
  | .int i => some (.inl i)
  | .str x => some (.inr x)
  | _ => none
def isL : D → Bool
  | .list _ => true
  | _ => false
theorem isL_no {d : D} (h : isL d = false) : ∀ ds, d ≠ .list ds := fun ds z => by subst z; cases h
def dget : List (D × D) → Key → Option D
  | [], _ => none
  | (c, d) :: r, k => if isK c k = true then some d else dget r k
def dput (ds : List (D × D)) (k : Key) (e : D) : List (D × D) := if (dget ds k).isSome = true then ds.map (fun p => if isK p.1 k = true then (p.1, e) else p) else ds ++ [(kD k, e)]
def dset1 : List (D × D) → Key → D → List (D × D)
  | [], _, _ => []
  | (c, d) :: r, k, e => if isK c k = true then (c, e) :: r else (c, d) :: dset1 r k e
section
variable {K : PySem.W.Frag} {H H' : Hp} {B : Addr → Prop}
theorem DKs.get {k : Key} : ∀ {kvs : List (Key × V)} {ds : List (D × D)} {d : D}, DKs K H B kvs ds → dget ds k = some d → ∃ v, valV kvs k = some v ∧ DV K H B v d
  | _, _, _, .nil, e => by cases e
  | (j, v) :: _, _, _, .cons x t, e => by
    simp only [dget, isK_kD] at e
    by_cases h : j = k
    · rw [if_pos (decide_eq_true h)] at e
      cases e
      exact ⟨v, valV_pos (p := (j, v)) h, x⟩
    · rw [if_neg (by simpa using h)] at e
      obtain ⟨w, q1, q2⟩ := DKs.get t e
      exact ⟨w, by rw [valV_neg (p := (j, v)) h]; exact q1, q2⟩
theorem DKs.some {k : Key} : ∀ {kvs : List (Key × V)} {ds : List (D × D)}, DKs K H B kvs ds → (valV kvs k).isSome = (dget ds k).isSome
  | _, _, .nil => rfl
  | (j, v) :: _, _, .cons x t => by
    simp only [dget, isK_kD]
    by_cases h : j = k
    · rw [if_pos (decide_eq_true h), valV_pos (p := (j, v)) h]; rfl
    · rw [if_neg (by simpa using h), valV_neg (p := (j, v)) h]; exact DKs.some t
theorem DKs.put1 {k : Key} {v : V} {d : D} (y : DV K H B v d) : ∀ {kvs : List (Key × V)} {ds : List (D × D)}, DKs K H B kvs ds →
    DKs K H B (kvs.map fun kv => if kv.1 = k then (kv.1, v) else kv) (ds.map fun p => if isK p.1 k = true then (p.1, d) else p)
  | _, _, .nil => .nil
  | (j, w) :: _, _, .cons x t => by
    simp only [List.map_cons, isK_kD]
    by_cases h : j = k
    · rw [if_pos h, if_pos (decide_eq_true h)]; exact .cons y (DKs.put1 y t)
    · rw [if_neg h, if_neg (by simpa using h)]; exact .cons x (DKs.put1 y t)
theorem DKs.snoc {k : Key} {v : V} {d : D} (y : DV K H B v d) : ∀ {kvs : List (Key × V)} {ds : List (D × D)}, DKs K H B kvs ds → DKs K H B (kvs ++ [(k, v)]) (ds ++ [(kD k, d)])
  | _, _, .nil => .cons y .nil
  | _, _, .cons x t => .cons x (DKs.snoc y t)
theorem DKs.put {k : Key} {v : V} {d : D} (y : DV K H B v d) {kvs : List (Key × V)} {ds : List (D × D)} (t : DKs K H B kvs ds) : DKs K H B (putK kvs k v) (dput ds k d) := by
  unfold putK dput
  rw [valV_any, t.some]
  by_cases h : (dget ds k).isSome = true
  · rw [if_pos h, if_pos h]; exact t.put1 y
  · rw [if_neg h, if_neg h]; exact t.snoc y
theorem DKs.length : ∀ {kvs : List (Key × V)} {ds : List (D × D)}, DKs K H B kvs ds → kvs.length = ds.length
  | _, _, .nil => rfl
  | _, _, .cons _ t => by rw [List.length_cons, List.length_cons, DKs.length t]
theorem DpK.put1 {k : Key} {v : V} {d : D} (y : DV K H B v d) (n : isL d = false) : ∀ {kvs : List (Key × V)} {ds : List (D × D)} {as : List Addr}, DpK K H B kvs ds as → (ds.all fun p => !(isK p.1 k) || !(isL p.2)) = true →
    DpK K H B (kvs.map fun kv => if kv.1 = k then (kv.1, v) else kv) (ds.map fun p => if isK p.1 k = true then (p.1, d) else p) as
  | _, _, _, .nil, _ => .nil
  | (j, _) :: _, _, _, .lst ea x t, o => by
    simp only [List.all_cons, isK_kD, Bool.and_eq_true] at o
    simp only [List.map_cons, isK_kD]
    by_cases h : j = k
    · simp [h, isL] at o
    · rw [if_neg h, if_neg (by simpa using h)]; exact .lst ea x (DpK.put1 y n t o.2)
  | (j, w) :: _, _, _, .val x m t, o => by
    simp only [List.all_cons, Bool.and_eq_true] at o
    simp only [List.map_cons, isK_kD]
    by_cases h : j = k
    · rw [if_pos h, if_pos (decide_eq_true h)]; exact .val y (isL_no n) (DpK.put1 y n t o.2)
    · rw [if_neg h, if_neg (by simpa using h)]; exact .val x m (DpK.put1 y n t o.2)
theorem DpK.snoc {k : Key} {v : V} {d : D} (y : DV K H B v d) (n : isL d = false) : ∀ {kvs : List (Key × V)} {ds : List (D × D)} {as : List Addr}, DpK K H B kvs ds as → DpK K H B (kvs ++ [(k, v)]) (ds ++ [(kD k, d)]) as
  | _, _, _, .nil => .val y (isL_no n) .nil
  | _, _, _, .lst ea x t => .lst ea x (DpK.snoc y n t)
  | _, _, _, .val x m t => .val x m (DpK.snoc y n t)
theorem DpK.put {k : Key} {v : V} {d : D} (y : DV K H B v d) (n : isL d = false) {kvs : List (Key × V)} {ds : List (D × D)} {as : List Addr} (t : DpK K H B kvs ds as) (o : (ds.all fun p => !(isK p.1 k) || !(isL p.2)) = true) : DpK K H B (putK kvs k v) (dput ds k d) as := by
  unfold putK dput
  rw [valV_any, t.data.some]
  by_cases h : (dget ds k).isSome = true
  · rw [if_pos h, if_pos h]; exact t.put1 y n o
  · rw [if_neg h, if_neg h]; exact t.snoc y n
/-- one owned list of a deep dict, taken out and put back -/
theorem DpK.at {k : Key} {xs : List D} : ∀ {kvs : List (Key × V)} {ds : List (D × D)} {as : List Addr}, DpK K H B kvs ds as → dget ds k = some (.list xs) → as.Nodup →
    ∃ a vs, valV kvs k = some (.ref a) ∧ a ∈ as ∧ H a = some (.lst vs) ∧ DVs K H B vs xs ∧
      ∀ (H' : Hp) (ys : List V) (es : List D), Mv H B H' B → (∀ b, b ≠ a → H' b = H b) → H' a = some (.lst ys) → DVs K H' B ys es → DpK K H' B kvs (dset1 ds k (.list es)) as
  | _, _, _, .nil, e, _ => by cases e
  | (j, _) :: _, _, _, .lst (a := a) (xs := zs) ea x t, e, nd => by
    simp only [dget, isK_kD] at e
    by_cases h : j = k
    · rw [if_pos (decide_eq_true h)] at e
      cases e
      refine ⟨a, zs, valV_pos (p := (j, .ref a)) h, List.mem_cons_self, ea, x, fun H' ys es mv kp e' y => ?_⟩
      simp only [dset1, isK_kD]
      rw [if_pos (decide_eq_true h)]
      exact .lst e' y (t.mono mv fun b m u q => by
        have : b ≠ a := fun z => by subst z; exact (List.nodup_cons.mp nd).1 m
        rw [kp b this]; exact q)
    · rw [if_neg (by simpa using h)] at e
      obtain ⟨c, vs, q1, q2, q3, q4, q5⟩ := DpK.at t e (List.nodup_cons.mp nd).2
      refine ⟨c, vs, by rw [valV_neg (p := (j, .ref a)) h]; exact q1, List.mem_cons_of_mem _ q2, q3, q4, fun H' ys es mv kp e' y => ?_⟩
      simp only [dset1, isK_kD]
      rw [if_neg (by simpa using h)]
      have : a ≠ c := fun z => by subst z; exact (List.nodup_cons.mp nd).1 q2
      exact .lst (by rw [kp a this]; exact ea) (DVs.mono mv _ _ x) (q5 H' ys es mv kp e' y)
  | (j, v) :: _, _, _, .val x m t, e, nd => by
    simp only [dget, isK_kD] at e
    by_cases h : j = k
    · rw [if_pos (decide_eq_true h)] at e
      cases e
      exact absurd rfl (m xs)
    · rw [if_neg (by simpa using h)] at e
      obtain ⟨c, vs, q1, q2, q3, q4, q5⟩ := DpK.at t e nd
      refine ⟨c, vs, by rw [valV_neg (p := (j, v)) h]; exact q1, q2, q3, q4, fun H' ys es mv kp e' y => ?_⟩
      simp only [dset1, isK_kD]
      rw [if_neg (by simpa using h)]
      exact .val (DV.mono mv _ _ x) m (q5 H' ys es mv kp e' y)
end
/-! ### reading a dict -/
def dictG : D → D → Option D
  | .dict ds, e => (toK e).bind fun k => dget ds k
  | _, _ => none
theorem toK_kV {K : PySem.W.Frag} {H : Hp} {B : Addr → Prop} {v : V} {e : D} {k : Key} (x : DV K H B v e) (h : toK e = some k) : v = kV k := by
  cases x <;> cases h <;> rfl
theorem rd_dk {H : Hp} {a : Addr} {u w : List (Key × V)} (q : Rd H a (.dK u)) (q' : Rd H a (.dK w)) : u = w := by
  rcases q with q | ⟨o, q⟩ <;> rcases q' with q' | ⟨o', q'⟩ <;> rw [q] at q' <;> cases q' <;> rfl
theorem dict_rd {K : PySem.W.Frag} {x y : V} {H : Hp} {Q : VK} (h : rD K dictG x y H Q) : ∃ a v, x = .ref a ∧ DGet H a y (some v) ∧ Q v H := by
  obtain ⟨d, e, z, dx, dy, eg, k⟩ := h
  unfold dictG at eg
  split at eg
  · rename_i ds e0
    cases ek : toK e with
    | none => rw [ek] at eg; cases eg
    | some kk =>
      rw [ek] at eg
      have ey := toK_kV dy ek
      subst ey
      cases dx with
      | @dct a kvs _ q nb t =>
        obtain ⟨v, h1, h2⟩ := t.get eg
        refine ⟨a, v, rfl, .inl ⟨kvs, kk, q, rfl, h1.symm⟩, k v H (fun _ _ q => q) fun B tb x1 _ => ?_⟩
        cases x1 with
        | dct q' nb' t' =>
          have e2 := rd_dk q q'
          subst e2
          obtain ⟨w, hw, hw2⟩ := t'.get eg
          rw [h1] at hw
          cases hw
          exact hw2
  · cases eg
end DL

namespace DL
open PySem PySem.Spec PyProof.Rows L2
section
variable {X : Cx} {fa : Nat → Addr} {W : Wi}
theorem t2Vr {K : PySem.W.Frag} {r : R2} {g : D → D → Option D} {a b : M D} {σ : L2.St} {H : Hp} {Q : VK} (hr : ∀ x y H Q, rD K g x y H Q → r x y H Q) (h : tV K fa W (bin2 g a b) σ H Q) : tOp r (tV K fa W a) (tV K fa W b) σ H Q := by
  obtain ⟨F, B, O, r0, R, h⟩ := h
  refine ⟨F, B, O, r0, R, (Aft.bind h).mono fun x r1 O1 σ1 H1 _ R1 e1 ⟨_, _, h1⟩ es v1 x1 => ?_⟩
  subst es
  refine ⟨F, B, O1, r1, R1, (Aft.bind h1).mono fun y r2 O2 σ2 H2 _ R2 e2 ⟨_, _, h2⟩ es v2 x2 => hr _ _ _ _ ?_⟩
  subst es
  cases hg : g x y with
  | none => rw [hg] at h2; exact False.elim h2
  | some z =>
    rw [hg] at h2
    have x1' := x1.ext e2
    exact ⟨x, y, z, x1'.free, x2.free, hg, fun v H' S k => h2 O2 _ H' (R2.same S) (Ext.same S) rfl v (k _ R2.trk x1' x2)⟩
theorem t2Br {K : PySem.W.Frag} {r : R2} {g : D → D → Option D} {a b : Rho → Option D} {σ : L2.St} {H : Hp} {Q : VK} (hr : ∀ x y H Q, rD K g x y H Q → r x y H Q) (h : tB K fa (bin2B g a b) σ H Q) : tOp r (tB K fa a) (tB K fa b) σ H Q := by
  obtain ⟨F, B, O, r0, R, d, e, h⟩ := h
  cases ea : a r0 with
  | none => simp only [bin2B, ea] at e; cases e
  | some x =>
    cases eb : b r0 with
    | none => simp only [bin2B, ea, eb] at e; cases e
    | some y =>
      simp only [bin2B, ea, eb] at e
      exact ⟨F, B, O, r0, R, x, ea, fun v1 H1 S1 x1 => ⟨F, B, O, r0, R.same S1, y, eb, fun v2 H2 S2 x2 => hr _ _ _ _ ⟨x, y, d, x1.same S2, x2, e, fun v H' S k => h v H' ((S1.trans S2).trans S) (k _ (fun _ z => z.elim) (x1.same S2) x2)⟩⟩⟩
theorem pv_dget {a b : Expr} {f1 f2 : M D} {pos : Pos} (hu : X.A.units + 1 < cLine) (ha : PV X fa W a f1) (hb : PV X fa W b f2) (hs : NoSl b) : PV X fa W (.Subscript a b pos) (bin2 dictG f1 f2) :=
  PE.imp (pe_dget hu ha hb hs) fun _ _ _ h => t2Vr (fun _ _ _ _ q => dict_rd q) h
theorem pb_dget {a b : Expr} {f1 f2 : Rho → Option D} {pos : Pos} (hu : X.A.units + 1 < cLine) (ha : PB X fa a f1) (hb : PB X fa b f2) (hs : NoSl b) : PB X fa (.Subscript a b pos) (bin2B dictG f1 f2) :=
  PE.imp (pe_dget hu ha hb hs) fun _ _ _ h => t2Br (fun _ _ _ _ q => dict_rd q) h
end
/-! ### changes of lists -/
def MutD (r : V → List V → Hp → VK → Prop) (g : List D → List D → Option (D × List D)) : Prop :=
  ∀ (K : PySem.W.Frag) (H : Hp) (B : Addr → Prop) (l : Addr) (xs vs : List V) (ds es ds' : List D) (z : D), H l = some (.lst xs) → DVs K H B xs ds → DVs K H B vs es → g ds es = some (z, ds') →
    ∃ ys v, DVs K H B ys ds' ∧ DV K H B v z ∧ ∀ Q : VK, Q v (upd H l (.lst ys)) → r (.ref l) vs H Q
def appendG : List D → List D → Option (D × List D) := fun ds es => match es with
  | [d] => if ds.length < sizeLine then some (.none, ds ++ [d]) else none
  | _ => none
def popG : List D → List D → Option (D × List D) := fun ds es => match es with
  | [] => (ds[ds.length - 1]?).map fun d => (d, ds.dropLast)
  | _ => none
def popAtG : List D → List D → Option (D × List D) := fun ds es => match es with
  | [.int i] => if -(2 ^ 63) ≤ i ∧ i < 2 ^ 63 then (seqIndex? i ds.length).bind fun k => (ds[k]?).map fun d => (d, ds.eraseIdx k) else none
  | _ => none
def insertG : List D → List D → Option (D × List D) := fun ds es => match es with
  | [.int i, d] => if ds.length < sizeLine ∧ 0 ≤ i ∧ i < 2 ^ 63 then some (.none, ds.take i.toNat ++ [d] ++ ds.drop i.toNat) else none
  | _ => none
theorem mut_append : MutD rAppend appendG := by
  intro K H B l xs vs ds es ds' z hl x y eg
  unfold appendG at eg
  split at eg
  · split at eg
    · rename_i h
      cases eg
      cases y with
      | cons y t =>
        cases t
        exact ⟨_, _, x.append (.cons y .nil), .non, fun Q q => ⟨l, xs, _, rfl, rfl, hl, by rw [x.length]; exact h, q⟩⟩
    · cases eg
  · cases eg
theorem mut_pop : MutD rPop popG := by
  intro K H B l xs vs ds es ds' z hl x y eg
  unfold popG at eg
  split at eg
  · cases y
    cases eq : ds[ds.length - 1]? with
    | none => rw [eq] at eg; cases eg
    | some d =>
      rw [eq] at eg
      cases eg
      obtain ⟨v, h1, h2⟩ := x.get eq
      have el := x.length
      refine ⟨xs.dropLast, v, by rw [List.dropLast_eq_take, List.dropLast_eq_take, el]; exact x.take _, h2, fun Q q => ⟨l, xs, v, rfl, rfl, hl, by rw [el]; exact h1, q⟩⟩
  · cases eg
theorem mut_popAt : MutD rPopAt popAtG := by
  intro K H B l xs vs ds es ds' z hl x y eg
  unfold popAtG at eg
  split at eg
  · split at eg
    · rename_i i h
      cases ek : seqIndex? i ds.length with
      | none => rw [ek] at eg; cases eg
      | some k =>
        rw [ek] at eg
        cases eq : ds[k]? with
        | none => rw [Option.bind_some, eq] at eg; cases eg
        | some d =>
          rw [Option.bind_some, eq] at eg
          cases eg
          obtain ⟨v, h1, h2⟩ := x.get eq
          cases y with
          | cons y t =>
            cases t
            cases y
            exact ⟨xs.eraseIdx k, v, x.eraseIdx k, h2, fun Q q => ⟨l, xs, i, k, v, rfl, rfl, hl, h.1, h.2, by rw [x.length]; exact ek, h1, q⟩⟩
    · cases eg
  · cases eg
def rIns : V → List V → Hp → VK → Prop := fun x vs H Q => ∃ (l : Addr) (xs : List V) (i : Int) (y : V), x = .ref l ∧ vs = [.int i, y] ∧ H l = some (.lst xs) ∧ xs.length < sizeLine ∧ 0 ≤ i ∧ i < 2 ^ 63 ∧ Q .non (upd H l (.lst (xs.take i.toNat ++ [y] ++ xs.drop i.toNat)))
theorem mut_insert : MutD rIns insertG := by
  intro K H B l xs vs ds es ds' z hl x y eg
  unfold insertG at eg
  split at eg
  · split at eg
    · rename_i h
      cases eg
      cases y with
      | cons y t =>
        cases t with
        | cons y2 t =>
          cases t
          cases y
          exact ⟨_, .non, ((x.take _).append (.cons y2 .nil)).append (x.drop _), .non, fun Q q => ⟨l, xs, _, _, rfl, rfl, hl, by rw [x.length]; exact h.1, h.2.1, h.2.2, q⟩⟩
    · cases eg
  · cases eg
def ownL (r : Rho) (i : Nat) : Option (List D) := match r[i]? with
  | some (.own (.list ds)) => some ds
  | _ => none
theorem ownL_some {r : Rho} {i : Nat} {ds : List D} (h : ownL r i = some ds) : r[i]? = some (.own (.list ds)) := by
  unfold ownL at h
  split at h
  · cases h; assumption
  · cases h
/-- a method that changes the list of slot i -/
def mutM (i : Nat) (g : List D → List D → Option (D × List D)) (f : M (List D)) : M D := fun r => match ownL r i with
  | some _ => (f r).bind fun es r1 => match ownL r1 i with
    | some ds => match g ds es with
      | some p => .ok p.1 (r1.set i (.own (.list p.2)))
      | none => .bad
    | none => .bad
  | none => .bad
section
variable {X : Cx} {fa : Nat → Addr} {W : Wi} {rr : V → List V → Hp → VK → Prop} {g : List D → List D → Option (D × List D)}
theorem tMut {i : Nat} {f : M (List D)} {σ : L2.St} {H : Hp} {Q : VK} (hm : MutD rr g) (h : tV X.K fa W (mutM i g f) σ H Q) : tBM X.K "list" rr (tVar i) (tVs X.K fa W f) σ H Q := by
  obtain ⟨F, B, O, r, R, h⟩ := h
  unfold mutM at h
  cases e0 : ownL r i with
  | none => simp only [e0] at h; exact False.elim h
  | some ds0 =>
    simp only [e0] at h
    obtain ⟨o, as, h1, h2, _⟩ := R.mutA (ownL_some e0)
    cases h2 with
    | @own a xs0 _ ea x0 =>
      refine ⟨_, h1, .inl ⟨rfl, xs0, .inl (.inl ea)⟩, F, B, O, r, R, (Aft.bind h).mono fun es r1 O1 σ1 H1 _ R1 e1 ⟨_, _, q⟩ es v x => ?_⟩
      subst es
      cases e2 : ownL r1 i with
      | none => simp only [e2] at q; exact False.elim q
      | some ds =>
        simp only [e2] at q
        obtain ⟨o', as', k1, k2, k3, _, k4⟩ := R1.mutA (ownL_some e2)
        rw [h1] at k1
        cases k1
        cases k2 with
        | @own _ xs _ eb y =>
          cases eg : g ds es with
          | none =>
            rw [eg] at q
            exact False.elim q
          | some p =>
            rw [eg] at q
            obtain ⟨ys, v', y1, y2, y3⟩ := hm X.K H1 _ a xs v ds _ p.2 p.1 eb y x eg
            obtain ⟨R2, E2⟩ := k4 a List.mem_cons_self (.lst ys) (.own (.list p.2)) (fun d z => nomatch z) fun mv => .own upd_same (DVs.mono mv _ _ y1)
            exact y3 Q (q O1 _ _ R2 E2 rfl v' (y2.ext E2))
end
end DL

namespace DL
open PySem PySem.Spec PyProof.Rows L2
section
variable {X : Cx} {fa : Nat → Addr} {W : Wi} {rr : V → List V → Hp → VK → Prop} {g : List D → List D → Option (D × List D)}
theorem tMut0 {i : Nat} {σ : L2.St} {H : Hp} {Q : VK} (hm : MutD rr g) (h : tV X.K fa W (mutM i g nilM) σ H Q) : tBM0 X.K "list" rr (tVar i) σ H Q := by
  obtain ⟨v, h1, h2, F, B, O, r, R, h3⟩ := tMut hm h
  exact ⟨v, h1, h2, h3 O σ H R Ext.refl rfl [] .nil⟩
variable {x : Str} {px apos pos : Pos} {e e2 : Expr} {f : M (List D)}
theorem pv_append (i : Nat) (ha : PVs X fa W [e] f) (hN : X.N[i]? = some x := by rfl) (hv : Vis X.env.scope x := by first | exact Or.inl rfl | exact Or.inr (Or.inl rfl) | exact Or.inr (Or.inr rfl)) (hd : (x == ("__debug__" : Str)) = false := by decide)
    (hcd : (x == ("__classdict__" : Str)) = false := by decide) (hbase : attributeBase (.Name x px) "append" X.env (eval (.Name x px) X.env) = eval (.Name x px) X.env := by rfl)
    (hfew : ((backTo pos (starEach [e] X.env)).all (fun x => !x.1) && (backToKw pos (keywordEach [] X.env)).all (fun x => x.1.isSome) && decide (([e] : List Expr).length + ([] : List Keyword).length + (if ([] : List Keyword).isEmpty then 0 else 1) < 30)) = true := by rfl)
    (hline : (apos.endLine == pos.line) = true := by rfl) (hs : starEach [e] X.env = (false, eval e X.env) :: starEach [] X.env := by rfl) (hplain : (backTo pos (starEach [] X.env)).any (·.1) = false := by rfl) :
    PV X fa W (.Call (.Attribute (.Name x px) "append" apos) [e] [] pos) (mutM i appendG f) :=
  PE.imp (pe_bm PySem.F.plainAttrs_list PySem.F.slot_list_append PySem.F.type_list_append mt_append (pe_var hN hv hd hcd) ha hbase hfew hline hs hplain) fun _ _ _ q => tMut mut_append q
theorem pv_popAt (i : Nat) (ha : PVs X fa W [e] f) (hN : X.N[i]? = some x := by rfl) (hv : Vis X.env.scope x := by first | exact Or.inl rfl | exact Or.inr (Or.inl rfl) | exact Or.inr (Or.inr rfl)) (hd : (x == ("__debug__" : Str)) = false := by decide)
    (hcd : (x == ("__classdict__" : Str)) = false := by decide) (hbase : attributeBase (.Name x px) "pop" X.env (eval (.Name x px) X.env) = eval (.Name x px) X.env := by rfl)
    (hfew : ((backTo pos (starEach [e] X.env)).all (fun x => !x.1) && (backToKw pos (keywordEach [] X.env)).all (fun x => x.1.isSome) && decide (([e] : List Expr).length + ([] : List Keyword).length + (if ([] : List Keyword).isEmpty then 0 else 1) < 30)) = true := by rfl)
    (hline : (apos.endLine == pos.line) = true := by rfl) (hs : starEach [e] X.env = (false, eval e X.env) :: starEach [] X.env := by rfl) (hplain : (backTo pos (starEach [] X.env)).any (·.1) = false := by rfl) :
    PV X fa W (.Call (.Attribute (.Name x px) "pop" apos) [e] [] pos) (mutM i popAtG f) :=
  PE.imp (pe_bm PySem.F.plainAttrs_list PySem.F.slot_list_pop PySem.F.type_list_pop mt_popAt (pe_var hN hv hd hcd) ha hbase hfew hline hs hplain) fun _ _ _ q => tMut mut_popAt q
theorem pv_insert (i : Nat) (ha : PVs X fa W [e, e2] f) (hN : X.N[i]? = some x := by rfl) (hv : Vis X.env.scope x := by first | exact Or.inl rfl | exact Or.inr (Or.inl rfl) | exact Or.inr (Or.inr rfl)) (hd : (x == ("__debug__" : Str)) = false := by decide)
    (hcd : (x == ("__classdict__" : Str)) = false := by decide) (hbase : attributeBase (.Name x px) "insert" X.env (eval (.Name x px) X.env) = eval (.Name x px) X.env := by rfl)
    (hfew : ((backTo pos (starEach [e, e2] X.env)).all (fun x => !x.1) && (backToKw pos (keywordEach [] X.env)).all (fun x => x.1.isSome) && decide (([e, e2] : List Expr).length + ([] : List Keyword).length + (if ([] : List Keyword).isEmpty then 0 else 1) < 30)) = true := by rfl)
    (hline : (apos.endLine == pos.line) = true := by rfl) (hs : starEach [e, e2] X.env = (false, eval e X.env) :: starEach [e2] X.env := by rfl) (hplain : (backTo pos (starEach [e2] X.env)).any (·.1) = false := by rfl) :
    PV X fa W (.Call (.Attribute (.Name x px) "insert" apos) [e, e2] [] pos) (mutM i insertG f) :=
  PE.imp (pe_bm PySem.F.plainAttrs_list PySem.F.slot_list_insert PySem.F.type_list_insert mt_insert (pe_var hN hv hd hcd) ha hbase hfew hline hs hplain) fun _ _ _ q => tMut mut_insert q
theorem pv_pop (i : Nat) (hN : X.N[i]? = some x := by rfl) (hv : Vis X.env.scope x := by first | exact Or.inl rfl | exact Or.inr (Or.inl rfl) | exact Or.inr (Or.inr rfl)) (hd : (x == ("__debug__" : Str)) = false := by decide)
    (hcd : (x == ("__classdict__" : Str)) = false := by decide) (hbase : attributeBase (.Name x px) "pop" X.env (eval (.Name x px) X.env) = eval (.Name x px) X.env := by rfl) (hline : (apos.endLine == pos.line) = true := by rfl) :
    PV X fa W (.Call (.Attribute (.Name x px) "pop" apos) [] [] pos) (mutM i popG nilM) :=
  PE.imp (pe_bm0 PySem.F.plainAttrs_list PySem.F.slot_list_pop PySem.F.type_list_pop mt_pop (pe_var hN hv hd hcd) hbase hline) fun _ _ _ q => tMut0 mut_pop q
/-! ### a list within a deep dict -/
def deepL (r : Rho) (i : Nat) (k : Key) : Option (List (D × D) × List D) := match r[i]? with
  | some (.deep (.dict ds)) => match dget ds k with
    | some (.list xs) => some (ds, xs)
    | _ => none
  | _ => none
theorem deepL_some {r : Rho} {i : Nat} {k : Key} {p : List (D × D) × List D} (h : deepL r i k = some p) : r[i]? = some (.deep (.dict p.1)) ∧ dget p.1 k = some (.list p.2) := by
  unfold deepL at h
  split at h
  · split at h
    · cases h; exact ⟨by assumption, by assumption⟩
    · cases h
  · cases h
def deepM (i : Nat) (k : Key) (g : List D → List D → Option (D × List D)) (f : Rho → Option (List D)) : M D := fun r => match deepL r i k with
  | some p => match f r with
    | some es => if es.all scal = true then match g p.2 es with
      | some z => .ok z.1 (r.set i (.deep (.dict (dset1 p.1 k (.list z.2)))))
      | none => .bad
      else .bad
    | none => .bad
  | none => .bad
theorem DVs.scal {K : PySem.W.Frag} {H H' : Hp} {B B' : Addr → Prop} : ∀ {vs : List V} {ds : List D}, DVs K H B vs ds → ds.all DL.scal = true → DVs K H' B' vs ds
  | _, _, .nil, _ => .nil
  | _, _, .cons x t, h => by
    simp only [List.all_cons, Bool.and_eq_true] at h
    exact .cons (x.scal h.1) (t.scal h.2)
theorem tDeep {i : Nat} {k : Key} {f : Rho → Option (List D)} {σ : L2.St} {H : Hp} {Q : VK} (hm : MutD rr g) (h : tV X.K fa W (deepM i k g f) σ H Q) :
    tBM X.K "list" rr (tDGet (tVar i) (tC (kV k))) (tBs X.K fa f) σ H Q := by
  obtain ⟨F, B, O, r, R, h⟩ := h
  unfold deepM at h
  cases e0 : deepL r i k with
  | none => simp only [e0] at h; exact False.elim h
  | some p =>
    simp only [e0] at h
    cases ef : f r with
    | none => simp only [ef] at h; exact False.elim h
    | some es =>
      simp only [ef] at h
      by_cases hs : es.all scal = true
      · rw [if_pos hs] at h
        cases eg : g p.2 es with
        | none => simp only [eg] at h; exact False.elim h
        | some z =>
          simp only [eg] at h
          obtain ⟨er, ek⟩ := deepL_some e0
          obtain ⟨o, as, h1, h2, h3, nd, h4⟩ := R.mutA er
          cases h2 with
          | @deep b kvs ds cs eb dp =>
            obtain ⟨nb, ndc⟩ := List.nodup_cons.mp nd
            obtain ⟨a, vs, q1, q2, q3, q4, q5⟩ := dp.at ek ndc
            refine ⟨_, h1, b, .ref a, rfl, .inl ⟨kvs, k, .inl eb, rfl, q1.symm⟩, .inl ⟨rfl, vs, .inl (.inl q3)⟩, F, B, O, r, R, es, ef, fun ws H1 S x => ?_⟩
            have R1 := R.same S
            obtain ⟨o', as', k1, k2, k3, nd', k4⟩ := R1.mutA er
            rw [h1] at k1
            cases k1
            cases k2 with
            | @deep _ kvs' _ cs' eb' dp' =>
              have e1 := S _ _ eb
              rw [eb'] at e1
              cases e1
              obtain ⟨nb', ndc'⟩ := List.nodup_cons.mp nd'
              obtain ⟨a', vs', q1', q2', q3', q4', q5'⟩ := dp'.at ek ndc'
              rw [q1] at q1'
              cases q1'
              obtain ⟨ys, v', y1, y2, y3⟩ := hm X.K H1 (Bn B O) a vs' ws _ es z.2 z.1 q3' q4' (x.scal hs) eg
              have hne : b ≠ a := fun w => nb' (by rw [w]; exact q2')
              obtain ⟨R2, E2⟩ := k4 a (List.mem_cons_of_mem _ q2') (.lst ys) (.deep (.dict (dset1 p.1 k (.list z.2)))) (fun d w => ⟨_, rfl⟩) fun mv =>
                .deep (by rw [upd_ne hne]; exact eb') (q5' _ ys z.2 mv (fun c w => upd_ne w) upd_same (DVs.mono mv _ _ y1))
              exact y3 Q (h O _ _ R2 ((Ext.same S).trans E2) rfl v' (y2.ext E2))
      · rw [if_neg hs] at h; exact False.elim h
variable {kx : Str} {j : Nat} {pk ps : Pos} {fb : Rho → Option (List D)}
theorem pv_dappend (i : Nat) (hu : X.A.units + 1 < cLine) (ha : PBs X fa [e] fb) (hns : NoSl (.Constant (.str kx) j pk) := by exact fun _ _ => rfl) (hN : X.N[i]? = some x := by rfl) (hv : Vis X.env.scope x := by first | exact Or.inl rfl | exact Or.inr (Or.inl rfl) | exact Or.inr (Or.inr rfl)) (hd : (x == ("__debug__" : Str)) = false := by decide)
    (hcd : (x == ("__classdict__" : Str)) = false := by decide) (hbase : attributeBase (.Subscript (.Name x px) (.Constant (.str kx) j pk) ps) "append" X.env (eval (.Subscript (.Name x px) (.Constant (.str kx) j pk) ps) X.env) = eval (.Subscript (.Name x px) (.Constant (.str kx) j pk) ps) X.env := by rfl)
    (hfew : ((backTo pos (starEach [e] X.env)).all (fun x => !x.1) && (backToKw pos (keywordEach [] X.env)).all (fun x => x.1.isSome) && decide (([e] : List Expr).length + ([] : List Keyword).length + (if ([] : List Keyword).isEmpty then 0 else 1) < 30)) = true := by rfl)
    (hline : (apos.endLine == pos.line) = true := by rfl) (hs : starEach [e] X.env = (false, eval e X.env) :: starEach [] X.env := by rfl) (hplain : (backTo pos (starEach [] X.env)).any (·.1) = false := by rfl) :
    PV X fa W (.Call (.Attribute (.Subscript (.Name x px) (.Constant (.str kx) j pk) ps) "append" apos) [e] [] pos) (deepM i (.inr kx) appendG fb) :=
  PE.imp (pe_bm PySem.F.plainAttrs_list PySem.F.slot_list_append PySem.F.type_list_append mt_append (pe_dget hu (pe_var hN hv hd hcd) pe_str hns) ha hbase hfew hline hs hplain) fun _ _ _ q => tDeep mut_append q
theorem pv_dpop (i : Nat) (hu : X.A.units + 1 < cLine) (hns : NoSl (.Constant (.str kx) j pk) := by exact fun _ _ => rfl) (hN : X.N[i]? = some x := by rfl) (hv : Vis X.env.scope x := by first | exact Or.inl rfl | exact Or.inr (Or.inl rfl) | exact Or.inr (Or.inr rfl)) (hd : (x == ("__debug__" : Str)) = false := by decide)
    (hcd : (x == ("__classdict__" : Str)) = false := by decide) (hbase : attributeBase (.Subscript (.Name x px) (.Constant (.str kx) j pk) ps) "pop" X.env (eval (.Subscript (.Name x px) (.Constant (.str kx) j pk) ps) X.env) = eval (.Subscript (.Name x px) (.Constant (.str kx) j pk) ps) X.env := by rfl)
    (hline : (apos.endLine == pos.line) = true := by rfl) :
    PV X fa W (.Call (.Attribute (.Subscript (.Name x px) (.Constant (.str kx) j pk) ps) "pop" apos) [] [] pos) (deepM i (.inr kx) popG nilB) :=
  PE.imp (pe_bm0 PySem.F.plainAttrs_list PySem.F.slot_list_pop PySem.F.type_list_pop mt_pop (pe_dget hu (pe_var hN hv hd hcd) pe_str hns) hbase hline) fun σ H Q q => by
    obtain ⟨v, h1, a, v2, h2, h3, h4, F, B, O, r, R, ds, eds, h5⟩ := tDeep mut_pop q
    cases eds
    exact ⟨v, h1, a, v2, h2, h3, h4, h5 [] H (fun _ _ z => z) .nil⟩
/-! ### item stores -/
def setIx : Sl → D → D → Option Sl
  | .own (.list ds), .int k, d => (ixN ds.length k).map fun j => .own (.list (ds.set j d))
  | .own (.dict ds), e, d => if ds.length < sizeLine then (toK e).map fun k => .own (.dict (dput ds k d)) else none
  | .deep (.dict ds), e, d => if ds.length < sizeLine ∧ isL d = false then (toK e).bind fun k => if (ds.all fun p => !(isK p.1 k) || !(isL p.2)) = true then some (.deep (.dict (dput ds k d))) else none else none
  | _, _, _ => none
def setIxM (i : Nat) (fk : Rho → Option D) (fe : M D) : M Ctl := fun r => (fe r).bind fun d r1 => match r1[i]? with
  | some s => match fk r1 with
    | some k => match setIx s k d with
      | some s' => .ok .nx (r1.set i s')
      | none => .bad
    | none => .bad
  | none => .bad
def rSetA : TSet := fun o i v H Q => rSetL o i v H Q ∨ rSetD o i v H Q
theorem set_any (hu : X.A.units + 1 < cLine) : PSet X rSetA := fun pins s σ H o i v ov iv u Q I ro ri rv h =>
  h.elim (set_list pins s σ H o i v ov iv u Q I ro ri rv) (set_dict hu pins s σ H o i v ov iv u Q I ro ri rv)
theorem DpK.length {K : PySem.W.Frag} {H : Hp} {B : Addr → Prop} : ∀ {kvs : List (Key × V)} {ds : List (D × D)} {as : List Addr}, DpK K H B kvs ds as → kvs.length = ds.length
  | _, _, _, .nil => rfl
  | _, _, _, .lst _ _ t => by rw [List.length_cons, List.length_cons, DpK.length t]
  | _, _, _, .val _ _ t => by rw [List.length_cons, List.length_cons, DpK.length t]
theorem setIx_rd {F : Fx} {B : Addr → Prop} {O : List Addr} {r : Rho} {σ : L2.St} {H : Hp} {i : Nat} {s s' : Sl} {k d : D} {kv v : V} {Q : Hp → Prop} (R : RL X.K fa F B O r σ H) (e : r[i]? = some s) (y : DV X.K H NoB kv k) (x : DV X.K H (Bn B O) v d)
    (es : setIx s k d = some s') (q : ∀ H', RL X.K fa F B O (r.set i s') σ H' → Ext O H O H' → Q H') : ∃ o, σ[i]? = some (some o) ∧ rSetA o kv v H Q := by
  obtain ⟨o, as, h1, h2, h3, nd, h4⟩ := R.mutA e
  unfold setIx at es
  split at es
  · rename_i ds kk
    cases ej : ixN ds.length kk with
    | none => rw [ej] at es; cases es
    | some j =>
      rw [ej] at es
      cases es
      cases y
      cases h2 with
      | @own a xs _ ea t =>
        obtain ⟨R2, E2⟩ := h4 a List.mem_cons_self (.lst (xs.set j v)) (.own (.list (ds.set j d))) (fun d z => nomatch z) fun mv => .own upd_same (DVs.mono mv _ _ (t.set j x))
        exact ⟨_, h1, .inl ⟨a, xs, kk, j, rfl, rfl, ea, by rw [t.length]; exact ej, q _ R2 E2⟩⟩
  · rename_i ds
    split at es
    · rename_i hl
      cases ek : toK k with
      | none => rw [ek] at es; cases es
      | some kk =>
        rw [ek] at es
        cases es
        have ey := toK_kV y ek
        subst ey
        cases h2 with
        | @ownK a kvs _ ea t =>
          obtain ⟨R2, E2⟩ := h4 a List.mem_cons_self (.dK (putK kvs kk v)) (.own (.dict (dput ds kk d))) (fun d z => nomatch z) fun mv => .ownK upd_same (DKs.mono mv _ _ (DKs.put x t))
          exact ⟨_, h1, .inr ⟨a, _, rfl, .inl ⟨kvs, kk, ea, rfl, by rw [t.length]; exact hl, rfl⟩, q _ R2 E2⟩⟩
    · cases es
  · rename_i ds
    split at es
    · rename_i hl
      cases ek : toK k with
      | none => rw [ek] at es; cases es
      | some kk =>
        rw [ek, Option.bind_some] at es
        split at es
        · rename_i ho
          cases es
          have ey := toK_kV y ek
          subst ey
          cases h2 with
          | @deep a kvs _ cs ea t =>
            obtain ⟨na, _⟩ := List.nodup_cons.mp nd
            obtain ⟨R2, E2⟩ := h4 a List.mem_cons_self (.dK (putK kvs kk v)) (.deep (.dict (dput ds kk d))) (fun d z => ⟨_, rfl⟩) fun mv =>
              .deep upd_same (((t.put x hl.2 ho)).mono mv fun b m u w => by
                have hb : b ≠ a := fun z => by subst z; exact na m
                rw [upd_ne hb]; exact w)
            exact ⟨_, h1, .inr ⟨a, _, rfl, .inl ⟨kvs, kk, ea, rfl, by rw [t.length]; exact hl.1, rfl⟩, q _ R2 E2⟩⟩
        · cases es
    · cases es
  · cases es
theorem g_setIx (i : Nat) {ek ev : Expr} {fk : Rho → Option D} {fe : M D} {tpos : Pos} (hu : X.A.units + 1 < cLine) (hk : PB X fa ek fk) (he : PV X fa W ev fe) (hN : X.N[i]? = some x := by rfl) (hv : Vis X.env.scope x := by first | exact Or.inl rfl | exact Or.inr (Or.inl rfl) | exact Or.inr (Or.inr rfl)) (hd : (x == ("__debug__" : Str)) = false := by decide)
    (hcd : (x == ("__classdict__" : Str)) = false := by decide)
    (ha : ∀ v, assign (.Subscript (.Name x px) ek tpos) X.env v = (do
      let ov ← holding [v] (eval (.Name x px) X.env)
      let iv ← holding [v, ov] (eval ek X.env)
      standAt tpos
      holding [v, ov, iv] (setItem ov iv v)
      release [v, ov, iv] []) := by intro _; rfl)
    (hs : swapsWithSole [.Subscript (.Name x px) ek tpos] ev pos.line X.env = pure false := by rfl) (hw : swappedStores [.Subscript (.Name x px) ek tpos] ev X.env = pure none := by rfl)
    (h1 : (assignEach [.Subscript (.Name x px) ek tpos] X.env).map (·.2) = [assign (.Subscript (.Name x px) ek tpos) X.env] := by rfl) :
    PG1 X fa W (.Assign [.Subscript (.Name x px) ek tpos] ev pos) (setIxM i fk fe) :=
  PS.imp (ps_asg he (pg_sub (pe_var hN hv hd hcd) hk (set_any hu) ha) hs hw h1) fun Dn σ H ⟨F, B, O, r, R, h⟩ => ⟨F, B, O, r, R, (Aft.bind h).mono fun d r1 O1 σ1 H1 _ R1 _ ⟨_, _, q⟩ es v x => by
    subst es
    cases e : r1[i]? with
    | none => simp only [e] at q; exact False.elim q
    | some s =>
      simp only [e] at q
      cases ek : fk r1 with
      | none => simp only [ek] at q; exact False.elim q
      | some k =>
        simp only [ek] at q
        cases es : setIx s k d with
        | none => rw [es] at q; exact False.elim q
        | some s' =>
          rw [es] at q
          obtain ⟨o, as, k1, k2, _⟩ := R1.mutA e
          have hx : ∃ ov, σ1[i]? = some (some ov) := by
            cases k2 with
            | emp => cases es
            | fz _ => cases es
            | fn _ => cases es
            | own _ _ => exact ⟨_, k1⟩
            | ownK _ _ => exact ⟨_, k1⟩
            | deep _ _ => exact ⟨_, k1⟩
          obtain ⟨ov, ho⟩ := hx
          refine ⟨ov, ho, F, B, O1, r1, R1, k, ek, fun w H2 S y => ?_⟩
          obtain ⟨o', ho', hr⟩ := setIx_rd (Q := fun H3 => Dn.nx σ1 H3) (R1.same S) e y (x.same S) es fun H3 R3 E3 => q O1 σ1 H3 R3 ((Ext.same S).trans E3)
          rw [ho] at ho'
          cases ho'
          exact hr⟩
end
end DL

namespace DL
open PySem PySem.Spec PyProof.Rows L2
section
variable {X : Cx} {fa : Nat → Addr} {W : Wi} {xv : XV} {CX : CXT} {k n : Nat} {f : Addr} {fd : FuncData} {ps ks : List Str} {sp : Sp} {G : Fn} {E : XK} {x : Str} {p pos : Pos} {e : Expr} {es : List Expr} {as : List AS} {kws : List Keyword}
/-- a call without arguments -/
theorem pv_call0 (F : FnG X.prog X.w X.K X.mg X.base CX k f fd ps (spF X.K fa xv n G)) (hr : Room k X.A) (hgd : X.A.guards = some []) (hm : X.mg x = some (.ref f)) (hk : PySem.W.keepIn X.K (.ref f) = true) (hb : Binds X.K fd ps []) (hx : Passes CX X E) (hW : ∀ c ds H', W c ds H' → ∀ cls dct, xv H' c ds cls dct → E cls dct H')
    (hlen : 0 = n := by rfl) (hg : Gl X x := by rfl) (hdb : (x == ("__debug__" : Str)) = false := by decide) : PV X fa W (.Call (.Name x p) [] [] pos) (callM G []) :=
  PE.imp (pe_callG0 F hr hgd hg hm hk hb hx hdb) fun σ H Q h => by
    have w := tCallV (as := []) hlen hW h
    obtain ⟨F, B, O, r, R, q⟩ := w
    exact q O σ H R Ext.refl rfl [] .nil
/-! ### calls by names -/
def pmut {α : Type} : List Nat → List α → List α
  | [], _ => []
  | i :: is, xs => match xs[i]? with
    | some x => x :: pmut is xs
    | none => pmut is xs
theorem vals_at {vs : List V} {us : List Value} (r : Vals vs us) : ∀ i : Nat, (∃ v u, vs[i]? = some v ∧ us[i]? = some u ∧ RelV v u) ∨ (vs[i]? = none ∧ us[i]? = none) := by
  induction r with
  | nil => exact fun i => .inr ⟨by simp, by simp⟩
  | cons h t ih =>
    intro i
    cases i with
    | zero => exact .inl ⟨_, _, rfl, rfl, h⟩
    | succ i => simpa using ih i
theorem vals_pmut {vs : List V} {us : List Value} (r : Vals vs us) : ∀ is : List Nat, Vals (pmut is vs) (pmut is us)
  | [] => .nil
  | i :: is => by
    rcases vals_at r i with ⟨v, u, h1, h2, h3⟩ | ⟨h1, h2⟩
    · simp only [pmut, h1, h2]; exact .cons h3 (vals_pmut r is)
    · simp only [pmut, h1, h2]; exact vals_pmut r is
theorem slvs_at {K : PySem.W.Frag} {H : Hp} {B : Addr → Prop} : ∀ {r : Rho} {vs : List V}, SlVs K fa H B r (vs.map some) [] → ∀ i : Nat, (∃ s v, r[i]? = some s ∧ vs[i]? = some v ∧ SlV K fa H B s (some v) []) ∨ (r[i]? = none ∧ vs[i]? = none) := by
  intro r vs h i
  have hl := h.length
  rw [List.length_map] at hl
  cases e : r[i]? with
  | none => exact .inr ⟨rfl, by rw [List.getElem?_eq_none_iff] at e ⊢; omega⟩
  | some s =>
    obtain ⟨o, as, l1, l2, h1, h2, h3, _⟩ := h.at e
    rw [List.getElem?_map] at h1
    have ea : as = [] := by
      have := congrArg List.length h3
      simp at this
      exact List.eq_nil_of_length_eq_zero (by omega)
    subst ea
    cases ev : vs[i]? with
    | none => rw [ev] at h1; cases h1
    | some v =>
      rw [ev] at h1
      cases h1
      exact .inl ⟨s, v, rfl, rfl, h2⟩
theorem slvs_pmut {K : PySem.W.Frag} {H : Hp} {B : Addr → Prop} {r : Rho} {vs : List V} (h : SlVs K fa H B r (vs.map some) []) : ∀ is : List Nat, SlVs K fa H B (pmut is r) ((pmut is vs).map some) []
  | [] => .nil
  | i :: is => by
    rcases slvs_at h i with ⟨s, v, h1, h2, h3⟩ | ⟨h1, h2⟩
    · simp only [pmut, h1, h2]; exact SlVs.cons (as := []) h3 (slvs_pmut h is)
    · simp only [pmut, h1, h2]; exact slvs_pmut h is
/-- how names bind -/
def KwB (K : PySem.W.Frag) (fd : FuncData) (ps ks : List Str) (is : List Nat) : Prop := ∀ (s : Shared) (ws : List Value), K.In s.heap → (pmut is ws).length = ps.length → BindsTo s fd ⟨[], ks.zip ws⟩ (ps.zip (pmut is ws))
def tCallKP (sp : Sp) (is : List Nat) (E : XK) (t : TA) : TE := fun σ H Q => t σ H fun vs H1 => sp (pmut is vs) H1 Q E
abbrev PKs (X : Cx) (fa : Nat → Addr) (W : Wi) (kws : List Keyword) (as : List AS) : Prop := PK X kws (tAs X.K fa W as)
theorem PK.imp {t t' : TA} (h : PK X kws t) (i : ∀ σ H Q, t' σ H Q → t σ H Q) : PK X kws t' := ⟨fun pos pins s σ H Q I q => h.run pos pins s σ H Q I (i _ _ _ q)⟩
theorem ks_nil : PKs X fa W [] [] := PK.imp pk_nil fun σ H Q ⟨F, B, O, r, R, q⟩ => q O σ H R Ext.refl rfl [] .nil
theorem ks_val {nm : Option Str} {kpos : Pos} {g : M D} (ha : PV X fa W e g) (hb : PKs X fa W kws as) : PKs X fa W (⟨nm, e, kpos⟩ :: kws) (.val g :: as) := by
  refine PK.imp (pk_cons ha hb) fun σ H Q ⟨F, B, O, r, R, h⟩ => ?_
  refine ⟨F, B, O, r, R, (Aft.bind h).mono fun x r1 O1 σ1 H1 _ R1 e1 ⟨_, _, h1⟩ es v1 x1 => ?_⟩
  subst es
  refine ⟨F, B, O1, r1, R1, (Aft.bind h1).mono fun y r2 O2 σ2 H2 _ R2 e2 ⟨_, _, h2⟩ es v2 x2 => ?_⟩
  subst es
  exact h2 O2 _ H2 R2 Ext.refl rfl _ (.val (x1.ext e2) x2)
theorem pe_callKP {t : TA} {is : List Nat} (F : FnG X.prog X.w X.K X.mg X.base CX k f fd ps sp) (hr : Room k X.A) (hgd : X.A.guards = some []) (hm : X.mg x = some (.ref f)) (hk : PySem.W.keepIn X.K (.ref f) = true) (hb : KwB X.K fd ps ks is) (hx : Passes CX X E)
    (hkw : PK X kws t) (hg : Gl X x := by rfl) (hall : (backToKw pos (keywordEach kws X.env)).all (·.1.isSome) = true := by rfl) (hks : (backToKw pos (keywordEach kws X.env)).filterMap (·.1) = ks := by rfl)
    (hdb : (x == ("__debug__" : Str)) = false := by decide) (hpl : ((backTo pos (starEach [] X.env)).any (·.1) || (backToKw pos (keywordEach kws X.env)).any (·.1.isNone)) = false := by rfl) :
    PE X (.Call (.Name x p) [] kws pos) (tCallKP sp is E t) := by
  refine ⟨fun pins s σ H Q I h => wpAny_Call_Name_kw (ld_glob I hg hm ?_ hdb)⟩
  refine PySem.W.callWith_KW0 (h₀ := X.base) I.ok.mod.kin hk hall (thn (hkw.run pos pins s σ H _ I h) fun ws s1 ⟨vs, H1, I1, r, q⟩ => ⟨I1.kIn, ?_⟩) hpl
  rw [hks]
  have r2 := vals_pmut r is
  have hl : (pmut is ws).length = ps.length := by rw [← r2.length]; exact F.len _ _ _ _ q
  refine wpAny_call (codeAny_mono (F.run X.A X.stack s1 H1 ⟨[] ++ [], ks.zip ws⟩ (pmut is ws) (pmut is vs) Q E hr hgd I1.env0 (hb s1 ws I1.kIn hl) r2 q) fun r s' hq => ?_)
  have w := after_call hx I1 hq
  cases r with
  | error e => exact w
  | ok fl =>
    cases fl with
    | ret u => exact w
    | _ => exact False.elim w
def callKM (G : Fn) (is : List Nat) (as : List AS) : M D := fun r => (evA as r).bind fun sls r1 => match refs 0 as with
  | [] => match G (pmut is sls) with
    | .ok d _ => .ok d r1
    | .ex c ds _ => .ex c ds r1
    | .bad => .bad
  | _ => .bad
theorem pmut_length {α β : Type} {xs : List α} {ys : List β} (h : xs.length = ys.length) : ∀ is : List Nat, (pmut is xs).length = (pmut is ys).length
  | [] => rfl
  | i :: is => by
    cases ex : xs[i]? with
    | none =>
      have ey : ys[i]? = none := by rw [List.getElem?_eq_none_iff] at ex ⊢; omega
      simp only [pmut, ex, ey]; exact pmut_length h is
    | some a =>
      have hi : i < ys.length := by have := (List.getElem?_eq_some_iff.mp ex).1; omega
      have ey : ys[i]? = some ys[i] := List.getElem?_eq_getElem hi
      simp only [pmut, ex, ey, List.length_cons, pmut_length h is]
theorem tCallKV {K : PySem.W.Frag} {σ : L2.St} {H : Hp} {Q : VK} {is : List Nat} (hlen : (pmut is as).length = n) (hW : ∀ c ds H', W c ds H' → ∀ cls dct, xv H' c ds cls dct → E cls dct H') (h : tV K fa W (callKM G is as) σ H Q) :
    tCallKP (spF K fa xv n G) is E (tAs K fa W as) σ H Q := by
  obtain ⟨F, B, O, r, R, h⟩ := h
  refine ⟨F, B, O, r, R, (Aft.bind h).mono fun sls r1 O1 σ1 H1 _ R1 e1 ⟨_, _, h1⟩ es vs xa => ?_⟩
  subst es
  have lv : (pmut is vs).length = n := by rw [← hlen]; exact pmut_length xa.len is
  refine ⟨lv, ?_⟩
  split at h1
  · rename_i er
    have xs := slvs_pmut (xa.light 0 er) is
    refine ⟨Bn B O1, pmut is sls, [], SlVs.mono (fun a u q nb => ⟨q, fun z => z.elim nb fun m => by simp at m⟩) xs (fun _ _ _ q => q), List.nodup_nil, fun a m => by simp at m, R1.trk, ?_⟩
    cases eg : G (pmut is sls) with
    | bad => rw [eg] at h1; exact h1
    | ex c ds r' =>
      rw [eg] at h1
      intro H' I' e' cls dct hxv
      have S : Same H1 H' := fun a o q => e'.kp a o (by simp) q
      exact hW c ds H' (h1 O1 _ H' (R1.same S) (Ext.same S)) cls dct hxv
    | ok d r' =>
      rw [eg] at h1
      intro v H' I' e' nd nb bk xd
      have S : Same H1 H' := fun a o q => e'.kp a o (by simp) q
      exact h1 O1 _ H' (R1.same S) (Ext.same S) rfl v (xd.ban fun a z => .inl z)
  · exact False.elim h1
theorem pv_callK {is : List Nat} (F : FnG X.prog X.w X.K X.mg X.base CX k f fd ps (spF X.K fa xv n G)) (hr : Room k X.A) (hgd : X.A.guards = some []) (hm : X.mg x = some (.ref f)) (hk : PySem.W.keepIn X.K (.ref f) = true) (hb : KwB X.K fd ps ks is) (hx : Passes CX X E) (hW : ∀ c ds H', W c ds H' → ∀ cls dct, xv H' c ds cls dct → E cls dct H')
    (ha : PKs X fa W kws as) (hlen : (pmut is as).length = n := by rfl) (hg : Gl X x := by rfl) (hall : (backToKw pos (keywordEach kws X.env)).all (·.1.isSome) = true := by rfl) (hks : (backToKw pos (keywordEach kws X.env)).filterMap (·.1) = ks := by rfl)
    (hdb : (x == ("__debug__" : Str)) = false := by decide) (hpl : ((backTo pos (starEach [] X.env)).any (·.1) || (backToKw pos (keywordEach kws X.env)).any (·.1.isNone)) = false := by rfl) :
    PV X fa W (.Call (.Name x p) [] kws pos) (callKM G is as) := PE.imp (pe_callKP F hr hgd hm hk hb hx ha hg hall hks hdb hpl) fun _ _ _ h => tCallKV hlen hW h
/-! ### small ones -/
theorem pb_int {i j pos} : PB X fa (.Constant (.int i) j pos) (fun _ => some (.int i)) := pb_of pe_int fun _ _ => .int i
theorem pb_bl {b j pos} : PB X fa (.Constant (.bool b) j pos) (fun _ => some (.bool b)) := pb_of pe_bl fun _ _ => .bl b
theorem pb_non {j pos} : PB X fa (.Constant .none j pos) (fun _ => some .none) := pb_of pe_non fun _ _ => .non
theorem pb_str {x j pos} : PB X fa (.Constant (.str x) j pos) (fun _ => some (.str x)) := pb_of pe_str fun _ _ => .str x
theorem pb_glob {x : Str} {d : D} {pos : Pos} (h : GlD X.K X.mg x d) (hg : Gl X x := by rfl) (hd : (x == ("__debug__" : Str)) = false := by decide) : PB X fa (.Name x pos) (fun _ => some d) := by
  obtain ⟨v, u, h1, h2, h3⟩ := h
  exact pb_of (pe_glob hg h1 h2 hd) h3
theorem pb_nil {pos : Pos} : PB X fa (.List [] pos) (fun _ => some (.list [])) :=
  PE.imp (pe_lst pa_nil) fun σ H Q ⟨F, B, O, r, R, d, e, q⟩ => by
    cases e
    exact ⟨Nat.zero_le _, fun p n => q (.ref p) _ (same_fresh n) (.lst (.inl upd_same) (fun z => z) .nil)⟩
def lnB (f : Rho → Option (List D)) : Rho → Option D := fun r => match f r with
  | some ds => if ds.length ≤ sizeLine then some (.list ds) else none
  | none => none
theorem pb_lst {pos : Pos} {f : Rho → Option (List D)} (h : PBs X fa es f) : PB X fa (.List es pos) (lnB f) :=
  PE.imp (pe_lst h) fun σ H Q ⟨F, B, O, r, R, d, e, q⟩ => by
    unfold lnB at e
    split at e
    · rename_i ds ef
      split at e
      · rename_i hl
        cases e
        refine ⟨F, B, O, r, R, ds, ef, fun vs H1 S x => ⟨by rw [x.length]; exact hl, fun p n => ?_⟩⟩
        exact q (.ref p) _ (S.trans (same_fresh n)) (.lst (.inl upd_same) (fun z => z) (x.same (same_fresh n)))
      · cases e
    · cases e
theorem pv_dict0 {pos : Pos} : PV X fa W (.Dict [] [] pos) (cV (.dict [])) :=
  PE.imp pe_dnewK fun σ H Q ⟨F, B, O, r, R, q⟩ p n => by
    have S := same_fresh (o := .dK []) n
    exact q O σ _ (R.same S) (Ext.same S) rfl _ (.dct (.inl upd_same) (fun z => z.elim (fun z => R.bt p z n) fun z => by obtain ⟨u, h, _⟩ := R.there p z; rw [n] at h; cases h) .nil)
/-- an item of a list that a slot owns -/
def ownIx (i : Nat) (fk : Rho → Option D) : M D := fun r => match ownL r i with
  | some ds => match fk r with
    | some (.int k) => match (ixN ds.length k).bind fun j => ds[j]? with
      | some d => .ok d r
      | none => .bad
    | _ => .bad
  | none => .bad
end
end DL

namespace DL
open PySem PySem.Spec PyProof.Rows L2
section
variable {X : Cx} {fa : Nat → Addr} {W : Wi} {x : Str} {px pos : Pos}
theorem pv_ixO (i : Nat) {ek : Expr} {fk : Rho → Option D} (hk : PB X fa ek fk) (hs : PlainIx ek) (hN : X.N[i]? = some x := by rfl) (hv : Vis X.env.scope x := by first | exact Or.inl rfl | exact Or.inr (Or.inl rfl) | exact Or.inr (Or.inr rfl)) (hd : (x == ("__debug__" : Str)) = false := by decide)
    (hcd : (x == ("__classdict__" : Str)) = false := by decide) : PV X fa W (.Subscript (.Name x px) ek pos) (ownIx i fk) :=
  PE.imp (pe_ix ix_list (pe_var hN hv hd hcd) hk hs) fun σ H Q ⟨F, B, O, r, R, h⟩ => by
    unfold ownIx at h
    cases e0 : ownL r i with
    | none => simp only [e0] at h; exact False.elim h
    | some ds =>
      simp only [e0] at h
      cases ek : fk r with
      | none => simp only [ek] at h; exact False.elim h
      | some kd =>
        simp only [ek] at h
        cases kd with
        | int kk =>
          cases ed : (ixN ds.length kk).bind fun j => ds[j]? with
          | none => simp only [ed] at h; exact False.elim h
          | some d =>
            simp only [ed] at h
            obtain ⟨o, as, h1, h2, _⟩ := R.mutA (ownL_some e0)
            cases h2 with
            | @own a xs _ ea t =>
              refine ⟨_, h1, F, B, O, r, R, _, ek, fun w H1 S y => ?_⟩
              cases y
              cases ej : ixN ds.length kk with
              | none => rw [ej] at ed; cases ed
              | some j =>
                rw [ej, Option.bind_some] at ed
                obtain ⟨v, q1, q2⟩ := t.get ed
                exact ⟨a, xs, kk, v, rfl, rfl, .inl (.inl (S _ _ ea)), by unfold atI; rw [t.length, ej]; exact q1, h O σ H1 (R.same S) (Ext.same S) rfl v (q2.same S)⟩
        | _ => exact False.elim h
end
/-! ### defs that return a fresh dict with lists of its own -/
abbrev FnD := List Sl → Res (List (D × D))
def Deep (K : PySem.W.Frag) (fa : Nat → Addr) (H' : Hp) (B : Addr → Prop) (O' : List Addr) (v : V) (ds : List (D × D)) : Prop := ∃ as, as.Sublist O' ∧ SlV K fa H' (Bn B O') (.deep (.dict ds)) (some v) as
def spD (K : PySem.W.Frag) (fa : Nat → Addr) (n : Nat) (G : FnD) : Sp := fun vs H Q E => vs.length = n ∧ ∃ (B : Addr → Prop) (sls : List Sl),
  SlVs K fa H (Bn B []) sls (vs.map some) [] ∧ Trk B H ∧ match G sls with
  | .ok ds _ => ∀ v H' O', Ext [] H O' H' → O'.Nodup → (∀ a ∈ O', ¬ B a) → Deep K fa H' B O' v ds → Q v H'
  | _ => False
/-- what the last statement is wanted to do -/
def tRetD (K : PySem.W.Frag) (fa : Nat → Addr) (W : Wi) (h : M (List (D × D))) : TS := fun Dn σ H => ∃ F B O r, RL K fa F B O r σ H ∧ match h r with
  | .ok ds r' => ∀ O' H' v, Ext O H O' H' → O'.Nodup → (∀ a ∈ O', ¬ B a) → Deep K fa H' B O' v ds → Dn.rt v H'
  | _ => False
/-- a body: statements that go on, and a last one that returns a deep dict -/
def bodyD (n : Nat) (g : M Ctl) (h : M (List (D × D))) : FnD := fun sls => match g (inRho n sls) with
  | .ok .nx r => h r
  | _ => .bad
section
variable {P : Program} {w : World} {K : PySem.W.Frag} {mg : Str → Option Value} {base : Heap} {CX : CXT} {k : Nat} {f : Addr} {fd : FuncData} {ps N : List Str} {fa : Nat → Addr} {xv : XV} {x qual : Str} {st : Stmt}
def goOn (g : M Ctl) (h : M (List (D × D))) : M (List (D × D)) := fun r => (g r).bind fun c r1 => match c with
  | .nx => h r1
  | _ => .bad
theorem rd_one {X : Cx} {W : Wi} {st : Stmt} {h : M (List (D × D))} (hst : PS X st (tRetD X.K fa W h)) : L2.PSs X [st] (tRetD X.K fa W h) := pss_one hst
theorem rd_cons {X : Cx} {W : Wi} {st : Stmt} {rest : List Stmt} {g : M Ctl} {h : M (List (D × D))} (h1 : PG1 X fa W st g) (h2 : L2.PSs X rest (tRetD X.K fa W h)) : L2.PSs X (st :: rest) (tRetD X.K fa W (goOn g h)) := by
  refine PSs.imp (pss_cons h1 h2) fun Dn σ H ⟨F, B, O, r, R, q⟩ => ⟨F, B, O, r, R, ?_⟩
  unfold goOn at q
  cases e : g r with
  | bad => rw [e] at q; exact q
  | ex c ds r' => rw [e] at q; exact False.elim q
  | ok c r1 =>
    rw [e, Res.ok_bind] at q
    intro O1 σ1 H1 R1 E1
    cases c with
    | nx =>
      refine ⟨F, B, O1, r1, R1, ?_⟩
      dsimp only at q
      cases eh : h r1 with
      | bad => rw [eh] at q; exact q
      | ex c ds r' => rw [eh] at q; exact q
      | ok ds r' =>
        rw [eh] at q
        exact fun O2 H2 v E2 nd nb x => q O2 H2 v (E1.trans E2) nd nb x
    | bk => exact False.elim q
    | ct => exact False.elim q
    | rt d => exact False.elim q
theorem fnD_body (Fd : Fun K x qual st f fd) (S : FnScope N ps (defScope st)) {h : M (List (D × D))}
    (hb : ∀ (cdv : Value) (A : Around) (outer : List Env) (s : Shared) (H : Hp) (E : XK), Room k (A.deeper (envOfC qual (defScope st) s.heap.objs.size f cdv)) → (A.deeper (envOfC qual (defScope st) s.heap.objs.size f cdv)).guards = some [] →
      L2.PSs (cxOf CX P w K mg base N qual (defScope st) f cdv A outer s H E).nox (defBody st) (tRetD K fa W0 h)) :
    FnG P w K mg base CX (k + 1) f fd ps (spD K fa ps.length fun sls => h (inRho N.length sls)) := by
  obtain ⟨oc, od, kV, doc, pm, an, cdv, ct, osl, rfl, lk, hcd⟩ := Fd.ex
  refine fnG_of lk hcd S (fun vs H Q E h => h.1) fun A outer s H vs Q E hr hgd ⟨hn, B, sls, hx, tb, q⟩ => ?_
  refine ⟨_, L2.PSs.nox (hb cdv A outer s H E hr hgd), ⟨H, [], lent sls vs⟩, B, [], _, rl_start (N := N) hx List.nodup_nil (fun a m => by simp at m) tb, ?_⟩
  dsimp only at q
  cases e : h (inRho N.length sls) with
  | bad => rw [e] at q; exact q
  | ex c ds r' => rw [e] at q; exact False.elim q
  | ok ds r' =>
    rw [e] at q
    exact fun O' H' v E' nd nb x => q v H' O' E' nd nb x
/-- the slot's own dict is returned -/
def slotD (i : Nat) : M (List (D × D)) := fun r => match r[i]? with
  | some (.deep (.dict ds)) => .ok ds r
  | _ => .bad
theorem rd_name {X : Cx} {W : Wi} (i : Nat) {x : Str} {px pos : Pos} (hN : X.N[i]? = some x := by rfl) (hv : Vis X.env.scope x := by first | exact Or.inl rfl | exact Or.inr (Or.inl rfl) | exact Or.inr (Or.inr rfl)) (hd : (x == ("__debug__" : Str)) = false := by decide)
    (hcd : (x == ("__classdict__" : Str)) = false := by decide) : PS X (.Return (some (.Name x px)) pos) (tRetD X.K fa W (slotD i)) :=
  PS.imp (ps_ret (pe_var hN hv hd hcd)) fun Dn σ H ⟨F, B, O, r, R, q⟩ => by
    unfold slotD at q
    split at q
    · rename_i ds r' eq
      split at eq
      · rename_i ds' e
        cases eq
        obtain ⟨o, as, l1, l2, h1, h2, h3, h4⟩ := R.sl.at e
        obtain ⟨a, rfl⟩ := h2.ref
        refine ⟨_, h1, q O H _ Ext.refl R.nd (fun a m => (R.ow a m).1) ⟨as, ?_, h2⟩⟩
        rw [h3]
        exact List.Sublist.trans (List.sublist_append_left as l2) (List.sublist_append_right l1 _)
      · cases eq
    · exact False.elim q
end
/-! ### displays of such dicts -/
inductive EN where
  | val (f : M D)
  | lst (f : M (List D))
def evE : List (Key × EN) → M (List (D × D))
  | [] => fun r => .ok [] r
  | (k, .val f) :: es => fun r => (f r).bind fun d r1 => if isL d = false then (evE es r1).bind fun t r2 => .ok ((kD k, d) :: t) r2 else .bad
  | (k, .lst f) :: es => fun r => (f r).bind fun ds r1 => (evE es r1).bind fun t r2 => .ok ((kD k, .list ds) :: t) r2
abbrev BanL (B : Addr → Prop) (as : List Addr) : Addr → Prop := fun b => B b ∨ b ∈ as
def trE (K : PySem.W.Frag) (fa : Nat → Addr) (W : Wi) : Key × EN → TE × TE
  | (k, .val f) => (tC (kV k), tV K fa W f)
  | (k, .lst f) => (tC (kV k), tF K fa W f)
section
variable {K : PySem.W.Frag} {fa : Nat → Addr} {F : Fx} {W : Wi} {σ : L2.St}
theorem mv_later {B : Addr → Prop} {O O2 : List Addr} {H1 H2 : Hp} {as : List Addr} (e : Ext O H1 O2 H2) (fr : ∀ a ∈ as, H1 a = none) : Mv H1 (Bn B O) H2 (Bn (BanL B as) O2) := fun b u q nb => by
  have hb : b ∉ O := fun m => nb (.inr m)
  refine ⟨?_, ?_⟩
  · rcases q with q | ⟨o, q⟩
    · exact .inl (e.kp b _ hb q)
    · exact .inr ⟨o, e.kp b _ hb q⟩
  · rintro ((z | z) | z)
    · exact nb (.inl z)
    · exact rd_some q (fr b z)
    · exact (e.nw b z).elim hb fun w => rd_some q w
theorem pairs_ev : ∀ (es : List (Key × EN)) {B : Addr → Prop} {O : List Addr} {r : Rho} {H : Hp} {C : List (V × V) → Hp → Prop}, RL K fa F B O r σ H →
    (match evE es r with
      | .ok t r' => ∀ O2 H2 kvs as, RL K fa F (BanL B as) O2 r' σ H2 → Ext O H O2 H2 → (∀ a ∈ as, H a = none) → as.Nodup → DpK K H2 (Bn (BanL B as) O2) kvs t as → kvs.map (·.1) = es.map (·.1) → C (kvs.map fun kv => (kV kv.1, kv.2)) H2
      | _ => False) → tPairs (es.map (trE K fa W)) σ H C
  | [], B, O, r, H, C, R, h => h O H [] [] (R.unBan fun a z => z.elim id fun m => by simp at m) Ext.refl (fun a m => by simp at m) List.nodup_nil .nil rfl
  | (k, .val f) :: es, B, O, r, H, C, R, h => by
    show (tC (kV k)) σ H _
    refine ⟨F, B, O, r, R, ?_⟩
    unfold evE at h
    cases e : f r with
    | bad => rw [e] at h; exact h
    | ex c ds r' => rw [e] at h; exact False.elim h
    | ok d r1 =>
      rw [e, Res.ok_bind] at h
      intro O1 σ1 H1 R1 E1 es1 v x
      rw [es1] at R1
      by_cases hl : isL d = false
      · rw [if_pos hl] at h
        refine pairs_ev es R1 ?_
        cases e2 : evE es r1 with
        | bad => rw [e2] at h; exact h
        | ex c ds r' => rw [e2] at h; exact False.elim h
        | ok t r2 =>
          rw [e2, Res.ok_bind] at h
          intro O2 H2 kvs as R2 E2 fr nd dp hk
          refine h O2 H2 ((k, v) :: kvs) as R2 (E1.trans E2) (fun b m => ?_) nd (.val (DV.mono (mv_later E2 fr) _ _ x) (isL_no hl) dp) (by rw [List.map_cons, List.map_cons, hk])
          cases q : H b with
          | none => rfl
          | some o => exact absurd (fr b m) (E1.th b (by rw [q]; exact fun z => nomatch z))
      · rw [if_neg hl] at h; exact False.elim h
  | (k, .lst f) :: es, B, O, r, H, C, R, h => by
    show (tC (kV k)) σ H _
    refine ⟨F, B, O, r, R, ?_⟩
    unfold evE at h
    cases e : f r with
    | bad => rw [e] at h; exact h
    | ex c ds r' => rw [e] at h; exact False.elim h
    | ok ds r1 =>
      rw [e, Res.ok_bind] at h
      intro O1 a xs H1 n R1 E1 ea x
      refine pairs_ev es R1 ?_
      cases e2 : evE es r1 with
      | bad => rw [e2] at h; exact h
      | ex c ds r' => rw [e2] at h; exact False.elim h
      | ok t r2 =>
        rw [e2, Res.ok_bind] at h
        intro O2 H2 kvs as R2 E2 fr nd dp hk
        have na : a ∉ as := fun m => by rw [fr a m] at ea; cases ea
        have aO : a ∉ O1 := fun m => (R1.ow a m).1 (.inr rfl)
        have imp1 : ∀ b, Bn (BanL B (a :: as)) O2 b → Bn (BanL (Ad B a) as) O2 b := fun b z => by
          rcases z with (z | z) | z
          · exact .inl (.inl (.inl z))
          · rcases List.mem_cons.mp z with z | z
            · exact .inl (.inl (.inr z))
            · exact .inl (.inr z)
          · exact .inr z
        refine h O2 H2 ((k, .ref a) :: kvs) (a :: as) (R2.unBan fun b z => ?_) (E1.trans E2) (fun b m => ?_) (List.nodup_cons.mpr ⟨na, nd⟩) (.lst (E2.kp a _ aO ea) ((DVs.mono (mv_later E2 fr) _ _ x).ban imp1) (dp.mono (fun b u q nb => ⟨q, fun z => nb (imp1 b z)⟩) fun _ _ _ q => q)) (by rw [List.map_cons, List.map_cons, hk])
        · rcases z with z | z
          · exact .inl (.inl z)
          · rcases List.mem_cons.mp z with z | z
            · exact .inl (.inr z)
            · exact .inr z
        · rcases List.mem_cons.mp m with m | m
          · rw [m]; exact n
          · cases q : H b with
            | none => rfl
            | some o => exact absurd (fr b m) (E1.th b (by rw [q]; exact fun z => nomatch z))
theorem mergeK_new : ∀ (more kvs : List (Key × V)), ((kvs ++ more).map (·.1)).Nodup → mergeK kvs more = kvs ++ more
  | [], kvs, _ => by simp [mergeK]
  | p :: r, kvs, nd => by
    have h0 : (kvs.any fun kv => decide (kv.1 = p.1)) = false := by
      rw [List.any_eq_false]
      intro q m z
      have e : q.1 = p.1 := of_decide_eq_true z
      rw [List.map_append, List.nodup_append] at nd
      exact nd.2.2 q.1 (List.mem_map_of_mem m) p.1 (by simp) e
    have h1 : putK kvs p.1 p.2 = kvs ++ [p] := by
      unfold putK
      rw [if_neg (by rw [h0]; exact Bool.false_ne_true)]
    show mergeK (putK kvs p.1 p.2) r = _
    rw [h1, mergeK_new r (kvs ++ [p]) (by rw [List.append_assoc]; exact nd), List.append_assoc]
    rfl
end
section
variable {X : Cx} {fa : Nat → Addr} {W : Wi} {pos : Pos}
theorem disp_run {es : List (Key × EN)} {σ : L2.St} {H : Hp} {Q : VK} {F : Fx} {B : Addr → Prop} {O : List Addr} {r : Rho} (R : RL X.K fa F B O r σ H) (hn : (es.map (·.1)).Nodup) (h15 : es.length ≤ 15)
    (h : match evE es r with
      | .ok t r' => ∀ p H' O2 as, H p = none → RL X.K fa F (BanL B (p :: as)) O2 r' σ H' → Ext O H O2 H' → (∀ a ∈ p :: as, H a = none) → (p :: as).Nodup → SlV X.K fa H' (Bn (BanL B (p :: as)) O2) (.deep (.dict t)) (some (.ref p)) (p :: as) → Q (.ref p) H'
      | _ => False) : tDisp (es.map (trE X.K fa W)) σ H Q := by
  intro p n
  have S := same_fresh (o := .dK []) n
  have R0 := R.addBan n S (by rw [upd_same]; exact fun z => nomatch z)
  refine pairs_ev es R0 ?_
  cases e : evE es r with
  | bad => rw [e] at h; exact h
  | ex c ds r' => rw [e] at h; exact h
  | ok t r' =>
    rw [e] at h
    intro O2 H2 kvs as R2 E2 fr nd dp hk
    have pO : p ∉ O := fun m => (R0.ow p m).1 (.inr rfl)
    have hp : H2 p = some (.dK []) := E2.kp p _ pO upd_same
    have fr' : ∀ a ∈ as, H a = none := fun a m => by
      cases q : H a with
      | none => rfl
      | some o => have := fr a m; rw [S a o q] at this; cases this
    have np : p ∉ as := fun m => by have := fr p m; rw [upd_same] at this; cases this
    have hm : mergeK [] kvs = kvs := by
      have := mergeK_new kvs [] (by rw [List.nil_append, hk]; exact hn)
      rwa [List.nil_append] at this
    refine ⟨hp, kvs, rfl, ?_, ?_⟩
    · have := congrArg List.length hk
      rw [List.length_map, List.length_map] at this
      omega
    rw [hm]
    have R3 : RL X.K fa F (BanL B (p :: as)) O2 r' σ (upd H2 p (.dK kvs)) := by
      have R2' : RL X.K fa F (BanL B (p :: as)) O2 r' σ H2 := R2.unBan fun b z => by
        rcases z with z | z
        · exact .inl (.inl z)
        · rcases List.mem_cons.mp z with z | z
          · exact .inl (.inr z)
          · exact .inr z
      exact R2'.updBan (.inr List.mem_cons_self) (R.new0 n)
    have nO2 : p ∉ O2 := fun m => (R2.ow p m).1 (.inl (.inr rfl))
    have E3 : Ext O H O2 (upd H2 p (.dK kvs)) := by
      have E12 : Ext O H O2 H2 := (Ext.same S).trans E2
      refine ⟨fun a o m q => ?_, E12.nw, fun a m => ?_⟩
      · have : a ≠ p := fun z => by rw [z, n] at q; cases q
        rw [upd_ne this]; exact E12.kp a o m q
      · by_cases z : a = p
        · rw [z, upd_same]; exact fun z => nomatch z
        · rw [upd_ne z]; exact E12.th a m
    have mv : Mv H2 (Bn (BanL (Ad B p) as) O2) (upd H2 p (.dK kvs)) (Bn (BanL B (p :: as)) O2) := fun b u q nb => by
      have hb : b ≠ p := fun z => nb (.inl (.inl (.inr z)))
      refine ⟨?_, fun z => nb ?_⟩
      · rcases q with q | ⟨o, q⟩
        · exact .inl (by rw [upd_ne hb]; exact q)
        · exact .inr ⟨o, by rw [upd_ne hb]; exact q⟩
      · rcases z with (z | z) | z
        · exact .inl (.inl (.inl z))
        · rcases List.mem_cons.mp z with z | z
          · exact .inl (.inl (.inr z))
          · exact .inl (.inr z)
        · exact .inr z
    refine h p _ O2 as n R3 E3 (fun a m => ?_) (List.nodup_cons.mpr ⟨np, nd⟩) (.deep upd_same (dp.mono mv fun b m u q => ?_))
    · rcases List.mem_cons.mp m with m | m
      · rw [m]; exact n
      · exact fr' a m
    · have hb : b ≠ p := fun z => by subst z; exact np m
      rw [upd_ne hb]; exact q
/-- return {..} -/
theorem rd_disp {es : List (Key × EN)} {keys : List (Option Expr)} {values : List Expr} {p2 : Pos} (h : PPs X pos keys values (es.map (trE X.K fa W0))) (hn : (es.map (·.1)).Nodup) (h15 : es.length ≤ 15) (hall : keys.all (·.isSome) = true) (hl : keys.length = values.length) (h0 : keys ≠ []) (hk : keys.length ≤ 15) :
    PS X (.Return (some (.Dict keys values pos)) p2) (tRetD X.K fa W0 (evE es)) :=
  PS.imp (ps_ret (pe_disp h hall hl h0 hk)) fun Dn σ H ⟨F, B, O, r, R, q⟩ => by
    refine disp_run R hn h15 ?_
    cases e : evE es r with
    | bad => rw [e] at q; exact q
    | ex c ds r' => rw [e] at q; exact q
    | ok t r' =>
      rw [e] at q
      intro p H' O2 as n R' E' fr nd x
      refine q (p :: as) H' _ ⟨fun a o m w => E'.kp a o m w, fun a m => .inr (fr a m), E'.th⟩ nd (fun a m z => ?_) ⟨p :: as, List.Sublist.refl _, x.mono (fun b u w nb => ⟨w, fun z => nb (.inl (z.elim .inl .inr))⟩) fun _ _ _ w => w⟩
      exact R.bt a z (fr a m)
theorem pps_val {k : V} {ke : Expr} {e : Expr} {keys : List (Option Expr)} {values : List Expr} {es : List (Key × EN)} {f : M D} {kk : Key} (hk : PE X ke (tC (kV kk))) (he : PV X fa W e f) (hr : PPs X pos keys values (es.map (trE X.K fa W))) :
    PPs X pos (some ke :: keys) (e :: values) (((kk, .val f) :: es).map (trE X.K fa W)) := pps_cons hk he hr
theorem pps_lst {ke : Expr} {e : Expr} {keys : List (Option Expr)} {values : List Expr} {es : List (Key × EN)} {f : M (List D)} {kk : Key} (hk : PE X ke (tC (kV kk))) (he : PF X fa W e f) (hr : PPs X pos keys values (es.map (trE X.K fa W))) :
    PPs X pos (some ke :: keys) (e :: values) (((kk, .lst f) :: es).map (trE X.K fa W)) := pps_cons hk he hr
end
end DL

namespace DL
open PySem PySem.Spec PyProof.Rows L2
section
variable {K : PySem.W.Frag} {fa : Nat → Addr} {F : Fx} {B : Addr → Prop} {O O' : List Addr} {r : Rho} {σ : L2.St} {H H' : Hp} {v : V}
theorem RL.putDeep (R : RL K fa F B O r σ H) {i : Nat} {s : Sl} (e : r[i]? = some s) (l : light s = true) {ds : List (D × D)} (E : Ext [] H O' H') (nd : O'.Nodup) (nb : ∀ a ∈ O', ¬ Bn B O a) (x : Deep K fa H' (Bn B O) O' v ds) :
    ∃ O2, RL K fa F B O2 (r.set i (.deep (.dict ds))) (σ.set i (some v)) H' ∧ Ext O H O2 H' := by
  obtain ⟨as, sub, x⟩ := x
  obtain ⟨o, as0, l1, l2, h1, h2, h3, h4⟩ := R.sl.at e
  have e0 := h2.light l
  subst e0
  have S : Same H H' := fun a o q => E.kp a o (by simp) q
  have new : ∀ a, a ∈ as → H a = none := fun a m => (E.nw a (sub.subset m)).elim (fun z => by simp at z) id
  have inO : ∀ a, a ∈ l1 ∨ a ∈ l2 → a ∈ O := fun a m => by
    rw [h3]
    simpa using m
  have mv : Mv H (Bn B O) H' (Bn B (l1 ++ (as ++ l2))) := fun b u q nb => by
    refine ⟨rd_same S q, ?_⟩
    rintro (z | z)
    · exact nb (.inl z)
    · simp only [List.mem_append] at z
      rcases z with z | z | z
      · exact nb (.inr (inO b (.inl z)))
      · exact rd_some q (new b z)
      · exact nb (.inr (inO b (.inr z)))
  have y : SlV K fa H' (Bn B (l1 ++ (as ++ l2))) (.deep (.dict ds)) (some v) as := x.mono (fun b u q nb => ⟨q, fun z => nb (by
    rcases z with z | z
    · exact .inl (.inl z)
    · simp only [List.mem_append] at z
      rcases z with z | z | z
      · exact .inl (.inr (inO b (.inl z)))
      · exact .inr (sub.subset z)
      · exact .inl (.inr (inO b (.inr z))))⟩) fun _ _ _ q => q
  have w := h4 H' (Bn B (l1 ++ (as ++ l2))) mv (fun a m u q => S a u q) (.deep (.dict ds)) (some v) as y
  refine ⟨l1 ++ (as ++ l2), ⟨w, ?_, fun a o q n => S a o (R.fr a o q n), fun a n z => R.fe a n (by cases q : H a with | none => rfl | some o => rw [S a o q] at z; cases z), fun a m => ?_, fun a z => E.th a (R.bt a z), fun p hp => ?_⟩, ⟨fun a o _ q => S a o q, fun a m => ?_, E.th⟩⟩
  · have ndO := R.nd
    rw [h3, List.nil_append, List.nodup_append] at ndO
    rw [List.nodup_append]
    have dj : ∀ a, a ∈ as → a ∉ O := fun a m z => nb a (sub.subset m) (.inr z)
    refine ⟨ndO.1, ?_, fun a ha b hb => ?_⟩
    · rw [List.nodup_append]
      exact ⟨nd.sublist sub, ndO.2.1, fun a ha b hb z => dj a ha (by rw [z]; exact inO b (.inr hb))⟩
    · rcases List.mem_append.mp hb with hb | hb
      · exact fun z => dj b hb (by rw [← z]; exact inO a (.inl ha))
      · exact ndO.2.2 a ha b hb
  · simp only [List.mem_append] at m
    rcases m with m | m | m
    · exact R.ow a (inO a (.inl m))
    · exact ⟨fun z => nb a (sub.subset m) (.inl z), .inr (R.new0 (new a m))⟩
    · exact R.ow a (inO a (.inr m))
  · obtain ⟨q1, d', q2⟩ := R.io p hp
    have ne : p.1 ≠ i := fun z => by
      rw [z, e] at q2
      cases Option.some.inj q2
      cases l
    rw [List.getElem?_set_ne (Ne.symm ne), List.getElem?_set_ne (Ne.symm ne)]
    exact ⟨q1, d', q2⟩
  · simp only [List.mem_append] at m
    rcases m with m | m | m
    · exact .inl (inO a (.inl m))
    · exact .inr (new a m)
    · exact .inl (inO a (.inr m))
end
/-- slot i takes the fresh dict that a def returns -/
def mkM (i : Nat) (G : FnD) (as : List AS) : M Ctl := fun r => (evA as r).bind fun sls r1 => match refs 0 as with
  | [] => match G sls with
    | .ok ds _ => match r1[i]? with
      | some s => if light s = true then .ok .nx (r1.set i (.deep (.dict ds))) else .bad
      | none => .bad
    | _ => .bad
  | _ => .bad
section
variable {X : Cx} {fa : Nat → Addr} {W : Wi} {CX : CXT} {k n : Nat} {f : Addr} {fd : FuncData} {ps : List Str} {G : FnD} {E : XK} {x y : Str} {p pos py pos2 : Pos} {e : Expr} {es : List Expr} {as : List AS}
theorem g_mk (i : Nat) (hN : X.N.Nodup) (F : FnG X.prog X.w X.K X.mg X.base CX k f fd ps (spD X.K fa n G)) (hr : Room k X.A) (hgd : X.A.guards = some []) (hm : X.mg x = some (.ref f)) (hk : PySem.W.keepIn X.K (.ref f) = true) (hb : Binds X.K fd ps []) (hx : Passes CX X E)
    (ha : PAs X fa W (e :: es) as) (hlen : as.length = n := by rfl) (hg : Gl X x := by rfl) (hdb : (x == ("__debug__" : Str)) = false := by decide) (he : starEach (e :: es) X.env = (false, eval e X.env) :: starEach es X.env := by rfl) (hpl : (backTo pos (starEach es X.env)).any (·.1) = false := by rfl)
    (hi : X.N[i]? = some y := by rfl) (hx2 : Loc X.env.scope y := by first | exact Or.inl rfl | exact Or.inr rfl) (hs : swapsWith (.Call (.Name x p) (e :: es) [] pos) (some (.Name y py)) pos2.line X.env = pure false := by rfl)
    (hf : X.fn y = true ∨ X.env.scope.names.lookup y = some .local := by first | exact .inl rfl | exact .inr rfl | assumption) : PG1 X fa W (.Assign [.Name y py] (.Call (.Name x p) (e :: es) [] pos) pos2) (mkM i G as) :=
  PS.imp (ps_set hN hi hx2 (pe_callG F hr hgd hg hm hk hb hx ha hdb he hpl) hs hf) fun Dn σ H ⟨F, B, O, r, R, h⟩ => ⟨F, B, O, r, R, (Aft.bind h).mono fun sls r1 O1 σ1 H1 _ R1 e1 ⟨_, _, h1⟩ es vs xa => by
    subst es
    have lv : vs.length = n := by rw [xa.len, hlen]
    rw [List.append_nil]
    refine ⟨lv, ?_⟩
    split at h1
    · rename_i er
      have xs := xa.light 0 er
      refine ⟨Bn B O1, sls, SlVs.mono (fun a u q nb => ⟨q, fun z => z.elim nb fun m => by simp at m⟩) xs (fun _ _ _ q => q), R1.trk, ?_⟩
      cases eg : G sls with
      | bad => rw [eg] at h1; exact h1
      | ex c ds r' => rw [eg] at h1; exact h1
      | ok ds r' =>
        rw [eg] at h1
        intro v H' O' E' nd nb x
        cases ei : r1[i]? with
        | none => simp only [ei] at h1; exact False.elim h1
        | some s =>
          simp only [ei] at h1
          by_cases hl : light s = true
          · rw [if_pos hl] at h1
            obtain ⟨O2, R2, E2⟩ := R1.putDeep ei hl E' nd nb x
            exact h1 O2 _ H' R2 E2
          · rw [if_neg hl] at h1; exact False.elim h1
    · exact False.elim h1⟩
end
end DL

namespace DL
open PySem PySem.Spec PyProof.Rows L2
/-! ### a, b = (.., ..) with fresh lists among them -/
inductive ND where
  | nv (d : D)
  | nl (ds : List D)
def evN : List EN → M (List ND)
  | [] => fun r => .ok [] r
  | .val f :: es => fun r => (f r).bind fun d r1 => (evN es r1).bind fun t r2 => .ok (.nv d :: t) r2
  | .lst f :: es => fun r => (f r).bind fun ds r1 => (evN es r1).bind fun t r2 => .ok (.nl ds :: t) r2
inductive NVs (K : PySem.W.Frag) (H : Hp) (B : Addr → Prop) : List V → List ND → List Addr → Prop
  | nil : NVs K H B [] [] []
  | val {v : V} {d : D} {vs : List V} {ns : List ND} {as : List Addr} : DV K H B v d → NVs K H B vs ns as → NVs K H B (v :: vs) (.nv d :: ns) as
  | lst {a : Addr} {xs : List V} {ds : List D} {vs : List V} {ns : List ND} {as : List Addr} : H a = some (.lst xs) → DVs K H B xs ds → NVs K H B vs ns as → NVs K H B (.ref a :: vs) (.nl ds :: ns) (a :: as)
theorem NVs.mono {K : PySem.W.Frag} {H H' : Hp} {B B' : Addr → Prop} (h : Mv H B H' B') : ∀ {vs : List V} {ns : List ND} {as : List Addr}, NVs K H B vs ns as → (∀ a ∈ as, ∀ u, H a = some u → H' a = some u) → NVs K H' B' vs ns as
  | _, _, _, .nil, _ => .nil
  | _, _, _, .val x t, k => .val (DV.mono h _ _ x) (t.mono h k)
  | _, _, _, .lst e x t, k => .lst (k _ List.mem_cons_self _ e) (DVs.mono h _ _ x) (t.mono h fun a m => k a (List.mem_cons_of_mem _ m))
theorem NVs.length {K : PySem.W.Frag} {H : Hp} {B : Addr → Prop} : ∀ {vs : List V} {ns : List ND} {as : List Addr}, NVs K H B vs ns as → vs.length = ns.length
  | _, _, _, .nil => rfl
  | _, _, _, .val _ t => by rw [List.length_cons, List.length_cons, t.length]
  | _, _, _, .lst _ _ t => by rw [List.length_cons, List.length_cons, t.length]
def trN (K : PySem.W.Frag) (fa : Nat → Addr) (W : Wi) : List EN → TA
  | [] => tNil
  | .val f :: es => tCons (tV K fa W f) (trN K fa W es)
  | .lst f :: es => tCons (tF K fa W f) (trN K fa W es)
section
variable {K : PySem.W.Frag} {fa : Nat → Addr} {F : Fx} {W : Wi} {σ : L2.St}
theorem args_ev : ∀ (es : List EN) {B : Addr → Prop} {O : List Addr} {r : Rho} {H : Hp} {C : List V → Hp → Prop}, RL K fa F B O r σ H →
    (match evN es r with
      | .ok t r' => ∀ O2 H2 vs as, RL K fa F (BanL B as) O2 r' σ H2 → Ext O H O2 H2 → (∀ a ∈ as, H a = none) → as.Nodup → NVs K H2 (Bn (BanL B as) O2) vs t as → C vs H2
      | .ex c ds r' => ∀ O' σ' H', RL K fa F B O' r' σ' H' → Ext O H O' H' → W c ds H'
      | .bad => False) → trN K fa W es σ H C
  | [], B, O, r, H, C, R, h => h O H [] [] (R.unBan fun a z => z.elim id fun m => by simp at m) Ext.refl (fun a m => by simp at m) List.nodup_nil .nil
  | .val f :: es, B, O, r, H, C, R, h => by
    refine ⟨F, B, O, r, R, ?_⟩
    unfold evN at h
    cases e : f r with
    | bad => rw [e] at h; exact h
    | ex c ds r' => rw [e] at h; exact h
    | ok d r1 =>
      rw [e, Res.ok_bind] at h
      intro O1 σ1 H1 R1 E1 es1 v x
      rw [es1] at R1
      refine args_ev es R1 ?_
      cases e2 : evN es r1 with
      | bad => rw [e2] at h; exact h
      | ex c ds r' => rw [e2] at h; exact fun O2 σ2 H2 R2 E2 => h O2 σ2 H2 R2 (E1.trans E2)
      | ok t r2 =>
        rw [e2, Res.ok_bind] at h
        intro O2 H2 vs as R2 E2 fr nd dp
        refine h O2 H2 (v :: vs) as R2 (E1.trans E2) (fun b m => ?_) nd (.val (DV.mono (mv_later E2 fr) _ _ x) dp)
        cases q : H b with
        | none => rfl
        | some o => exact absurd (fr b m) (E1.th b (by rw [q]; exact fun z => nomatch z))
  | .lst f :: es, B, O, r, H, C, R, h => by
    refine ⟨F, B, O, r, R, ?_⟩
    unfold evN at h
    cases e : f r with
    | bad => rw [e] at h; exact h
    | ex c ds r' => rw [e] at h; exact h
    | ok ds r1 =>
      rw [e, Res.ok_bind] at h
      intro O1 a xs H1 n R1 E1 ea x
      refine args_ev es R1 ?_
      cases e2 : evN es r1 with
      | bad => rw [e2] at h; exact h
      | ex c ds r' => rw [e2] at h; exact fun O2 σ2 H2 R2 E2 => h O2 σ2 H2 (R2.unBan fun b z => .inl z) (E1.trans E2)
      | ok t r2 =>
        rw [e2, Res.ok_bind] at h
        intro O2 H2 vs as R2 E2 fr nd dp
        have na : a ∉ as := fun m => by rw [fr a m] at ea; cases ea
        have aO : a ∉ O1 := fun m => (R1.ow a m).1 (.inr rfl)
        have imp1 : ∀ b, Bn (BanL B (a :: as)) O2 b → Bn (BanL (Ad B a) as) O2 b := fun b z => by
          rcases z with (z | z) | z
          · exact .inl (.inl (.inl z))
          · rcases List.mem_cons.mp z with z | z
            · exact .inl (.inl (.inr z))
            · exact .inl (.inr z)
          · exact .inr z
        refine h O2 H2 (.ref a :: vs) (a :: as) (R2.unBan fun b z => ?_) (E1.trans E2) (fun b m => ?_) (List.nodup_cons.mpr ⟨na, nd⟩)
          (.lst (E2.kp a _ aO ea) ((DVs.mono (mv_later E2 fr) _ _ x).ban imp1) (dp.mono (fun b u q nb => ⟨q, fun z => nb (imp1 b z)⟩) fun _ _ _ q => q))
        · rcases z with z | z
          · exact .inl (.inl z)
          · rcases List.mem_cons.mp z with z | z
            · exact .inl (.inr z)
            · exact .inr z
        · rcases List.mem_cons.mp m with m | m
          · rw [m]; exact n
          · cases q : H b with
            | none => rfl
            | some o => exact absurd (fr b m) (E1.th b (by rw [q]; exact fun z => nomatch z))
/-- what is put into the slots is -/
def setN : List Nat → List ND → Rho → Option Rho
  | [], [], r => some r
  | i :: is, n :: ns, r => match r[i]? with
    | some (.deep _) => none
    | some _ => setN is ns (r.set i (match n with
      | .nv d => .fz d
      | .nl ds => .own (.list ds)))
    | none => none
  | _, _, _ => none
def nmT : List Nat → TGs
  | [] => gNil
  | i :: is => gCons (gName i) (nmT is)
theorem put_all {H0 H : Hp} {C : L2.St → Hp → Prop} {B : Addr → Prop} {O0 : List Addr} (B0 : ∀ a, B a → H0 a ≠ none) : ∀ (is : List Nat) {ns : List ND} {vs : List V} {as : List Addr} {O : List Addr} {r r' : Rho} {σ : L2.St}, RL K fa F (BanL B as) O r σ H → (∀ a ∈ as, H0 a = none) → (∀ a ∈ as, F.H0 a = none) → as.Nodup → NVs K H (Bn (BanL B as) O) vs ns as → Ext O0 H0 O H → setN is ns r = some r' →
    (∀ O' σ', RL K fa F B O' r' σ' H → Ext O0 H0 O' H → C σ' H) → nmT is vs σ H C
  | [], ns, vs, as, O, r, r', σ, R, fr, f0, nd, x, E, e, q => by
    cases x with
    | nil =>
      cases e
      exact ⟨rfl, q O σ (R.unBan fun a z => .inl z) E⟩
    | val => cases e
    | lst => cases e
  | i :: is, ns, vs, as, O, r, r', σ, R, fr, f0, nd, x, E, e, q => by
    cases x with
    | nil => cases e
    | @val v d vs ns _ x t =>
      unfold setN at e
      cases ei : r[i]? with
      | none => simp only [ei] at e; cases e
      | some s =>
        have hd : ∀ d, s ≠ .deep d := fun d z => by subst z; simp only [ei] at e; cases e
        have e' : setN is ns (r.set i (.fz d)) = some r' := by
          rw [← e, ei]
          cases s <;> first | rfl | exact absurd rfl (hd _)
        obtain ⟨O', R', E'⟩ := R.put ei hd x
        refine ⟨v, vs, rfl, put_all B0 is R' fr f0 nd (t.mono (ext_mono E') fun _ _ _ w => w) (E.trans E') e' q⟩
    | @lst a xs ds vs ns as' ea x t =>
      unfold setN at e
      cases ei : r[i]? with
      | none => simp only [ei] at e; cases e
      | some s =>
        have hd : ∀ d, s ≠ .deep d := fun d z => by subst z; simp only [ei] at e; cases e
        have e' : setN is ns (r.set i (.own (.list ds))) = some r' := by
          rw [← e, ei]
          cases s <;> first | rfl | exact absurd rfl (hd _)
        obtain ⟨na, nd'⟩ := List.nodup_cons.mp nd
        have R1 : RL K fa F (fun b => BanL B as' b ∨ b = a) O r σ H := R.unBan fun b z => by
          rcases z with (z | z) | z
          · exact .inl z
          · exact .inr (List.mem_cons_of_mem _ z)
          · exact .inr (by rw [z]; exact List.mem_cons_self)
        have nB : ¬ BanL B as' a := fun z => z.elim (fun z => B0 a z (fr a List.mem_cons_self)) na
        have bn : ∀ O', (∀ b, b ∈ O' → b = a ∨ b ∈ O) → ∀ b, Bn (BanL B as') O' b → Bn (BanL B (a :: as')) O b := fun O' sub b z => by
          rcases z with (z | z) | z
          · exact .inl (.inl z)
          · exact .inl (.inr (List.mem_cons_of_mem _ z))
          · rcases sub b z with w | w
            · exact .inl (.inr (by rw [w]; exact List.mem_cons_self))
            · exact .inr w
        obtain ⟨O', R', sub⟩ := R1.putNew ei hd nB (f0 a List.mem_cons_self) (s' := .own (.list ds)) (o' := some (.ref a)) fun O' sub => .own ea (x.ban (bn O' sub))
        refine ⟨.ref a, vs, rfl, put_all B0 is R' (fun b m => fr b (List.mem_cons_of_mem _ m)) (fun b m => f0 b (List.mem_cons_of_mem _ m)) nd' (t.mono (fun b u w nb => ⟨w, fun z => nb (bn O' sub b z)⟩) fun _ _ _ w => w) ⟨fun b o m w => E.kp b o m w, fun b m => ?_, E.th⟩ e' q⟩
        rcases sub b m with w | w
        · exact .inr (by rw [w]; exact fr a List.mem_cons_self)
        · exact E.nw b w
end
section
variable {X : Cx} {fa : Nat → Addr} {W : Wi}
abbrev PNs (X : Cx) (fa : Nat → Addr) (W : Wi) (es : List Expr) (ns : List EN) : Prop := PA X es (trN X.K fa W ns)
theorem pn_nil : PNs X fa W [] [] := pa_nil
theorem pn_val {e : Expr} {es : List Expr} {f : M D} {ns : List EN} (ha : PV X fa W e f) (hb : PNs X fa W es ns) (hs : starEach (e :: es) X.env = (false, eval e X.env) :: starEach es X.env := by rfl) : PNs X fa W (e :: es) (.val f :: ns) := pa_cons ha hb hs
theorem pn_lst {e : Expr} {es : List Expr} {f : M (List D)} {ns : List EN} (ha : PF X fa W e f) (hb : PNs X fa W es ns) (hs : starEach (e :: es) X.env = (false, eval e X.env) :: starEach es X.env := by rfl) : PNs X fa W (e :: es) (.lst f :: ns) := pa_cons ha hb hs
abbrev NMs (X : Cx) (es : List Expr) (is : List Nat) : Prop := L2.PGs X es (nmT is)
theorem nm_nil : NMs X [] [] := pgs_nil
theorem nm_cons (i : Nat) {x : Str} {es : List Expr} {is : List Nat} {pos : Pos} (hN : X.N.Nodup) (h : NMs X es is) (hi : X.N[i]? = some x := by rfl) (hx : Loc X.env.scope x := by first | exact Or.inl rfl | exact Or.inr rfl) (hf : X.fn x = true ∨ X.env.scope.names.lookup x = some .local := by first | exact .inl rfl | exact .inr rfl | assumption)
    (hs : (assignEach (.Name x pos :: es) X.env).map (·.2) = assign (.Name x pos) X.env :: (assignEach es X.env).map (·.2) := by rfl) : NMs X (.Name x pos :: es) (i :: is) := pgs_cons (pg_name hN hi hx hf) h hs
def setsM (is : List Nat) (es : List EN) : M Ctl := fun r => (evN es r).bind fun ns r1 => if is.length = ns.length ∧ ns.length ≤ sizeLine then match setN is ns r1 with
  | some r2 => .ok .nx r2
  | none => .bad
  else .bad
theorem g_sets {ts vs : List Expr} {is : List Nat} {ns : List EN} {n x1 x2 : Nat} {p1 p2 pos : Pos} (hc : X.calm = true) (hv : PNs X fa W vs ns) (ht : NMs X ts is) (hl : is.length = n := by rfl) (hn : (assignEach ts X.env).length = n := by rfl) (hst : (assignEach ts X.env).findIdx? (·.1) = none := by rfl)
    (hs : swapsWithSole [.Tuple ts x1 p1] (.Tuple vs x2 p2) pos.line X.env = pure false := by rfl) (hw : swappedStores [.Tuple ts x1 p1] (.Tuple vs x2 p2) X.env = pure none := by rfl) (h1 : (assignEach [.Tuple ts x1 p1] X.env).map (·.2) = [assign (.Tuple ts x1 p1) X.env] := by rfl) :
    PG1 X fa W (.Assign [.Tuple ts x1 p1] (.Tuple vs x2 p2) pos) (setsM is ns) :=
  PS.imp (ps_asg (pe_tup hv) (pg_tup hc ht hn hst) hs hw h1) fun Dn σ H ⟨F, B, O, r, R, h⟩ => by
    refine args_ev ns R ?_
    unfold setsM at h
    cases e : evN ns r with
    | bad => rw [e] at h; exact h
    | ex c ds r' => rw [e] at h; exact h
    | ok t r1 =>
      rw [e, Res.ok_bind] at h
      intro O2 H2 vs as R2 E2 fr nd x
      split at h
      · rename_i hz
        cases es : setN is t r1 with
        | none => rw [es] at h; exact False.elim h
        | some r2 =>
          rw [es] at h
          refine ⟨by rw [x.length]; exact hz.2, fun p n => ?_⟩
          have S := same_fresh (o := .tup vs) n
          refine ⟨p, vs, rfl, .inl (.inl upd_same), by rw [x.length, ← hz.1]; exact hl, ?_⟩
          have R3 := R2.same S
          have x3 := x.mono (H' := upd H2 p (.tup vs)) (B' := Bn (BanL B as) O2) (fun b u q nb => ⟨rd_same S q, nb⟩) fun a _ u q => S a u q
          exact put_all (fun a z => R.bt a z) is R3 fr (fun a m => R.new0 (fr a m)) nd x3 (E2.trans (Ext.same S)) es fun O' σ' R' E' => h O' σ' _ R' E'
      · exact False.elim h
end
end DL

namespace DL
open PySem PySem.Spec PyProof.Rows L2
/-! ### the head of a law, for the contracts of this layer -/
/-- all that is tracked at the start: the script, unless it is an object of the module -/
def hStart (K : PySem.W.Frag) (a : Addr) (o : Obj) (ns : List Int) : Hp := fun b =>
  if K.lookup a = none ∧ b = a then some (.frz o (.lst (ns.map V.int))) else none
theorem hStart_cases (K : PySem.W.Frag) (a : Addr) (o : Obj) (ns : List Int) (b : Addr) :
    hStart K a o ns b = none ∨ (b = a ∧ K.lookup a = none ∧ hStart K a o ns b = some (.frz o (.lst (ns.map V.int)))) := by
  unfold hStart
  by_cases h : K.lookup a = none ∧ b = a
  · exact .inr ⟨h.2, h.1, if_pos h⟩
  · exact .inl (if_neg h)
/-- no list is an object of the module -/
def noList (K : PySem.W.Frag) : Bool := K.all fun p => match p.2.cls with
  | .type "list" => false
  | _ => true
theorem noList_of {a : Addr} {o : Obj} : ∀ {K : PySem.W.Frag}, noList K = true → K.lookup a = some o → o.cls ≠ .type "list"
  | [], _, e => by cases e
  | (b, u) :: r, h, e => by
    unfold noList at h
    simp only [List.all_cons, Bool.and_eq_true] at h
    rw [List.lookup_cons] at e
    split at e
    · cases e
      intro z
      rw [z] at h
      exact absurd h.1 (by decide)
    · exact noList_of (K := r) h.2 e
theorem law_callG {P : Program} {w : World} {K : PySem.W.Frag} {mg mb : Str → Option Value}
    {CX : CXT} {k : Nat} {fa a : Addr} {fd : FuncData} {x : Str} {sp : Sp} {t : Shared} {vs : List Value} {ns : List Int}
    (KX : K.In t.heap) (n1 : t.heap.Ns mainGlobals mg) (n2 : t.heap.Ns builtinsNs mb)
    (n3 : ∀ x : Str, x ≠ "__name__" → mb x = bootBuiltins x) (n4 : t.heap.NoLimit) (n5 : t.gens = #[])
    (ea : t.heap.get? a = some { cls := .type "list", data := .seq vs.toArray }) (hi : IntsAre vs ns) (hz : ns.length ≤ sizeLine)
    (room : Room k callerA) (gd : callerA.guards = some [])
    (sm : ∃ mm, t.heap.Ns sysModules mm)
    (F : ∀ base : Heap, K.In base → base.Ns mainGlobals mg → (∃ o, base.get? sysModules = some o) → FnG P w K mg base CX k fa fd [x] sp)
    (bind : ∀ (s : Shared) (u : Value), BindsTo s fd ⟨[u], []⟩ [(x, u)])
    (nl : noList K = true)
    (hsp : ∀ H : Hp, Rd H a (.lst (ns.map V.int)) → sp [.ref a] H (fun v _ => v = .bl true) fun _ _ _ => False)
    (noX : ∀ H e s', CX [] H t (fun _ _ _ => False) e s' → False) :
    codeAny (model P w) callerA (.call (.ref fa) ⟨[.ref a], []⟩)
      (fun r s' => r = .ok (.ret (.bool true)) ∧ OldK t.heap s'.heap ∧ s'.os = t.os ∧ AllBare s'.gens) t := by
  have rv := vals_ints hi
  have el := hi.length
  let ob : Obj := { cls := .type "list", data := .seq vs.toArray }
  let H := hStart K a ob ns
  have only : ∀ b, H b = none ∨ (b = a ∧ K.lookup a = none ∧ H b = some (.frz ob (.lst (ns.map V.int)))) := hStart_cases K a ob ns
  have get : ∀ {b : Addr} {o : Obj}, t.heap.get? b = some o → H b = none → (hidT t.heap H).get? b = some o :=
    fun e n => hidT_get e n
  have free : ∀ {b : Addr} {o : Obj} {es : Array DictEntry} {ep : Nat}, t.heap.get? b = some o → o.data = .dict es ep → H b = none := by
    intro b o es ep e d
    rcases only b with n | ⟨rfl, _, _⟩
    · exact n
    · rw [ea] at e
      cases e
      have d' : Data.seq vs.toArray _ = Data.dict es ep := d
      cases d'
  have nsT : ∀ {b : Addr} {m : Str → Option Value}, t.heap.Ns b m → (hidT t.heap H).Ns b m := by
    rintro b m ⟨o, es, ep, e, d, r⟩
    exact ⟨o, es, ep, get e (free e d), d, r⟩
  have inT : K.In (hidT t.heap H) := by
    intro b o e
    refine get (KX b o e) ?_
    rcases only b with n | ⟨rfl, n, _⟩
    · exact n
    · rw [n] at e
      cases e
  have hok : HOk P w H t.heap := by
    intro b u e
    rcases only b with n | ⟨rfl, _, n⟩
    · rw [n] at e
      cases e
    · rw [n] at e
      cases e
      exact ⟨ea, by rw [List.length_map]; exact hz, vs, _, rv, ea⟩
  have sq : Rd H a (.lst (ns.map V.int)) := by
    cases e : K.lookup a with
    | none => exact .inr ⟨ob, if_pos ⟨e, rfl⟩⟩
    | some o =>
      have e2 := KX a o e
      rw [ea] at e2
      cases e2
      exact absurd rfl (noList_of nl e)
  have md : Mod K mg (hidT t.heap H) := by
    obtain ⟨mc, c1, c2⟩ := n4
    exact ⟨inT, nsT n1, ⟨mb, nsT n2, n3⟩, ⟨mc, nsT c1, c2⟩⟩
  have nil : ∀ b : Addr, b ∉ ([] : List Addr) := fun b m => by simp at m
  have env : Env0 P w K mg (hidT t.heap H) callerA [] t H :=
    ⟨rfl, md, fun b o e => of_hidT e, Nat.le_of_eq (hidT_size _ _), trivial, fun b m => absurd (show b ∈ ([] : List Addr) from m) (nil b), hok, .of_eq n5⟩
  have sysT : ∃ o, (hidT t.heap H).get? sysModules = some o := by
    obtain ⟨mm, q⟩ := sm
    obtain ⟨o, _, _, e, _⟩ := nsT q
    exact ⟨o, e⟩
  refine codeAny_mono ((F _ inT (nsT n1) sysT).run callerA [] t H ⟨[.ref a], []⟩ [.ref a] [.ref a] _ _ room gd env (bind t (.ref a)) (.cons rfl .nil) (hsp H sq)) ?_
  intro r s' h
  cases r with
  | error e => exact absurd (noX H e s' h) id
  | ok fl =>
    cases fl with
    | ret u =>
      obtain ⟨v, H', os, bare, un, ok', r', q⟩ := h
      cases (show v = .bl true from q)
      cases (show u = Value.bool true from r')
      refine ⟨rfl, OldK.of_keep fun b o e => ?_, os, bare⟩
      rcases only b with n | ⟨rfl, _, n⟩
      · exact un.keep b o e n (fun z => nil b z) (nil b)
      · have f2 := un.frzs b ob _ n
        obtain ⟨q1, _⟩ := hok b _ n
        obtain ⟨q2, _⟩ := ok' b _ f2
        rw [e] at q1
        cases q1
        exact q2
    | _ => exact False.elim h
theorem walkG {l : PySem.W.OpenLaw} {n k : Nat} {q : Program} {loose : List Str} {XP : (Str → Option Value) → Heap → Prop} {YP : World → Heap → Prop}
    {d : DefRec} {K : Params → PySem.W.Frag} {CX : CXT} {sp : World → Sp} {x : Str}
    (hn : l.most = some n) (hn2 : n ≤ sizeLine) (hdf : d.params.defaults = []) (imp : importsNone q = true) (room : Room k callerA) (gd : callerA.guards = some [])
    (hY : ∀ (w : World) (h : Heap), YP w h → (K w.params).In h)
    (F : ∀ (w : World) (mg : Str → Option Value) (fa : Addr) (h : Heap), (K w.params).In h → h.Ns mainGlobals mg → mg d.name = some (.ref fa) → XP mg h →
      ∃ fd : FuncData, (∀ (s : Shared) (u : Value), BindsTo s fd ⟨[u], []⟩ [(x, u)]) ∧
        ∀ base : Heap, (K w.params).In base → base.Ns mainGlobals mg → (∃ o, base.get? sysModules = some o) → FnG l.prog w (K w.params) mg base CX k fa fd [x] (sp w))
    (nl : ∀ w : World, noList (K w.params) = true)
    (hsp : ∀ (w : World) (H : Hp) (a : Addr) (ns : List Int), ns.length ≤ n → Rd H a (.lst (ns.map V.int)) →
      sp w [.ref a] H (fun v _ => v = .bl true) fun _ _ _ => False)
    (noX : ∀ (H : Hp) (s : Shared) (e : Value) (s' : Shared), CX [] H s (fun _ _ _ => False) e s' → False) :
    PySem.W.WalkO q loose XP YP l.row.toRowW d [] (fun f vs => PySem.call f vs) := by
  refine Att.attach_call hn hdf ?_
  intro w s0 t mg mb fa o pm cd doc a vs ns G Y ho hd hcd hmg hobj hints hlen hg
  have KX := hY w _ Y
  obtain ⟨fd, hb, hF⟩ := F w mg fa _ KX G.T.g hmg G.X
  exact law_callG KX G.T.g G.T.b G.T.builtins G.T.nolimit hg hobj hints (Nat.le_trans hlen hn2) room gd (let ⟨mm, q, _⟩ := (G.T.seer imp).mods; ⟨mm, q⟩) hF hb (nl w)
    (fun H hS => hsp w H a ns hlen hS) fun H e s' => noX H t e s'
theorem walkGK {l : PySem.W.OpenLaw} {n k : Nat} {q : Program} {loose : List Str} {XP : (Str → Option Value) → Heap → Prop} {YP : World → Heap → Prop}
    {d : DefRec} {K : Params → PySem.W.Frag} {CX : CXT} {sp : PySem.W.Frag → Sp} {x : Str}
    (hn : l.most = some n) (hn2 : n ≤ sizeLine) (hdf : d.params.defaults = []) (imp : importsNone q = true) (room : Room k callerA) (gd : callerA.guards = some [])
    (hY : ∀ (w : World) (h : Heap), YP w h → (K w.params).In h)
    (F : ∀ (w : World) (mg : Str → Option Value) (fa : Addr) (h : Heap), (K w.params).In h → h.Ns mainGlobals mg → mg d.name = some (.ref fa) → XP mg h →
      ∃ fd : FuncData, (∀ (s : Shared) (u : Value), BindsTo s fd ⟨[u], []⟩ [(x, u)]) ∧
        ∀ base : Heap, (K w.params).In base → base.Ns mainGlobals mg → (∃ o, base.get? sysModules = some o) → FnG l.prog w (K w.params) mg base CX k fa fd [x] (sp (K w.params)))
    (nl : ∀ w : World, noList (K w.params) = true)
    (hsp : ∀ (K : PySem.W.Frag) (H : Hp) (a : Addr) (ns : List Int), ns.length ≤ n → Rd H a (.lst (ns.map V.int)) →
      sp K [.ref a] H (fun v _ => v = .bl true) fun _ _ _ => False)
    (noX : ∀ (H : Hp) (s : Shared) (e : Value) (s' : Shared), CX [] H s (fun _ _ _ => False) e s' → False) :
    PySem.W.WalkO q loose XP YP l.row.toRowW d [] (fun f vs => PySem.call f vs) :=
  walkG (K := K) (sp := fun w => sp (K w.params)) hn hn2 hdf imp room gd hY F nl (fun w H a ns h1 h2 => hsp (K w.params) H a ns h1 h2) noX
theorem dvs_ints {K : PySem.W.Frag} {H : Hp} {B : Addr → Prop} : ∀ ns : List Int, DVs K H B (ns.map V.int) (ns.map PyData.int)
  | [] => .nil
  | n :: r => .cons (.int n) (dvs_ints r)
/-- the law's promise, from what its function answers -/
theorem sp_law {K : PySem.W.Frag} {fa : Nat → Addr} {xv : XV} {G : Fn} {H : Hp} {a : Addr} {ns : List Int} (hS : Rd H a (.lst (ns.map V.int))) (h : ∃ r, G [.fz (.list (ns.map PyData.int))] = .ok (.bool true) r) :
    spF K fa xv 1 G [.ref a] H (fun v _ => v = .bl true) fun _ _ _ => False := by
  obtain ⟨r, e⟩ := h
  refine ⟨rfl, NoB, [.fz (.list (ns.map PyData.int))], [], ?_, List.nodup_nil, fun a m => by simp at m, fun a z => z.elim, ?_⟩
  · have x : DV K H (Bn NoB []) (.ref a) (.list (ns.map PyData.int)) := .lst hS (fun z => z.elim id fun m => by simp at m) (dvs_ints ns)
    exact SlVs.cons (.fz x) .nil
  · rw [e]
    intro v H' I' _ _ _ _ x
    cases x
    rfl
end DL

/-! ### enumerate of a tuple -/
namespace DLE
open PySem
open AutoSeq1 (wpAny_loadPart')
abbrev tIt (t : Addr) : Obj := { cls := .type "tuple_iterator", data := .fields #[.ref t, .int 0 0] }
abbrev enO (a : Addr) : Obj := { cls := .type "enumerate", data := .fields #[.none, .bool false, .ref a, rawInt 0, .none, .none] }
theorem new_enum (t : Addr) (xs : Array Value) (n : Nat) (dct : Option Addr) (sl : Array (Option Value)) :
    Meets (Builtin.«enumerate.__new__» ⟨[.type "enumerate", .ref t], []⟩) (fun _ R s =>
      s.heap.get? t = some { cls := .type "tuple", dict := dct, data := .seq xs n, slots := sl } ∧
      R (.ok (.ret (.ref (s.heap.push (tIt t)).objs.size))) { s with heap := (s.heap.push (tIt t)).push (enO s.heap.objs.size) }) :=
  .of_wp fun prog w A R s h => by
    obtain ⟨hp, g, d, tk, os⟩ := s
    obtain ⟨hl, h⟩ := h
    have sub := sub_enumerate
    have hT : Heap.IsTuple (Shared.heap ⟨hp, g, d, tk, os⟩) t xs := ⟨_, hl, rfl, n, rfl⟩
    wp_walk using wpAny_loadPart' hl
    refine wpAny_stack_any fun st => wpAny_pure ?_
    split
    · rename_i c _ _ _ _ _
      cases (c == Value.type "enumerate") <;> (wp_walk using wpAny_loadPart' hl, wpAny_pyIter_tuple hT; exact ⟨_, rfl, h⟩)
    · wp_walk using wpAny_loadPart' hl, wpAny_pyIter_tuple hT
      exact ⟨_, rfl, h⟩
section
variable {prog : Program} {w : World} {A : Around} {E : Value → Shared → Prop} {s : Shared}
theorem call_enum {t : Addr} {xs : Array Value} {Q : Value → Shared → Prop} (hT : s.heap.IsTuple t xs)
    (h : ∀ h', IsEnum h' (s.heap.objs.size + 1) s.heap.objs.size 0 .none → h'.IsTupleIter s.heap.objs.size t 0 →
      (∀ b o, s.heap.get? b = some o → h'.get? b = some o) → Q (.ref (s.heap.objs.size + 1)) { s with heap := h' }) :
    wpAny (model prog w) A (call (.type "enumerate") [.ref t]) Q E s := by
  obtain ⟨⟨c, dct, dt, sl⟩, hl, hc, n, hd⟩ := hT
  cases (show c = .type "tuple" from hc)
  cases (show dt = .seq xs n from hd)
  refine callType_new F.called_enumerate (by decide) (F.typeCall_enumerate_1 _) (F.newCall_enumerate_1 _)
    (fun obj => F.args_object_init_2 obj _) F.entry_enumerate_new (new_enum t xs n dct sl) ⟨hl, ?_⟩
  have hz : (s.heap.push (tIt t)).objs.size = s.heap.objs.size + 1 := Heap.size_push ..
  show _ ∧ _
  rw [hz]
  have he : IsEnum ((s.heap.push (tIt t)).push (enO s.heap.objs.size)) (s.heap.objs.size + 1) s.heap.objs.size 0 .none := by
    have q := Heap.get?_push_size (s.heap.push (tIt t)) (o := enO s.heap.objs.size) rfl
    rw [hz] at q
    exact q
  refine ⟨⟨_, he, rfl⟩, h _ he ⟨_, Heap.get?_push_of_some _ (Heap.get?_push_size _ rfl), rfl, rfl⟩ ?_⟩
  exact fun b o x => Heap.get?_push_of_some _ (Heap.get?_push_of_some _ x)
theorem enum_end {e it t : Addr} {i : Nat} {c : Int} {xs : Array Value} {old : Value} {Q : Option Value → Shared → Prop} (hh : A.handled = none)
    (he : IsEnum s.heap e it c old) (hi : s.heap.IsTupleIter it t i) (ht : s.heap.IsTuple t xs) (hx : xs[i]? = none)
    (hQ : ∀ h', Heap.ExtBut it s.heap h' → Q none { s with heap := h' }) : wpAny (model prog w) A (pyNext (.ref e)) Q E s := by
  have ty : s.TypeIs (.ref e) "enumerate" := ⟨_, he, rfl⟩
  unfold pyNext
  refine wpAny_bind (wpAny_attempt ?_)
  refine wpAny_callSpecial?_slot (name := Str.ofString "__next__") ty F.slot_enumerate_next ?_
  refine wpAny_call_entry F.slot_enumerate_next ty F.entry_enumerate_next ?_ (F.args_enumerate_next_1 _)
  show wpAny _ _ (field (.ref e) 2 >>= _) _ _ _
  refine wpAny_bind (wpAny_field he rfl (x := .ref it) rfl ?_)
  refine wpAny_bind (wpAny_nextOf_tuple_end hh hi ht hx fun h' x ext stop => ?_)
  obtain ⟨o, ho, hc⟩ := stop
  refine wpAny_bind (wpAny_isInstance (T := "StopIteration") (b := true) ⟨o, ho, hc⟩ isSubtype_stop ?_)
  exact wpAny_pure (hQ _ ext)
end
end DLE
namespace DL
open PySem PySem.Spec PyProof.Rows L2
/-- the tuple at a, its items with their places in new pairs -/
def IteT (K : PySem.W.Frag) (a : Addr) : It where
  go i H := ∃ (xs : List V) (x : V), SqT K H a xs ∧ xs[i]? = some x
  yld i H v H' := ∃ T x, v = .ref T ∧ H T = none ∧ H' = upd H T (.tup [.int (i : Nat), x]) ∧ ∀ xs, SqT K H a xs → xs[i]? = some x
  stop i H := ∃ xs : List V, SqT K H a xs ∧ xs.length ≤ i
theorem turn_enT {P : Program} {w : World} {K : PySem.W.Frag} {elts : List Expr} {kk : Nat} {tpos : Pos} (a e it : Addr) :
    Turn P w K (.Tuple elts kk tpos) (IteT K a) [e, it] e (fun i h => (∃ old, IsEnum h e it ((i : Nat) : Int) old) ∧ h.IsTupleIter it a i ∧ e ≠ it ∧ a ≠ it ∧ e ≠ a) where
  mem := by simp
  obj := by
    rintro i h ⟨⟨old, he⟩, ⟨o, ho, hc, hd⟩, _⟩ b hb
    rcases (show b = e ∨ b = it by simpa using hb) with rfl | rfl
    · exact ⟨_, he, fun v q => nomatch q⟩
    · refine ⟨o, ho, fun v q => ?_⟩
      rw [hd] at q
      cases q
  keep := by
    rintro i h h' ⟨⟨old, he⟩, hi, hne⟩ k
    exact ⟨⟨old, k e (by simp) _ he⟩, hi.at fun o q => k it (by simp) o q, hne⟩
  item := by
    intro X hP hw hK hc i pins s σ H E I hf st hg
    subst hP hw hK
    obtain ⟨⟨old, he⟩, hit, ne, na, nea⟩ := st
    obtain ⟨xs, x, hq, hx⟩ := hg
    obtain ⟨its, rv, p, hz⟩ := I.tuple hq
    obtain ⟨u, hu, ru⟩ := rv.get hx
    have lE : e < s.heap.objs.size := Heap.lt_size he
    have lI : it < s.heap.objs.size := by
      obtain ⟨_, q, _⟩ := hit
      exact Heap.lt_size q
    have hlt : i < its.toArray.size := by
      have := (List.getElem?_eq_some_iff.mp hu).1
      simpa using this
    have D := PySem.Draws.tuple (prog := X.prog) (w := X.w) (A := X.A.in1) (I.ok.hd hc) it a na its.toArray
    refine wpAny_pyNext_enum_itemD D he ⟨hit, p⟩ hlt ne ?_ fun y h' tk hy ho hs' hT hsz hk => ?_
    · intro m
      rcases (show e = it ∨ e = a by simpa using m) with q | q
      · exact ne q
      · exact nea q
    have ey : y = u := by
      have q : its.toArray[i]? = some u := by simpa using hu
      rw [q] at hy
      exact (Option.some.inj hy).symm
    subst ey
    refine ⟨_, rfl, wpAny_letOwnedTupleGo_enum (s := { s with heap := h', toks := tk + 1 }) ho fun h2 he2 sb => ?_⟩
    let T := s.heap.objs.size
    have gT : h2.get? T = some { cls := .type "tuple", data := .seq #[.int i tk, y] } := (sb.2 _ (Nat.ne_of_gt lE)).trans hT
    have new : ObjOk X.prog X.w (upd H T (.tup [.int (i : Nat), x])) h2 T (.tup [.int (i : Nat), x]) := by
      refine ⟨?_, [.int i tk, y], .cons ⟨_, rfl⟩ (.cons ru .nil), ⟨_, gT, rfl, _, rfl⟩⟩
      show 2 ≤ sizeLine
      decide
    have I2 : Inv X pins σ (upd H T (.tup [.int (i : Nat), x])) { s with heap := h2, toks := tk + 1 } := by
      refine I.turnedNew (ch := [e, it]) (fun b o hb q => ?_) hf (Nat.le_refl _) new
      have n1 : b ≠ e := fun z => hb (by simp [z])
      have n2 : b ≠ it := fun z => hb (by simp [z])
      exact (sb.2 b n1).trans (hk b o n1 n2 q)
    have fresh : H T = none := I.hok.fresh (Nat.le_refl _)
    refine ⟨.ref T, _, I2, rfl, ⟨T, x, rfl, fresh, rfl, fun ys hy => ?_⟩, ⟨⟨y, ?_⟩, hs'.1.at fun o q => (sb.2 it (Ne.symm ne)).trans q, ne, na, nea⟩, fun b hb => ?_⟩
    · rw [I.tuple_inj hy hq]
      exact hx
    · rw [show ((i + 1 : Nat) : Int) = (i : Int) + 1 by omega]
      exact he2
    · have lb : b < T := by
        rcases (show b = e ∨ b = it by simpa using hb) with z | z
        · rw [z]; exact lE
        · rw [z]; exact lI
      rw [upd_ne (Nat.ne_of_lt lb)]
      exact (hf b hb).1
  done := by
    intro X hP hw hK hc i pins s σ H E I hf st hg
    subst hP hw hK
    obtain ⟨⟨old, he⟩, hit, ne, na, nea⟩ := st
    obtain ⟨xs, hq, hx⟩ := hg
    obtain ⟨its, rv, p, hz⟩ := I.tuple hq
    have el := rv.length
    have none_i : its.toArray[i]? = none := by
      simp only [List.getElem?_toArray, List.getElem?_eq_none_iff]
      omega
    obtain ⟨f0, f1, f2, f3, f4, f5⟩ := hf it (by simp)
    exact DLE.enum_end (I.ok.hd hc) he hit p none_i fun h' eb => ⟨rfl, I.turned (t' := s.toks) (fun b o hb q => eb b o hb q) f0 f1 f3 f4 f5⟩
  self := by
    rintro A i s Q E ⟨⟨_, he⟩, _⟩ h
    exact wpAny_pyIter_enum he h
def iEnT (K : PySem.W.Frag) (ta : TA) : TI := fun σ H R => ta σ H fun vs H1 => ∃ a xs, vs = [.ref a] ∧ SqT K H1 a xs ∧ R (IteT K a) H1
theorem pi_enT {X : Cx} {e : Expr} {ta : TA} {p pos tpos : Pos} {elts : List Expr} {kk : Nat} (hg : Gl X "enumerate") (hm : X.mg "enumerate" = none) (ha : PA X [e] ta)
    (hs : starEach [e] X.env = [(false, eval e X.env)] := by rfl) : PI X (.Tuple elts kk tpos) (.Call (.Name "enumerate" p) [e] [] pos) (iEnT X.K ta) := by
  constructor
  intro pins s σ H R I h
  refine Call_ (ld_blt I hg hm boot_enumerate (PyProof.Rows.callWith_type1 (thn (ha.run pos pins s σ H _ I h) fun us s1 ⟨vs, H1, I1, rs, q1⟩ => ?_) hs rfl))
  obtain ⟨a, xs, rfl, hq, q⟩ := q1
  obtain ⟨u, rfl, rx⟩ := vals1 rs
  cases rx
  obtain ⟨its, rv, p', hz⟩ := I1.tuple hq
  refine DLE.call_enum p' fun h' he hit hk => wpAny_pyIter_enum he ?_
  have I2 : Inv X pins σ H1 { s1 with heap := h' } := I1.kept (t' := s1.toks) hk
  have la : a < s1.heap.objs.size := by
    obtain ⟨o, ho, _⟩ := p'
    exact Heap.lt_size ho
  refine ⟨s1.heap.objs.size + 1, [s1.heap.objs.size + 1, s1.heap.objs.size], _, _, H1, rfl, I2, turn_enT a (s1.heap.objs.size + 1) s1.heap.objs.size,
    ⟨⟨.none, he⟩, hit, Nat.succ_ne_self _, Nat.ne_of_lt la, Nat.ne_of_gt (Nat.lt_succ_of_lt la)⟩, fun b hb => ?_, q⟩
  have hle : s1.heap.objs.size ≤ b := by
    rcases (show b = s1.heap.objs.size + 1 ∨ b = s1.heap.objs.size by simpa using hb) with z | z
    · rw [z]; exact Nat.le_succ _
    · rw [z]; exact Nat.le_refl _
  exact I1.fpOk hle (I1.hok.fresh hle)
def enumL (ds : List D) : List D := ds.zipIdx.map fun p => .tuple [.int (p.2 : Nat), p.1]
def enumG : D → Option (List D)
  | .list ds => some (enumL ds)
  | .tuple ds => some (enumL ds)
  | _ => none
def enumM (f : M (List D)) : M (List D) := fun r => (f r).bind fun ds r1 => match ds with
  | [d] => opt (enumG d) r1
  | _ => .bad
theorem enumL_get {ds : List D} {i : Nat} {z : D} (h : (enumL ds)[i]? = some z) : ∃ d, ds[i]? = some d ∧ z = .tuple [.int (i : Nat), d] := by
  unfold enumL at h
  rw [List.getElem?_map, List.getElem?_zipIdx] at h
  cases e : ds[i]? with
  | none => rw [e] at h; cases h
  | some d =>
    rw [e] at h
    cases h
    exact ⟨d, rfl, by simp⟩
theorem enumL_length (ds : List D) : (enumL ds).length = ds.length := by simp [enumL]
section
variable {X : Cx} {fa : Nat → Addr} {W : Wi}
theorem ite_ok {K : PySem.W.Frag} {B : Addr → Prop} {O : List Addr} {H : Hp} {a : Addr} {ds : List D} (x : DV K H (Bn B O) (.ref a) (.list ds)) : ItOk K B O H (Ite K a) (enumL ds) := by
  intro C H' e tC
  obtain ⟨xs, h1, h2⟩ := SqL.ofD (DV.mono e _ _ x)
  refine ⟨fun i z hz => ?_, ⟨xs, h1, by rw [h2.length, enumL_length]; exact Nat.le_refl _⟩⟩
  obtain ⟨d, hd, rfl⟩ := enumL_get hz
  obtain ⟨v, h3, h4⟩ := h2.get hd
  refine ⟨⟨xs, v, h1, h3⟩, fun y H2 ⟨T, w, ey, n, e2, q⟩ => ?_⟩
  subst ey e2
  have e3 := q xs h1
  rw [h3] at e3
  cases e3
  have S := same_fresh (o := .tup [.int (i : Nat), v]) n
  exact ⟨S, .tup (.inl upd_same) (fun z => tC T z n) (.cons (.int _) (.cons (h4.same S) .nil))⟩
theorem itet_ok {K : PySem.W.Frag} {B : Addr → Prop} {O : List Addr} {H : Hp} {a : Addr} {ds : List D} (x : DV K H (Bn B O) (.ref a) (.tuple ds)) : ItOk K B O H (IteT K a) (enumL ds) := by
  intro C H' e tC
  obtain ⟨xs, h1, h2⟩ := SqT.ofD (DV.mono e _ _ x)
  refine ⟨fun i z hz => ?_, ⟨xs, h1, by rw [h2.length, enumL_length]; exact Nat.le_refl _⟩⟩
  obtain ⟨d, hd, rfl⟩ := enumL_get hz
  obtain ⟨v, h3, h4⟩ := h2.get hd
  refine ⟨⟨xs, v, h1, h3⟩, fun y H2 ⟨T, w, ey, n, e2, q⟩ => ?_⟩
  subst ey e2
  have e3 := q xs h1
  rw [h3] at e3
  cases e3
  have S := same_fresh (o := .tup [.int (i : Nat), v]) n
  exact ⟨S, .tup (.inl upd_same) (fun z => tC T z n) (.cons (.int _) (.cons (h4.same S) .nil))⟩
theorem it_enum {e : Expr} {f : M (List D)} {p pos tpos : Pos} {elts : List Expr} {kk : Nat} (hm : X.mg "enumerate" = none) (ha : PVs X fa W [e] f) (hg : Gl X "enumerate" := by rfl) (hs : starEach [e] X.env = [(false, eval e X.env)] := by rfl) :
    PIt X fa W (.Tuple elts kk tpos) (.Call (.Name "enumerate" p) [e] [] pos) (enumM f) := by
  refine PI.imp (PI.or (pi_enum hg hm ha hs) (pi_enT hg hm ha hs)) fun σ H R ⟨F, B, O, r, hR, h⟩ => ?_
  unfold enumM at h
  cases ef : f r with
  | bad => rw [ef] at h; exact False.elim h
  | ex c ds r' =>
    rw [ef] at h
    refine .inl ⟨F, B, O, r, hR, ?_⟩
    rw [ef]
    exact h
  | ok ds r1 =>
    rw [ef, Res.ok_bind] at h
    match ds, h with
    | [], h => exact False.elim h
    | _ :: _ :: _, h => exact False.elim h
    | [d], h =>
      cases d with
      | list es =>
        refine .inl ⟨F, B, O, r, hR, ?_⟩
        rw [ef]
        intro O' σ' H' R' e' ee vs x
        cases x with
        | cons y t =>
          cases t
          cases y with
          | lst q b t => exact ⟨_, _, rfl, .inl q, h O' σ' H' R' e' ee _ (ite_ok (.lst q b t))⟩
      | tuple es =>
        refine .inr ⟨F, B, O, r, hR, ?_⟩
        rw [ef]
        intro O' σ' H' R' e' ee vs x
        cases x with
        | cons y t =>
          cases t
          obtain ⟨a, rfl⟩ := y.isRef
          obtain ⟨xs, q, t⟩ := SqT.ofD y
          exact ⟨a, xs, rfl, q, h O' σ' H' R' e' ee _ (itet_ok y)⟩
      | _ => exact False.elim h
/-! ### zip of two tuples, or of two lists -/
def zipG : List D → Option (List D)
  | [.tuple ds, .tuple es] => some (List.zipWith (fun x y => .tuple [x, y]) ds es)
  | [.list ds, .list es] => some (List.zipWith (fun x y => .tuple [x, y]) ds es)
  | _ => none
def zipM (f : M (List D)) : M (List D) := fun r => (f r).bind fun ds r1 => opt (zipG ds) r1
theorem zip_get {ds es : List D} {i : Nat} {z : D} (h : (List.zipWith (fun x y => PyData.tuple [x, y]) ds es)[i]? = some z) : ∃ x y, ds[i]? = some x ∧ es[i]? = some y ∧ z = .tuple [x, y] := by
  rw [List.getElem?_zipWith] at h
  cases e1 : ds[i]? with
  | none => rw [e1] at h; cases h
  | some x =>
    cases e2 : es[i]? with
    | none => rw [e1, e2] at h; cases h
    | some y =>
      rw [e1, e2] at h
      cases h
      exact ⟨x, y, rfl, rfl, rfl⟩
theorem itz_ok {K : PySem.W.Frag} {B : Addr → Prop} {O : List Addr} {H : Hp} {a b : Addr} {ds es : List D} (x : DV K H (Bn B O) (.ref a) (.list ds)) (y : DV K H (Bn B O) (.ref b) (.list es)) : ItOk K B O H (Itz K a b) (List.zipWith (fun x y => .tuple [x, y]) ds es) := by
  intro C H' e tC
  obtain ⟨xs, h1, h2⟩ := SqL.ofD (DV.mono e _ _ x)
  obtain ⟨ys, k1, k2⟩ := SqL.ofD (DV.mono e _ _ y)
  have l1 := h2.length
  have l2 := k2.length
  refine ⟨fun i z hz => ?_, ⟨xs, ys, h1, k1, by rw [List.length_zipWith]; omega⟩⟩
  obtain ⟨p, q, hp, hq, rfl⟩ := zip_get hz
  obtain ⟨v, h3, h4⟩ := h2.get hp
  obtain ⟨u, k3, k4⟩ := k2.get hq
  refine ⟨⟨xs, ys, v, u, h1, k1, h3, k3⟩, fun y H2 ⟨T, w1, w2, ey, n, e2, q1, q2⟩ => ?_⟩
  subst ey e2
  have e3 := q1 xs h1
  have e4 := q2 ys k1
  rw [h3] at e3
  rw [k3] at e4
  cases e3
  cases e4
  have S := same_fresh (o := .tup [v, u]) n
  exact ⟨S, .tup (.inl upd_same) (fun z => tC T z n) (.cons (h4.same S) (.cons (k4.same S) .nil))⟩
theorem itzt_ok {K : PySem.W.Frag} {B : Addr → Prop} {O : List Addr} {H : Hp} {a b : Addr} {ds es : List D} (x : DV K H (Bn B O) (.ref a) (.tuple ds)) (y : DV K H (Bn B O) (.ref b) (.tuple es)) : ItOk K B O H (RZ.ItzT K a b) (List.zipWith (fun x y => .tuple [x, y]) ds es) := by
  intro C H' e tC
  obtain ⟨xs, h1, h2⟩ := SqT.ofD (DV.mono e _ _ x)
  obtain ⟨ys, k1, k2⟩ := SqT.ofD (DV.mono e _ _ y)
  have l1 := h2.length
  have l2 := k2.length
  refine ⟨fun i z hz => ?_, ⟨xs, ys, h1, k1, by rw [List.length_zipWith]; omega⟩⟩
  obtain ⟨p, q, hp, hq, rfl⟩ := zip_get hz
  obtain ⟨v, h3, h4⟩ := h2.get hp
  obtain ⟨u, k3, k4⟩ := k2.get hq
  refine ⟨⟨xs, ys, v, u, h1, k1, h3, k3⟩, fun y H2 ⟨T, w1, w2, ey, n, e2, q1, q2⟩ => ?_⟩
  subst ey e2
  have e3 := q1 xs h1
  have e4 := q2 ys k1
  rw [h3] at e3
  rw [k3] at e4
  cases e3
  cases e4
  have S := same_fresh (o := .tup [v, u]) n
  exact ⟨S, .tup (.inl upd_same) (fun z => tC T z n) (.cons (h4.same S) (.cons (k4.same S) .nil))⟩
theorem it_zip {e e2 : Expr} {f : M (List D)} {p pos tpos : Pos} {elts : List Expr} {kk : Nat} (hm : X.mg "zip" = none) (ha : PVs X fa W [e, e2] f) (hg : Gl X "zip" := by rfl) (hs : starEach [e, e2] X.env = (false, eval e X.env) :: starEach [e2] X.env := by rfl) (hpl : (backTo pos (starEach [e2] X.env)).any (·.1) = false := by rfl) :
    PIt X fa W (.Tuple elts kk tpos) (.Call (.Name "zip" p) [e, e2] [] pos) (zipM f) := by
  refine PI.imp (RZ.pi_zipA hg hm ha hs hpl) fun σ H R ⟨F, B, O, r, hR, h⟩ => ⟨F, B, O, r, hR, (Aft.bind h).mono fun ds r1 O1 σ1 H1 _ R1 _ ⟨_, _, q⟩ es vs x => ?_⟩
  subst es
  cases eg : zipG ds with
  | none => rw [eg] at q; exact False.elim q
  | some zs =>
    rw [eg] at q
    unfold zipG at eg
    split at eg
    · cases eg
      cases x with
      | cons x1 t =>
        cases t with
        | cons x2 t =>
          cases t
          obtain ⟨a, rfl⟩ := x1.isRef
          obtain ⟨b, rfl⟩ := x2.isRef
          obtain ⟨xs, q1, _⟩ := SqT.ofD x1
          obtain ⟨ys, q2, _⟩ := SqT.ofD x2
          exact ⟨a, b, xs, ys, rfl, .inr ⟨q1, q2, q O1 _ H1 R1 Ext.refl rfl _ (itzt_ok x1 x2)⟩⟩
    · cases eg
      cases x with
      | cons x1 t =>
        cases t with
        | cons x2 t =>
          cases t
          cases x1 with
          | lst q1 b1 t1 =>
            cases x2 with
            | lst q2 b2 t2 => exact ⟨_, _, _, _, rfl, .inl ⟨.inl q1, .inl q2, q O1 _ H1 R1 Ext.refl rfl _ (itz_ok (.lst q1 b1 t1) (.lst q2 b2 t2))⟩⟩
    · cases eg
end
end DL

namespace DL
open PySem PySem.Spec PyProof.Rows L2
/-! ### the defs of a text -/
abbrev xv0 : XV := fun _ _ _ _ _ => False
abbrev E00 : XK := fun _ _ _ => False
/-- a def that may be called by place -/
def Cal (P : Program) (w : World) (K : PySem.W.Frag) (mg : Str → Option Value) (base : Heap) (fa : Nat → Addr) (x : Str) (k n : Nat) (G : Fn) : Prop :=
  ∃ (f : Addr) (fd : FuncData) (ps : List Str), FnG P w K mg base CX0 k f fd ps (spF K fa xv0 n G) ∧ mg x = some (.ref f) ∧ PySem.W.keepIn K (.ref f) = true ∧ Binds K fd ps []
/-- .. by names -/
def CalK (P : Program) (w : World) (K : PySem.W.Frag) (mg : Str → Option Value) (base : Heap) (fa : Nat → Addr) (x : Str) (k n : Nat) (G : Fn) (ks : List Str) (is : List Nat) : Prop :=
  ∃ (f : Addr) (fd : FuncData) (ps : List Str), FnG P w K mg base CX0 k f fd ps (spF K fa xv0 n G) ∧ mg x = some (.ref f) ∧ PySem.W.keepIn K (.ref f) = true ∧ KwB K fd ps ks is
/-- .. that returns a fresh dict with lists of its own -/
def CalD (P : Program) (w : World) (K : PySem.W.Frag) (mg : Str → Option Value) (base : Heap) (fa : Nat → Addr) (x : Str) (k n : Nat) (G : FnD) : Prop :=
  ∃ (f : Addr) (fd : FuncData) (ps : List Str), FnG P w K mg base CX0 k f fd ps (spD K fa n G) ∧ mg x = some (.ref f) ∧ PySem.W.keepIn K (.ref f) = true ∧ Binds K fd ps []
section
variable {P : Program} {w : World} {K : PySem.W.Frag} {mg : Str → Option Value} {base : Heap} {fa : Nat → Addr} {x : Str} {j k n : Nat} {G G' : Fn} {N ps : List Str} {st : Stmt} {f : Addr} {fd : FuncData}
theorem Cal.mono (c : Cal P w K mg base fa x j n G) (h : j ≤ k) : Cal P w K mg base fa x k n G := let ⟨f, fd, ps, F, r⟩ := c; ⟨f, fd, ps, F.mono h, r⟩
theorem CalK.mono {ks : List Str} {is : List Nat} (c : CalK P w K mg base fa x j n G ks is) (h : j ≤ k) : CalK P w K mg base fa x k n G ks is := let ⟨f, fd, ps, F, r⟩ := c; ⟨f, fd, ps, F.mono h, r⟩
theorem CalD.mono {G : FnD} (c : CalD P w K mg base fa x j n G) (h : j ≤ k) : CalD P w K mg base fa x k n G := let ⟨f, fd, ps, F, r⟩ := c; ⟨f, fd, ps, F.mono h, r⟩
theorem Cal.le (c : Cal P w K mg base fa x k n G') (h : Le G G') : Cal P w K mg base fa x k n G := let ⟨f, fd, ps, F, r⟩ := c; ⟨f, fd, ps, F.le h, r⟩
theorem CalK.le {ks : List Str} {is : List Nat} (c : CalK P w K mg base fa x k n G' ks is) (h : Le G G') : CalK P w K mg base fa x k n G ks is := let ⟨f, fd, ps, F, r⟩ := c; ⟨f, fd, ps, F.le h, r⟩
theorem FnG.cal (F : FnG P w K mg base CX0 k f fd ps (spF K fa xv0 n G)) (Fd : Fun K x x st f fd) (hm : mg x = some (.ref f)) (hb : Binds K fd ps []) : Cal P w K mg base fa x k n G := ⟨f, fd, ps, F, hm, Fd.kp, hb⟩
theorem FnG.calK {ks : List Str} {is : List Nat} (F : FnG P w K mg base CX0 k f fd ps (spF K fa xv0 n G)) (Fd : Fun K x x st f fd) (hm : mg x = some (.ref f)) (hb : KwB K fd ps ks is) : CalK P w K mg base fa x k n G ks is := ⟨f, fd, ps, F, hm, Fd.kp, hb⟩
theorem FnG.calD {G : FnD} (F : FnG P w K mg base CX0 k f fd ps (spD K fa n G)) (Fd : Fun K x x st f fd) (hm : mg x = some (.ref f)) (hb : Binds K fd ps []) : CalD P w K mg base fa x k n G := ⟨f, fd, ps, F, hm, Fd.kp, hb⟩
end
section
variable {X : Cx} {fa : Nat → Addr} {k n : Nat} {G : Fn} {x : Str} {p pos : Pos} {e : Expr} {es : List Expr} {as : List AS} {kws : List Keyword}
theorem pv_cal (c : Cal X.prog X.w X.K X.mg X.base fa x k n G) (hr : Room k X.A) (hgd : X.A.guards = some []) (ha : PAs X fa W0 (e :: es) as) (hlen : as.length = n := by rfl) (hg : Gl X x := by rfl) (hdb : (x == ("__debug__" : Str)) = false := by decide)
    (he : starEach (e :: es) X.env = (false, eval e X.env) :: starEach es X.env := by rfl) (hpl : (backTo pos (starEach es X.env)).any (·.1) = false := by rfl) : PV X fa W0 (.Call (.Name x p) (e :: es) [] pos) (callM G as) := by
  obtain ⟨f, fd, ps, F, hm, kp, hb⟩ := c
  exact pv_call (E := E00) F hr hgd hm kp hb pass0 (fun _ _ _ h => h.elim) ha hlen hg hdb he hpl
theorem pv_cal0 (c : Cal X.prog X.w X.K X.mg X.base fa x k 0 G) (hr : Room k X.A) (hgd : X.A.guards = some []) (hg : Gl X x := by rfl) (hdb : (x == ("__debug__" : Str)) = false := by decide) : PV X fa W0 (.Call (.Name x p) [] [] pos) (callM G []) := by
  obtain ⟨f, fd, ps, F, hm, kp, hb⟩ := c
  exact pv_call0 (E := E00) F hr hgd hm kp hb pass0 (fun _ _ _ h => h.elim) rfl hg hdb
theorem pv_calK {ks : List Str} {is : List Nat} (c : CalK X.prog X.w X.K X.mg X.base fa x k n G ks is) (hr : Room k X.A) (hgd : X.A.guards = some []) (ha : PKs X fa W0 kws as) (hlen : (pmut is as).length = n := by rfl) (hg : Gl X x := by rfl)
    (hall : (backToKw pos (keywordEach kws X.env)).all (·.1.isSome) = true := by rfl) (hks : (backToKw pos (keywordEach kws X.env)).filterMap (·.1) = ks := by rfl) (hdb : (x == ("__debug__" : Str)) = false := by decide)
    (hpl : ((backTo pos (starEach [] X.env)).any (·.1) || (backToKw pos (keywordEach kws X.env)).any (·.1.isNone)) = false := by rfl) : PV X fa W0 (.Call (.Name x p) [] kws pos) (callKM G is as) := by
  obtain ⟨f, fd, ps, F, hm, kp, hb⟩ := c
  exact pv_callK (E := E00) F hr hgd hm kp hb pass0 (fun _ _ _ h => h.elim) ha hlen hg hall hks hdb hpl
theorem g_mkc {G : FnD} {y : Str} {py pos2 : Pos} (i : Nat) (hN : X.N.Nodup) (c : CalD X.prog X.w X.K X.mg X.base fa x k n G) (hr : Room k X.A) (hgd : X.A.guards = some []) (ha : PAs X fa W0 (e :: es) as) (hlen : as.length = n := by rfl) (hg : Gl X x := by rfl) (hdb : (x == ("__debug__" : Str)) = false := by decide)
    (he : starEach (e :: es) X.env = (false, eval e X.env) :: starEach es X.env := by rfl) (hpl : (backTo pos (starEach es X.env)).any (·.1) = false := by rfl)
    (hi : X.N[i]? = some y := by rfl) (hx2 : Loc X.env.scope y := by first | exact Or.inl rfl | exact Or.inr rfl) (hs : swapsWith (.Call (.Name x p) (e :: es) [] pos) (some (.Name y py)) pos2.line X.env = pure false := by rfl)
    (hf : X.fn y = true ∨ X.env.scope.names.lookup y = some .local := by first | exact .inl rfl | exact .inr rfl | assumption) : PG1 X fa W0 (.Assign [.Name y py] (.Call (.Name x p) (e :: es) [] pos) pos2) (mkM i G as) := by
  obtain ⟨f, fd, ps, F, hm, kp, hb⟩ := c
  exact g_mk (E := E00) i hN F hr hgd hm kp hb pass0 ha hlen hg hdb he hpl hi hx2 hs hf
end
/-! ### more fresh lists -/
section
variable {X : Cx} {fa : Nat → Addr} {W : Wi} {pos : Pos}
/-- a new list, the state moved on -/
theorem tF_new {K : PySem.W.Frag} {F : Fx} {B : Addr → Prop} {O : List Addr} {r : Rho} {σ : L2.St} {H : Hp} {Q : VK} {vs : List V} {ds : List D} (R : RL K fa F B O r σ H) (x : DVs K H (Bn B O) vs ds) {H0 : Hp} {O0 : List Addr} (E : Ext O0 H0 O H)
    (h : ∀ O' a xs H', H0 a = none → RL K fa F (Ad B a) O' r σ H' → Ext O0 H0 O' H' → H' a = some (.lst xs) → DVs K H' (Bn (Ad B a) O') xs ds → Q (.ref a) H') : ∀ p, H p = none → Q (.ref p) (upd H p (.lst vs)) := by
  intro p n
  have S := same_fresh (o := .lst vs) n
  have n0 : H0 p = none := by
    cases q : H0 p with
    | none => rfl
    | some o => exact absurd n (E.th p (by rw [q]; exact fun z => nomatch z))
  refine h O p vs _ n0 (R.addBan n S (by rw [upd_same]; exact fun z => nomatch z)) (E.trans (Ext.same S)) upd_same ?_
  exact DVs.mono (fun b u q nb => ⟨rd_same S q, fun z => z.elim (fun z => z.elim (fun z => nb (.inl z)) fun z => by subst z; exact rd_some q n) fun z => nb (.inr z)⟩) _ _ x
def seqOf : D → Option (List D)
  | .list ds => some ds
  | .tuple ds => some ds
  | _ => none
/-- list(x) -/
def listF (f : M (List D)) : M (List D) := fun r => (f r).bind fun ds r1 => match ds with
  | [d] => opt (seqOf d) r1
  | _ => .bad
theorem pf_list {e : Expr} {f : M (List D)} {p : Pos} (hm : X.mg "list" = none) (ha : PVs X fa W [e] f) (hg : Gl X "list" := by rfl) (he : starEach [e] X.env = (false, eval e X.env) :: starEach [] X.env := by rfl) (hpl : (backTo pos (starEach [] X.env)).any (·.1) = false := by rfl) :
    PF X fa W (.Call (.Name "list" p) [e] [] pos) (listF f) :=
  PE.imp (pe_callTy call_list_of hg hm (by decide +kernel) ha (by decide) (by decide) he hpl) fun σ H Q ⟨F, B, O, r, R, h⟩ => by
    refine ⟨F, B, O, r, R, ?_⟩
    unfold listF at h
    cases e : f r with
    | bad => rw [e] at h; exact h
    | ex c ds r' => rw [e] at h; exact h
    | ok ds r1 =>
      rw [e, Res.ok_bind] at h
      match ds, h with
      | [], h => exact False.elim h
      | _ :: _ :: _, h => exact False.elim h
      | [d], h =>
        cases eq : seqOf d with
        | none => simp only [eq, opt_none] at h
        | some es =>
          simp only [eq, opt_some] at h
          intro O1 σ1 H1 R1 E1 es1 vs x
          rw [es1] at R1
          cases x with
          | cons y t =>
            cases t
            unfold seqOf at eq
            split at eq
            · cases eq
              cases y with
              | lst q b t => exact ⟨_, _, rfl, .inl (.inl q), tF_new R1 t E1 h⟩
            · cases eq
              obtain ⟨a, rfl⟩ := y.isRef
              obtain ⟨xs, q, t⟩ := SqT.ofD y
              exact ⟨a, xs, rfl, .inr q, tF_new R1 t E1 h⟩
            · cases eq
/-! ### splitting a text -/
def splitOk (a b : Str) : Bool := decide ((b.length == 0) = false ∧ a.length + 2 ≤ sizeLine)
def splitM (fa' fb : M D) : M D := fun r => (fa' r).bind fun x r1 => match x with
  | .str a => (fb r1).bind fun y r2 => match y with
    | .str b => bif splitOk a b then .ok (.list ((Txt.split a b).map PyData.str)) r2 else .bad
    | _ => .bad
  | _ => .bad
theorem dvs_strs {K : PySem.W.Frag} {H : Hp} {B : Addr → Prop} : ∀ ns : List Str, DVs K H B (ns.map V.str) (ns.map PyData.str)
  | [] => .nil
  | n :: r => .cons (.str n) (dvs_strs r)
theorem pv_split {a b : Expr} {f1 f2 : M D} {apos : Pos} (ha : PV X fa W a f1) (hb : PV X fa W b f2) (hs : starEach [b] X.env = [(false, eval b X.env)] := by rfl) (hbase : attributeBase a "split" X.env (eval a X.env) = eval a X.env := by rfl) (hline : (apos.endLine == pos.line) = true := by rfl) :
    PV X fa W (.Call (.Attribute a "split" apos) [b] [] pos) (splitM f1 f2) := by
  refine PE.imp (pe_split ha hb hs hbase hline) fun σ H Q ⟨F1, B, O, r, R, h⟩ => ?_
  refine ⟨F1, B, O, r, R, (Aft.bind h).mono fun x r1 O1 σ1 H1 _ R1 e1 ⟨_, _, h1⟩ es v1 x1 => ?_⟩
  subst es
  cases x with
  | str w =>
    cases x1
    refine ⟨⟨w, rfl⟩, F1, B, O1, r1, R1, (Aft.bind h1).mono fun y r2 O2 σ2 H2 _ R2 e2 ⟨_, _, h2⟩ es v2 x2 => ?_⟩
    subst es
    cases y with
    | str z =>
      cases x2
      dsimp only at h2
      cases hk : splitOk w z with
      | false => rw [hk] at h2; exact False.elim h2
      | true =>
        rw [hk] at h2
        obtain ⟨k1, k2⟩ := of_decide_eq_true hk
        refine ⟨w, z, rfl, rfl, k1, k2, fun p n => ?_⟩
        have S := same_fresh (o := .lst ((Txt.split w z).map V.str)) n
        exact h2 O2 _ _ (R2.same S) (Ext.same S) rfl _ (.lst (.inl upd_same) (fun q => R2.trk p q n) (dvs_strs _))
    | _ => exact False.elim h2
  | _ => exact False.elim h1
end
end DL

namespace DL
open PySem PySem.Spec PyProof.Rows L2
def exprM (f : M D) : M Ctl := fun r => (f r).bind fun _ r1 => .ok .nx r1
theorem pb_negc {X : Cx} {fa : Nat → Addr} {n j : Nat} {p1 p2 : Pos} : PB X fa (.UnaryOp .USub (.Constant (.int (n : Nat)) j p1) p2) (fun _ => some (.int (-(n : Int)))) :=
  PE.imp (pe_un un_neg pe_int) fun σ H Q ⟨F, B, O, r, R, d, e, q⟩ => by
    cases e
    exact ⟨_, rfl, q _ H (fun _ _ z => z) (.int _)⟩
theorem tgPut_ok (i : Nat) : TgOk (tgPut i) := fun d r => put_cases i d r
theorem tgTup_ok {n : Nat} {u : List D → M Ctl} (hu : ∀ ds r, u ds r = .bad ∨ ∃ r', u ds r = .ok .nx r') : TgOk (tgTup n u) := fun d r => by
  cases d with
  | tuple ds =>
    simp only [tgTup]
    split
    · rcases hu ds r with e | ⟨r1, e⟩
      · exact .inl (by rw [e]; rfl)
      · exact .inr ⟨r1, by rw [e]; rfl⟩
    · exact .inl rfl
  | _ => exact .inl rfl
/-! ### a, b = x, y as CPython stores it: without a tuple -/
section
variable {X : Cx} {fa : Nat → Addr} {W : Wi} {x y z : Str} {px py pz pt pt2 pos : Pos} {a b c : Expr} {kt k2 : Nat} {es : List EN}
theorem sets_run {is : List Nat} {Dn : Ends} {σ : L2.St} {H : Hp} (h : tS X.K fa W (setsM is es) Dn σ H) {Q : List V → Hp → Prop} (qq : ∀ vs H1, nmT is vs σ H1 Dn.nx → Q vs H1) : trN X.K fa W es σ H Q := by
  obtain ⟨F, B, O, r, R, h⟩ := h
  refine args_ev es R ?_
  unfold setsM at h
  cases e : evN es r with
  | bad => rw [e] at h; exact h
  | ex c ds r' => rw [e] at h; exact h
  | ok t r1 =>
    rw [e, Res.ok_bind] at h
    intro O2 H2 vs as R2 E2 fr nd x
    split at h
    · rename_i hz
      cases es : setN is t r1 with
      | none => rw [es] at h; exact False.elim h
      | some r2 =>
        rw [es] at h
        exact qq _ _ (put_all (fun a z => R.bt a z) is R2 fr (fun a m => R.new0 (fr a m)) nd x E2 es fun O' σ' R' E' => h O' σ' _ R' E')
    · exact False.elim h
theorem g_par2 (i j : Nat) (hc : X.calm = true) (hN : X.N.Nodup) (ha : PNs X fa W [a, b] es) (hi : X.N[i]? = some x := by rfl) (hj : X.N[j]? = some y := by rfl) (hij : i ≠ j := by decide)
    (hx : X.env.scope.names.lookup x = some .local := by rfl) (hy : X.env.scope.names.lookup y = some .local := by rfl)
    (hw : swappedStores [.Tuple [.Name x px, .Name y py] kt pt] (.Tuple [a, b] k2 pt2) X.env = pure (some [x, y]) := by rfl) :
    PG1 X fa W (.Assign [.Tuple [.Name x px, .Name y py] kt pt] (.Tuple [a, b] k2 pt2) pos) (setsM [i, j] es) :=
  PS.imp (ps_par hc hN hi hj hij hx hy ha (hw := hw)) fun Dn σ H h => sets_run h fun vs H1 q => by
    obtain ⟨v, r, rfl, w, r2, rfl, rfl, q⟩ := q
    exact ⟨v, w, rfl, q⟩
theorem g_par3 (i j l : Nat) (hc : X.calm = true) (hN : X.N.Nodup) (ha : PNs X fa W [a, b, c] es) (hi : X.N[i]? = some x := by rfl) (hj : X.N[j]? = some y := by rfl) (hl : X.N[l]? = some z := by rfl) (hij : i ≠ j := by decide) (hil : i ≠ l := by decide) (hjl : j ≠ l := by decide)
    (hx : X.env.scope.names.lookup x = some .local := by rfl) (hy : X.env.scope.names.lookup y = some .local := by rfl) (hz : X.env.scope.names.lookup z = some .local := by rfl)
    (hw : swappedStores [.Tuple [.Name x px, .Name y py, .Name z pz] kt pt] (.Tuple [a, b, c] k2 pt2) X.env = pure (some [x, y, z]) := by rfl) :
    PG1 X fa W (.Assign [.Tuple [.Name x px, .Name y py, .Name z pz] kt pt] (.Tuple [a, b, c] k2 pt2) pos) (setsM [i, j, l] es) :=
  PS.imp (ps_par3 hc hN hi hj hl hij hil hjl hx hy hz ha (hw := hw)) fun Dn σ H h => sets_run h fun vs H1 q => by
    obtain ⟨u, r, rfl, v, r1, rfl, w, r2, rfl, rfl, q⟩ := q
    exact ⟨u, v, w, rfl, q⟩
end
theorem Fun.kwb {K : PySem.W.Frag} {x qual : Str} {st : Stmt} {f : Addr} {fd : FuncData} {ps ks : List Str} {is : List Nat} (F : Fun K x qual st f fd)
    (h : ∀ (kV doc pm : Value) (an : Option Addr) (cdv ct : Value) (ws : List Value), (pmut is ws).length = ps.length →
      bindArgs (PySem.W.fnOf x qual (defArgs st) (defBody st) (defScope st) .none kV doc pm an cdv ct) ⟨[], ks.zip ws⟩ = pure (ps.zip (pmut is ws))) : KwB K fd ps ks is := by
  obtain ⟨oc, od, kV, doc, pm, an, cdv, ct, osl, rfl, lk, hcd⟩ := F.ex
  exact fun s ws _ hl => .of_eq (h kV doc pm an cdv ct ws hl)
/-! ### a module's constants -/
theorem gld_int {K : PySem.W.Frag} {mg : Str → Option Value} {x : Str} {i : Int} {t : Tok} (h : mg x = some (.int i t)) : GlD K mg x (.int i) := ⟨.int i, _, h, ⟨t, rfl⟩, fun _ _ => .int i⟩
theorem gld_str {K : PySem.W.Frag} {mg : Str → Option Value} {x y : Str} {t : Tok} (h : mg x = some (.str y t)) : GlD K mg x (.str y) := ⟨.str y, _, h, ⟨t, rfl⟩, fun _ _ => .str y⟩
/-- a tuple of texts -/
def TupO (o : Obj) (ys : List Str) : Prop := ∃ (its : Array Value) (n : Nat), o.cls = .type "tuple" ∧ o.data = .seq its n ∧ its.size ≤ sizeLine ∧ Vals (ys.map V.str) its.toList
theorem gld_tup {K : PySem.W.Frag} {mg : Str → Option Value} {x : Str} {a : Addr} {o : Obj} {ys : List Str} (h : mg x = some (.ref a)) (l : K.lookup a = some o) (t : TupO o ys) : GlD K mg x (.tuple (ys.map PyData.str)) := by
  obtain ⟨its, n, h1, h2, h3, h4⟩ := t
  exact ⟨.ref a, _, h, rfl, fun H B => .ktup ⟨o, its, n, l, h1, h2, h3, h4⟩ (dvs_strs ys)⟩
end DL

/-! ### zip of two tuples whose pairs are held elsewhere (within enumerate) -/
namespace DLZ
open PySem
abbrev zO (f0 f1 : Value) (TI TO : Addr) : Obj := { cls := .type "zip", dict := none, data := .fields #[f0, f1, .bool false, .ref TI, .ref TO], slots := #[] }
def ZSt (h : Heap) (z TI TO : Addr) : Prop := ∃ f0 f1, h.get? z = some (zO f0 f1 TI TO) ∧ (f0 = .none ∨ ∃ T : Nat, f0 = rawInt T)
section
variable {prog : Program} {w : World} {A : Around} {E : Value → Shared → Prop} {s : Shared}
theorem alive {a : Addr} {Q : Option Obj → Shared → Prop} (h : Q (s.heap.get? a) s) : wpAny (model prog w) A (loadIfAlive a) Q E s := fun _ _ _ => h
theorem free_or {z TI TO : Addr} {Q : Bool → Shared → Prop} (hz : ZSt s.heap z TI TO) (h1 : Q true s)
    (h3 : ∀ h', ZSt h' z TI TO → h'.objs.size = s.heap.objs.size → (∀ b o, b ≠ z → s.heap.get? b = some o → h'.get? b = some o) → Q false { s with heap := h' }) :
    wpAny (model prog w) A (Builtin.SmallTypes.ownedTupleIsFree (.ref z)) Q E s := by
  obtain ⟨f0, f1, hz, hf⟩ := hz
  unfold Builtin.SmallTypes.ownedTupleIsFree
  rcases hf with rfl | ⟨T, rfl⟩
  · exact wpAny_bind (wpAny_field hz rfl (x := .none) rfl (wpAny_pure h1))
  · refine wpAny_bind (wpAny_field hz rfl (x := rawInt T) rfl ?_)
    simp only [rawInt]
    refine wpAny_bind (alive ?_)
    cases ea : s.heap.get? (Int.toNat (T : Int)) with
    | none =>
      simp only [Option.isNone_none, if_true]
      exact wpAny_pure h1
    | some o =>
      simp only [Option.isNone_some, Bool.false_eq_true, if_false]
      refine wpAny_bind (wpAny_field hz rfl (x := f1) rfl ?_)
      by_cases c : (f1 != Value.bool true) = true
      · simp only [c, if_true]
        refine wpAny_bind (wpAny_setField_rec hz (by simp) fun h' hz' hs => wpAny_pure ?_)
        exact h3 h' ⟨_, _, hz', .inr ⟨T, rfl⟩⟩ hs.1 fun b o n e => hs.extBut b o n e
      · rw [if_neg c]
        exact wpAny_pure (h3 s.heap ⟨_, _, hz, .inr ⟨T, rfl⟩⟩ rfl fun _ _ _ e => e)
theorem next_item {z TI TO i1 i2 l1 l2 : Addr} {k : Nat} {xs ys : Array Value} {x y a b : Value} {Q : Value → Shared → Prop} (D : ZipApart z TI TO i1 i2 l1 l2)
    (hz : ZSt s.heap z TI TO) (hTI : IsPair s.heap TI (.ref i1) (.ref i2)) (hTO : IsPair s.heap TO a b)
    (h1 : s.heap.IsTupleIter i1 l1 k) (h2 : s.heap.IsTupleIter i2 l2 k)
    (t1 : s.heap.IsTuple l1 xs) (t2 : s.heap.IsTuple l2 ys) (hx : xs[k]? = some x) (hy : ys[k]? = some y)
    (hQ : ∀ h', ZSt h' z TI TO → (∃ a b, IsPair h' TO a b) → h'.IsTupleIter i1 l1 (k + 1) → h'.IsTupleIter i2 l2 (k + 1) →
      IsPair h' s.heap.objs.size x y → h'.objs.size = s.heap.objs.size + 1 →
      (∀ c o, c ≠ z → c ≠ TO → c ≠ i1 → c ≠ i2 → s.heap.get? c = some o → h'.get? c = some o) → Q (.ref s.heap.objs.size) { s with heap := h' }) :
    wpAny (model prog w) A (Builtin.«zip.__next__» ⟨[.ref z], []⟩)
      (fun fin s' => ∃ v, fin = .done (.ret v) ∧ Q v s') E s := by
  obtain ⟨f0, f1, gz, hf⟩ := id hz
  show wpAny _ _ (field (.ref z) 2 >>= _) _ _ _
  refine wpAny_bind (wpAny_field gz rfl (x := .bool false) rfl ?_)
  show wpAny _ _ (field (.ref z) 3 >>= _) _ _ _
  refine wpAny_bind (wpAny_field gz rfl (x := .ref TI) rfl ?_)
  refine wpAny_bind (wpAny_seqItems hTI rfl ?_)
  show wpAny _ _ (Builtin.SmallTypes.ownedTupleIsFree (.ref z) >>= _) _ _ _
  refine wpAny_bind (free_or hz ?_ ?_)
  · simp only [if_true]
    refine wpAny_bind (wpAny_rule ?_)
    refine wpAny_bind (wpAny_field gz rfl (x := .ref TO) rfl ?_)
    refine wpAny_bind (wpAny_setField_rec gz (by simp) fun h₁ b₁ s₁ => ?_)
    replace b₁ : h₁.get? z = some (zO .ellipsis f1 TI TO) := b₁
    replace s₁ : Heap.SameBut z s.heap h₁ := s₁
    refine wpAny_bind ?_
    simp only [List.zipIdx_cons, List.zipIdx_nil, List.forIn_cons, List.forIn_nil]
    -- the first
    refine wpAny_bind (wpAny_bind (wpAny_onRaise ?_))
    show wpAny _ _ (Builtin.SmallTypes.nextOf (.ref i1) >>= _) _ _ _
    have e1 := h1.extBut s₁.extBut D.i1z
    have e2 := t1.extBut s₁.extBut D.l1z
    refine wpAny_bind (RZ.nextOf_tuple_item e1 e2 hx fun h₂ a₂ s₂ => wpAny_pure ?_)
    replace s₂ : Heap.SameBut i1 h₁ h₂ := s₂
    have o₂ : IsPair h₂ TO a b := s₂.extBut _ _ D.TOi1 (s₁.extBut _ _ D.TOz hTO)
    refine wpAny_bind (wpAny_seqItems o₂ rfl ?_)
    refine wpAny_bind (wpAny_updateSeq_pair o₂ fun h₃ o₃ s₃ => ?_)
    replace o₃ : IsPair h₃ TO x b := o₃
    replace s₃ : Heap.SameBut TO h₂ h₃ := s₃
    refine wpAny_bind (wpAny_letGo (wpAny_pure ?_))
    -- the second
    refine wpAny_bind (wpAny_bind (wpAny_onRaise ?_))
    show wpAny _ _ (Builtin.SmallTypes.nextOf (.ref i2) >>= _) _ _ _
    have e3 := ((h2.extBut s₁.extBut D.i2z).extBut s₂.extBut D.i12.symm).extBut s₃.extBut D.TOi2.symm
    have e4 := ((t2.extBut s₁.extBut D.l2z).extBut s₂.extBut D.l2i1).extBut s₃.extBut D.l2TO
    refine wpAny_bind (RZ.nextOf_tuple_item e3 e4 hy fun h₄ a₄ s₄ => wpAny_pure ?_)
    replace s₄ : Heap.SameBut i2 h₃ h₄ := s₄
    have o₄ : IsPair h₄ TO x b := s₄.extBut _ _ D.TOi2 o₃
    refine wpAny_bind (wpAny_seqItems o₄ rfl ?_)
    refine wpAny_bind (wpAny_updateSeq_pair o₄ fun h₅ o₅ s₅ => ?_)
    replace o₅ : IsPair h₅ TO x y := o₅
    replace s₅ : Heap.SameBut TO h₄ h₅ := s₅
    refine wpAny_bind (wpAny_letGo (wpAny_pure (wpAny_pure ?_)))
    -- the pair
    refine wpAny_bind (wpAny_seqItems o₅ rfl ?_)
    refine wpAny_bind (wpAny_newTuple ?_)
    have sz : h₅.objs.size = s.heap.objs.size := by rw [s₅.1, s₄.1, s₃.1, s₂.1, s₁.1]
    have z₅ : h₅.get? z = some (zO .ellipsis f1 TI TO) := by
      have q2 := s₂.extBut _ _ D.i1z.symm b₁
      have q3 := s₃.extBut _ _ D.TOz.symm q2
      have q4 := s₄.extBut _ _ D.i2z.symm q3
      exact s₅.extBut _ _ D.TOz.symm q4
    have keep : ∀ c o, c ≠ z → c ≠ TO → c ≠ i1 → c ≠ i2 → s.heap.get? c = some o → h₅.get? c = some o := by
      intro c o n1 n2 n3 n4 e
      have q2 := s₂.extBut _ _ n3 (s₁.extBut _ _ n1 e)
      have q4 := s₄.extBut _ _ n4 (s₃.extBut _ _ n2 q2)
      exact s₅.extBut _ _ n2 q4
    have it1 : h₅.IsTupleIter i1 l1 (k + 1) := ((a₂.extBut s₃.extBut D.TOi1.symm).extBut s₄.extBut D.i12).extBut s₅.extBut D.TOi1.symm
    have it2 : h₅.IsTupleIter i2 l2 (k + 1) := a₄.extBut s₅.extBut D.TOi2.symm
    have lz : z < h₅.objs.size := Heap.lt_size z₅
    show wpAny _ _ (Builtin.SmallTypes.ownedTupleHandOut (.ref z) (.ref h₅.objs.size) >>= _) _ _ _
    refine wpAny_bind ?_
    unfold Builtin.SmallTypes.ownedTupleHandOut
    have z₆ : (h₅.push { cls := .type "tuple", data := .seq #[x, y] }).get? z = some (zO .ellipsis f1 TI TO) := Heap.get?_push_of_some _ z₅
    refine wpAny_bind (wpAny_setField_rec z₆ (by simp) fun h₇ z₇ s₇ => ?_)
    replace z₇ : h₇.get? z = some (zO (rawInt h₅.objs.size) f1 TI TO) := z₇
    refine wpAny_setField_rec z₇ (by simp) fun h₈ z₈ s₈ => ?_
    replace z₈ : h₈.get? z = some (zO (rawInt h₅.objs.size) (.bool false) TI TO) := z₈
    have up : ∀ c o, c ≠ z → h₅.get? c = some o → h₈.get? c = some o := by
      intro c o n e
      exact s₈.extBut _ _ n (s₇.extBut _ _ n (Heap.get?_push_of_some _ e))
    have pr : IsPair h₈ h₅.objs.size x y := by
      have n := Nat.ne_of_gt lz
      exact s₈.extBut _ _ n (s₇.extBut _ _ n (Heap.get?_push_size _ rfl))
    have sz8 : h₈.objs.size = h₅.objs.size + 1 := by rw [s₈.1, s₇.1, Heap.size_push]
    refine wpAny_pure ⟨_, rfl, ?_⟩
    show Q (.ref h₅.objs.size) _
    rw [sz] at pr sz8 ⊢
    refine hQ h₈ ⟨_, _, z₈, .inr ⟨h₅.objs.size, rfl⟩⟩ ⟨x, y, up _ _ D.TOz o₅⟩ (it1.at fun o e => up _ o D.i1z e) (it2.at fun o e => up _ o D.i2z e) pr sz8 ?_
    exact fun c o n1 n2 n3 n4 e => up c o n1 (keep c o n1 n2 n3 n4 e)
  · intro hh hz' sz0 keep
    have g1 : hh.IsTupleIter i1 l1 k := h1.at fun o e => keep i1 o D.i1z e
    have g2 : hh.IsTupleIter i2 l2 k := h2.at fun o e => keep i2 o D.i2z e
    have u1 : hh.IsTuple l1 xs := t1.at fun o e => keep l1 o D.l1z e
    have u2 : hh.IsTuple l2 ys := t2.at fun o e => keep l2 o D.l2z e
    have gO : IsPair hh TO a b := keep TO _ D.TOz hTO
    simp only [Bool.false_eq_true, if_false]
    simp only [List.forIn_toArray, List.forIn_cons, List.forIn_nil]
    refine wpAny_bind (wpAny_bind ?_)
    refine wpAny_bind (wpAny_holding ?_)
    show wpAny _ _ (Builtin.SmallTypes.nextOf (.ref i1) >>= _) _ _ _
    refine wpAny_bind (RZ.nextOf_tuple_item g1 u1 hx fun h₁ a₁ s₁ => wpAny_pure (wpAny_pure ?_))
    replace s₁ : Heap.SameBut i1 hh h₁ := s₁
    dsimp only
    refine wpAny_bind (wpAny_bind (wpAny_holding ?_))
    show wpAny _ _ (Builtin.SmallTypes.nextOf (.ref i2) >>= _) _ _ _
    refine wpAny_bind (RZ.nextOf_tuple_item (g2.extBut s₁.extBut D.i12.symm) (u2.extBut s₁.extBut D.l2i1) hy fun h₂ a₂ s₂ => wpAny_pure (wpAny_pure (wpAny_pure ?_)))
    replace s₂ : Heap.SameBut i2 h₁ h₂ := s₂
    dsimp only
    refine wpAny_bind (wpAny_newTuple (wpAny_pure ⟨_, rfl, ?_⟩) (hsz := by show 2 ≤ sizeLine; decide))
    have sz : h₂.objs.size = s.heap.objs.size := by rw [s₂.1, s₁.1, sz0]
    have up : ∀ c o, c ≠ i1 → c ≠ i2 → hh.get? c = some o → h₂.get? c = some o := fun c o n1 n2 e =>
      s₂.extBut c o n2 (s₁.extBut c o n1 e)
    show Q (.ref h₂.objs.size) _
    rw [sz]
    obtain ⟨f0, f1, gz, hf⟩ := hz'
    refine hQ _ ⟨f0, f1, Heap.get?_push_of_some _ (up z _ D.i1z.symm D.i2z.symm gz), hf⟩ ⟨a, b, Heap.get?_push_of_some _ (up TO _ D.TOi1 D.TOi2 gO)⟩ ?_ ?_ ?_ ?_ ?_
    · exact (a₁.extBut s₂.extBut D.i12).at fun o e => Heap.get?_push_of_some _ e
    · exact a₂.at fun o e => Heap.get?_push_of_some _ e
    · rw [← sz]; exact Heap.get?_push_size _ rfl
    · rw [Heap.size_push, sz]
    · exact fun c o n0 _ n1 n2 e => Heap.get?_push_of_some _ (up c o n1 n2 (keep c o n0 e))
theorem next_end {z TI TO i1 i2 l1 l2 : Addr} {k : Nat} {xs ys : Array Value} {a b : Value} {Q : Fin → Shared → Prop} (hh : A.handled = none) (D : ZipApart z TI TO i1 i2 l1 l2)
    (hz : ZSt s.heap z TI TO) (hTI : IsPair s.heap TI (.ref i1) (.ref i2)) (hTO : IsPair s.heap TO a b)
    (h1 : s.heap.IsTupleIter i1 l1 k) (h2 : s.heap.IsTupleIter i2 l2 k)
    (t1 : s.heap.IsTuple l1 xs) (t2 : s.heap.IsTuple l2 ys) (hend : xs[k]? = none ∨ ys[k]? = none)
    (hE : ∀ h' e, (∀ c o, c ≠ z → c ≠ TO → c ≠ i1 → c ≠ i2 → s.heap.get? c = some o → h'.get? c = some o) →
      (∃ o, h'.get? e = some o ∧ o.cls = .type "StopIteration") → E (.ref e) { s with heap := h' }) :
    wpAny (model prog w) A (Builtin.«zip.__next__» ⟨[.ref z], []⟩) Q E s := by
  obtain ⟨f0, f1, gz, hf⟩ := id hz
  show wpAny _ _ (field (.ref z) 2 >>= _) _ _ _
  refine wpAny_bind (wpAny_field gz rfl (x := .bool false) rfl ?_)
  show wpAny _ _ (field (.ref z) 3 >>= _) _ _ _
  refine wpAny_bind (wpAny_field gz rfl (x := .ref TI) rfl ?_)
  refine wpAny_bind (wpAny_seqItems hTI rfl ?_)
  show wpAny _ _ (Builtin.SmallTypes.ownedTupleIsFree (.ref z) >>= _) _ _ _
  refine wpAny_bind (free_or hz ?_ ?_)
  · simp only [if_true]
    refine wpAny_bind (wpAny_rule ?_)
    refine wpAny_bind (wpAny_field gz rfl (x := .ref TO) rfl ?_)
    refine wpAny_bind (wpAny_setField_rec gz (by simp) fun h₁ b₁ s₁ => ?_)
    replace b₁ : h₁.get? z = some (zO .ellipsis f1 TI TO) := b₁
    replace s₁ : Heap.SameBut z s.heap h₁ := s₁
    refine wpAny_bind ?_
    simp only [List.zipIdx_cons, List.zipIdx_nil, List.forIn_cons, List.forIn_nil]
    refine wpAny_bind (wpAny_bind (wpAny_onRaise ?_))
    show wpAny _ _ (Builtin.SmallTypes.nextOf (.ref i1) >>= _) _ _ _
    have e1 := h1.extBut s₁.extBut D.i1z
    have e2 := t1.extBut s₁.extBut D.l1z
    cases hx : xs[k]? with
    | none =>
      refine wpAny_bind (RZ.nextOf_tuple_end hh e1 e2 hx fun h₂ e s₂ he => ?_)
      obtain ⟨oe, hoe, hce⟩ := he
      have z₂ : h₂.get? z = some (zO .ellipsis f1 TI TO) := s₂ _ _ D.i1z.symm b₁
      have ne : e ≠ z := by
        intro q
        rw [q, z₂] at hoe
        cases hoe
        simp at hce
      refine wpAny_setField_rec z₂ (by simp) fun h₃ _ s₃ => hE h₃ e ?_ ⟨oe, s₃.extBut _ _ ne hoe, hce⟩
      intro c o n1 _ n3 _ q
      exact s₃.extBut _ _ n1 (s₂ _ _ n3 (s₁.extBut _ _ n1 q))
    | some x =>
      have hy : ys[k]? = none := by
        rcases hend with q | q
        · rw [hx] at q; cases q
        · exact q
      refine wpAny_bind (RZ.nextOf_tuple_item e1 e2 hx fun h₂ a₂ s₂ => wpAny_pure ?_)
      replace s₂ : Heap.SameBut i1 h₁ h₂ := s₂
      have o₂ : IsPair h₂ TO a b := s₂.extBut _ _ D.TOi1 (s₁.extBut _ _ D.TOz hTO)
      refine wpAny_bind (wpAny_seqItems o₂ rfl ?_)
      refine wpAny_bind (wpAny_updateSeq_pair o₂ fun h₃ o₃ s₃ => ?_)
      replace s₃ : Heap.SameBut TO h₂ h₃ := s₃
      refine wpAny_bind (wpAny_letGo (wpAny_pure ?_))
      refine wpAny_bind (wpAny_bind (wpAny_onRaise ?_))
      show wpAny _ _ (Builtin.SmallTypes.nextOf (.ref i2) >>= _) _ _ _
      have e3 := ((h2.extBut s₁.extBut D.i2z).extBut s₂.extBut D.i12.symm).extBut s₃.extBut D.TOi2.symm
      have e4 := ((t2.extBut s₁.extBut D.l2z).extBut s₂.extBut D.l2i1).extBut s₃.extBut D.l2TO
      refine wpAny_bind (RZ.nextOf_tuple_end hh e3 e4 hy fun h₄ e s₄ he => ?_)
      obtain ⟨oe, hoe, hce⟩ := he
      have z₄ : h₄.get? z = some (zO .ellipsis f1 TI TO) := s₄ _ _ D.i2z.symm (s₃.extBut _ _ D.TOz.symm (s₂.extBut _ _ D.i1z.symm b₁))
      have ne : e ≠ z := by
        intro q
        rw [q, z₄] at hoe
        cases hoe
        simp at hce
      refine wpAny_setField_rec z₄ (by simp) fun h₅ _ s₅ => hE h₅ e ?_ ⟨oe, s₅.extBut _ _ ne hoe, hce⟩
      intro c o n1 n2 n3 n4 q
      have q2 := s₂.extBut _ _ n3 (s₁.extBut _ _ n1 q)
      exact s₅.extBut _ _ n1 (s₄ _ _ n4 (s₃.extBut _ _ n2 q2))
  · intro hh2 hz' sz0 keep
    have g1 : hh2.IsTupleIter i1 l1 k := h1.at fun o e => keep i1 o D.i1z e
    have g2 : hh2.IsTupleIter i2 l2 k := h2.at fun o e => keep i2 o D.i2z e
    have u1 : hh2.IsTuple l1 xs := t1.at fun o e => keep l1 o D.l1z e
    have u2 : hh2.IsTuple l2 ys := t2.at fun o e => keep l2 o D.l2z e
    simp only [Bool.false_eq_true, if_false]
    simp only [List.forIn_toArray, List.forIn_cons, List.forIn_nil]
    refine wpAny_bind (wpAny_bind ?_)
    refine wpAny_bind (wpAny_holding ?_)
    show wpAny _ _ (Builtin.SmallTypes.nextOf (.ref i1) >>= _) _ _ _
    cases hx : xs[k]? with
    | none =>
      refine wpAny_bind (RZ.nextOf_tuple_end hh g1 u1 hx fun h₂ e s₂ he => hE h₂ e ?_ he)
      exact fun c o n1 _ n3 _ q => s₂ _ _ n3 (keep c o n1 q)
    | some x =>
      have hy : ys[k]? = none := by
        rcases hend with q | q
        · rw [hx] at q; cases q
        · exact q
      refine wpAny_bind (RZ.nextOf_tuple_item g1 u1 hx fun h₁ a₁ s₁ => wpAny_pure (wpAny_pure ?_))
      replace s₁ : Heap.SameBut i1 hh2 h₁ := s₁
      dsimp only
      refine wpAny_bind (wpAny_bind (wpAny_holding ?_))
      show wpAny _ _ (Builtin.SmallTypes.nextOf (.ref i2) >>= _) _ _ _
      refine wpAny_bind (RZ.nextOf_tuple_end hh (g2.extBut s₁.extBut D.i12.symm) (u2.extBut s₁.extBut D.l2i1) hy fun h₂ e s₂ he => hE h₂ e ?_ he)
      exact fun c o n1 _ n3 n4 q => s₂ _ _ n4 (s₁.extBut _ _ n3 (keep c o n1 q))
end
end DLZ

/-! ### enumerate(zip(a, b)) -/
namespace DLZ
open PySem
section
variable {prog : Program} {w : World} {A : Around} {E : Value → Shared → Prop} {s : Shared}
theorem step_item {z TI TO i1 i2 l1 l2 : Addr} {k : Nat} {xs ys : Array Value} {x y a b : Value} {Q : Value → Shared → Prop} (D : ZipApart z TI TO i1 i2 l1 l2)
    (hz : ZSt s.heap z TI TO) (hTI : IsPair s.heap TI (.ref i1) (.ref i2)) (hTO : IsPair s.heap TO a b)
    (h1 : s.heap.IsTupleIter i1 l1 k) (h2 : s.heap.IsTupleIter i2 l2 k)
    (t1 : s.heap.IsTuple l1 xs) (t2 : s.heap.IsTuple l2 ys) (hx : xs[k]? = some x) (hy : ys[k]? = some y)
    (hQ : ∀ h', ZSt h' z TI TO → (∃ a b, IsPair h' TO a b) → h'.IsTupleIter i1 l1 (k + 1) → h'.IsTupleIter i2 l2 (k + 1) →
      IsPair h' s.heap.objs.size x y → h'.objs.size = s.heap.objs.size + 1 →
      (∀ c o, c ≠ z → c ≠ TO → c ≠ i1 → c ≠ i2 → s.heap.get? c = some o → h'.get? c = some o) → Q (.ref s.heap.objs.size) { s with heap := h' }) :
    wpAny (model prog w) A (Builtin.SmallTypes.nextOf (.ref z)) Q E s := by
  obtain ⟨f0, f1, gz, hf⟩ := id hz
  have ty : s.TypeIs (.ref z) "zip" := ⟨_, gz, rfl⟩
  unfold Builtin.SmallTypes.nextOf
  refine wpAny_bind (wpAny_callSpecial?_slot (name := Str.ofString "__next__") ty F.slot_zip_next ?_)
  refine wpAny_call_entry F.slot_zip_next ty F.entry_zip_next ?_ (F.args_zip_next_1 _)
  exact next_item D hz hTI hTO h1 h2 t1 t2 hx hy fun h' c1 c2 c3 c4 c5 c6 c7 => wpAny_pure (hQ h' c1 c2 c3 c4 c5 c6 c7)
theorem en_item {e z TI TO i1 i2 l1 l2 : Addr} {k : Nat} {c : Int} {old : Value} {xs ys : Array Value} {x y a b : Value} {Q : Option Value → Shared → Prop} (D : ZipApart z TI TO i1 i2 l1 l2)
    (he : IsEnum s.heap e z c old) (n1 : e ≠ z) (n2 : e ≠ TO) (n3 : e ≠ i1) (n4 : e ≠ i2)
    (hz : ZSt s.heap z TI TO) (hTI : IsPair s.heap TI (.ref i1) (.ref i2)) (hTO : IsPair s.heap TO a b)
    (h1 : s.heap.IsTupleIter i1 l1 k) (h2 : s.heap.IsTupleIter i2 l2 k)
    (t1 : s.heap.IsTuple l1 xs) (t2 : s.heap.IsTuple l2 ys) (hx : xs[k]? = some x) (hy : ys[k]? = some y)
    (hQ : ∀ h', IsEnumOut h' e z (c + 1) (.ref s.heap.objs.size) (s.heap.objs.size + 1) → ZSt h' z TI TO → (∃ a b, IsPair h' TO a b) → h'.IsTupleIter i1 l1 (k + 1) → h'.IsTupleIter i2 l2 (k + 1) →
      IsPair h' s.heap.objs.size x y → IsPair h' (s.heap.objs.size + 1) (.int c s.toks) (.ref s.heap.objs.size) →
      (∀ q o, q ≠ e → q ≠ z → q ≠ TO → q ≠ i1 → q ≠ i2 → s.heap.get? q = some o → h'.get? q = some o) → Q (some (.ref (s.heap.objs.size + 1))) { s with heap := h', toks := s.toks + 1 }) :
    wpAny (model prog w) A (pyNext (.ref e)) Q E s := by
  have ty : s.TypeIs (.ref e) "enumerate" := ⟨_, he, rfl⟩
  unfold pyNext
  refine wpAny_bind (wpAny_attempt ?_)
  refine wpAny_callSpecial?_slot (name := Str.ofString "__next__") ty F.slot_enumerate_next ?_
  refine wpAny_call_entry F.slot_enumerate_next ty F.entry_enumerate_next ?_ (F.args_enumerate_next_1 _)
  obtain ⟨hp, g, d, tk, os⟩ := s
  show wpAny _ _ (field (.ref e) 2 >>= _) _ _ _
  refine wpAny_bind (wpAny_field he rfl (x := .ref z) rfl ?_)
  refine wpAny_bind (step_item D hz hTI hTO h1 h2 t1 t2 hx hy fun h₁ c1 c2 c3 c4 c5 c6 c7 => ?_)
  replace c6 : h₁.objs.size = hp.objs.size + 1 := c6
  have e₁ : IsEnum h₁ e z c old := c7 e _ n1 n2 n3 n4 he
  show wpAny _ _ (field (.ref e) 3 >>= _) _ _ (Shared.mk h₁ g d tk os)
  refine wpAny_bind (wpAny_field e₁ rfl (x := rawInt c) rfl ?_)
  show wpAny _ _ (field (.ref e) 4 >>= _) _ _ (Shared.mk h₁ g d tk os)
  refine wpAny_bind (wpAny_field e₁ rfl (x := .none) rfl ?_)
  show wpAny _ _ (mkInt c >>= _) _ _ (Shared.mk h₁ g d tk os)
  refine wpAny_bind (wpAny_mkInt ?_)
  show wpAny _ _ (setField (.ref e) 3 (rawInt (c + 1)) >>= _) _ _ (Shared.mk h₁ g d (tk + 1) os)
  refine wpAny_bind (wpAny_setField_rec e₁ (by simp) fun h₂ e₂ s₂ => ?_)
  replace s₂ : Heap.SameBut e h₁ h₂ := s₂
  replace e₂ : IsEnum h₂ e z (c + 1) old := e₂
  show wpAny _ _ (setField (.ref e) 4 .none >>= _) _ _ (Shared.mk h₂ g d (tk + 1) os)
  refine wpAny_bind (wpAny_setField_rec e₂ (by simp) fun h₃ e₃ s₃ => ?_)
  replace s₃ : Heap.SameBut e h₂ h₃ := s₃
  replace e₃ : IsEnum h₃ e z (c + 1) old := e₃
  show wpAny _ _ (newTuple [.int c tk, .ref hp.objs.size] >>= _) _ _ (Shared.mk h₃ g d (tk + 1) os)
  refine wpAny_bind (wpAny_newTuple ?_)
  have sz : h₃.objs.size = hp.objs.size + 1 := by rw [s₃.1, s₂.1, c6]
  let h₄ : Heap := h₃.push { cls := .type "tuple", data := .seq #[.int c tk, .ref hp.objs.size] }
  have e₄ : IsEnum h₄ e z (c + 1) old := Heap.get?_push_of_some _ e₃
  have p₄ : IsPair h₄ (hp.objs.size + 1) (.int c tk) (.ref hp.objs.size) := by
    rw [← sz]
    exact Heap.get?_push_size _ rfl
  have k₄ : ∀ q o, q ≠ e → h₁.get? q = some o → h₄.get? q = some o := fun q o n x => Heap.get?_push_of_some _ (s₃.extBut q o n (s₂.extBut q o n x))
  show wpAny _ _ (Builtin.SmallTypes.ownedTupleIsFree (.ref e) >>= _) _ _ (Shared.mk h₄ g d (tk + 1) os)
  rw [show (Shared.heap (Shared.mk h₃ g d (tk + 1) os)).objs.size = hp.objs.size + 1 from sz]
  have lE : e < hp.objs.size := Heap.lt_size he
  refine wpAny_bind ?_
  unfold Builtin.SmallTypes.ownedTupleIsFree
  refine wpAny_bind (wpAny_field e₄ rfl (x := .none) rfl (wpAny_pure ?_))
  simp only [if_true]
  refine wpAny_bind (wpAny_rule ?_)
  refine wpAny_bind (wpAny_field e₄ rfl (x := old) rfl ?_)
  refine wpAny_bind (wpAny_setField_rec e₄ (by simp) fun h₅ e₅ s₅ => ?_)
  replace s₅ : Heap.SameBut e h₄ h₅ := s₅
  replace e₅ : IsEnum h₅ e z (c + 1) (.ref hp.objs.size) := e₅
  show wpAny _ _ (Builtin.SmallTypes.ownedTupleHandOut (.ref e) (.ref (hp.objs.size + 1)) >>= _) _ _ (Shared.mk h₅ g d (tk + 1) os)
  refine wpAny_bind ?_
  unfold Builtin.SmallTypes.ownedTupleHandOut
  refine wpAny_bind (wpAny_setField_rec e₅ (by simp) fun h₆ e₆ s₆ => ?_)
  replace s₆ : Heap.SameBut e h₅ h₆ := s₆
  replace e₆ : IsEnumOut h₆ e z (c + 1) (.ref hp.objs.size) (hp.objs.size + 1) := e₆
  refine wpAny_setField_rec e₆ (by simp) fun h₇ e₇ s₇ => ?_
  replace s₇ : Heap.SameBut e h₆ h₇ := s₇
  replace e₇ : IsEnumOut h₇ e z (c + 1) (.ref hp.objs.size) (hp.objs.size + 1) := e₇
  have k₇ : ∀ q o, q ≠ e → h₄.get? q = some o → h₇.get? q = some o := fun q o n x => s₇.extBut q o n (s₆.extBut q o n (s₅.extBut q o n x))
  have up : ∀ q o, q ≠ e → h₁.get? q = some o → h₇.get? q = some o := fun q o n x => k₇ q o n (k₄ q o n x)
  refine wpAny_bind (wpAny_letGo (wpAny_pure ⟨_, rfl, wpAny_pure ?_⟩))
  obtain ⟨f0, f1, gz, hf⟩ := c1
  obtain ⟨a', b', gO⟩ := c2
  refine hQ h₇ e₇ ⟨f0, f1, up z _ n1.symm gz, hf⟩ ⟨a', b', up TO _ n2.symm gO⟩ (c3.at fun o q => up i1 o n3.symm q) (c4.at fun o q => up i2 o n4.symm q) (up _ _ (Nat.ne_of_gt lE) c5) (k₇ _ _ (Nat.ne_of_gt (Nat.lt_succ_of_lt lE)) p₄) ?_
  exact fun q o m0 m1 m2 m3 m4 x => up q o m0 (c7 q o m1 m2 m3 m4 x)
theorem en_end {e z TI TO i1 i2 l1 l2 : Addr} {k : Nat} {c : Int} {old : Value} {xs ys : Array Value} {a b : Value} {Q : Option Value → Shared → Prop} (hh : A.handled = none) (D : ZipApart z TI TO i1 i2 l1 l2)
    (he : IsEnum s.heap e z c old) (hz : ZSt s.heap z TI TO) (hTI : IsPair s.heap TI (.ref i1) (.ref i2)) (hTO : IsPair s.heap TO a b)
    (h1 : s.heap.IsTupleIter i1 l1 k) (h2 : s.heap.IsTupleIter i2 l2 k)
    (t1 : s.heap.IsTuple l1 xs) (t2 : s.heap.IsTuple l2 ys) (hend : xs[k]? = none ∨ ys[k]? = none)
    (hQ : ∀ h', (∀ c o, c ≠ z → c ≠ TO → c ≠ i1 → c ≠ i2 → s.heap.get? c = some o → h'.get? c = some o) → Q none { s with heap := h' }) :
    wpAny (model prog w) A (pyNext (.ref e)) Q E s := by
  have ty : s.TypeIs (.ref e) "enumerate" := ⟨_, he, rfl⟩
  unfold pyNext
  refine wpAny_bind (wpAny_attempt ?_)
  refine wpAny_callSpecial?_slot (name := Str.ofString "__next__") ty F.slot_enumerate_next ?_
  refine wpAny_call_entry F.slot_enumerate_next ty F.entry_enumerate_next ?_ (F.args_enumerate_next_1 _)
  show wpAny _ _ (field (.ref e) 2 >>= _) _ _ _
  refine wpAny_bind (wpAny_field he rfl (x := .ref z) rfl ?_)
  obtain ⟨f0, f1, gz, hf⟩ := id hz
  have tz : s.TypeIs (.ref z) "zip" := ⟨_, gz, rfl⟩
  refine wpAny_bind ?_
  unfold Builtin.SmallTypes.nextOf
  refine wpAny_bind (wpAny_callSpecial?_slot (name := Str.ofString "__next__") tz F.slot_zip_next ?_)
  refine wpAny_call_entry F.slot_zip_next tz F.entry_zip_next ?_ (F.args_zip_next_1 _)
  refine next_end hh D hz hTI hTO h1 h2 t1 t2 hend fun h' x keep stop => ?_
  obtain ⟨o, ho, hc⟩ := stop
  refine wpAny_bind (wpAny_isInstance (T := "StopIteration") (b := true) ⟨o, ho, hc⟩ isSubtype_stop ?_)
  exact wpAny_pure (hQ _ keep)
end
end DLZ

namespace DL
open PySem PySem.Spec PyProof.Rows L2
section
variable {X : Cx} {pins : List (Addr × Obj)} {σ : L2.St} {H H' : Hp} {s : Shared} {h' : Heap}
/-- records of ours have turned, objects are laid behind all that was -/
theorem Inv.turnedNews {t' : Nat} {ch : List Addr} (I : Inv X pins σ H s)
    (k : ∀ b o, b ∉ ch → s.heap.get? b = some o → h'.get? b = some o) (hf : ∀ b ∈ ch, FpOk X pins H b)
    (same : ∀ b, b < s.heap.objs.size → H' b = H b)
    (new : ∀ b u, s.heap.objs.size ≤ b → H' b = some u → ObjOk X.prog X.w H' h' b u) : Inv X pins σ H' { s with heap := h', toks := t' } := by
  have out : ∀ b u, H b = some u → b ∉ ch := by
    intro b u e z
    rw [(hf b z).1] at e
    cases e
  have up : ∀ b u, H b = some u → H' b = some u := by
    intro b u e
    rw [same b (I.hok.lt e)]
    exact e
  have chs : ∀ b ∈ ch, (b ∈ X.ex ∨ X.s_0.heap.objs.size ≤ b) ∧ b ≠ X.env.locals ∧ (∀ x c, X.env.cells.lookup x = some c → c ≠ b) ∧ ∀ p ∈ X.pn ++ pins, p.1 ≠ b := by
    intro b hb
    obtain ⟨_, q1, _, q2, q3, q4⟩ := hf b hb
    exact ⟨q2, q1, q3, q4⟩
  refine I.step (g' := s.gens) (d' := s.drawn) (ch := ch) chs ?_ ?_ ?_ ?_ ?_ ?_ ?_ ?_ ?_ I.bare
  · exact fun b o _ _ hc e _ => k b o hc e
  · exact fun b o _ _ hc e _ => ⟨o.slots, k b o hc e⟩
  · intro b o _ e n
    rw [same b (Heap.lt_size e)]
    exact n
  · exact fun b o hc e => ⟨o, k b o hc e⟩
  · exact fun b xs e => up b _ e
  · exact fun b o u e => up b _ e
  · intro b ps e
    refine ⟨#[], ?_⟩
    rw [up b _ e]
    simp
  · rintro m ⟨o, es, ep, ho, r⟩
    exact ⟨o, es, ep, k _ o (fun z => (hf _ z).2.1 rfl) ho, r⟩
  · intro b u e
    by_cases hb : b < s.heap.objs.size
    · rw [same b hb] at e
      refine (I.hok b u e).stay (fun c v hc q => k c v ?_ q) (fun c q => up c _ q) fun c xs q => up c _ q
      rcases hc with z | z
      · rw [z]; exact out b u e
      · exact out c _ z
    · exact new b u (Nat.le_of_not_lt hb) e
end
/-- enumerate(zip(a, b)) of two tuples -/
def IteZ (K : PySem.W.Frag) (a b : Addr) : It where
  go i H := ∃ (xs ys : List V) (x y : V), SqT K H a xs ∧ SqT K H b ys ∧ xs[i]? = some x ∧ ys[i]? = some y
  yld i H v H' := ∃ T2 T x y, v = .ref T ∧ H T2 = none ∧ H T = none ∧ T ≠ T2 ∧ H' = upd (upd H T2 (.tup [x, y])) T (.tup [.int (i : Nat), .ref T2]) ∧
    (∀ xs, SqT K H a xs → xs[i]? = some x) ∧ ∀ ys, SqT K H b ys → ys[i]? = some y
  stop i H := ∃ xs ys : List V, SqT K H a xs ∧ SqT K H b ys ∧ (xs.length ≤ i ∨ ys.length ≤ i)
theorem turn_enZ {P : Program} {w : World} {K : PySem.W.Frag} {elts : List Expr} {kk : Nat} {tpos : Pos} {a b e z TI TO i1 i2 : Addr} (D : ZipApart z TI TO i1 i2 a b)
    (n1 : e ≠ z) (n2 : e ≠ TO) (n3 : e ≠ i1) (n4 : e ≠ i2) (n5 : e ≠ TI) :
    Turn P w K (.Tuple elts kk tpos) (IteZ K a b) [e, z, TI, TO, i1, i2] e (fun i h => (∃ old, IsEnum h e z ((i : Nat) : Int) old) ∧ DLZ.ZSt h z TI TO ∧ IsPair h TI (.ref i1) (.ref i2) ∧ (∃ x y, IsPair h TO x y) ∧ h.IsTupleIter i1 a i ∧ h.IsTupleIter i2 b i) where
  mem := by simp
  obj := by
    rintro i h ⟨⟨old, he⟩, ⟨f0, f1, gz, _⟩, hTI, ⟨x, y, hTO⟩, ⟨o1, e1, _, d1⟩, ⟨o2, e2, _, d2⟩⟩ c hc
    rcases (show c = e ∨ c = z ∨ c = TI ∨ c = TO ∨ c = i1 ∨ c = i2 by simpa using hc) with q | q | q | q | q | q <;> rw [q]
    · exact ⟨_, he, fun v q => nomatch q⟩
    · exact ⟨_, gz, fun v q => nomatch q⟩
    · exact ⟨_, hTI, fun v q => nomatch q⟩
    · exact ⟨_, hTO, fun v q => nomatch q⟩
    · refine ⟨o1, e1, fun v q => ?_⟩
      rw [d1] at q
      cases q
    · refine ⟨o2, e2, fun v q => ?_⟩
      rw [d2] at q
      cases q
  keep := by
    rintro i h h' ⟨⟨old, he⟩, ⟨f0, f1, gz, hf⟩, hTI, ⟨x, y, hTO⟩, h1, h2⟩ k
    exact ⟨⟨old, k e (by simp) _ he⟩, ⟨f0, f1, k z (by simp) _ gz, hf⟩, k TI (by simp) _ hTI, ⟨x, y, k TO (by simp) _ hTO⟩,
      h1.at fun o q => k i1 (by simp) o q, h2.at fun o q => k i2 (by simp) o q⟩
  item := by
    intro X hP hw hK hc i pins s σ H E I hf st hg
    subst hP hw hK
    obtain ⟨⟨old, he⟩, hz, hTI, ⟨x0, y0, hTO⟩, h1, h2⟩ := st
    obtain ⟨xs, ys, x, y, hqx, hqy, hx, hy⟩ := hg
    obtain ⟨its, rv, p, _⟩ := I.tuple hqx
    obtain ⟨its2, rv2, p2, _⟩ := I.tuple hqy
    obtain ⟨u, hu, ru⟩ := rv.get hx
    obtain ⟨u2, hu2, ru2⟩ := rv2.get hy
    have lE : e < s.heap.objs.size := Heap.lt_size he
    refine DLZ.en_item D he n1 n2 n3 n4 hz hTI hTO h1 h2 p p2 (x := u) (y := u2) (by simpa using hu) (by simpa using hu2) fun h' e' z' TO' h1' h2' pA pB hk => ?_
    refine ⟨_, rfl, wpAny_letOwnedTupleGo_enum (s := { s with heap := h', toks := s.toks + 1 }) e' fun h'' e'' sb => ?_⟩
    let T2 := s.heap.objs.size
    let T := s.heap.objs.size + 1
    have nT : T ≠ T2 := Nat.succ_ne_self _
    have up : ∀ c o, c ≠ e → h'.get? c = some o → h''.get? c = some o := fun c o n q => (sb.2 c n).trans q
    have gA : IsPair h'' T2 u u2 := up _ _ (Nat.ne_of_gt lE) pA
    have gB : IsPair h'' T (.int i s.toks) (.ref T2) := up _ _ (Nat.ne_of_gt (Nat.lt_succ_of_lt lE)) pB
    have fA : H T2 = none := I.hok.fresh (Nat.le_refl _)
    have fB : H T = none := I.hok.fresh (Nat.le_succ _)
    let H2 : Hp := upd (upd H T2 (.tup [x, y])) T (.tup [.int (i : Nat), .ref T2])
    have vA : H2 T2 = some (.tup [x, y]) := by
      show upd (upd H T2 _) T _ T2 = _
      rw [upd_ne (Ne.symm nT), upd_same]
    have two : (2 : Nat) ≤ sizeLine := by decide
    have I2 : Inv X pins σ H2 { s with heap := h'', toks := s.toks + 1 } := by
      refine Inv.turnedNews (ch := [e, z, TI, TO, i1, i2]) I (fun c o hb q => ?_) hf (fun c hc => ?_) (fun c o hc q => ?_)
      · have m : ∀ d, d ∈ [e, z, TI, TO, i1, i2] → c ≠ d := fun d hd q' => hb (q' ▸ hd)
        exact up c o (m e (by simp)) (hk c o (m e (by simp)) (m z (by simp)) (m TO (by simp)) (m i1 (by simp)) (m i2 (by simp)) q)
      · show upd (upd H T2 _) T _ c = _
        rw [upd_ne (Nat.ne_of_lt (Nat.lt_succ_of_lt hc)), upd_ne (Nat.ne_of_lt hc)]
      · by_cases c1 : c = T
        · rw [c1] at q ⊢
          have q' : some (HO.tup [.int (i : Nat), .ref T2]) = some o := by rw [← q]; exact upd_same.symm
          cases q'
          exact ⟨two, [.int i s.toks, .ref T2], .cons ⟨_, rfl⟩ (.cons rfl .nil), ⟨_, gB, rfl, _, rfl⟩⟩
        · by_cases c2 : c = T2
          · rw [c2] at q ⊢
            rw [vA] at q
            cases q
            exact ⟨two, [u, u2], .cons ru (.cons ru2 .nil), ⟨_, gA, rfl, _, rfl⟩⟩
          · have q' : H c = some o := by
              rw [← q]
              show _ = upd (upd H T2 _) T _ c
              rw [upd_ne c1, upd_ne c2]
            rw [I.hok.fresh hc] at q'
            cases q'
    refine ⟨.ref T, H2, I2, rfl, ⟨T2, T, x, y, rfl, fA, fB, nT, rfl, fun l hl => ?_, fun l hl => ?_⟩, ⟨⟨.ref s.heap.objs.size, ?_⟩, ?_, ?_, ?_, ?_, ?_⟩, fun c hcm => ?_⟩
    · rw [I.tuple_inj hl hqx]; exact hx
    · rw [I.tuple_inj hl hqy]; exact hy
    · rw [show ((i + 1 : Nat) : Int) = (i : Int) + 1 by omega]
      exact e''
    · obtain ⟨f0, f1, gz, hf0⟩ := z'
      exact ⟨f0, f1, up z _ n1.symm gz, hf0⟩
    · exact up TI _ n5.symm (hk TI _ n5.symm D.TIz D.TITO D.TIi1 D.TIi2 hTI)
    · obtain ⟨a', b', q⟩ := TO'
      exact ⟨a', b', up TO _ n2.symm q⟩
    · exact h1'.at fun o q => up i1 o n3.symm q
    · exact h2'.at fun o q => up i2 o n4.symm q
    · have lc : c < s.heap.objs.size := by
        obtain ⟨f0, f1, gz, _⟩ := hz
        obtain ⟨o1, q1, _⟩ := h1
        obtain ⟨o2, q2, _⟩ := h2
        rcases (show c = e ∨ c = z ∨ c = TI ∨ c = TO ∨ c = i1 ∨ c = i2 by simpa using hcm) with q | q | q | q | q | q <;> rw [q]
        · exact lE
        · exact Heap.lt_size gz
        · exact Heap.lt_size hTI
        · exact Heap.lt_size hTO
        · exact Heap.lt_size q1
        · exact Heap.lt_size q2
      show upd (upd H T2 _) T _ c = none
      rw [upd_ne (Nat.ne_of_lt (Nat.lt_succ_of_lt lc)), upd_ne (Nat.ne_of_lt lc)]
      exact (hf c hcm).1
  done := by
    intro X hP hw hK hc i pins s σ H E I hf st hg
    subst hP hw hK
    obtain ⟨⟨old, he⟩, hz, hTI, ⟨x0, y0, hTO⟩, h1, h2⟩ := st
    obtain ⟨xs, ys, hqx, hqy, hend⟩ := hg
    obtain ⟨its, rv, p, _⟩ := I.tuple hqx
    obtain ⟨its2, rv2, p2, _⟩ := I.tuple hqy
    have l1 := rv.length
    have l2 := rv2.length
    have he2 : its.toArray[i]? = none ∨ its2.toArray[i]? = none := by
      rcases hend with q | q
      · exact .inl (by simp; omega)
      · exact .inr (by simp; omega)
    refine DLZ.en_end (I.ok.hd hc) D he hz hTI hTO h1 h2 p p2 he2 fun h' hk => ⟨rfl, I.turnedL (t' := s.toks) (ch := [e, z, TI, TO, i1, i2]) (fun c o hb q => ?_) hf⟩
    have m : ∀ d, d ∈ [e, z, TI, TO, i1, i2] → c ≠ d := fun d hd q' => hb (q' ▸ hd)
    exact hk c o (m z (by simp)) (m TO (by simp)) (m i1 (by simp)) (m i2 (by simp)) q
  self := by
    rintro A i s Q E ⟨⟨_, he⟩, _⟩ h
    exact wpAny_pyIter_enum he h
end DL
namespace DLZ
open PySem
open AutoSeq1 (wpAny_loadPart')
theorem new_enumZ (z TI TO : Addr) :
    Meets (Builtin.«enumerate.__new__» ⟨[.type "enumerate", .ref z], []⟩) (fun _ R s => IsZip s.heap z TI TO .none ∧
      R (.ok (.ret (.ref s.heap.objs.size))) { s with heap := s.heap.push (DLE.enO z) }) :=
  .of_wp fun prog w A R s h => by
    obtain ⟨hp, g, d, tk, os⟩ := s
    obtain ⟨hl, h⟩ := h
    have sub := sub_enumerate
    have hT : IsZip (Shared.heap ⟨hp, g, d, tk, os⟩) z TI TO .none := hl
    wp_walk using wpAny_loadPart' hl
    refine wpAny_stack_any fun st => wpAny_pure ?_
    split
    · rename_i c _ _ _ _ _
      cases (c == Value.type "enumerate") <;> (wp_walk using wpAny_loadPart' hl, wpAny_pyIter_zip hT; exact ⟨_, rfl, h⟩)
    · wp_walk using wpAny_loadPart' hl, wpAny_pyIter_zip hT
      exact ⟨_, rfl, h⟩
section
variable {prog : Program} {w : World} {A : Around} {E : Value → Shared → Prop} {s : Shared}
theorem call_enumZ {z TI TO : Addr} {Q : Value → Shared → Prop} (hz : IsZip s.heap z TI TO .none)
    (h : IsEnum (s.heap.push (DLE.enO z)) s.heap.objs.size z 0 .none → Q (.ref s.heap.objs.size) { s with heap := s.heap.push (DLE.enO z) }) :
    wpAny (model prog w) A (call (.type "enumerate") [.ref z]) Q E s := by
  refine callType_new F.called_enumerate (by decide) (F.typeCall_enumerate_1 _) (F.newCall_enumerate_1 _)
    (fun obj => F.args_object_init_2 obj _) F.entry_enumerate_new (new_enumZ z TI TO) ⟨hz, ?_⟩
  have he : IsEnum (s.heap.push (DLE.enO z)) s.heap.objs.size z 0 .none := Heap.get?_push_size s.heap (o := DLE.enO z) rfl
  exact ⟨⟨_, he, rfl⟩, h he⟩
end
end DLZ
namespace DL
open PySem PySem.Spec PyProof.Rows L2
def iEnZ (K : PySem.W.Frag) (ta : TA) : TI := fun σ H R => ta σ H fun vs H1 => ∃ a b xs ys, vs = [.ref a, .ref b] ∧ SqT K H1 a xs ∧ SqT K H1 b ys ∧ R (IteZ K a b) H1
theorem pi_enZ {X : Cx} {e e2 : Expr} {ta : TA} {p p2 pos pos2 tpos : Pos} {elts : List Expr} {kk : Nat} (hg : Gl X "enumerate") (hm : X.mg "enumerate" = none) (hg2 : Gl X "zip") (hm2 : X.mg "zip" = none) (ha : PA X [e, e2] ta)
    (hs : starEach [e, e2] X.env = (false, eval e X.env) :: starEach [e2] X.env := by rfl) (hpl : (backTo pos2 (starEach [e2] X.env)).any (·.1) = false := by rfl)
    (na : starEach [.Call (.Name "zip" p2) [e, e2] [] pos2] X.env = (false, eval (.Call (.Name "zip" p2) [e, e2] [] pos2) X.env) :: starEach [] X.env := by rfl) :
    PI X (.Tuple elts kk tpos) (.Call (.Name "enumerate" p) [.Call (.Name "zip" p2) [e, e2] [] pos2] [] pos) (iEnZ X.K ta) := by
  constructor
  intro pins s σ H R I h
  refine Call_ (ld_blt I hg hm boot_enumerate ?_)
  refine PyProof.Rows.callWith_type1 (PyProof.Rows.args_cons ?_ na) na rfl
  refine Call_ (ld_blt I hg2 hm2 PyProof.Rows.boot_zip ?_)
  refine PyProof.Rows.callWith_type1 (thn (ha.run pos2 pins s σ H _ I h) fun us s1 ⟨vs, H1, I1, rs, q1⟩ => ?_) hs hpl
  obtain ⟨a, b, xs, ys, rfl, hqx, hqy, q⟩ := q1
  cases rs with
  | cons r rr =>
    cases rr with
    | cons r' rr =>
      cases rr
      cases r
      cases r'
      obtain ⟨its, rv, t1, _⟩ := I1.tuple hqx
      obtain ⟨its2, rv2, t2, _⟩ := I1.tuple hqy
      have la : a < s1.heap.objs.size := by
        obtain ⟨o, ho, _⟩ := id t1
        exact Heap.lt_size ho
      have lb : b < s1.heap.objs.size := by
        obtain ⟨o, ho, _⟩ := id t2
        exact Heap.lt_size ho
      refine RZ.call_zipT (show s1.heap.IsTuple a its.toArray from t1) (show s1.heap.IsTuple b its2.toArray from t2) fun h' hz hTI hTO h1 h2 hsz hk => ?_
      refine PyProof.Rows.args_nil ?_
      refine DLZ.call_enumZ hz fun he => wpAny_pyIter_enum he ?_
      let n := s1.heap.objs.size
      have push : ∀ c o, h'.get? c = some o → (h'.push (DLE.enO (n + 4))).get? c = some o := fun c o x => Heap.get?_push_of_some _ x
      have I2 : Inv X pins σ H1 { s1 with heap := h'.push (DLE.enO (n + 4)) } := I1.kept (t' := s1.toks) fun c o x => push c o (hk c o x)
      have sz : (Shared.heap { s1 with heap := h' }).objs.size = n + 5 := hsz
      rw [sz] at he ⊢
      have ne : ∀ j, j < 5 → n + 5 ≠ n + j := fun j hj => by omega
      have D := PySem.W.ktu_apart n a b la lb
      refine ⟨n + 5, [n + 5, n + 4, n + 2, n + 3, n, n + 1], _, _, H1, rfl, I2, turn_enZ D (ne 4 (by omega)) (ne 3 (by omega)) (ne 0 (by omega)) (ne 1 (by omega)) (ne 2 (by omega)), ?_, fun c hc => ?_, q⟩
      · exact ⟨⟨.none, he⟩, ⟨_, _, push _ _ hz, .inl rfl⟩, push _ _ hTI, ⟨_, _, push _ _ hTO⟩, h1.at fun o x => push _ o x, h2.at fun o x => push _ o x⟩
      · have hle : n ≤ c := by
          rcases (show c = n + 5 ∨ c = n + 4 ∨ c = n + 2 ∨ c = n + 3 ∨ c = n ∨ c = n + 1 by simpa using hc) with z | z | z | z | z | z <;> rw [z]
          · exact Nat.le_add_right _ _
          · exact Nat.le_add_right _ _
          · exact Nat.le_add_right _ _
          · exact Nat.le_add_right _ _
          · exact Nat.le_refl _
          · exact Nat.le_add_right _ _
        exact I1.fpOk hle (I1.hok.fresh hle)
def enzipM (f : M (List D)) : M (List D) := fun r => (f r).bind fun ds r1 => match ds with
  | [.tuple ds, .tuple es] => .ok (enumL (List.zipWith (fun x y => .tuple [x, y]) ds es)) r1
  | _ => .bad
theorem itez_ok {K : PySem.W.Frag} {B : Addr → Prop} {O : List Addr} {H : Hp} {a b : Addr} {ds es : List D} (x : DV K H (Bn B O) (.ref a) (.tuple ds)) (y : DV K H (Bn B O) (.ref b) (.tuple es)) :
    ItOk K B O H (IteZ K a b) (enumL (List.zipWith (fun x y => .tuple [x, y]) ds es)) := by
  intro C H' e tC
  obtain ⟨xs, h1, h2⟩ := SqT.ofD (DV.mono e _ _ x)
  obtain ⟨ys, k1, k2⟩ := SqT.ofD (DV.mono e _ _ y)
  have l1 := h2.length
  have l2 := k2.length
  refine ⟨fun i z hz => ?_, ⟨xs, ys, h1, k1, by rw [enumL_length, List.length_zipWith]; omega⟩⟩
  obtain ⟨w, hw, rfl⟩ := enumL_get hz
  obtain ⟨p, q, hp, hq, rfl⟩ := zip_get hw
  obtain ⟨v, h3, h4⟩ := h2.get hp
  obtain ⟨u, k3, k4⟩ := k2.get hq
  refine ⟨⟨xs, ys, v, u, h1, k1, h3, k3⟩, fun y H2 ⟨T2, T, w1, w2, ey, n2, n1, ne, e2, q1, q2⟩ => ?_⟩
  subst ey e2
  have e3 := q1 xs h1
  have e4 := q2 ys k1
  rw [h3] at e3
  rw [k3] at e4
  cases e3
  cases e4
  have S2 := same_fresh (o := .tup [v, u]) n2
  have n1' : upd H' T2 (.tup [v, u]) T = none := by rw [upd_ne ne]; exact n1
  have S1 := same_fresh (o := .tup [.int (i : Nat), .ref T2]) n1'
  have S := S2.trans S1
  refine ⟨S, .tup (.inl upd_same) (fun z => tC T z n1) (.cons (.int _) (.cons ?_ .nil))⟩
  exact .tup (.inl (by rw [upd_ne ne.symm, upd_same])) (fun z => tC T2 z n2) (.cons (h4.same S) (.cons (k4.same S) .nil))
theorem it_enzip {X : Cx} {fa : Nat → Addr} {W : Wi} {e e2 : Expr} {f : M (List D)} {p p2 pos pos2 tpos : Pos} {elts : List Expr} {kk : Nat} (hm : X.mg "enumerate" = none) (hm2 : X.mg "zip" = none) (ha : PVs X fa W [e, e2] f) (hg : Gl X "enumerate" := by rfl) (hg2 : Gl X "zip" := by rfl)
    (hs : starEach [e, e2] X.env = (false, eval e X.env) :: starEach [e2] X.env := by rfl) (hpl : (backTo pos2 (starEach [e2] X.env)).any (·.1) = false := by rfl)
    (na : starEach [.Call (.Name "zip" p2) [e, e2] [] pos2] X.env = (false, eval (.Call (.Name "zip" p2) [e, e2] [] pos2) X.env) :: starEach [] X.env := by rfl) :
    PIt X fa W (.Tuple elts kk tpos) (.Call (.Name "enumerate" p) [.Call (.Name "zip" p2) [e, e2] [] pos2] [] pos) (enzipM f) := by
  refine PI.imp (pi_enZ hg hm hg2 hm2 ha hs hpl na) fun σ H R ⟨F, B, O, r, hR, h⟩ => ⟨F, B, O, r, hR, (Aft.bind h).mono fun ds r1 O1 σ1 H1 _ R1 _ ⟨_, _, q⟩ es vs x => ?_⟩
  subst es
  split at q
  · cases x with
    | cons x1 t =>
      cases t with
      | cons x2 t =>
        cases t
        obtain ⟨a, rfl⟩ := x1.isRef
        obtain ⟨b, rfl⟩ := x2.isRef
        obtain ⟨xs, q1, _⟩ := SqT.ofD x1
        obtain ⟨ys, q2, _⟩ := SqT.ofD x2
        exact ⟨a, b, xs, ys, rfl, q1, q2, q O1 _ H1 R1 Ext.refl rfl _ (itez_ok x1 x2)⟩
  · exact False.elim q
end DL

/-! ### reckoning with the functions: comprehensions and loops -/
namespace DL
open PySem
theorem set_get {r : Rho} {i : Nat} {s : Sl} (h : r[i]? = some s) : r.set i s = r := by
  apply List.ext_getElem?
  intro j
  by_cases hj : j = i
  · subst hj
    rw [h, List.getElem?_set_self (List.getElem?_eq_some_iff.mp h).1]
  · rw [List.getElem?_set_ne (Ne.symm hj)]
/-- one variable, nothing else changed -/
theorem lc_pure {i : Nat} {f : M (List D)} {c : M Bool} {e : M D} {r r0 : Rho} {ds : List D} {s : Sl} (p : D → Bool) (g : D → D) (hf : f r0 = .ok ds r) (hi : r[i]? = some s) (hs : light s = true) (hl : ds.length ≤ sizeLine)
    (hc : ∀ d ∈ ds, c (r.set i (.fz d)) = .ok (p d) (r.set i (.fz d))) (he : ∀ d ∈ ds, p d = true → e (r.set i (.fz d)) = .ok (g d) (r.set i (.fz d))) :
    lcM [i] f (tgPut i) c e r0 = .ok ((ds.filter p).map g) r := by
  have hlt : i < r.length := (List.getElem?_eq_some_iff.mp hi).1
  have okr : ∀ s', light s' = true → okW [i] (r.set i s') = true := by
    intro s' h'
    simp [okW, List.getElem?_set_self hlt, h']
  have key : ∀ (es : List D), (∀ d ∈ es, d ∈ ds) → ∀ s', light s' = true → ∃ s2, light s2 = true ∧ collM [i] (tgPut i) c e es (r.set i s') = .ok ((es.filter p).map g) (r.set i s2) := by
    intro es
    induction es with
    | nil => exact fun _ s' h' => ⟨s', h', rfl⟩
    | cons d es ih =>
      intro hd s' h'
      have w : tgPut i d (wR (r.set i s') [i]) = .ok .nx (r.set i (.fz d)) := by
        have h1 : (((r.set i s').set i .emp)[i]?) = some .emp := by rw [List.getElem?_set_self (by simpa using hlt)]
        show put i d ((r.set i s').set i .emp) = _
        unfold put
        rw [h1]
        simp
      obtain ⟨s2, h2, q⟩ := ih (fun x hx => hd x (List.mem_cons_of_mem _ hx)) (.fz d) rfl
      have hc' := hc d (hd d List.mem_cons_self)
      cases hp : p d with
      | false =>
        refine ⟨s2, h2, ?_⟩
        unfold collM
        rw [if_pos (okr s' h'), w, Res.ok_bind, hc', nE_ok, Res.ok_bind, hp, if_neg (by simp), q]
        simp [hp]
      | true =>
        refine ⟨s2, h2, ?_⟩
        have he' := he d (hd d List.mem_cons_self) hp
        unfold collM
        rw [if_pos (okr s' h'), w, Res.ok_bind, hc', nE_ok, Res.ok_bind, hp, if_pos rfl, he', nE_ok, Res.ok_bind, q, Res.ok_bind]
        simp [hp]
  obtain ⟨s2, h2, q⟩ := key ds (fun _ h => h) s hs
  rw [set_get hi] at q
  have ok0 : okW [i] r = true := by simp [okW, hi, hs]
  unfold lcM
  rw [hf, Res.ok_bind, if_pos ⟨ok0, hl⟩, q, Res.ok_bind, if_pos (okr s2 h2)]
  congr 1
  simp [wR, bkR, hi, set_get hi]
/-- a loop that may return -/
theorem loop_find {t : D → M Ctl} {b : M Ctl} (I : Rho → Prop) (F : D → Option D) : ∀ {ds : List D} {r : Rho}, I r →
    (∀ d ∈ ds, ∀ r, I r → ∃ r1, t d r = .ok .nx r1 ∧ ∃ r2, I r2 ∧ b r1 = .ok (match F d with | none => .nx | some z => .rt z) r2) →
    ∃ r', I r' ∧ loopM t b ds r = .ok (match ds.findSome? F with | none => .nx | some z => .rt z) r'
  | [], r, h, _ => ⟨r, h, rfl⟩
  | d :: ds, r, h, k => by
    obtain ⟨r1, h1, r2, h2, h3⟩ := k d List.mem_cons_self r h
    unfold loopM
    rw [h1, Res.ok_bind, h3, Res.ok_bind]
    cases e : F d with
    | none =>
      obtain ⟨r', q1, q2⟩ := loop_find I F h2 fun x hx => k x (List.mem_cons_of_mem _ hx)
      refine ⟨r', q1, ?_⟩
      rw [List.findSome?_cons, e]
      exact q2
    | some z =>
      refine ⟨r2, h2, ?_⟩
      rw [List.findSome?_cons, e]
/-- what is answered, the slots forgotten -/
def ans : Res D → Option D
  | .ok d _ => some d
  | _ => none
@[simp] theorem ans_ok (d : D) (r : Rho) : ans (.ok d r) = some d := rfl
theorem of_ans {x : Res D} {d : D} (h : ans x = some d) : ∃ r, x = .ok d r := by
  cases x with
  | ok e r =>
    cases h
    exact ⟨r, rfl⟩
  | _ => cases h
/-- a call without lent slots, by its answer -/
theorem call_val {G : Fn} {as : List AS} {r r1 : Rho} {sls : List Sl} {d : D} (h : evA as r = .ok sls r1) (hr : refs 0 as = []) (hG : ans (G sls) = some d) : callM G as r = .ok d r1 := by
  obtain ⟨r2, e⟩ := of_ans hG
  unfold callM
  rw [h, Res.ok_bind, hr]
  simp only [e]
end DL

namespace DL
open PySem PySem.Spec PyProof.Rows L2
/-! ### a fresh list of two that are only looked at -/
def addF (f g : Rho → Option D) : M (List D) := fun r => match f r, g r with
  | some (.list xs), some (.list ys) => if xs.length + ys.length ≤ sizeLine ∧ (xs ++ ys).all scal = true then .ok (xs ++ ys) r else .bad
  | _, _ => .bad
def rAddL (K : PySem.W.Frag) : R2 := fun x y H Q => ∃ xs ys, DV K H NoB x (.list xs) ∧ DV K H NoB y (.list ys) ∧ xs.length + ys.length ≤ sizeLine ∧
  ∀ p vs, H p = none → DVs K H NoB vs (xs ++ ys) → Q (.ref p) (upd H p (.lst vs))
section
variable {X : Cx} {fa : Nat → Addr} {W : Wi}
theorem op_addL : OpR X (binaryOp .Add) (rAddL X.K) := by
  intro pins s σ H x y v u Q I rx ry ⟨xs, ys, dx, dy, hl, k⟩
  cases dx with
  | @lst a xs1 ds q b t =>
    cases dy with
    | @lst a2 xs2 ds2 q2 b2 t2 =>
      cases rx
      cases ry
      obtain ⟨z1, its, n1, rv1, ho1⟩ := q.ok I.hok
      obtain ⟨z2, its2, n2, rv2, ho2⟩ := q2.ok I.hok
      have l1 := rv1.length
      have l2 := rv2.length
      have m1 := t.length
      have m2 := t2.length
      refine PySem.P.add_list ho1 ho2 ?_ (by rw [List.size_toArray, List.size_toArray]; omega)
      rw [show its.toArray ++ its2.toArray = (its ++ its2).toArray by simp]
      have n : H s.heap.objs.size = none := I.fresh
      exact ⟨.ref _, _, I.lnew (t' := s.toks) (rv1.append rv2) (by rw [List.length_append]; omega), rfl, k _ _ n (t.append t2)⟩
theorem pf_add {a b : Expr} {f g : Rho → Option D} {pos : Pos} (ha : PB X fa a f) (hb : PB X fa b g) : PF X fa W (.BinOp a .Add b pos) (addF f g) :=
  PE.imp (pe_op op_addL ha hb) fun σ H Q ⟨F, B, O, r, R, h⟩ => by
    unfold addF at h
    cases ea : f r with
    | none => simp only [ea] at h
    | some x =>
      cases eb : g r with
      | none => cases x <;> simp only [ea, eb] at h
      | some y =>
        cases x with
        | list xs =>
          cases y with
          | list ys =>
            simp only [ea, eb] at h
            by_cases hc : xs.length + ys.length ≤ sizeLine ∧ (xs ++ ys).all scal = true
            · rw [if_pos hc] at h
              refine ⟨F, B, O, r, R, .list xs, ea, fun v1 H1 S1 x1 => ⟨F, B, O, r, R.same S1, .list ys, eb, fun v2 H2 S2 x2 => ⟨xs, ys, x1.same S2, x2, hc.1, fun p vs n xv => ?_⟩⟩⟩
              have S12 := S1.trans S2
              have nH : H p = none := by
                cases q : H p with
                | none => rfl
                | some o => rw [S12 _ _ q] at n; cases n
              have S := same_fresh (o := .lst vs) n
              exact h O p vs _ nH ((R.same S12).addBan n S (by rw [upd_same]; exact fun z => nomatch z)) (Ext.same (S12.trans S)) upd_same (xv.scal hc.2)
            · rw [if_neg hc] at h; exact False.elim h
          | _ => simp only [ea, eb] at h
        | _ => simp only [ea, eb] at h
end
/-! ### a fresh deep dict put into a slot -/
section
variable {K : PySem.W.Frag} {fa : Nat → Addr} {F : Fx} {B : Addr → Prop} {O O' : List Addr} {r : Rho} {σ : L2.St} {H H' : Hp} {v : V}
theorem RL.putNewL {as : List Addr} (R : RL K fa F (BanL B as) O r σ H) {i : Nat} {s s' : Sl} {o' : Option V} (e : r[i]? = some s) (l : light s = true) (nda : as.Nodup) (nB : ∀ a ∈ as, ¬ B a) (e0 : ∀ a ∈ as, F.H0 a = none)
    (x : SlV K fa H (Bn (BanL B as) O) s' o' as) :
    ∃ O', RL K fa F B O' (r.set i s') (σ.set i o') H ∧ (∀ b ∈ O', b ∈ as ∨ b ∈ O) := by
  obtain ⟨o, as0, l1, l2, h1, h2, h3, h4⟩ := R.sl.at e
  have e00 := h2.light l
  subst e00
  have aO : ∀ a ∈ as, a ∉ O := fun a m z => (R.ow a z).1 (.inr m)
  have sub : ∀ b, b ∈ l1 ++ (as ++ l2) → b ∈ as ∨ b ∈ O := fun b m => by
    rw [h3]
    simp only [List.mem_append, List.nil_append] at m ⊢
    rcases m with m | m | m
    · exact .inr (.inl m)
    · exact .inl m
    · exact .inr (.inr m)
  have bn : ∀ b, Bn B (l1 ++ (as ++ l2)) b → Bn (BanL B as) O b := fun b z => by
    rcases z with z | z
    · exact .inl (.inl z)
    · rcases sub b z with w | w
      · exact .inl (.inr w)
      · exact .inr w
  refine ⟨l1 ++ (as ++ l2), ⟨h4 H (Bn B (l1 ++ (as ++ l2))) (fun b u q nb => ⟨q, fun z => nb (bn b z)⟩) (fun b _ u q => q) _ _ as (x.mono (fun b u q nb => ⟨q, fun z => nb (bn b z)⟩) fun _ _ _ q => q), ?_, R.fr, R.fe, fun b m => ?_, fun b z => R.bt b (.inl z), fun p hp => ?_⟩, sub⟩
  · have nd := R.nd
    rw [h3, List.nil_append, List.nodup_append] at nd
    rw [List.nodup_append]
    refine ⟨nd.1, ?_, fun a ha b hb => ?_⟩
    · rw [List.nodup_append]
      exact ⟨nda, nd.2.1, fun a ha b hb z => aO a ha (by rw [h3, z]; simp [hb])⟩
    · rcases List.mem_append.mp hb with hb | hb
      · exact fun z => aO b hb (by rw [h3, ← z]; simp [ha])
      · exact nd.2.2 a ha b hb
  · rcases sub b m with w | w
    · exact ⟨nB b w, .inr (e0 b w)⟩
    · exact ⟨fun z => (R.ow b w).1 (.inl z), (R.ow b w).2⟩
  · obtain ⟨q1, d', q2⟩ := R.io p hp
    have ne : p.1 ≠ i := fun z => by
      rw [z, e] at q2
      cases Option.some.inj q2
      cases l
    rw [List.getElem?_set_ne (Ne.symm ne), List.getElem?_set_ne (Ne.symm ne)]
    exact ⟨q1, d', q2⟩
end
def mkD (i : Nat) (es : List (Key × EN)) : M Ctl := fun r => (nE (evE es r)).bind fun t r1 => match r1[i]? with
  | some s => if light s = true then .ok .nx (r1.set i (.deep (.dict t))) else .bad
  | none => .bad
section
variable {X : Cx} {fa : Nat → Addr} {W : Wi} {x : Str} {px pos pos2 : Pos}
theorem g_mkd (i : Nat) (hN : X.N.Nodup) {es : List (Key × EN)} {keys : List (Option Expr)} {values : List Expr} (h : PPs X pos keys values (es.map (trE X.K fa W))) (hn : (es.map (·.1)).Nodup) (h15 : es.length ≤ 15) (hall : keys.all (·.isSome) = true) (hl : keys.length = values.length) (h0 : keys ≠ []) (hk : keys.length ≤ 15)
    (hi : X.N[i]? = some x := by rfl) (hx2 : Loc X.env.scope x := by first | exact Or.inl rfl | exact Or.inr rfl) (hs : swapsWith (.Dict keys values pos) (some (.Name x px)) pos2.line X.env = pure false := by rfl)
    (hf : X.fn x = true ∨ X.env.scope.names.lookup x = some .local := by first | exact .inl rfl | exact .inr rfl | assumption) : PG1 X fa W (.Assign [.Name x px] (.Dict keys values pos) pos2) (mkD i es) :=
  PS.imp (ps_set hN hi hx2 (pe_disp h hall hl h0 hk) hs hf) fun Dn σ H ⟨F, B, O, r, R, q⟩ => by
    refine disp_run R hn h15 ?_
    unfold mkD at q
    cases e : evE es r with
    | bad => rw [e] at q; exact q
    | ex c ds r' => rw [e] at q; exact q
    | ok t r' =>
      rw [e, nE_ok, Res.ok_bind] at q
      intro p H' O2 as n R' E' fr nd x
      cases ei : r'[i]? with
      | none => simp only [ei] at q; exact False.elim q
      | some s =>
        simp only [ei] at q
        by_cases hl : light s = true
        · rw [if_pos hl] at q
          obtain ⟨O3, R3, sub⟩ := R'.putNewL ei hl nd (fun a m z => R.bt a z (fr a m)) (fun a m => R.new0 (fr a m)) x
          refine q O3 _ H' R3 ⟨E'.kp, fun b m => ?_, E'.th⟩
          rcases sub b m with z | z
          · exact .inr (fr b z)
          · exact E'.nw b z
        · rw [if_neg hl] at q; exact False.elim q
end
/-! ### a list within a deep dict, put in place of another -/
def oneK (ds : List (D × D)) (k : Key) : Bool := (ds.filter fun p => isK p.1 k).length == 1
def setDL (i : Nat) (k : Key) (f : M (List D)) : M Ctl := fun r => (nE (f r)).bind fun es r1 => match deepL r1 i k with
  | some p => if p.1.length < sizeLine ∧ oneK p.1 k = true then .ok .nx (r1.set i (.deep (.dict (dset1 p.1 k (.list es))))) else .bad
  | none => .bad
section
variable {K : PySem.W.Frag} {H H' : Hp} {B B' : Addr → Prop}
theorem DpK.nokey {k : Key} {w : V} : ∀ {kvs : List (Key × V)} {ds : List (D × D)} {as : List Addr}, DpK K H B kvs ds as → (ds.filter fun p => isK p.1 k) = [] → (kvs.map fun kv => if kv.1 = k then (kv.1, w) else kv) = kvs
  | _, _, _, .nil, _ => rfl
  | (j, _) :: _, _, _, .lst ea x t, e => by
    rw [List.filter_cons] at e
    simp only [isK_kD] at e
    by_cases h : j = k
    · rw [if_pos (decide_eq_true h)] at e; cases e
    · rw [if_neg (by simpa using h)] at e
      rw [List.map_cons, if_neg h, DpK.nokey t e]
  | (j, _) :: _, _, _, .val x m t, e => by
    rw [List.filter_cons] at e
    simp only [isK_kD] at e
    by_cases h : j = k
    · rw [if_pos (decide_eq_true h)] at e; cases e
    · rw [if_neg (by simpa using h)] at e
      rw [List.map_cons, if_neg h, DpK.nokey t e]
theorem DpK.swap {k : Key} {xs : List D} : ∀ {kvs : List (Key × V)} {ds : List (D × D)} {as : List Addr}, DpK K H B kvs ds as → dget ds k = some (.list xs) → oneK ds k = true →
    ∃ m1 a m2, as = m1 ++ a :: m2 ∧ ∀ (H' : Hp) (B' : Addr → Prop) (b : Addr) (ys : List V) (es : List D), Mv H B H' B' → (∀ c, c ∈ m1 ∨ c ∈ m2 → ∀ u, H c = some u → H' c = some u) → H' b = some (.lst ys) → DVs K H' B' ys es →
      DpK K H' B' (kvs.map fun kv => if kv.1 = k then (kv.1, .ref b) else kv) (dset1 ds k (.list es)) (m1 ++ b :: m2)
  | _, _, _, .nil, e, _ => by cases e
  | (j, _) :: _, _, _, .lst (a := a) (as := as) ea x t, e, o => by
    simp only [dget, isK_kD] at e
    unfold oneK at o
    rw [List.filter_cons] at o
    simp only [isK_kD] at o
    by_cases h : j = k
    · rw [if_pos (decide_eq_true h)] at o
      have o' := beq_iff_eq.mp o
      rw [List.length_cons] at o'
      have o2 := List.eq_nil_of_length_eq_zero (Nat.succ.inj o')
      refine ⟨[], a, as, rfl, fun H' B' b ys es mv kp e' y => ?_⟩
      rw [List.map_cons, if_pos h, t.nokey o2]
      simp only [dset1, isK_kD]
      rw [if_pos (decide_eq_true h)]
      exact .lst e' y (t.mono mv fun c m u q => kp c (.inr m) u q)
    · rw [if_neg (by simpa using h)] at e o
      obtain ⟨m1, a2, m2, q1, q2⟩ := DpK.swap t e o
      refine ⟨a :: m1, a2, m2, by rw [q1]; rfl, fun H' B' b ys es mv kp e' y => ?_⟩
      rw [List.map_cons, if_neg h]
      simp only [dset1, isK_kD]
      rw [if_neg (by simpa using h)]
      exact .lst (kp a (.inl List.mem_cons_self) _ ea) (DVs.mono mv _ _ x) (q2 H' B' b ys es mv (fun c m u q => kp c (m.imp (List.mem_cons_of_mem _) id) u q) e' y)
  | (j, v) :: _, _, _, .val x m t, e, o => by
    simp only [dget, isK_kD] at e
    unfold oneK at o
    rw [List.filter_cons] at o
    simp only [isK_kD] at o
    by_cases h : j = k
    · rw [if_pos (decide_eq_true h)] at e
      cases e
      exact absurd rfl (m xs)
    · rw [if_neg (by simpa using h)] at e o
      obtain ⟨m1, a2, m2, q1, q2⟩ := DpK.swap t e o
      refine ⟨m1, a2, m2, q1, fun H' B' b ys es mv kp e' y => ?_⟩
      rw [List.map_cons, if_neg h]
      simp only [dset1, isK_kD]
      rw [if_neg (by simpa using h)]
      exact .val (DV.mono mv _ _ x) m (q2 H' B' b ys es mv kp e' y)
end
theorem st_set {σ : L2.St} {i : Nat} {o : Option V} (h : σ[i]? = some o) : σ.set i o = σ := by
  apply List.ext_getElem?
  intro j
  by_cases hj : j = i
  · subst hj
    rw [h, List.getElem?_set_self (List.getElem?_eq_some_iff.mp h).1]
  · rw [List.getElem?_set_ne (Ne.symm hj)]
section
variable {X : Cx} {fa : Nat → Addr} {W : Wi} {x kx : Str} {px pos tpos pk : Pos} {j : Nat} {ev : Expr} {f : M (List D)}
theorem g_setDL (i : Nat) (hu : X.A.units + 1 < cLine) (he : PF X fa W ev f) (hN : X.N[i]? = some x := by rfl) (hv : Vis X.env.scope x := by first | exact Or.inl rfl | exact Or.inr (Or.inl rfl) | exact Or.inr (Or.inr rfl)) (hd : (x == ("__debug__" : Str)) = false := by decide)
    (hcd : (x == ("__classdict__" : Str)) = false := by decide)
    (ha : ∀ v, assign (.Subscript (.Name x px) (.Constant (.str kx) j pk) tpos) X.env v = (do
      let ov ← holding [v] (eval (.Name x px) X.env)
      let iv ← holding [v, ov] (eval (.Constant (.str kx) j pk) X.env)
      standAt tpos
      holding [v, ov, iv] (setItem ov iv v)
      release [v, ov, iv] []) := by intro _; rfl)
    (hs : swapsWithSole [.Subscript (.Name x px) (.Constant (.str kx) j pk) tpos] ev pos.line X.env = pure false := by rfl) (hw : swappedStores [.Subscript (.Name x px) (.Constant (.str kx) j pk) tpos] ev X.env = pure none := by rfl)
    (h1 : (assignEach [.Subscript (.Name x px) (.Constant (.str kx) j pk) tpos] X.env).map (·.2) = [assign (.Subscript (.Name x px) (.Constant (.str kx) j pk) tpos) X.env] := by rfl) :
    PG1 X fa W (.Assign [.Subscript (.Name x px) (.Constant (.str kx) j pk) tpos] ev pos) (setDL i (.inr kx) f) :=
  PS.imp (ps_asg he (pg_sub (pe_var hN hv hd hcd) (pb_str (fa := fa)) (set_any hu) ha) hs hw h1) fun Dn σ H ⟨F, B, O, r, R, h⟩ => by
    refine ⟨F, B, O, r, R, ?_⟩
    unfold setDL at h
    cases e : f r with
    | bad => rw [e] at h; exact h
    | ex c ds r' => rw [e] at h; exact False.elim h
    | ok es r1 =>
      rw [e, nE_ok, Res.ok_bind] at h
      intro O1 a xs H1 n R1 E1 ea xv
      cases ed : deepL r1 i (.inr kx) with
      | none => simp only [ed] at h; exact False.elim h
      | some p =>
        simp only [ed] at h
        by_cases hc : p.1.length < sizeLine ∧ oneK p.1 (.inr kx) = true
        · rw [if_pos hc] at h
          obtain ⟨er, ek⟩ := deepL_some ed
          obtain ⟨o, as, l1, l2, h1, h2, h3, h4⟩ := R1.sl.at er
          obtain ⟨b, rfl⟩ := h2.ref
          refine ⟨.ref b, h1, F, Ad B a, O1, r1, R1, .str kx, rfl, fun w H2 S y => ?_⟩
          cases y
          have R2 := R1.same S
          obtain ⟨o', as', l1', l2', h1', h2', h3', h4'⟩ := R2.sl.at er
          rw [h1] at h1'
          cases h1'
          cases h2' with
          | @deep _ kvs _ cs eb dp =>
            obtain ⟨m1, a0, m2, q1, q2⟩ := dp.swap ek hc.2
            subst q1
            have ea2 := S _ _ ea
            have nd := R2.nd
            have bO : b ∈ O1 := by rw [h3']; simp
            have aO : a ∉ O1 := fun z => (R2.ow a z).1 (.inr rfl)
            have hab : a ≠ b := fun z => aO (by rw [z]; exact bO)
            have sub : ∀ c, c ∈ l1' ++ ((b :: (m1 ++ a :: m2)) ++ l2') → c = a ∨ c ∈ O1 := fun c m => by
              rw [h3']
              simp only [List.mem_append, List.mem_cons] at m ⊢
              rcases m with m | (m | m | m | m) | m
              · exact .inr (.inl m)
              · exact .inr (.inr (.inl (.inl m)))
              · exact .inr (.inr (.inl (.inr (.inl m))))
              · exact .inl m
              · exact .inr (.inr (.inl (.inr (.inr (.inr m)))))
              · exact .inr (.inr (.inr m))
            have kp : ∀ c u, c ≠ b → H2 c = some u → (upd H2 b (.dK (putK kvs (.inr kx) (.ref a)))) c = some u := fun c u ne q => by rw [upd_ne ne]; exact q
            have mv : Mv H2 (Bn (Ad B a) O1) (upd H2 b (.dK (putK kvs (.inr kx) (.ref a)))) (Bn B (l1' ++ ((b :: (m1 ++ a :: m2)) ++ l2'))) := fun c u q nb => by
              have hb : c ≠ b := fun z => nb (.inr (by rw [z]; exact bO))
              refine ⟨?_, fun z => nb ?_⟩
              · rcases q with q | ⟨o', q⟩
                · exact .inl (kp c _ hb q)
                · exact .inr ⟨o', kp c _ hb q⟩
              · rcases z with z | z
                · exact .inl (.inl z)
                · rcases sub c z with w | w
                  · exact .inl (.inr w)
                  · exact .inr w
            rw [h3'] at nd
            rw [List.nodup_append] at nd
            obtain ⟨nd1, nd23, nd4⟩ := nd
            rw [List.nodup_append] at nd23
            obtain ⟨nd2, nd3, nd5⟩ := nd23
            obtain ⟨nb, ndc⟩ := List.nodup_cons.mp nd2
            have hput : putK kvs (.inr kx) (V.ref a) = kvs.map fun kv => if kv.1 = .inr kx then (kv.1, V.ref a) else kv := by
              unfold putK
              rw [valV_any, dp.data.some, if_pos (by rw [ek]; rfl)]
            have sl := h4' (upd H2 b (.dK (putK kvs (.inr kx) (.ref a)))) (Bn B (l1' ++ ((b :: (m1 ++ a :: m2)) ++ l2'))) mv (fun c m u q => kp c u (fun z => by
                subst z
                rcases m with m | m
                · exact nd4 c m c (by simp) rfl
                · exact nd5 c (by simp) c m rfl) q) (.deep (.dict (dset1 p.1 (.inr kx) (.list es)))) (some (.ref b)) (b :: (m1 ++ a :: m2))
              (.deep upd_same (by
                rw [hput]
                rw [hput] at mv
                exact q2 _ _ a xs es mv (fun c m u q => by
                  have : c ≠ b := fun z => nb (by subst z; simp only [List.mem_append, List.mem_cons]; exact m.imp id .inr)
                  rw [upd_ne this]; exact q) (by rw [upd_ne hab]; exact ea2) (DVs.mono mv _ _ (xv.same S))))
            rw [st_set h1] at sl
            have nBa : ¬ B a := fun z => R.bt a z n
            have R3 : RL X.K fa F B (l1' ++ ((b :: (m1 ++ a :: m2)) ++ l2')) (r1.set i (.deep (.dict (dset1 p.1 (.inr kx) (.list es))))) σ (upd H2 b (.dK (putK kvs (.inr kx) (.ref a)))) := by
              have some_ne : ∀ c, H2 c ≠ none → (upd H2 b (.dK (putK kvs (.inr kx) (.ref a)))) c ≠ none := fun c hc => by
                by_cases z : c = b
                · rw [z, upd_same]; exact fun z => nomatch z
                · rw [upd_ne z]; exact hc
              refine ⟨sl, ?_, fun c o q ni => kp c o (fun z => ?_) (R2.fr c o q ni), fun c hc => some_ne c (R2.fe c hc), fun c m => ?_, fun c z => some_ne c (R2.bt c (.inl z)), fun pp hp => ?_⟩
              · have al1 : a ∉ l1' := fun z => aO (by rw [h3']; simp [z])
                have al2 : a ∉ l2' := fun z => aO (by rw [h3']; simp [z])
                have am1 : a ∉ m1 := fun z => aO (by rw [h3']; simp [z])
                have am2 : a ∉ m2 := fun z => aO (by rw [h3']; simp [z])
                rw [List.nodup_append] at ndc
                obtain ⟨k1, k2, k3⟩ := ndc
                have k2' := (List.nodup_cons.mp k2).2
                have hm : (b :: (m1 ++ a :: m2)).Nodup := by
                  refine List.nodup_cons.mpr ⟨fun z => ?_, ?_⟩
                  · simp only [List.mem_append, List.mem_cons] at z
                    rcases z with z | z | z
                    · exact nb (by simp [z])
                    · exact hab z.symm
                    · exact nb (by simp [z])
                  · rw [List.nodup_append]
                    refine ⟨k1, List.nodup_cons.mpr ⟨am2, k2'⟩, fun c hc d hd => ?_⟩
                    rcases List.mem_cons.mp hd with hd | hd
                    · rw [hd]; exact fun z => am1 (z ▸ hc)
                    · exact k3 c hc d (List.mem_cons_of_mem _ hd)
                rw [List.nodup_append]
                refine ⟨nd1, ?_, fun c hc d hd => ?_⟩
                · rw [List.nodup_append]
                  refine ⟨hm, nd3, fun c hc d hd => ?_⟩
                  simp only [List.mem_cons, List.mem_append] at hc
                  rcases hc with hc | hc | hc | hc
                  · exact nd5 c (by simp [hc]) d hd
                  · exact nd5 c (by simp [hc]) d hd
                  · rw [hc]; exact fun z => al2 (z ▸ hd)
                  · exact nd5 c (by simp [hc]) d hd
                · simp only [List.mem_cons, List.mem_append] at hd
                  rcases hd with (hd | hd | hd | hd) | hd
                  · exact nd4 c hc d (by simp [hd])
                  · exact nd4 c hc d (by simp [hd])
                  · rw [hd]; exact fun z => al1 (z ▸ hc)
                  · exact nd4 c hc d (by simp [hd])
                  · exact nd4 c hc d (by simp [hd])
              · subst z
                rcases (R2.ow c bO).2 with w | w
                · exact ni w
                · rw [w] at q; cases q
              · rcases sub c m with w | w
                · subst w; exact ⟨nBa, .inr (R.new0 n)⟩
                · exact ⟨fun z => (R2.ow c w).1 (.inl z), (R2.ow c w).2⟩
              · obtain ⟨k1, d', k2⟩ := R2.io pp hp
                refine ⟨k1, ?_⟩
                by_cases z : pp.1 = i
                · rw [z, List.getElem?_set_self (List.getElem?_eq_some_iff.mp er).1]
                  exact ⟨_, rfl⟩
                · rw [List.getElem?_set_ne (Ne.symm z)]
                  exact ⟨d', k2⟩
            refine .inr ⟨b, _, rfl, .inl ⟨kvs, .inr kx, eb, rfl, by rw [dp.length]; exact hc.1, rfl⟩, h _ σ _ R3 ⟨fun c o m q => ?_, fun c m => ?_, fun c hc => ?_⟩⟩
            · have q1 := S _ _ (E1.kp c o m q)
              refine kp c o (fun z => ?_) q1
              subst z
              rcases E1.nw c bO with w | w
              · exact m w
              · rw [w] at q; cases q
            · rcases sub c m with w | w
              · subst w; exact .inr n
              · exact E1.nw c w
            · by_cases z : c = b
              · rw [z, upd_same]; exact fun z => nomatch z
              · rw [upd_ne z]
                intro z2
                refine E1.th c hc ?_
                cases q : H1 c with
                | none => rfl
                | some o => rw [S _ _ q] at z2; cases z2
        · rw [if_neg hc] at h; exact False.elim h
end
end DL

/-! ### len(set(xs)), xs a list of texts -/
namespace DL
open PySem PySem.Spec PyProof.Rows L2
def inM (σ : List Key) (v : Key) : Bool := σ.any fun x => decide (x = v)
def dd (σ : List Key) (v : Key) : List Key := if inM σ v = true then σ else σ ++ [v]
def met (xs : List Key) : List Key := xs.foldl dd []
theorem met_snoc (xs : List Key) (v : Key) : met (xs ++ [v]) = dd (met xs) v := by
  unfold met
  rw [List.foldl_append, List.foldl_cons, List.foldl_nil]
theorem met_len (xs : List Key) : (met xs).length ≤ xs.length := by
  suffices h : ∀ (ys xs : List Key), (ys.foldl dd xs).length ≤ xs.length + ys.length by
    have := h xs []
    rw [List.length_nil, Nat.zero_add] at this
    exact this
  intro ys
  induction ys with
  | nil => intro xs; exact Nat.le_refl _
  | cons y ys ih =>
    intro xs
    rw [List.foldl_cons]
    refine Nat.le_trans (ih _) ?_
    unfold dd
    split
    · rw [List.length_cons]; omega
    · rw [List.length_append, List.length_cons, List.length_cons, List.length_nil]; omega
theorem inM_dd (σ : List Key) (v j : Key) : (inM σ j || decide (j = v)) = inM (dd σ v) j := by
  unfold dd
  by_cases h : inM σ v = true
  · rw [if_pos h]
    by_cases e : j = v
    · subst e
      rw [h, Bool.true_or]
    · rw [decide_eq_false e, Bool.or_false]
  · rw [if_neg h]
    unfold inM
    rw [List.any_append, List.any_cons, List.any_nil, Bool.or_false]
    by_cases e : j = v
    · rw [decide_eq_true e, decide_eq_true e.symm]
    · rw [decide_eq_false e, decide_eq_false (fun z : v = j => e z.symm)]
theorem len_dd (σ : List Key) (v : Key) : (if inM σ v = true then σ.length else σ.length + 1) = (dd σ v).length := by
  unfold dd
  by_cases h : inM σ v = true
  · rw [if_pos h, if_pos h]
  · rw [if_neg h, if_neg h, List.length_append, List.length_cons, List.length_nil]
theorem setOf_cast {P : Program} {w : World} {h : Heap} {a : Addr} {S T : Key → Bool} {n m : Nat} (x : h.SetOf (mixKind P w) a S n) (e : S = T) (f : n = m) : h.SetOf (mixKind P w) a T m := by
  subst e f; exact x
theorem vals_back : ∀ {xs : List V} {us : List Value} {i : Nat} {u : Value}, Vals xs us → us[i]? = some u → ∃ x, xs[i]? = some x ∧ RelV x u
  | _, _, _, _, .nil, e => by simp at e
  | _, _, 0, _, .cons r _, e => by
    simp at e
    subst e
    exact ⟨_, rfl, r⟩
  | _, _, i + 1, _, .cons _ t, e => by
    obtain ⟨x, h1, h2⟩ := vals_back (i := i) t (by simpa using e)
    exact ⟨x, by simpa using h1, h2⟩
section
variable {P : Program} {w : World} {A : Around} {R : Result → Shared → Prop} {I : Addr} {fp wr : List Addr} {G : Array GenState → Array GenState → Prop} {n : Nat} {Pv : Nat → Value → Prop} {St : Nat → Shared → Prop}
theorem upd_loop (W : WalksS P w A.in1 I fp wr G n Pv St) (S : Addr) (nf : S ∉ fp) (ks : List Key) (hl : ks.length = n)
    (hv : ∀ i v, Pv i v → ∃ k, ks[i]? = some k ∧ RelV (kV k) v) (few : n + 1 < scanBound) :
    ∀ (m i : Nat) (s : Shared), n - i = m → i ≤ n → St i s → s.heap.SetOf (mixKind P w) S (inM (met (ks.take i))) (met (ks.take i)).length →
      (∀ s2, Moved (S :: wr) G s s2 → s2.heap.SetOf (mixKind P w) S (inM (met ks)) (met ks).length → R (.ok (.ret .none)) s2) →
      codeAny (model P w) A (.builtin "set.update.loop" ⟨[.ref S, .ref I], []⟩) R s := by
  have nw : S ∉ wr := fun h => nf (W.sub _ h)
  have up : ∀ b ∈ wr, b ∈ S :: wr := fun b h => List.mem_cons_of_mem _ h
  intro m
  induction m with
  | zero =>
    intro i s em le st hS hR
    obtain rfl : i = n := by omega
    refine codeAny_builtin F.entry_set_update_loop ?_
    rw [Around.under_plainId F.plain_set_update_loop _]
    show wpAny _ A.in1 (pyNext (.ref I) >>= _) _ _ s
    refine wpAny_bind (W.done s _ _ st fun s2 mv => ?_)
    show wpAny _ A.in1 (ret Value.none) _ _ s2
    rw [← hl, List.take_length] at hS
    exact wpAny_pure (hR s2 (mv.mono up) (setOf_at hS fun o e => mv.heap S o nw e))
  | succ m ih =>
    intro i s em le st hS hR
    have lt : i < n := by omega
    refine codeAny_builtin F.entry_set_update_loop ?_
    rw [Around.under_plainId F.plain_set_update_loop _]
    show wpAny _ A.in1 (pyNext (.ref I) >>= _) _ _ s
    refine wpAny_bind (W.item i s _ _ lt st fun v s2 hP st2 mv => ?_)
    obtain ⟨k, ek, rv⟩ := hv i v hP
    have hS2 : s2.heap.SetOf (mixKind P w) S (inM (met (ks.take i))) (met (ks.take i)).length := setOf_at hS fun o e => mv.heap S o nw e
    show wpAny _ A.in1 (holding [v] (setAdd S v) >>= _) _ _ s2
    refine wpAny_bind (wpAny_holding ?_)
    unfold setAdd
    refine wpAny_holding ?_
    refine wpAny_bind ((mixKind P w).pyHash (k := k) (kV_is rv) ?_)
    have room : (met (ks.take i)).length + 1 < scanBound := by
      have h1 := met_len (ks.take i)
      rw [List.length_take] at h1
      omega
    refine wpAny_setAddHashed_of (knd := mixKind P w) (s := { s2 with toks := s2.toks + 1 }) (kV_is rv) (key_scan rv) hS2 room fun h3 sb hS3 => ?_
    have et : ks.take (i + 1) = ks.take i ++ [k] := by
      rw [List.take_succ, ek]
      rfl
    have hS4 : h3.SetOf (mixKind P w) S (inM (met (ks.take (i + 1)))) (met (ks.take (i + 1))).length :=
      setOf_cast hS3 (by rw [et, met_snoc]; exact funext fun j => inM_dd _ _ _) (by rw [et, met_snoc]; exact len_dd _ _)
    refine wpAny_pure ⟨plainId_quiet F.plain_set_update_loop _, ih (i + 1) _ (by omega) lt (W.frame _ s2 _ _ st2 (Nat.le_succ _) fun b hb o e => ?_) hS4 fun s5 mv5 hS5 => ?_⟩
    · rw [sb.2 b (fun h : b = S => nf (h ▸ hb))]
      exact e
    · refine hR s5 (Moved.trans W.gtrans ((mv.mono up).then_heap (Nat.le_succ _) fun b o hb e => ?_) mv5) hS5
      rw [sb.2 b (fun h : b = S => hb (by rw [h]; exact List.mem_cons_self))]
      exact e
end
section
variable {P : Program} {w : World} {A : Around} {E : Value → Shared → Prop} {s : Shared}
set_option maxHeartbeats 3200000 in
theorem set_of_list {l : Addr} {items : Array Value} {ks : List Key} {Q : Value → Shared → Prop} (hq : A.handled = none) (il : s.heap.IsList l items) (hk : Vals (ks.map kV) items.toList) (few : items.size + 1 < scanBound)
    (h : ∀ (h2 : Heap) (t2 : Nat), h2.SetOf (mixKind P w) s.heap.objs.size (inM (met ks)) (met ks).length →
      (∀ b o, b < s.heap.objs.size → s.heap.get? b = some o → h2.get? b = some o) → Q (.ref s.heap.objs.size) { s with heap := h2, toks := t2 }) :
    wpAny (model P w) A (call (.type "set") [.ref l]) Q E s := by
  obtain ⟨c, tl, hmro⟩ := F.called_set.mro
  have md := F.called_set.made
  have sub1 := F.called_set.sub
  refine wpAny_call (codeAny_of_tree ?_)
  show wpAny _ _ (callAny (.type "set") _) _ _ _
  refine wpAny_pure ⟨Code.quiet_builtin _ (by decide +kernel), codeAny_builtin F.entry_type_call ?_⟩
  rw [Around.under_plain (weight_type_call_type "set" [.ref l] []) rfl]
  have n1 := F.called_set.notType
  have n2 := F.called_set.canCreate
  have n3 := F.typeCall_set_1 (.ref l)
  repeat (any_goals (first | (assumption) | wp_step))
  refine codeAny_mono (code_set_new_1 (.ref l) (E := E) (Q₁ := fun ob t1 => ∃ lo : Bool, ob = .ref s.heap.objs.size ∧ t1 = { s with heap := s.heap.push { cls := .type "set", dict := none, data := .set #[] 0 (.fresh 0 0 lo) } }) fun lo => ⟨lo, rfl, rfl⟩) fun r t1 hr => ?_
  cases r with
  | error e => exact hr
  | ok fl =>
    cases fl with
    | ret ob =>
      obtain ⟨lo, rfl, rfl⟩ := hr
      have gS : (s.heap.push { cls := .type "set", dict := none, data := .set #[] 0 (.fresh 0 0 lo) }).get? s.heap.objs.size = some { cls := .type "set", dict := none, data := .set #[] 0 (.fresh 0 0 lo) } := Heap.get?_push_size _ rfl
      have tS : Shared.TypeIs { s with heap := s.heap.push { cls := .type "set", dict := none, data := .set #[] 0 (.fresh 0 0 lo) } } (.ref s.heap.objs.size) "set" := ⟨_, gS, rfl⟩
      have i1 := F.called_set.init.lookup
      have i2 := F.called_set.init.bind (.ref s.heap.objs.size)
      repeat (any_goals (first | (assumption) | wp_step))
      refine codeAny_mono (codeAny_call_builtin (R := wants (fun rr t2 => rr = .none ∧ ∃ h2 tk2, t2 = { s with heap := h2, toks := tk2 } ∧ h2.SetOf (mixKind P w) s.heap.objs.size (inM (met ks)) (met ks).length ∧
          (∀ b o, b < s.heap.objs.size → s.heap.get? b = some o → h2.get? b = some o)) E) F.called_set.init.plain F.entry_set_init (check_set_init_1 tS ?_)) fun rr t2 hr2 => ?_
      · obtain ⟨ol, gl, cl, nl, dl⟩ := il
        obtain ⟨ocl, odi, oda, osl⟩ := ol
        simp only at cl dl
        subst cl dl
        have gl2 : (s.heap.push { cls := .type "set", dict := none, data := .set #[] 0 (.fresh 0 0 lo) }).get? l = some { cls := .type "list", dict := odi, data := .seq items nl, slots := osl } := Heap.get?_push_of_some _ gl
        have sls := F.sub_list_set
        have slf := F.sub_list_frozenset
        have nd : (Value.type "list" == Value.type "dict") = false := by decide
        have il2 : (s.heap.push { cls := .type "set", dict := none, data := .set #[] 0 (.fresh 0 0 lo) }).IsList l items := ⟨_, gl2, rfl, nl, rfl⟩
        unfold Builtin.«set.__init__» noKeywords Builtin.Frozenset.updateFrom
        generalize epi : pyIter = PI
        wp_walk
        subst epi
        refine wpAny_pyIter_list il2 ?_
        refine wpAny_bind (wpAny_runValue ?_)
        have lS : l < s.heap.objs.size := Heap.lt_size gl
        have q3 : A.in1.in1.in1.handled = none := by simp [hq]
        have neI : l ≠ (s.heap.push { cls := .type "set", dict := none, data := .set #[] 0 (.fresh 0 0 lo) }).objs.size := by
          rw [Heap.size_push]
          exact Nat.ne_of_lt (Nat.lt_succ_of_lt lS)
        have nfS : s.heap.objs.size ∉ [(s.heap.push { cls := .type "set", dict := none, data := .set #[] 0 (.fresh 0 0 lo) }).objs.size, l] := by
          rw [Heap.size_push]
          simp only [List.mem_cons, List.not_mem_nil, or_false, not_or]
          exact ⟨Nat.ne_of_lt (Nat.lt_succ_self _), Nat.ne_of_gt lS⟩
        have hlen : ks.length = items.size := by
          have := hk.length
          rw [List.length_map, Array.length_toList] at this
          exact this
        have hval : ∀ (i : Nat) (v : Value), items[i]? = some v → ∃ k, ks[i]? = some k ∧ RelV (kV k) v := fun i v ev => by
          have e2 : items.toList[i]? = some v := by rw [Array.getElem?_toList]; exact ev
          obtain ⟨x, hx, rx⟩ := vals_back hk e2
          rw [List.getElem?_map] at hx
          cases ek : ks[i]? with
          | none => rw [ek] at hx; cases hx
          | some k => rw [ek] at hx; cases hx; exact ⟨k, rfl, rx⟩
        refine upd_loop ((Walks.list q3 _ l neI items).toS) s.heap.objs.size nfS ks hlen hval few (items.size - 0) 0 _ (by omega) (Nat.zero_le _)
          ⟨⟨_, Heap.get?_push_size _ rfl, rfl, rfl⟩, (il2.push _)⟩ ?z ?u
        case z =>
          have gg : ((s.heap.push { cls := .type "set", dict := none, data := .set #[] 0 (.fresh 0 0 lo) }).push { cls := .type "list_iterator", data := .fields #[.ref l, .int 0 0] }).get? s.heap.objs.size
              = some { cls := .type "set", dict := none, data := .set #[] 0 (.fresh 0 0 lo) } := Heap.get?_push_of_some _ gS
          exact ⟨_, #[], 0, _, gg, ⟨rfl, rfl, rfl⟩, rfl, (fun e he => by simp at he), (fun k => by simp [met, inM]), (by decide), (by rfl), rfl⟩
        case u =>
          intro t5 mv hS5
          obtain ⟨h5, g5, d5, k5, o5⟩ := t5
          have eg : g5 = s.gens := mv.gens
          have ed : d5 = s.drawn := mv.drawn
          have eo : o5 = s.os := mv.os
          subst eg ed eo
          show wpAny _ _ _ _ _ _
          refine wpAny_pure ?_
          show wpAny _ _ (ret Value.none) _ _ _
          refine wpAny_pure ⟨rfl, h5, k5, rfl, hS5, fun b o lb e => ?_⟩
          have b1 : b ≠ s.heap.objs.size := Nat.ne_of_lt lb
          have b2 : b ≠ (s.heap.push { cls := .type "set", dict := none, data := .set #[] 0 (.fresh 0 0 lo) }).objs.size := by
            rw [Heap.size_push]
            exact Nat.ne_of_lt (Nat.lt_succ_of_lt lb)
          refine mv.heap b o ?_ (Heap.get?_push_of_some _ (Heap.get?_push_of_some _ e))
          simp only [List.mem_cons, List.not_mem_nil, or_false, not_or]
          exact ⟨b1, b2⟩
      · cases rr with
        | error e => exact hr2
        | ok fl2 =>
          cases fl2 with
          | ret r2 =>
            obtain ⟨rfl, h2, tk2, rfl, hS2, kp2⟩ := hr2
            repeat (any_goals (first | (assumption) | wp_step))
            exact h _ _ hS2 kp2
          | _ => exact hr2.elim
    | _ => exact hr.elim
end
def lenSetG : D → Option D
  | .list ds => match txts ds with
    | some ys => if ys.length ≤ 1000 then some (.int (met (ys.map Sum.inr)).length) else none
    | none => none
  | _ => none
section
variable {X : Cx} {fa : Nat → Addr} {W : Wi} {a : Expr} {f : M D} {p p2 q pos : Pos}
def tLenSet (K : PySem.W.Frag) (ta : TE) : TE := fun σ H Q => ta σ H fun x H1 => ∃ (l : Addr) (ys : List Str), x = V.ref l ∧ SqL K H1 l (ys.map V.str) ∧ ys.length ≤ 1000 ∧ Q (.int (met (ys.map Sum.inr)).length) H1
theorem pe_lenSet {ta : TE} (hc : X.calm = true) (hg : Gl X "len") (hm : X.mg "len" = none) (hg2 : Gl X "set") (hm2 : X.mg "set" = none) (ha : PE X a ta)
    (na : starEach [a] X.env = (false, eval a X.env) :: starEach [] X.env := by rfl) : PE X (.Call (.Name "len" p) [.Call (.Name "set" p2) [a] [] q] [] pos) (tLenSet X.K ta) := by
  refine ⟨fun pins s σ H Q I h => ?_⟩
  refine Call_ (ld_blt I hg hm PySem.boot_len ?_)
  refine PyProof.Rows.callWith_builtin1 (PyProof.Rows.args_cons ?_ rfl) rfl rfl
  refine Call_ (ld_blt I hg2 hm2 PyProof.Rows.boot_set ?_)
  refine PyProof.Rows.callWith_type1 (PyProof.Rows.args_cons (thn (ha.run pins s σ H _ I h) fun v s1 ⟨x, H1, I1, r1, q1⟩ => PyProof.Rows.args_nil ?_) na) na rfl
  obtain ⟨l, ys, rfl, sq, fw, q1⟩ := q1
  cases r1
  obtain ⟨its, r, pl, hz⟩ := I1.list sq
  have e1 : its.toArray.size = ys.length := by rw [List.size_toArray, ← r.length, List.length_map]
  have em : (ys.map Sum.inr).map kV = ys.map V.str := by rw [List.map_map]; rfl
  refine set_of_list (I1.ok.hd hc) pl.isList (ks := ys.map Sum.inr) (by rw [em]; simpa using r) (by unfold scanBound; omega) fun h2 t2 hS kp => ?_
  refine PyProof.Rows.args_nil ?_
  obtain ⟨o, es, ep, t, ho, hex, hd, _, _, _, hf, hn⟩ := hS
  have I2 : Inv X pins σ H1 { s1 with heap := h2, toks := t2 } := I1.kept fun b o e => kp b o (Heap.lt_size e) e
  have ml := met_len (ys.map Sum.inr)
  rw [List.length_map] at ml
  refine call_len_set ho hex hd hf (by rw [hn]; omega) ⟨.int (met (ys.map Sum.inr)).length, H1, I2.tok _, ⟨_, by rw [hn]⟩, q1⟩
theorem pv_lenSet (hc : X.calm = true) (hm : X.mg "len" = none) (hm2 : X.mg "set" = none) (ha : PV X fa W a f) (hg : Gl X "len" := by rfl) (hg2 : Gl X "set" := by rfl)
    (na : starEach [a] X.env = (false, eval a X.env) :: starEach [] X.env := by rfl) : PV X fa W (.Call (.Name "len" p) [.Call (.Name "set" p2) [a] [] q] [] pos) (mapM1 lenSetG f) :=
  PE.imp (pe_lenSet hc hg hm hg2 hm2 ha na) fun σ H Q ⟨F, B, O, r, R, h⟩ => ⟨F, B, O, r, R, (Aft.bind h).mono fun d r1 O1 σ1 H1 _ R1 _ ⟨_, _, qq⟩ es v x => by
    subst es
    cases d with
    | list ds =>
      cases et : txts ds with
      | none =>
        simp only [lenSetG, et] at qq
        exact False.elim qq
      | some ys =>
        simp only [lenSetG, et] at qq
        split at qq
        · rename_i fw
          cases x with
          | lst rd b t =>
            have e := txts_of t et
            subst e
            exact ⟨_, ys, rfl, .inl rd, fw, qq O1 _ H1 R1 Ext.refl rfl _ (.int _)⟩
        · exact False.elim qq
    | _ => exact False.elim qq⟩
end
end DL

/-! ### shifts, bits, greatest, three comparisons, two items exchanged -/
namespace DL
open PySem PySem.Spec PyProof.Rows L2
section
variable {X : Cx} {fa : Nat → Addr} {W : Wi}
abbrev shlG : D → D → Option D := intG fun i j => if 0 ≤ j ∧ (Builtin.Int.intBits i : Int) + j ≤ 134217728 then some (.int (i * 2 ^ j.toNat)) else none
theorem od_shl : OpD X (binaryOp .LShift) shlG := opd_int op_shlW (fun i j d e => by
    split at e
    · rename_i h
      refine ⟨h.1, ?_⟩
      rw [show (2 : Int) ^ 27 = 134217728 by decide]
      exact h.2
    · cases e) fun i j d e H B => by
    split at e
    · cases e; exact .int _
    · cases e
abbrev shrG : D → D → Option D := intG fun i j => if 0 ≤ j then some (.int (i / 2 ^ j.toNat)) else none
theorem od_shr : OpD X (binaryOp .RShift) shrG := opd_int op_shr (fun i j d e => by
    split at e
    · rename_i h
      exact h
    · cases e) fun i j d e H B => by
    split at e
    · cases e; exact .int _
    · cases e
abbrev bandG : D → D → Option D := intG fun i j => some (.int (Builtin.bitAnd i j))
theorem od_band : OpD X (binaryOp .BitAnd) bandG := opd_int0 op_and fun i j H B => .int _
abbrev borG : D → D → Option D := intG fun i j => some (.int (Builtin.bitOr i j))
theorem od_bor : OpD X (binaryOp .BitOr) borG := opd_int0 op_or fun i j H B => .int _
def maxG : List D → Option D
  | [.int i, .int j] => some (.int (if j > i then j else i))
  | _ => none
theorem cd_max (hc : X.calm = true) : CallD X (.builtin "max") maxG := by
  intro pins s σ H xs us Q I rv ⟨ds, z, dx, eg, k⟩
  unfold maxG at eg
  split at eg
  · cases eg
    cases dx with
    | cons x t =>
      cases t with
      | cons y t =>
        cases t
        cases x
        cases y
        exact call_max2 hc pins s σ H _ us Q I rv ⟨_, _, rfl, k _ H (fun _ _ q => q) fun B _ _ => .int _⟩
  · cases eg
def minG : List D → Option D
  | [.int i, .int j] => some (.int (if j < i then j else i))
  | _ => none
theorem cd_min (hc : X.calm = true) : CallD X (.builtin "min") minG := by
  intro pins s σ H xs us Q I rv ⟨ds, z, dx, eg, k⟩
  unfold minG at eg
  split at eg
  · cases eg
    cases dx with
    | cons x t =>
      cases t with
      | cons y t =>
        cases t
        cases x
        cases y
        exact call_min2 hc pins s σ H _ us Q I rv ⟨_, _, rfl, k _ H (fun _ _ q => q) fun B _ _ => .int _⟩
  · cases eg
/-! ### three comparisons -/
variable {a b c d : Expr} {pos : Pos} {ta tb tc td : TE} {g1 g2 g3 g4 : Rho → Option D}
def tChain3 (r r' r'' : R2) (ta tb tc td : TE) : TE := fun σ H Q => ta σ H fun x H1 => tb σ H1 fun y H2 => r x y H2 fun z H3 => ∃ k, z = .bl k ∧
  (if k = true then tc σ H3 fun y2 H4 => r' y y2 H4 fun z2 H5 => ∃ k2, z2 = .bl k2 ∧ (if k2 = true then td σ H5 fun y3 H6 => r'' y2 y3 H6 Q else Q (.bl false) H5) else Q (.bl false) H3)
theorem pt_chain3 {op op' op'' : CmpOp} {r r' r'' : R2} (ho : OpR X (compareOp op) r) (ho' : OpR X (compareOp op') r') (ho'' : OpR X (compareOp op'') r'') (ha : PE X a ta) (hb : PE X b tb) (hc : PE X c tc) (hd : PE X d td)
    (hm : lastMarks [op, op', op''] [b, c, d] = false := by with_unfolding_all rfl) : PT X (.Compare a [op, op', op''] [b, c, d] pos) (tTest (tChain3 r r' r'' ta tb tc td)) := by
  refine ⟨fun pins s σ H Q I h => ?_⟩
  refine isTrue_chain (thn (ha.run pins s σ H _ I h) fun v s1 ⟨x, H1, I1, r1, q1⟩ => test_link (thn (hb.run pins s1 σ H1 _ I1 q1) fun u s2 ⟨y, H2, I2, r2, q2⟩ =>
    thn (ho pins s2 σ H2 x y v u _ I2 r1 r2 q2) fun e s3 ⟨z, H3, I3, r3, k, ek, q3⟩ => ?_)) hm
  subst ek
  cases r3
  refine wpAny_truthy_bool ?_
  cases k with
  | false =>
    obtain ⟨k', e', q'⟩ := q3
    cases e'
    exact ite_ff ⟨H3, I3, q'⟩
  | true =>
    refine ite_tt (test_link (thn (hc.run pins s3 σ H3 _ I3 q3) fun u2 s4 ⟨y2, H4, I4, r4, q4⟩ =>
      thn (ho' pins s4 σ H4 y y2 u u2 _ I4 r2 r4 q4) fun e2 s5 ⟨z2, H5, I5, r5, k2, ek2, q5⟩ => ?_))
    subst ek2
    cases r5
    refine wpAny_truthy_bool ?_
    cases k2 with
    | false =>
      obtain ⟨k', e', q'⟩ := q5
      cases e'
      exact ite_ff ⟨H5, I5, q'⟩
    | true =>
      refine ite_tt (test_last (thn (hd.run pins s5 σ H5 _ I5 q5) fun u3 s6 ⟨y3, H6, I6, r6, q6⟩ => thn (ho'' pins s6 σ H6 y2 y3 u2 u3 _ I6 r4 r6 q6) fun e3 s7 ⟨z3, H7, I7, r7, k3, ek3, q7⟩ => ?_))
      subst ek3
      cases r7
      exact wpAny_truthy_bool ⟨H7, I7, q7⟩
def chB3 (g g' g'' : D → D → Option D) (a b c d : Rho → Option D) : Rho → Option D := fun r => match a r, b r with
  | some x, some y => match g x y with
    | some (.bool true) => match c r with
      | some z => match g' y z with
        | some (.bool true) => match d r with
          | some w => g'' z w
          | none => none
        | some (.bool false) => some (.bool false)
        | _ => none
      | none => none
    | some (.bool false) => some (.bool false)
    | _ => none
  | _, _ => none
theorem tChB3 {K : PySem.W.Frag} {g g' g'' : D → D → Option D} {fA fB fC fD : Rho → Option D} {σ : L2.St} {H : Hp} {Q : VK} (h : tB K fa (chB3 g g' g'' fA fB fC fD) σ H Q) : tChain3 (rD K g) (rD K g') (rD K g'') (tB K fa fA) (tB K fa fB) (tB K fa fC) (tB K fa fD) σ H Q := by
  obtain ⟨F, B, O, r, R, d, e, h⟩ := h
  cases ea : fA r with
  | none => simp only [chB3, ea] at e; cases e
  | some x =>
    cases eb : fB r with
    | none => simp only [chB3, ea, eb] at e; cases e
    | some y =>
      refine ⟨F, B, O, r, R, x, ea, fun v1 H1 S1 x1 => ⟨F, B, O, r, R.same S1, y, eb, fun v2 H2 S2 x2 => ?_⟩⟩
      simp only [chB3, ea, eb] at e
      split at e
      · rename_i hg
        cases ec : fC r with
        | none => simp only [ec] at e; cases e
        | some z =>
          simp only [ec] at e
          refine ⟨x, y, _, x1.same S2, x2, hg, fun v3 H3 S3 k3 => ?_⟩
          have x3 := k3 NoB (fun _ z => z.elim) (x1.same S2) x2
          cases x3
          refine ⟨true, rfl, ?_⟩
          rw [if_pos rfl]
          refine ⟨F, B, O, r, ((R.same S1).same S2).same S3, z, ec, fun v4 H4 S4 x4 => ?_⟩
          have y4 := (x2.same S3).same S4
          split at e
          · rename_i hg2
            cases ed : fD r with
            | none => simp only [ed] at e; cases e
            | some w =>
              simp only [ed] at e
              refine ⟨y, z, _, y4, x4, hg2, fun v5 H5 S5 k5 => ?_⟩
              have x5 := k5 NoB (fun _ z => z.elim) y4 x4
              cases x5
              refine ⟨true, rfl, ?_⟩
              rw [if_pos rfl]
              exact ⟨F, B, O, r, ((((R.same S1).same S2).same S3).same S4).same S5, w, ed, fun v6 H6 S6 x6 => ⟨z, w, d, (x4.same S5).same S6, x6, e, fun v H' S k => h v H' ((((((S1.trans S2).trans S3).trans S4).trans S5).trans S6).trans S) (k _ (fun _ z => z.elim) ((x4.same S5).same S6) x6)⟩⟩
          · rename_i hg2
            cases e
            refine ⟨y, z, _, y4, x4, hg2, fun v5 H5 S5 k5 => ?_⟩
            have x5 := k5 NoB (fun _ z => z.elim) y4 x4
            cases x5
            refine ⟨false, rfl, ?_⟩
            rw [if_neg Bool.false_ne_true]
            exact h _ H5 ((((S1.trans S2).trans S3).trans S4).trans S5) (.bl false)
          · cases e
      · rename_i hg
        cases e
        refine ⟨x, y, _, x1.same S2, x2, hg, fun v3 H3 S3 k3 => ?_⟩
        have x3 := k3 NoB (fun _ z => z.elim) (x1.same S2) x2
        cases x3
        refine ⟨false, rfl, ?_⟩
        rw [if_neg Bool.false_ne_true]
        exact h _ H3 ((S1.trans S2).trans S3) (.bl false)
      · cases e
theorem chB3_bool {g g' g'' : D → D → Option D} (hg : BoolG g'') {fA fB fC fD : Rho → Option D} {r : Rho} {d : D} (e : chB3 g g' g'' fA fB fC fD r = some d) : ∃ b, d = .bool b := by
  unfold chB3 at e
  split at e
  · split at e
    · split at e
      · split at e
        · split at e
          · exact hg _ _ _ e
          · cases e
        · cases e; exact ⟨_, rfl⟩
        · cases e
      · cases e
    · cases e; exact ⟨_, rfl⟩
    · cases e
  · cases e
theorem pm_chain3 {op op' op'' : CmpOp} {g g' g'' : D → D → Option D} (ho : OpD X (compareOp op) g) (ho' : OpD X (compareOp op') g') (ho'' : OpD X (compareOp op'') g'') (hg : BoolG g'') (ha : PB X fa a g1) (hb : PB X fa b g2) (hc : PB X fa c g3) (hd : PB X fa d g4)
    (hm : lastMarks [op, op', op''] [b, c, d] = false := by with_unfolding_all rfl) : PM X fa W (.Compare a [op, op', op''] [b, c, d] pos) (truMB (chB3 g g' g'' g1 g2 g3 g4)) := PT.imp (pt_chain3 ho ho' ho'' ha hb hc hd hm) fun σ H Q h => by
  have q := tTestB h fun r d e => chB3_bool hg e
  exact tChB3 q
end
/-! ### an item of a list as a target -/
section
variable {X : Cx} {fa : Nat → Addr} {x : Str} {px : Pos}
def tgSub (i : Nat) (fk : Rho → Option D) : D → M Ctl := fun d r => match r[i]? with
  | some s => match fk r with
    | some k => match setIx s k d with
      | some s' => .ok .nx (r.set i s')
      | none => .bad
    | none => .bad
  | none => .bad
theorem tgSub_ok (i : Nat) (fk : Rho → Option D) : TgOk (tgSub i fk) := fun d r => by
  unfold tgSub
  split
  · split
    · split
      · exact .inr ⟨_, rfl⟩
      · exact .inl rfl
    · exact .inl rfl
  · exact .inl rfl
theorem tg_sub (i : Nat) {ek : Expr} {fk : Rho → Option D} {tpos : Pos} (hu : X.A.units + 1 < cLine) (hk : PB X fa ek fk) (hN : X.N[i]? = some x := by rfl) (hv : Vis X.env.scope x := by first | exact Or.inl rfl | exact Or.inr (Or.inl rfl) | exact Or.inr (Or.inr rfl)) (hd : (x == ("__debug__" : Str)) = false := by decide)
    (hcd : (x == ("__classdict__" : Str)) = false := by decide)
    (ha : ∀ v, assign (.Subscript (.Name x px) ek tpos) X.env v = (do
      let ov ← holding [v] (eval (.Name x px) X.env)
      let iv ← holding [v, ov] (eval ek X.env)
      standAt tpos
      holding [v, ov, iv] (setItem ov iv v)
      release [v, ov, iv] []) := by intro _; rfl) : PT1 X fa [] (.Subscript (.Name x px) ek tpos) (tgSub i fk) :=
  ⟨PG.imp (pg_sub (pe_var hN hv hd hcd) hk (set_any hu) ha) fun v σ H Q ⟨F, B, O, r, d, R, dx, r', e, h⟩ => by
    unfold tgSub at e
    cases er : r[i]? with
    | none => simp only [er] at e; cases e
    | some s =>
      simp only [er] at e
      cases ek : fk r with
      | none => simp only [ek] at e; cases e
      | some k =>
        simp only [ek] at e
        cases es : setIx s k d with
        | none => simp only [es] at e; cases e
        | some s' =>
          simp only [es] at e
          cases e
          obtain ⟨o, as, k1, k2, _⟩ := R.mutA er
          have hx : ∃ ov, σ[i]? = some (some ov) := by
            cases k2 with
            | emp => cases es
            | fz _ => cases es
            | fn _ => cases es
            | own _ _ => exact ⟨_, k1⟩
            | ownK _ _ => exact ⟨_, k1⟩
            | deep _ _ => exact ⟨_, k1⟩
          obtain ⟨ov, ho⟩ := hx
          refine ⟨ov, ho, F, B, O, r, R, k, ek, fun w H2 S y => ?_⟩
          obtain ⟨o', ho', hr⟩ := setIx_rd (Q := fun H3 => Q σ H3) (R.same S) er y (dx.same S) es fun H3 R3 E3 => h O σ H3 R3 ((Ext.same S).trans E3) Out.refl
          rw [ho] at ho'
          cases ho'
          exact hr, tgSub_ok i fk⟩
end
end DL

/-! ### what is never reached; calls that only look; defs that call themselves; products -/
namespace DL
open PySem PySem.Spec PyProof.Rows L2
section
variable {X : Cx} {fa : Nat → Addr} {W : Wi}
theorem g_no {st : Stmt} : PG1 X fa W st (fun _ => .bad) := ⟨fun pins s σ H Dn I ⟨F, B, O, r, R, h⟩ => False.elim h⟩
theorem pv_no {e : Expr} : PV X fa W e (fun _ => .bad) := ⟨fun pins s σ H Q I ⟨F, B, O, r, R, h⟩ => False.elim h⟩
/-! ### a call whose arguments are only lent for looking -/
def callB (n : Nat) (G : Fn) (fb : Rho → Option (List D)) : M D := fun r => match fb r with
  | some ds => if ds.length = n then match G (ds.map .fz) with
      | .ok d _ => if scal d = true then .ok d r else .bad
      | _ => .bad
    else .bad
  | none => .bad
theorem dvs_slots {K : PySem.W.Frag} {H : Hp} : ∀ {vs : List V} {ds : List D}, DVs K H NoB vs ds → SlVs K fa H (Bn NoB []) (ds.map .fz) (vs.map some) []
  | _, _, .nil => .nil
  | _, _, .cons x t => .cons (as := []) (bs := []) (.fz (x.ban fun a z => z.elim id fun m => by simp at m)) (dvs_slots t)
variable {k n : Nat} {G : Fn} {x : Str} {p pos : Pos} {e : Expr} {es : List Expr} {fb : Rho → Option (List D)}
theorem pv_calB (c : Cal X.prog X.w X.K X.mg X.base fa x k n G) (hr : Room k X.A) (hgd : X.A.guards = some []) (ha : PBs X fa (e :: es) fb) (hg : Gl X x := by rfl) (hdb : (x == ("__debug__" : Str)) = false := by decide)
    (he : starEach (e :: es) X.env = (false, eval e X.env) :: starEach es X.env := by rfl) (hpl : (backTo pos (starEach es X.env)).any (·.1) = false := by rfl) : PV X fa W0 (.Call (.Name x p) (e :: es) [] pos) (callB n G fb) := by
  obtain ⟨f, fd, ps, F, hm, kp, hb⟩ := c
  refine PE.imp (pe_callG (E := E00) F hr hgd hg hm kp hb pass0 ha hdb he hpl) fun σ H Q ⟨F, B, O, r, R, h⟩ => ?_
  cases eb : fb r with
  | none => simp only [callB, eb] at h; exact False.elim h
  | some ds =>
    simp only [callB, eb] at h
    by_cases hl : ds.length = n
    · rw [if_pos hl] at h
      refine ⟨F, B, O, r, R, ds, eb, fun vs H1 S dx => ?_⟩
      show spF X.K fa xv0 n G (vs ++ []) H1 Q E00
      rw [List.append_nil]
      refine ⟨by rw [dx.length]; exact hl, NoB, ds.map .fz, [], dvs_slots dx, List.nodup_nil, fun a m => by simp at m, fun a z => z.elim, ?_⟩
      cases eg : G (ds.map .fz) with
      | bad => rw [eg] at h; exact False.elim h
      | ex c es r' => rw [eg] at h; exact False.elim h
      | ok d r' =>
        rw [eg] at h
        simp only at h
        by_cases hsd : scal d = true
        · rw [if_pos hsd] at h
          intro v H' I' e' nd nb bk xd
          have S2 : Same H H' := fun a o q => e'.kp a o (by simp) (S a o q)
          exact h O _ H' (R.same S2) (Ext.same S2) rfl v (xd.scal hsd)
        · rw [if_neg hsd] at h
          exact False.elim h
    · rw [if_neg hl] at h
      exact False.elim h
end
/-! ### a def that calls itself: so many calls within one another -/
def noF : Fn := fun _ => .bad
theorem cal_no {P : Program} {w : World} {K : PySem.W.Frag} {mg : Str → Option Value} {base : Heap} {fa : Nat → Addr} {x qual : Str} {st : Stmt} {f : Addr} {fd : FuncData} {ps : List Str} {k n : Nat} (Fd : Fun K x qual st f fd) (hm : mg x = some (.ref f)) (hb : Binds K fd ps []) : Cal P w K mg base fa x k n noF :=
  ⟨f, fd, ps, ⟨fun vs H Q E h => by obtain ⟨_, B, sls, I, _, _, _, _, h⟩ := h; exact False.elim h, fun A outer s H args us vs Q E _ _ _ _ _ h => by obtain ⟨_, B, sls, I, _, _, _, _, h⟩ := h; exact False.elim h⟩, hm, Fd.kp, hb⟩
/-! ### products of any numbers within 2000 bits -/
def mulX : D → D → Option D := fun x y => match mulG x y with
  | some z => some z
  | none => match x, y with
    | .int i, .int j => if i.natAbs < 2 ^ 2000 ∧ j.natAbs < 2 ^ 2000 then some (.int (i * j)) else none
    | _, _ => none
theorem od_mulX {X : Cx} : OpD X (binaryOp .Mult) mulX := by
  intro pins s σ H x y v u Q I rx ry ⟨d, e, z, dx, dy, eg, k⟩
  unfold mulX at eg
  cases em : mulG d e with
  | some z' =>
    rw [em] at eg
    cases eg
    exact od_mul pins s σ H x y v u Q I rx ry ⟨d, e, z, dx, dy, em, k⟩
  | none =>
    rw [em] at eg
    simp only at eg
    split at eg
    · split at eg
      · rename_i hc
        cases eg
        cases dx
        cases dy
        exact op_mulW pins s σ H _ _ v u Q I rx ry ⟨_, _, rfl, rfl, wide_mul hc.1 hc.2 (by decide) (by decide) (by decide), k _ H (fun _ _ q => q) fun B _ _ _ => .int _⟩
      · cases eg
    · cases eg
end DL

namespace DL
open PySem PySem.Spec PyProof.Rows L2
/-! ### the minus of what is looked at -/
def mapB1 (g : D → Option D) (f : Rho → Option D) : Rho → Option D := fun r => (f r).bind g
theorem pb_neg {X : Cx} {fa : Nat → Addr} {e : Expr} {f : Rho → Option D} {pos : Pos} (h : PB X fa e f) : PB X fa (.UnaryOp .USub e pos) (mapB1 negG f) :=
  PE.imp (pe_un un_neg h) fun σ H Q ⟨F, B, O, r, R, d, e, h⟩ => by
    unfold mapB1 at e
    cases ef : f r with
    | none => rw [ef] at e; cases e
    | some x =>
      rw [ef] at e
      refine ⟨F, B, O, r, R, x, ef, fun v H' S xv => ?_⟩
      cases x with
      | int i =>
        cases e
        cases xv
        exact ⟨i, rfl, h _ H' S (.int _)⟩
      | _ => cases e
/-! ### a fresh list of two that were made -/
def addV (f g : M D) : M (List D) := fun r => (f r).bind fun x r1 => (g r1).bind fun y r2 => match x, y with
  | .list xs, .list ys => if xs.length + ys.length ≤ sizeLine then .ok (xs ++ ys) r2 else .bad
  | _, _ => .bad
def rAddB (K : PySem.W.Frag) : R2 := fun x y H Q => ∃ B xs ys, DV K H B x (.list xs) ∧ DV K H B y (.list ys) ∧ xs.length + ys.length ≤ sizeLine ∧
  ∀ p vs, H p = none → DVs K H B vs (xs ++ ys) → Q (.ref p) (upd H p (.lst vs))
section
variable {X : Cx} {fa : Nat → Addr} {W : Wi}
theorem op_addB : OpR X (binaryOp .Add) (rAddB X.K) := by
  intro pins s σ H x y v u Q I rx ry ⟨B, xs, ys, dx, dy, hl, k⟩
  cases dx with
  | @lst a xs1 ds q b t =>
    cases dy with
    | @lst a2 xs2 ds2 q2 b2 t2 =>
      cases rx
      cases ry
      obtain ⟨z1, its, n1, rv1, ho1⟩ := q.ok I.hok
      obtain ⟨z2, its2, n2, rv2, ho2⟩ := q2.ok I.hok
      have l1 := rv1.length
      have l2 := rv2.length
      have m1 := t.length
      have m2 := t2.length
      refine PySem.P.add_list ho1 ho2 ?_ (by rw [List.size_toArray, List.size_toArray]; omega)
      rw [show its.toArray ++ its2.toArray = (its ++ its2).toArray by simp]
      have n : H s.heap.objs.size = none := I.fresh
      exact ⟨.ref _, _, I.lnew (t' := s.toks) (rv1.append rv2) (by rw [List.length_append]; omega), rfl, k _ _ n (t.append t2)⟩
theorem pf_addV {a b : Expr} {f g : M D} {pos : Pos} (ha : PV X fa W a f) (hb : PV X fa W b g) : PF X fa W (.BinOp a .Add b pos) (addV f g) :=
  PE.imp (pe_op op_addB ha hb) fun σ H Q ⟨F, B, O, r, R, h⟩ => by
    unfold addV at h
    refine ⟨F, B, O, r, R, ?_⟩
    cases ef : f r with
    | bad => rw [ef] at h; exact False.elim h
    | ex c ds r' => rw [ef] at h; exact h
    | ok x r1 =>
      rw [ef] at h
      simp only [Res.ok_bind] at h
      intro O1 σ1 H1 R1 e1 es v1 x1
      subst es
      refine ⟨F, B, O1, r1, R1, ?_⟩
      cases eg : g r1 with
      | bad => rw [eg] at h; exact False.elim h
      | ex c ds r' =>
        rw [eg] at h
        exact fun O' σ' H' R' e' => h O' σ' H' R' (e1.trans e')
      | ok y r2 =>
        rw [eg] at h
        simp only [Res.ok_bind] at h
        intro O2 σ2 H2 R2 e2 es v2 x2
        subst es
        cases x with
        | list xs =>
          cases y with
          | list ys =>
            simp only at h
            by_cases hc : xs.length + ys.length ≤ sizeLine
            · rw [if_pos hc] at h
              refine ⟨Bn B O2, xs, ys, x1.ext e2, x2, hc, fun p vs n xv => ?_⟩
              have S := same_fresh (o := .lst vs) n
              have nH : H p = none := by
                cases q : H p with
                | none => rfl
                | some o => exact absurd n ((e1.trans e2).th p (by rw [q]; exact fun z => nomatch z))
              refine h O2 p vs _ nH (R2.addBan n S (by rw [upd_same]; exact fun z => nomatch z)) ((e1.trans e2).trans (Ext.same S)) upd_same (DVs.mono (fun a u q b => ⟨rd_same S q, fun z => ?_⟩) _ _ xv)
              rcases z with (z | z) | z
              · exact b (.inl z)
              · exact rd_some q (by rw [z]; exact n)
              · exact b (.inr z)
            · rw [if_neg hc] at h; exact False.elim h
          | _ => exact False.elim h
        | _ => exact False.elim h
end
/-! ### a dict written out, asked at once -/
def kvsOf (t : List (Str × Int)) : List (Key × V) := t.map fun p => ((.inr p.1 : Key), V.int p.2)
def cT (kvs : List (Key × V)) : List (TE × TE) := kvs.map fun kv => (tC (kV kv.1), tC kv.2)
theorem pairs_c {σ : L2.St} {H : Hp} : ∀ (kvs : List (Key × V)) {Q : List (V × V) → Hp → Prop}, Q (kvs.map fun kv => (kV kv.1, kv.2)) H → tPairs (cT kvs) σ H Q
  | [], _, h => h
  | kv :: kvs, Q, h => pairs_c kvs (Q := fun ps H3 => Q ((kV kv.1, kv.2) :: ps) H3) h
def getM (t : List (Str × Int)) (f : Rho → Option D) (z : Int) : M D := fun r => match f r with
  | some (.str s) => .ok (.int ((t.lookup s).getD z)) r
  | _ => .bad
theorem val_kvs (s : Str) : ∀ t : List (Str × Int), valV (kvsOf t) (.inr s) = (t.lookup s).map V.int
  | [] => rfl
  | p :: t => by
    have ih := val_kvs s t
    unfold valV kvsOf at ih ⊢
    rw [List.map_cons, List.find?_cons, List.lookup_cons]
    by_cases h : s = p.1
    · subst h
      simp
    · have h1 : (s == p.1) = false := by simpa using h
      have h2 : decide ((Sum.inr p.1 : Key) = .inr s) = false := by
        rw [decide_eq_false_iff_not]
        intro e
        cases e
        exact h rfl
      simp only [h1, h2]
      exact ih
section
variable {X : Cx} {fa : Nat → Addr} {W : Wi}
theorem pv_getlit {t : List (Str × Int)} {keys : List (Option Expr)} {values : List Expr} {dpos apos cpos zp : Pos} {e : Expr} {f : Rho → Option D} {z : Int} {j : Nat} (hu : X.A.units + 1 < cLine)
    (hd : PPs X dpos keys values (cT (kvsOf t))) (hall : keys.all (·.isSome) = true) (hl : keys.length = values.length) (h0 : keys ≠ []) (hk : keys.length ≤ 15) (hn : (t.map (·.1)).Nodup) (h15 : t.length ≤ 15)
    (he : PB X fa e f) (m : M2 X (.Dict keys values dpos) "get" apos e (.Constant (.int z) j zp) cpos) : PV X fa W (.Call (.Attribute (.Dict keys values dpos) "get" apos) [e, .Constant (.int z) j zp] [] cpos) (getM t f z) :=
  PE.imp (pe_dget2 hu (pe_disp hd hall hl h0 hk) he pe_int m) fun σ H Q ⟨F, B, O, r, R, h⟩ => by
    intro p n
    have S := same_fresh (o := .dK []) n
    refine pairs_c _ ?_
    refine ⟨upd_same, kvsOf t, rfl, by unfold kvsOf; rw [List.length_map]; exact h15, ?_⟩
    have hm : mergeK [] (kvsOf t) = kvsOf t := by
      have := mergeK_new (kvsOf t) [] (by
        rw [List.nil_append]
        unfold kvsOf
        rw [List.map_map]
        have e : (((fun x : Key × V => x.1) ∘ fun p : Str × Int => ((.inr p.1 : Key), V.int p.2)) : Str × Int → Key) = (Sum.inr : Str → Key) ∘ fun x => x.1 := rfl
        rw [e, ← List.map_map]
        exact List.pairwise_map.mpr (hn.imp fun h q => h (Sum.inr.inj q)))
      rwa [List.nil_append] at this
    rw [hm]
    have S2 : Same H (upd (upd H p (.dK [])) p (.dK (kvsOf t))) := fun b u q => by
      have hb : b ≠ p := ne_of_none q n
      rw [upd_ne hb, upd_ne hb]
      exact q
    refine ⟨p, rfl, .inl ⟨_, .inl upd_same⟩, ?_⟩
    unfold getM at h
    cases ef : f r with
    | none => simp only [ef] at h; exact False.elim h
    | some d =>
      cases d with
      | str s =>
        simp only [ef] at h
        refine ⟨F, B, O, r, R.same S2, .str s, ef, fun v H' S3 xv => ?_⟩
        cases xv
        refine ⟨_, .inl ⟨kvsOf t, .inr s, rd_same S3 (.inl upd_same), rfl, rfl⟩, ?_⟩
        rw [val_kvs]
        have Sx := S2.trans S3
        have hq := h O σ H' (R.same Sx) (Ext.same Sx) rfl
        generalize t.lookup s = o at hq ⊢
        cases o with
        | none => exact hq _ (.int _)
        | some i => exact hq _ (.int _)
      | _ => simp only [ef] at h; exact False.elim h
end
end DL

namespace DL
open PySem PySem.Spec PyProof.Rows L2
/-! ### a dict of the module, texts to whole numbers -/
/-- the entries that stand there -/
def EntO (w : World) : List DictEntry → List (Str × Int) → Prop
  | [], [] => True
  | e :: es, p :: t => ((∃ tk, e.key = .str p.1 tk) ∧ e.hash = PyData.keyHash w.params p.1 ∧ ∃ tk, e.val = .int p.2 tk) ∧ EntO w es t
  | _, _ => False
theorem EntO.lit {w : World} : ∀ {es : List DictEntry} {t : List (Str × Int)}, EntO w es t → PySem.W.KeysLit w.params es
  | [], [], _ => trivial
  | e :: es, p :: t, ⟨⟨⟨tk, h1⟩, h2, _⟩, r⟩ => ⟨⟨p.1, tk, h1, h2⟩, EntO.lit r⟩
  | [], _ :: _, h => h.elim
  | _ :: _, [], h => h.elim
theorem EntO.find {w : World} (z : Str) : ∀ {es : List DictEntry} {t : List (Str × Int)}, EntO w es t → (t.lookup z = none → es.find? (·.key.isStr z) = none) ∧ ∀ i, t.lookup z = some i → ∃ e tk, es.find? (·.key.isStr z) = some e ∧ e.val = .int i tk
  | [], [], _ => ⟨fun _ => rfl, fun i h => by cases h⟩
  | e :: es, p :: t, ⟨⟨⟨tk, h1⟩, h2, tv, h3⟩, r⟩ => by
    have hk : e.key.isStr z = (z == p.1) := by
      rw [h1, PySem.W.isStr_of]
      show (p.1 == z) = (z == p.1)
      exact Bool.beq_comm ..
    have ih := EntO.find z r
    rw [List.lookup_cons, List.find?_cons]
    simp only [hk]
    cases hz : z == p.1
    · exact ih
    · exact ⟨fun h => (by cases h), fun i h => by cases h; exact ⟨e, tv, rfl, h3⟩⟩
  | [], _ :: _, h => h.elim
  | _ :: _, [], h => h.elim
theorem EntO.noref {w : World} : ∀ {es : List DictEntry} {t : List (Str × Int)}, EntO w es t → es.any (·.refKey) = false
  | [], [], _ => rfl
  | e :: es, p :: t, ⟨⟨⟨tk, h1⟩, _⟩, r⟩ => by
    rw [List.any_cons, EntO.noref r, Bool.or_false]
    unfold DictEntry.refKey
    rw [h1]
  | [], _ :: _, h => h.elim
  | _ :: _, [], h => h.elim
/-- x is such a dict -/
def GKD (K : PySem.W.Frag) (w : World) (mg : Str → Option Value) (x : Str) (t : List (Str × Int)) : Prop :=
  ∃ d es n, mg x = some (.ref d) ∧ K.lookup d = some ⟨.type "dict", none, .dict es n, #[]⟩ ∧ (d == sysModules) = false ∧ EntO w es.toList t
def ninK (t : List (Str × Int)) : D → Option D
  | .str s => some (.bool (!(t.lookup s).isSome))
  | .none => some (.bool true)
  | _ => none
def inK (t : List (Str × Int)) : D → Option D
  | .str s => some (.bool (t.lookup s).isSome)
  | .none => some (.bool false)
  | _ => none
def ixK (t : List (Str × Int)) : D → Option D
  | .str s => (t.lookup s).map .int
  | _ => none
section
variable {X : Cx} {fa : Nat → Addr} {W : Wi} {d : Addr} {es : Array DictEntry} {n : Nat} {t : List (Str × Int)}
theorem nsIn_ent (l : X.K.lookup d = some ⟨.type "dict", none, .dict es n, #[]⟩) (h : EntO X.w es.toList t) (z : Str) : (t.lookup z = none → PySem.W.nsIn X.K d z = some none) ∧ ∀ i, t.lookup z = some i → ∃ tk, PySem.W.nsIn X.K d z = some (some (.int i tk)) := by
  obtain ⟨h1, h2⟩ := h.find z
  unfold PySem.W.nsIn
  rw [l]
  refine ⟨fun e => ?_, fun i e => ?_⟩
  · simp only [h1 e, h.noref]
    rfl
  · obtain ⟨en, tk, e1, e2⟩ := h2 i e
    simp only [e1, e2]
    exact ⟨tk, rfl⟩
def rNinK (d : Addr) (t : List (Str × Int)) : R2 := fun x y H Q => y = .ref d ∧ ((∃ z, x = .str z ∧ Q (.bl (!(t.lookup z).isSome)) H) ∨ (x = .non ∧ Q (.bl true) H))
theorem leaf_map {h : Heap} (X' : X.K.In h) (l : X.K.lookup d = some ⟨.type "dict", none, .dict es n, #[]⟩) (hk : PySem.W.KeysLit X.w.params es.toList) : h.MapOf (leafKind X.prog X.w) d (fun k => findBy (leafKind X.prog X.w).is es k) :=
  ⟨_, es, n, X' _ _ l, ⟨rfl, rfl, rfl⟩, rfl, fun e he => by
    obtain ⟨x, t, e1, e2⟩ := hk.all e (Array.mem_toList_iff.mpr he)
    exact ⟨.text x, by rw [e1]; exact leaf_str x t, e2⟩, fun _ => rfl⟩
theorem leaf_no (hk : PySem.W.KeysLit X.w.params es.toList) : findBy (leafKind X.prog X.w).is es .none = none := by
  obtain ⟨l⟩ := es
  unfold findBy
  rw [List.find?_toArray]
  have : l.find? (fun e => (leafKind X.prog X.w).is .none e.key) = none := by
    rw [List.find?_eq_none]
    intro e he
    obtain ⟨x, t, e1, _⟩ := hk.all e he
    rw [e1]
    exact Bool.false_ne_true
  rw [this]
  rfl
theorem op_ninK (l : X.K.lookup d = some ⟨.type "dict", none, .dict es n, #[]⟩) (low : (d == sysModules) = false) (h : EntO X.w es.toList t) : OpR X (compareOp .NotIn) (rNinK d t) := by
  intro pins s σ H x y v u Q I rx ry ⟨hy, q⟩
  rcases q with ⟨z, rfl, q⟩ | ⟨rfl, q⟩
  · obtain ⟨n1, n2⟩ := nsIn_ent l h z
    cases hz : t.lookup z with
    | none =>
      rw [hz] at q
      exact op_notIn_kd ⟨l, h.lit, low⟩ pins s σ H _ y v u Q I rx ry ⟨z, none, rfl, hy, n1 hz, q⟩
    | some i =>
      rw [hz] at q
      obtain ⟨tk, e⟩ := n2 i hz
      exact op_notIn_kd ⟨l, h.lit, low⟩ pins s σ H _ y v u Q I rx ry ⟨z, _, rfl, hy, e, q⟩
  · subst hy
    cases rx
    cases ry
    refine wpAny_notIn_of (leaf_none (prog := X.prog) (w := X.w)) low (leaf_map I.kIn l h.lit) ?_
    rw [leaf_no h.lit]
    exact ⟨.bl true, H, I.tok _, rfl, q⟩
variable {x : Str} {a : Expr} {f : M D} {p pos : Pos}
theorem tNinK {K : PySem.W.Frag} {σ : L2.St} {H : Hp} {Q : VK} (h : tV K fa W (mapM1 (ninK t) f) σ H Q) : tOp (rNinK d t) (tV K fa W f) (tC (.ref d)) σ H Q := by
  obtain ⟨F, B, O, r, R, h⟩ := h
  exact ⟨F, B, O, r, R, (Aft.bind h).mono fun d1 r1 O1 σ1 H1 _ R1 _ ⟨_, _, q⟩ es v x => by
    subst es
    refine ⟨rfl, ?_⟩
    cases d1 with
    | none =>
      cases x
      exact .inr ⟨rfl, q O1 _ H1 R1 Ext.refl rfl _ (.bl _)⟩
    | str s =>
      cases x
      exact .inl ⟨s, rfl, q O1 _ H1 R1 Ext.refl rfl _ (.bl _)⟩
    | _ => exact False.elim q⟩
theorem pv_ninK (g : GKD X.K X.w X.mg x t) (ha : PV X fa W a f) (hg : Gl X x := by rfl) (hd : (x == ("__debug__" : Str)) = false := by decide) (hm : behindInMarks .NotIn (.Name x p) = false := by rfl) : PV X fa W (.Compare a [.NotIn] [.Name x p] pos) (mapM1 (ninK t) f) := by
  obtain ⟨d, es, n, h1, h2, h3, h4⟩ := g
  exact PE.imp (pe_cmpR (op_ninK h2 h3 h4) ha (pe_glob (v := .ref d) hg h1 rfl hd) hm) fun σ H Q h => tNinK h
theorem ninK_bool {r r' : Rho} {d1 : D} (e : mapM1 (ninK t) f r = .ok d1 r') : ∃ b, d1 = .bool b := by
  unfold mapM1 at e
  cases ef : f r with
  | ok y r1 =>
    rw [ef, Res.ok_bind] at e
    cases y with
    | none => cases e; exact ⟨_, rfl⟩
    | str s => cases e; exact ⟨_, rfl⟩
    | _ => cases e
  | ex c ds r1 => rw [ef] at e; cases e
  | bad => rw [ef] at e; cases e
theorem pm_ninK (g : GKD X.K X.w X.mg x t) (ha : PV X fa W a f) (hg : Gl X x := by rfl) (hd : (x == ("__debug__" : Str)) = false := by decide) (hm : behindInMarks .NotIn (.Name x p) = false := by rfl) : PM X fa W (.Compare a [.NotIn] [.Name x p] pos) (truM (mapM1 (ninK t) f)) := by
  obtain ⟨d, es, n, h1, h2, h3, h4⟩ := g
  exact PT.imp (pt_cmpR (op_ninK h2 h3 h4) ha (pe_glob (v := .ref d) hg h1 rfl hd) hm) fun σ H Q h => tNinK (tTestV h fun r d r' e => ninK_bool e)
theorem pv_ixK (g : GKD X.K X.w X.mg x t) (ha : PV X fa W a f) (hs : PlainIx a) (hg : Gl X x := by rfl) (hd : (x == ("__debug__" : Str)) = false := by decide) : PV X fa W (.Subscript (.Name x p) a pos) (mapM1 (ixK t) f) := by
  obtain ⟨d, es, n, h1, h2, h3, h4⟩ := g
  exact PE.imp (pe_ix ix_kdict (pe_glob (v := .ref d) hg h1 rfl hd) ha hs) fun σ H Q ⟨F, B, O, r, R, h⟩ => ⟨F, B, O, r, R, (Aft.bind h).mono fun d1 r1 O1 σ1 H1 _ R1 _ ⟨_, _, q⟩ es v x => by
    subst es
    cases d1 with
    | str s =>
      cases x
      unfold ixK at q
      cases hz : t.lookup s with
      | none => simp only [hz, Option.map_none] at q; exact False.elim q
      | some i =>
        simp only [hz, Option.map_some] at q
        obtain ⟨tk, e⟩ := (nsIn_ent h2 h4 s).2 i hz
        exact ⟨d, s, .int i, rfl, rfl, ⟨_, n, _, h2, h4.lit, e, ⟨tk, rfl⟩⟩, q O1 _ H1 R1 Ext.refl rfl _ (.int _)⟩
    | _ => exact False.elim q⟩
end
end DL

namespace DL
open PySem PySem.Spec PyProof.Rows L2
/-! ### held against the empty tuple, whatever lies in it -/
def eqE : D → D → Option D
  | .tuple xs, .tuple [] => some (.bool xs.isEmpty)
  | _, _ => none
section
variable {X : Cx}
theorem od_eqE {k : Nat} (hr : Room k X.A) : OpD X (compareOp .Eq) eqE := by
  intro pins s σ H x y v u Q I rx ry ⟨d, e, z, dx, dy, eg, k⟩
  have hu := hr.units0
  unfold eqE at eg
  split at eg
  · rename_i xs
    cases eg
    obtain ⟨a, rfl⟩ := dx.isRef
    cases rx
    obtain ⟨a2, rfl⟩ := dy.isRef
    cases ry
    obtain ⟨vs, q, t⟩ := SqT.ofD dx
    obtain ⟨its, rv, pl, _⟩ := I.tuple q
    obtain ⟨vs2, q2, t2⟩ := SqT.ofD dy
    obtain ⟨its2, rv2, pl2, _⟩ := I.tuple q2
    have l1 : its.length = xs.length := by rw [← rv.length, t.length]
    have l2 : its2 = [] := by
      have h := rv2.length
      rw [t2.length] at h
      exact List.eq_nil_of_length_eq_zero h.symm
    subst l2
    refine PySem.SeqAt.eq_tupleAt (e := fun _ => true) pl pl2 hu (fun j h1 h2 => absurd h2 (by simp)) ?_
    have hb : ((List.range (min its.toArray.size ([] : List Value).toArray.size)).all (fun _ => true) && its.toArray.size == ([] : List Value).toArray.size) = xs.isEmpty := by
      simp only [List.size_toArray, List.length_nil, Nat.min_zero, List.range_zero, List.all_nil, Bool.true_and, l1]
      cases xs <;> rfl
    rw [hb]
    exact EP.bl I (P := fun B => True) fun v H' S g => k v H' S fun B tb a b => g B tb trivial
  · cases eg
theorem bg_eqE : BoolG eqE := by
  intro x y z h
  unfold eqE at h
  split at h
  · cases h; exact ⟨_, rfl⟩
  · cases h
end
/-! ### the whole part by any divisor above nought within 2000 bits -/
def fdivX : D → D → Option D := fun x y => match x, y with
  | .int i, .int j => if 0 < j ∧ j.natAbs < 2 ^ 2000 then some (.int (i / j)) else none
  | _, _ => none
theorem od_fdivX {X : Cx} : OpD X (binaryOp .FloorDiv) fdivX := by
  intro pins s σ H x y v u Q I rx ry ⟨d, e, z, dx, dy, eg, k⟩
  unfold fdivX at eg
  split at eg
  · split at eg
    · rename_i hc
      cases eg
      cases dx
      cases dy
      exact op_fdivW pins s σ H _ _ v u Q I rx ry ⟨_, _, rfl, rfl, wide_div hc.1 hc.2 (by decide) (by decide), k _ H (fun _ _ q => q) fun B _ _ _ => .int _⟩
    · cases eg
  · cases eg
end DL

namespace DL
open PySem PySem.Spec PyProof.Rows L2
/-! ### list(range(n)) -/
theorem vals_ints {P : Nat → Value → Prop} (f : Nat → V) (hf : ∀ j v, P j v → RelV (f j) v) : ∀ (l : List Value) (k : Nat), (∀ j v, l[j]? = some v → P (k + j) v) → Vals ((List.range' k l.length).map f) l
  | [], _, _ => .nil
  | v :: l, k, h => by
    rw [List.length_cons, List.range'_succ, List.map_cons]
    refine .cons (hf k v (by simpa using h 0 v rfl)) ?_
    refine vals_ints f hf l (k + 1) fun j u hu => ?_
    have := h (j + 1) u (by simpa using hu)
    rwa [show k + (j + 1) = k + 1 + j by omega] at this
def tLRange (ta : TE) : TE := fun σ H Q => ta σ H fun x H1 => ∃ n : Nat, x = V.int (n : Nat) ∧ n ≤ sizeLine ∧ ∀ p, H1 p = none → Q (.ref p) (upd H1 p (.lst ((List.range n).map fun i => V.int (i : Nat))))
section
variable {X : Cx} {fa : Nat → Addr} {W : Wi} {a : Expr} {f : M D} {p p2 q pos : Pos}
theorem pe_lrange {ta : TE} (hc : X.calm = true) (hg : Gl X "list") (hm : X.mg "list" = none) (hg2 : Gl X "range") (hm2 : X.mg "range" = none) (ha : PE X a ta)
    (na : starEach [a] X.env = (false, eval a X.env) :: starEach [] X.env := by rfl) : PE X (.Call (.Name "list" p) [.Call (.Name "range" p2) [a] [] q] [] pos) (tLRange ta) := by
  refine ⟨fun pins s σ H Q I h => ?_⟩
  refine Call_ (ld_blt I hg hm PyProof.Rows.boot_list ?_)
  refine PyProof.Rows.callWith_type1 (PyProof.Rows.args_cons ?_ rfl) rfl rfl
  refine Call_ (ld_blt I hg2 hm2 boot_range ?_)
  refine PyProof.Rows.callWith_type1 (PyProof.Rows.args_cons (thn (ha.run pins s σ H _ I h) fun v s1 ⟨x, H1, I1, r1, q1⟩ => PyProof.Rows.args_nil ?_) na) na rfl
  obtain ⟨n, rfl, hn, q1⟩ := q1
  obtain ⟨t, rfl⟩ := r1
  have hl : sizeLine = 2 ^ 24 := sizeLine_eq
  refine call_range_1 (PyProof.Rows.args_nil ?_)
  have I2 : Inv X pins σ H1 { s1 with heap := s1.heap.push { cls := .type "range", data := .fields #[.int 0 s1.toks, .int (n : Nat) t, .int 1 (s1.toks + 1)] }, toks := s1.toks + 1 + 1 } := I1.kept fun b o e => Heap.get?_push_of_some _ e
  refine call_list_range (n := n) (I1.ok.hd hc) (IsRange.new ..) (small_one (by decide) (by decide) (by omega) (by omega)) (by rw [rangeSize_one]; split <;> omega) (by omega) fun h' tk acc' c' hk hS hacc => ?_
  have rv : Vals ((List.range n).map fun i => V.int (i : Nat)) acc'.toList := by
    have := vals_ints (P := fun i v => ∃ t, v = .int (0 + (i : Int) * 1) t) (fun i => V.int (i : Nat)) (fun j v ⟨t, e⟩ => ⟨t, by rw [e]; simp⟩) acc'.toList 0 (fun j v hv => by
      rw [Nat.zero_add]
      exact hacc.2 j v (by simpa using hv))
    rw [← List.range_eq_range', Array.length_toList, hacc.1] at this
    exact this
  refine ⟨.ref _, upd H1 (s1.heap.push { cls := .type "range", data := .fields #[.int 0 s1.toks, .int (n : Nat) t, .int 1 (s1.toks + 1)] }).objs.size (.lst ((List.range n).map fun i => V.int (i : Nat))), I2.laid (t' := tk) (fun b o e => hk b o e) (Nat.le_refl _) ⟨by rw [List.length_map, List.length_range]; exact hn, acc'.toList, c', rv, by simpa using hS⟩, rfl, q1 _ (I2.hok.fresh (Nat.le_refl _))⟩
theorem dvs_nats {K : PySem.W.Frag} {H : Hp} {B : Addr → Prop} (f : Nat → Int) : ∀ ks : List Nat, DVs K H B (ks.map fun i => V.int (f i)) (ks.map fun i => PyData.int (f i))
  | [] => .nil
  | k :: ks => .cons (.int _) (dvs_nats f ks)
def lrangeG : D → Option D
  | .int i => if 0 ≤ i ∧ i ≤ sizeLine then some (.list (rangeL 0 i.toNat)) else none
  | _ => none
theorem pv_lrange (hc : X.calm = true) (hm : X.mg "list" = none) (hm2 : X.mg "range" = none) (ha : PV X fa W a f) (hg : Gl X "list" := by rfl) (hg2 : Gl X "range" := by rfl)
    (na : starEach [a] X.env = (false, eval a X.env) :: starEach [] X.env := by rfl) : PV X fa W (.Call (.Name "list" p) [.Call (.Name "range" p2) [a] [] q] [] pos) (mapM1 lrangeG f) :=
  PE.imp (pe_lrange hc hg hm hg2 hm2 ha na) fun σ H Q ⟨F, B, O, r, R, h⟩ => ⟨F, B, O, r, R, (Aft.bind h).mono fun d r1 O1 σ1 H1 _ R1 e1 ⟨_, _, qq⟩ es v x => by
    subst es
    cases d with
    | int i =>
      cases x
      simp only [lrangeG] at qq
      split at qq
      · rename_i hi
        refine ⟨i.toNat, by rw [Int.toNat_of_nonneg hi.1], by omega, fun p n => ?_⟩
        have S := same_fresh (o := .lst ((List.range i.toNat).map fun i => V.int (i : Nat))) n
        refine qq O1 _ _ (R1.same S) (Ext.same S) rfl _ (.lst (.inl upd_same) (fun z => R1.trk p z n) ?_)
        have e : rangeL 0 i.toNat = (List.range i.toNat).map fun i => PyData.int ((i : Nat) : Int) := by
          unfold rangeL
          simp
        rw [e]
        exact dvs_nats (fun i => ((i : Nat) : Int)) _
      · exact False.elim qq
    | _ => exact False.elim qq⟩
/-! ### x.bit_length() -/
def bitsG : D → Option D
  | .int i => some (.int (Builtin.Int.intBits i : Nat))
  | _ => none
theorem pv_bits {o : Expr} {apos : Pos} (ho : PV X fa W o f) (hbase : attributeBase o "bit_length" X.env (eval o X.env) = eval o X.env := by rfl) (hline : (apos.endLine == pos.line) = true := by rfl) :
    PV X fa W (.Call (.Attribute o "bit_length" apos) [] [] pos) (mapM1 bitsG f) :=
  PE.imp (pe_bits ho hbase hline) fun σ H Q ⟨F, B, O, r, R, h⟩ => ⟨F, B, O, r, R, (Aft.bind h).mono fun d r1 O1 σ1 H1 _ R1 e1 ⟨_, _, qq⟩ es v x => by
    subst es
    cases d with
    | int i =>
      cases x
      exact ⟨i, rfl, qq O1 _ H1 R1 Ext.refl rfl _ (.int _)⟩
    | _ => exact False.elim qq⟩
end
/-! ### xs[lo:hi:k] of a list -/
def pickD {α : Type} (xs : List α) (lo hi st : Option Int) : List α := (sliceRange (sliceBounds lo hi st xs.length).1 (sliceBounds lo hi st xs.length).2.1 (sliceBounds lo hi st xs.length).2.2).filterMap (xs[·]?)
theorem slicePick_list (its : List Value) (lo hi st : Option Int) : slicePick its.toArray lo hi st = (pickD its lo hi st).toArray := by
  unfold slicePick pickD
  rw [List.size_toArray]
  congr 1
  simp
theorem pickD_le {α : Type} (xs : List α) (lo hi st : Option Int) : ∀ ys : List Value, ys.length = xs.length → (pickD ys lo hi st).length ≤ xs.length := fun ys h => by
  have := slicePick_size_le ys.toArray lo hi st
  rw [slicePick_list, List.size_toArray, List.size_toArray] at this
  omega
theorem Vals.places {xs : List V} {its : List Value} (r : Vals xs its) : ∀ ps : List Nat, Vals (ps.filterMap (xs[·]?)) (ps.filterMap (its[·]?))
  | [] => .nil
  | p :: ps => by
    rw [List.filterMap_cons, List.filterMap_cons]
    cases e : xs[p]? with
    | none =>
      rw [r.none_of e]
      exact Vals.places r ps
    | some x =>
      obtain ⟨u, hu, ru⟩ := r.get e
      rw [hu]
      exact .cons ru (Vals.places r ps)
theorem Vals.pick {xs : List V} {its : List Value} (r : Vals xs its) (lo hi st : Option Int) : Vals (pickD xs lo hi st) (pickD its lo hi st) := by
  unfold pickD
  rw [r.length]
  exact Vals.places r _
theorem DVs.places {K : PySem.W.Frag} {H : Hp} {B : Addr → Prop} {xs : List V} {ds : List D} (r : DVs K H B xs ds) : ∀ ps : List Nat, DVs K H B (ps.filterMap (xs[·]?)) (ps.filterMap (ds[·]?))
  | [] => .nil
  | p :: ps => by
    rw [List.filterMap_cons, List.filterMap_cons]
    cases e : ds[p]? with
    | none =>
      have : xs[p]? = none := by
        rw [List.getElem?_eq_none_iff] at e ⊢
        rw [r.length]
        exact e
      rw [this]
      exact DVs.places r ps
    | some x =>
      obtain ⟨u, hu, ru⟩ := r.get e
      rw [hu]
      exact .cons ru (DVs.places r ps)
theorem DVs.pick {K : PySem.W.Frag} {H : Hp} {B : Addr → Prop} {xs : List V} {ds : List D} (r : DVs K H B xs ds) (lo hi st : Option Int) : DVs K H B (pickD xs lo hi st) (pickD ds lo hi st) := by
  unfold pickD
  rw [r.length]
  exact DVs.places r _
def slSD (d : D) (lo hi : Option Int) (k : Int) : Option D := match d with
  | .list ds => some (.list (pickD ds lo hi (some k)))
  | _ => none
def slSM (f : M D) (lo hi : SPart) (k : Int) : M D := fun r => (f r).bind fun d r1 => (prtM lo r1).bind fun l r2 => (prtM hi r2).bind fun h r3 => opt (slSD d l h k) r3
def rSlS (K : PySem.W.Frag) (k : Int) : V → Option Int → Option Int → Hp → VK → Prop := fun x lo hi H Q => ∃ a xs, x = V.ref a ∧ SqL K H a xs ∧ ∀ p, H p = none → Q (.ref p) (upd H p (.lst (pickD xs lo hi (some k))))
section
variable {X : Cx} {fa : Nat → Addr} {W : Wi} {e : Expr} {f : M D} {p2 p4 pos : Pos} {lo hi : Option Expr}
theorem pe_sliceS {te : TE} {tl th : TO} {k : Int} {j : Nat} (hk : k ≠ 0) (he : PE X e te) (hl : PO X lo tl) (hu : PO X hi th) : PE X (.Subscript e (.Slice lo hi (some (.Constant (.int k) j p4)) p2) pos) (tSl (rSlS X.K k) te tl th) := by
  refine ⟨fun pins s σ H Q I h => ?_⟩
  refine Subscript_ (thn (he.run pins s σ H _ I h) fun v s1 ⟨x, H1, I1, r1, q1⟩ => ?_)
  refine wpAny_Slice (thn (hl.run pins s1 σ H1 _ I1 q1) fun vl s2 ⟨l, H2, I2, pl, q2⟩ => thn (hu.run pins s2 σ H2 _ I2 q2) fun vu s3 ⟨u, H3, I3, pu, q3⟩ => ?_)
  rw [evalPart_some]
  refine thn ((pe_int (i := k) (j := j) (pos := p4)).run pins s3 σ H3 (fun v H2 => v = .int k ∧ H2 = H3) I3 ⟨rfl, rfl⟩) fun vk s4 ⟨z, H4, I4, rz, ez, eH⟩ => ?_
  subst ez eH
  obtain ⟨tk, rfl⟩ := rz
  obtain ⟨a, xs, rfl, hx, q⟩ := q3
  have I5 : Inv X pins σ H4 { s4 with heap := s4.heap.push { cls := .type "slice", data := .fields #[vl, vu, .int k tk] } } := I4.kept (t' := s4.toks) fun b ob q => Heap.get?_push_of_some _ q
  cases r1
  obtain ⟨its, r, ht, hz⟩ := I5.list hx
  show wpAny (model X.prog X.w) X.A (subscriptTail e (.Slice lo hi (some (.Constant (.int k) j p4)) p2) (.ref a) (.ref s4.heap.objs.size)) (EP X pins σ Q) X.xe { s4 with heap := s4.heap.push { cls := .type "slice", data := .fields #[vl, vu, .int k tk] } }
  refine tail_any (ops := [.ref a, .ref s4.heap.objs.size]) ht.isList.typeIs slot_list_getitem.lookup ?_ (by with_unfolding_all rfl)
  refine wpAny_getItem_list_slice ht.isList (Heap.IsSliceOf.new ..) pl pu (.int k tk) (by simpa using hk) ?_ (by rw [List.size_toArray, ← r.length]; exact hz)
  rw [slicePick_list]
  refine ⟨.ref _, _, I5.laid (t' := s4.toks) (o := .lst (pickD xs l u (some k))) (fun b ob q => Heap.get?_push_of_some _ q) (Nat.le_refl _) ?_, rfl, q _ (I5.hok.fresh (Nat.le_refl _))⟩
  refine ⟨?_, _, 0, Vals.pick r l u (some k), Heap.get?_push_size _ rfl⟩
  have := pickD_le xs l u (some k) its r.length.symm
  have e : (pickD xs l u (some k)).length = (pickD its l u (some k)).length := (Vals.pick r l u (some k)).length
  omega
theorem pv_slS {pl ph : SPart} {k : Int} {j : Nat} (hk : k ≠ 0) (he : PV X fa W e f) (hl : PPt X fa W lo pl) (hh : PPt X fa W hi ph) : PV X fa W (.Subscript e (.Slice lo hi (some (.Constant (.int k) j p4)) p2) pos) (slSM f pl ph k) := by
  refine PE.imp (pe_sliceS hk he hl hh) fun σ H Q ⟨F, B, O, r, R, h⟩ => ?_
  refine ⟨F, B, O, r, R, (Aft.bind h).mono fun d r1 O1 σ1 H1 _ R1 e1 ⟨_, _, h1⟩ es v x => ?_⟩
  subst es
  refine ⟨F, B, O1, r1, R1, (Aft.bind h1).mono fun l r2 O2 σ2 H2 _ R2 e2 ⟨_, _, h2⟩ es => ?_⟩
  subst es
  refine ⟨F, B, O2, r2, R2, (Aft.bind h2).mono fun u r3 O3 σ3 H3 _ R3 e3 ⟨_, _, h3⟩ es => ?_⟩
  subst es
  cases d with
  | list ds =>
    have x3 := (x.ext e2).ext e3
    cases x3 with
    | @lst a xs _ q b t =>
      refine ⟨a, xs, rfl, .inl q, fun p n => ?_⟩
      have S := same_fresh (o := .lst (pickD xs l u (some k))) n
      exact h3 O3 _ _ (R3.same S) (Ext.same S) rfl _ (.lst (.inl upd_same) (fun z => R3.trk p z n) ((t.pick l u (some k)).same S))
  | _ => exact False.elim h3
end
/-! ### sorted(xs), whole numbers -/
def insI (i : Int) : List Int → List Int
  | [] => [i]
  | j :: js => if i ≤ j then i :: j :: js else j :: insI i js
def sortI : List Int → List Int
  | [] => []
  | i :: is => insI i (sortI is)
theorem insI_perm (i : Int) : ∀ js, (insI i js).Perm (i :: js)
  | [] => .refl _
  | j :: js => by
    unfold insI
    split
    · exact .refl _
    · exact ((insI_perm i js).cons j).trans (.swap i j js)
theorem sortI_perm : ∀ is, (sortI is).Perm is
  | [] => .refl _
  | i :: is => (insI_perm i _).trans ((sortI_perm is).cons i)
theorem insI_sorted (i : Int) : ∀ js : List Int, js.Pairwise (· ≤ ·) → (insI i js).Pairwise (· ≤ ·)
  | [], _ => List.pairwise_singleton _ _
  | j :: js, h => by
    unfold insI
    split
    · rename_i hij
      refine List.pairwise_cons.mpr ⟨fun k hk => ?_, h⟩
      rcases List.mem_cons.mp hk with rfl | hk
      · exact hij
      · exact Int.le_trans hij ((List.pairwise_cons.mp h).1 k hk)
    · rename_i hij
      have h' := List.pairwise_cons.mp h
      refine List.pairwise_cons.mpr ⟨fun k hk => ?_, insI_sorted i js h'.2⟩
      rcases List.mem_cons.mp ((insI_perm i js).mem_iff.mp hk) with rfl | hk
      · omega
      · exact h'.1 k hk
theorem sortI_sorted : ∀ is, (sortI is).Pairwise (· ≤ ·)
  | [] => .nil
  | i :: is => insI_sorted i _ (sortI_sorted is)
theorem sorted_unique : ∀ {xs ys : List Int}, xs.Perm ys → xs.Pairwise (· ≤ ·) → ys.Pairwise (· ≤ ·) → xs = ys
  | [], ys, h, _, _ => h.nil_eq
  | x :: xs, [], h, _, _ => absurd h.length_eq (by simp)
  | x :: xs, y :: ys, h, h1, h2 => by
    have a1 := List.pairwise_cons.mp h1
    have a2 := List.pairwise_cons.mp h2
    have e : x = y := by
      have m1 : x ∈ y :: ys := h.mem_iff.mp List.mem_cons_self
      have m2 : y ∈ x :: xs := h.mem_iff.mpr List.mem_cons_self
      rcases List.mem_cons.mp m1 with e | m1
      · exact e
      · rcases List.mem_cons.mp m2 with e | m2
        · exact e.symm
        · have := a1.1 y m2
          have := a2.1 x m1
          omega
    subst e
    exact congrArg (x :: ·) (sorted_unique (List.Perm.cons_inv h) a1.2 a2.2)
def intsD : List D → Option (List Int)
  | [] => some []
  | .int i :: ds => (intsD ds).map (i :: ·)
  | _ :: _ => none
theorem intsD_eq : ∀ {ds : List D} {ns : List Int}, intsD ds = some ns → ds = ns.map PyData.int
  | [], ns, h => by cases h; rfl
  | d :: ds, ns, h => by
    cases d with
    | int i =>
      unfold intsD at h
      cases e : intsD ds with
      | none => rw [e] at h; cases h
      | some ms =>
        rw [e] at h
        cases h
        rw [List.map_cons, intsD_eq e]
    | _ => cases h
def sortedG : List D → Option D
  | [.list ds] => match intsD ds with
    | some ns => some (.list ((sortI ns).map .int))
    | none => none
  | _ => none
section
variable {X : Cx}
theorem dvs_int_of {K : PySem.W.Frag} {H : Hp} {B : Addr → Prop} : ∀ {ns : List Int} {vs : List V}, DVs K H B vs (ns.map PyData.int) → vs = ns.map V.int
  | [], _, .nil => rfl
  | n :: ns, _, .cons (.int _) t => by rw [List.map_cons, dvs_int_of t]
theorem cd_sorted : CallD X (.builtin "sorted") sortedG := by
  intro pins s σ H xs us Q I rv ⟨ds, z, dx, eg, k⟩
  unfold sortedG at eg
  split at eg
  · rename_i es
    split at eg
    · rename_i ns en
      cases eg
      have e := intsD_eq en
      subst e
      cases dx with
      | cons x t =>
        cases t
        cases x with
        | @lst a0 vs0 ds0 q b t =>
          have ev := dvs_int_of t
          subst ev
          refine cr_sortedI pins s σ H _ us Q I rv ⟨_, ns, rfl, .inl q, fun ns' p hp hs hn => ?_⟩
          have e := sorted_unique (hp.trans (sortI_perm ns).symm) hs (sortI_sorted ns)
          subst e
          have S := same_fresh (o := .lst ((sortI ns).map V.int)) hn
          exact k _ _ S fun B tb x1 => .lst (.inl upd_same) (fun z => tb _ z hn) (dvs_ints _)
    · cases eg
  · cases eg
end
end DL

namespace F
open PySem
theorem zip_no_len : typeLookup (.type "zip") "__len__" = pure none := am_miss_of_fast (by decide +kernel)
theorem zip_no_hint : typeLookup (.type "zip") "__length_hint__" = pure none := am_miss_of_fast (by decide +kernel)
end F
namespace DL
open PySem PySem.Spec PyProof.Rows L2
/-! ### list(zip(a, b)) -/
theorem sqL_same {K : PySem.W.Frag} {H H' : Hp} {a : Addr} {xs : List V} (h : SqL K H a xs) (S : Same H H') : SqL K H' a xs := h.imp (fun r => rd_same S r) id
def ZPairs (H0 H : Hp) (S : Addr) (vx vy : List V) (ts : List Addr) : Prop := ∀ (j : Nat) (t : Addr), ts[j]? = some t → H0 t = none ∧ t ≠ S ∧ ∃ x y, vx[j]? = some x ∧ vy[j]? = some y ∧ Rd H t (.tup [x, y])
def ZSt (z TI TO i1 i2 l1 l2 : Addr) (k : Nat) (h : Heap) : Prop := IsPair h TI (.ref i1) (.ref i2) ∧ (∃ a b, IsPair h TO a b) ∧ h.IsListIter i1 l1 k ∧ h.IsListIter i2 l2 k ∧ (IsZip h z TI TO .none ∨ ∃ T f oT, IsZipHeld h z TI TO T f ∧ h.get? T = some oT)
theorem ZSt.keep {z TI TO i1 i2 l1 l2 : Addr} {k : Nat} {h h' : Heap} (st : ZSt z TI TO i1 i2 l1 l2 k h) {S : Addr} (hS : S ∉ [z, TI, TO, i1, i2]) (kp : ∀ b o, b ≠ S → h.get? b = some o → h'.get? b = some o) (hT : ∀ o, h.get? S = some o → ∃ o', h'.get? S = some o') : ZSt z TI TO i1 i2 l1 l2 k h' := by
  simp only [List.mem_cons, List.not_mem_nil, or_false, not_or] at hS
  obtain ⟨n1, n2, n3, n4, n5⟩ := hS
  obtain ⟨a1, ⟨x, y, a2⟩, a3, a4, a5⟩ := st
  refine ⟨kp _ _ (Ne.symm n2) a1, ⟨x, y, kp _ _ (Ne.symm n3) a2⟩, a3.at fun o q => kp _ _ (Ne.symm n4) q, a4.at fun o q => kp _ _ (Ne.symm n5) q, ?_⟩
  rcases a5 with a5 | ⟨T, f, oT, a5, a6⟩
  · exact .inl (kp _ _ (Ne.symm n1) a5)
  · refine .inr ?_
    by_cases e : T = S
    · subst e
      obtain ⟨o', e'⟩ := hT _ a6
      exact ⟨T, f, o', kp _ _ (Ne.symm n1) a5, e'⟩
    · exact ⟨T, f, oT, kp _ _ (Ne.symm n1) a5, kp _ _ e a6⟩
section
variable {X : Cx} {pins : List (Addr × Obj)} {σ : L2.St} {A : Around} {R : Result → Shared → Prop}
/-- one more pair -/
theorem zip_item {z TI TO i1 i2 l1 l2 : Addr} {k : Nat} {s : Shared} {E : Value → Shared → Prop} {H : Hp} {vx vy : List V} {x y : V} {Q : Option Value → Shared → Prop} (D : ZipApart z TI TO i1 i2 l1 l2) (I : Inv X pins σ H s) (hx : SqL X.K H l1 vx) (hy : SqL X.K H l2 vy)
    (hf : ∀ c ∈ [z, TI, TO, i1, i2], FpOk X pins H c) (st : ZSt z TI TO i1 i2 l1 l2 k s.heap) (ex : vx[k]? = some x) (ey : vy[k]? = some y)
    (hQ : ∀ h', Inv X pins σ (upd H s.heap.objs.size (.tup [x, y])) { s with heap := h' } → ZSt z TI TO i1 i2 l1 l2 (k + 1) h' → (∀ c o, c ∉ [z, TI, TO, i1, i2] → s.heap.get? c = some o → h'.get? c = some o) → Q (some (.ref s.heap.objs.size)) { s with heap := h' }) :
    wpAny (model X.prog X.w) A (pyNext (.ref z)) Q E s := by
  obtain ⟨hTI, ⟨a, b, hTO⟩, h1, h2, hz⟩ := st
  obtain ⟨its, rv, p, _⟩ := I.list hx
  obtain ⟨its2, rv2, p2, _⟩ := I.list hy
  obtain ⟨u, hu, ru⟩ := rv.get ex
  obtain ⟨u2, hu2, ru2⟩ := rv2.get ey
  have new : ∀ h' : Heap, IsPair h' s.heap.objs.size u u2 → ObjOk X.prog X.w (upd H s.heap.objs.size (.tup [x, y])) h' s.heap.objs.size (.tup [x, y]) := fun h' hT =>
    ⟨by show 2 ≤ sizeLine; decide, [u, u2], .cons ru (.cons ru2 .nil), ⟨_, hT, rfl, _, rfl⟩⟩
  rcases hz with hz | ⟨T, f, oT, hz, hoT⟩
  · refine wpAny_pyNext_zip_item D hz hTI hTO h1 h2 p.isList p2.isList (by simpa using hu) (by simpa using hu2) fun h' z' TO' h1' h2' hT hsz hk => ?_
    have kp : ∀ c o, c ∉ [z, TI, TO, i1, i2] → s.heap.get? c = some o → h'.get? c = some o := fun c o hc q => by
      simp only [List.mem_cons, List.not_mem_nil, or_false, not_or] at hc
      exact hk c o hc.1 hc.2.2.1 hc.2.2.2.1 hc.2.2.2.2 q
    exact hQ h' (I.turnedNew (t' := s.toks) (ch := [z, TI, TO, i1, i2]) kp hf (Nat.le_refl _) (new h' hT)) ⟨hk _ _ D.TIz D.TITO D.TIi1 D.TIi2 hTI, ⟨_, _, TO'⟩, h1', h2', .inr ⟨_, false, _, z', hT⟩⟩ kp
  · refine wpAny_pyNext_zip_item_held D hz hoT hTI h1 h2 p.isList p2.isList (by simpa using hu) (by simpa using hu2) fun h' z' h1' h2' hT hsz hk => ?_
    have kp : ∀ c o, c ∉ [z, TI, TO, i1, i2] → s.heap.get? c = some o → h'.get? c = some o := fun c o hc q => by
      simp only [List.mem_cons, List.not_mem_nil, or_false, not_or] at hc
      exact hk c o hc.1 hc.2.2.2.1 hc.2.2.2.2 q
    have oT' : ∃ o', h'.get? T = some o' := by
      by_cases e1 : T = z
      · exact ⟨_, by rw [e1]; exact z'⟩
      · by_cases e2 : T = i1
        · obtain ⟨o1, q, _⟩ := h1'
          exact ⟨o1, by rw [e2]; exact q⟩
        · by_cases e3 : T = i2
          · obtain ⟨o1, q, _⟩ := h2'
            exact ⟨o1, by rw [e3]; exact q⟩
          · exact ⟨_, hk _ _ e1 e2 e3 hoT⟩
    obtain ⟨o', hoT'⟩ := oT'
    exact hQ h' (I.turnedNew (t' := s.toks) (ch := [z, TI, TO, i1, i2]) kp hf (Nat.le_refl _) (new h' hT)) ⟨hk _ _ D.TIz D.TIi1 D.TIi2 hTI, ⟨a, b, hk _ _ D.TOz D.TOi1 D.TOi2 hTO⟩, h1', h2', .inr ⟨T, true, o', z', hoT'⟩⟩ kp
theorem zip_end {z TI TO i1 i2 l1 l2 : Addr} {k : Nat} {s : Shared} {E : Value → Shared → Prop} {H : Hp} {vx vy : List V} {Q : Option Value → Shared → Prop} (hh : A.handled = none) (D : ZipApart z TI TO i1 i2 l1 l2) (I : Inv X pins σ H s) (hx : SqL X.K H l1 vx) (hy : SqL X.K H l2 vy)
    (hf : ∀ c ∈ [z, TI, TO, i1, i2], FpOk X pins H c) (st : ZSt z TI TO i1 i2 l1 l2 k s.heap) (he : vx[k]? = none ∨ vy[k]? = none)
    (hQ : ∀ h', Inv X pins σ H { s with heap := h' } → Q none { s with heap := h' }) :
    wpAny (model X.prog X.w) A (pyNext (.ref z)) Q E s := by
  obtain ⟨hTI, ⟨a, b, hTO⟩, h1, h2, hz⟩ := st
  obtain ⟨its, rv, p, _⟩ := I.list hx
  obtain ⟨its2, rv2, p2, _⟩ := I.list hy
  have he' : its.toArray[k]? = none ∨ its2.toArray[k]? = none := by
    rcases he with q | q
    · exact .inl (by simpa using rv.none_of q)
    · exact .inr (by simpa using rv2.none_of q)
  rcases hz with hz | ⟨T, f, oT, hz, hoT⟩
  · refine wpAny_pyNext_zip_end hh D hz hTI hTO h1 h2 p.isList p2.isList he' fun h' hk => hQ h' (I.turnedL (t' := s.toks) (ch := [z, TI, TO, i1, i2]) (fun c o hc q => ?_) hf)
    simp only [List.mem_cons, List.not_mem_nil, or_false, not_or] at hc
    exact hk c o hc.1 hc.2.2.1 hc.2.2.2.1 hc.2.2.2.2 q
  · refine wpAny_pyNext_zip_end_held hh D hz hoT hTI h1 h2 p.isList p2.isList he' fun h' hk => hQ h' (I.turnedL (t' := s.toks) (ch := [z, TI, TO, i1, i2]) (fun c o hc q => ?_) hf)
    simp only [List.mem_cons, List.not_mem_nil, or_false, not_or] at hc
    exact hk c o hc.1 hc.2.2.2.1 hc.2.2.2.2 q
theorem ZSt.obj {z TI TO i1 i2 l1 l2 : Addr} {k : Nat} {h : Heap} (st : ZSt z TI TO i1 i2 l1 l2 k h) : ∀ c ∈ [z, TI, TO, i1, i2], ∃ o, h.get? c = some o := by
  obtain ⟨hTI, ⟨a, b, hTO⟩, ⟨o1, q1, _⟩, ⟨o2, q2, _⟩, hz⟩ := st
  intro c hc
  simp only [List.mem_cons, List.not_mem_nil, or_false] at hc
  rcases hc with rfl | rfl | rfl | rfl | rfl
  · rcases hz with hz | ⟨T, f, oT, hz, _⟩
    · exact ⟨_, hz⟩
    · exact ⟨_, hz⟩
  · exact ⟨_, hTI⟩
  · exact ⟨_, hTO⟩
  · exact ⟨_, q1⟩
  · exact ⟨_, q2⟩
theorem zip_loop {z TI TO i1 i2 l1 l2 S : Addr} {H0 : Hp} {vx vy : List V} (hh : A.handled = none) (D : ZipApart z TI TO i1 i2 l1 l2) (res : Value) (hx : SqL X.K H0 l1 vx) (hy : SqL X.K H0 l2 vy) (hSn : S ∉ [z, TI, TO, i1, i2]) :
    ∀ (m k : Nat) (s : Shared) (H : Hp) (ts : List Addr), min vx.length vy.length - k = m → k ≤ min vx.length vy.length → Inv X pins σ H s → Same H0 H → H S = some (.lst (ts.map V.ref)) → ts.length = k → ZPairs H0 H S vx vy ts →
      (∀ c ∈ [z, TI, TO, i1, i2], FpOk X pins H c) → ZSt z TI TO i1 i2 l1 l2 k s.heap → H0 S = none →
      (∀ s' H' ts', Inv X pins σ H' s' → Same H0 H' → H' S = some (.lst (ts'.map V.ref)) → ts'.length = min vx.length vy.length → ZPairs H0 H' S vx vy ts' → R (.ok (.ret res)) s') →
      codeAny (model X.prog X.w) A (.builtin "list.extend.loop" ⟨[.ref S, .ref z, res], []⟩) R s := by
  intro m
  induction m with
  | zero =>
    intro k s H ts hm hk I Sm hS hl hP hf st hS0 hR
    refine codeAny_builtin F.entry_extend_loop ?_
    rw [Around.under_plainId F.plain_extend_loop _]
    show wpAny _ A.in1 (pyNext (.ref z) >>= _) _ _ s
    refine wpAny_bind (zip_end (k := k) (A := A.in1) hh D I (sqL_same hx Sm) (sqL_same hy Sm) hf st (by
      rw [List.getElem?_eq_none_iff, List.getElem?_eq_none_iff]
      omega) fun h' I' => ?_)
    exact wpAny_pure (hR _ H ts I' Sm hS (by omega) hP)
  | succ m ih =>
    intro k s H ts hm hk I Sm hS hl hP hf st hS0 hR
    have hkx : k < vx.length := by omega
    have hky : k < vy.length := by omega
    have ex : vx[k]? = some vx[k] := List.getElem?_eq_getElem hkx
    have ey : vy[k]? = some vy[k] := List.getElem?_eq_getElem hky
    obtain ⟨_, _, _, hzx⟩ := I.list (sqL_same hx Sm)
    refine codeAny_builtin F.entry_extend_loop ?_
    rw [Around.under_plainId F.plain_extend_loop _]
    show wpAny _ A.in1 (pyNext (.ref z) >>= _) _ _ s
    refine wpAny_bind (zip_item (k := k) (A := A.in1) D I (sqL_same hx Sm) (sqL_same hy Sm) hf st ex ey fun h' I' st' kp => ?_)
    have hTn : H s.heap.objs.size = none := I.hok.fresh (Nat.le_refl _)
    have hST : S ≠ s.heap.objs.size := fun e => by rw [← e, hS] at hTn; cases hTn
    have hS' : upd H s.heap.objs.size (.tup [vx[k], vy[k]]) S = some (.lst (ts.map V.ref)) := by rw [upd_ne hST]; exact hS
    obtain ⟨its, n, rv, ho, hz⟩ := I'.lst hS'
    have hlen : its.length = k := by
      have := rv.length
      rw [List.length_map] at this
      omega
    show wpAny _ A.in1 (updateSeq S (·.push (.ref s.heap.objs.size)) >>= _) _ _ _
    refine wpAny_bind ?_
    have eT : (ts.map V.ref) ++ [V.ref s.heap.objs.size] = (ts ++ [s.heap.objs.size]).map V.ref := by rw [List.map_append]; rfl
    have I2 := I'.lset (t' := s.toks) (ys := ts.map V.ref ++ [V.ref s.heap.objs.size]) (its' := its ++ [.ref s.heap.objs.size]) (f := (·.push (.ref s.heap.objs.size))) hS' ho (by simp) (rv.append (show Vals [V.ref s.heap.objs.size] [Value.ref s.heap.objs.size] from .cons rfl .nil)) (by rw [List.length_append, List.length_map, List.length_singleton]; omega)
    rw [eT] at I2
    have Sm1 : Same H (upd H s.heap.objs.size (.tup [vx[k], vy[k]])) := fun b u q => by rw [upd_ne (ne_of_none q hTn)]; exact q
    have Sm2 : Same H0 (upd (upd H s.heap.objs.size (.tup [vx[k], vy[k]])) S (.lst ((ts ++ [s.heap.objs.size]).map V.ref))) := fun b u q => by
      rw [upd_ne (ne_of_none q hS0)]
      exact Sm1 b u (Sm b u q)
    have upS : ∀ b o, b ≠ S → h'.get? b = some o → (h'.update S (Obj.mapSeq (·.push (.ref s.heap.objs.size)))).get? b = some o := fun b o hb q => (Heap.get?_update_other _ _ (Ne.symm hb)).trans q
    have rd2 : ∀ t u, t ≠ S → Rd (upd H s.heap.objs.size (.tup [vx[k], vy[k]])) t u → Rd (upd (upd H s.heap.objs.size (.tup [vx[k], vy[k]])) S (.lst ((ts ++ [s.heap.objs.size]).map V.ref))) t u := fun t u ht q => by
      rcases q with q | ⟨o, q⟩
      · exact .inl (by rw [upd_ne ht]; exact q)
      · exact .inr ⟨o, by rw [upd_ne ht]; exact q⟩
    refine wpAny_updateSeq ho rfl (wpAny_pure ⟨plainId_quiet F.plain_extend_loop _, ih (k + 1) _ _ (ts ++ [s.heap.objs.size]) (by omega) (by omega) I2 Sm2 upd_same (by rw [List.length_append, List.length_singleton, hl]) ?_ (fun c hc => ?_) (st'.keep hSn upS fun _ _ => ⟨_, Heap.get?_update_self _ ho rfl⟩) hS0 hR⟩)
      (by rw [List.size_toArray, hlen]; omega) (by show (Array.push _ _).size ≤ _; rw [Array.size_push, List.size_toArray, hlen]; omega)
    · intro j t hj
      rcases Nat.lt_or_ge j ts.length with hlt | hge
      · rw [List.getElem?_append_left hlt] at hj
        obtain ⟨b1, b2, x, y, b3, b4, b5⟩ := hP j t hj
        exact ⟨b1, b2, x, y, b3, b4, rd2 t _ b2 (rd_same Sm1 b5)⟩
      · rw [List.getElem?_append_right hge] at hj
        have ej : j - ts.length = 0 := by
          cases h : j - ts.length with
          | zero => rfl
          | succ q => rw [h] at hj; simp at hj
        rw [ej] at hj
        cases hj
        have ek : j = k := by omega
        subst ek
        refine ⟨?_, Ne.symm hST, _, _, ex, ey, rd2 _ _ (Ne.symm hST) (.inl upd_same)⟩
        cases e : H0 s.heap.objs.size with
        | none => rfl
        | some u => have := Sm _ _ e; rw [hTn] at this; cases this
    · obtain ⟨o, ho⟩ := st.obj c hc
      have c1 : c ≠ s.heap.objs.size := Nat.ne_of_lt (Heap.lt_size ho)
      have c2 : c ≠ S := fun e => hSn (e ▸ hc)
      exact ⟨by rw [upd_ne c2, upd_ne c1]; exact (hf c hc).1, (hf c hc).2⟩
theorem zst_keep {z TI TO i1 i2 l1 l2 : Addr} {k : Nat} {h h' : Heap} (st : ZSt z TI TO i1 i2 l1 l2 k h) (kp : ∀ b o, h.get? b = some o → h'.get? b = some o) : ZSt z TI TO i1 i2 l1 l2 k h' := by
  obtain ⟨a1, ⟨x, y, a2⟩, a3, a4, a5⟩ := st
  refine ⟨kp _ _ a1, ⟨x, y, kp _ _ a2⟩, a3.at fun o q => kp _ _ q, a4.at fun o q => kp _ _ q, ?_⟩
  rcases a5 with a5 | ⟨T, f, oT, a5, a6⟩
  · exact .inl (kp _ _ a5)
  · exact .inr ⟨T, f, oT, kp _ _ a5, kp _ _ a6⟩
theorem list_zip {z TI TO i1 i2 l1 l2 : Addr} {s : Shared} {E : Value → Shared → Prop} {H : Hp} {vx vy : List V} {Q : Value → Shared → Prop} (hh : A.handled = none) (D : ZipApart z TI TO i1 i2 l1 l2) (I : Inv X pins σ H s) (hx : SqL X.K H l1 vx) (hy : SqL X.K H l2 vy)
    (hf : ∀ c ∈ [z, TI, TO, i1, i2], FpOk X pins H c) (hz : IsZip s.heap z TI TO .none) (st : ZSt z TI TO i1 i2 l1 l2 0 s.heap)
    (hQ : ∀ s' H' ts', Inv X pins σ H' s' → Same H H' → H' s.heap.objs.size = some (.lst (ts'.map V.ref)) → ts'.length = min vx.length vy.length → ZPairs H H' s.heap.objs.size vx vy ts' → Q (.ref s.heap.objs.size) s') :
    wpAny (model X.prog X.w) A (call (.type "list") [.ref z]) Q E s := by
  refine callType_codes (Q₁ := fun obj s₁ => obj = .ref s.heap.objs.size ∧ s₁ = { s with heap := s.heap.push { cls := .type "list", data := .seq #[] } }) F.called_list (F.typeCall_list_1 _) F.entry_list_init
    (code_list_new _ ⟨rfl, rfl⟩) fun obj s₁ h₁ => ?_
  obtain ⟨rfl, rfl⟩ := h₁
  have hS : (s.heap.push { cls := .type "list", data := .seq #[] }).get? s.heap.objs.size = some { cls := .type "list", data := .seq #[] } := Heap.get?_push_size _ rfl
  refine ⟨⟨_, hS, rfl⟩, F.args_list_init_2 _ _, ?_⟩
  have kp0 : ∀ b o, s.heap.get? b = some o → (s.heap.push { cls := .type "list", data := .seq #[] }).get? b = some o := fun b o q => Heap.get?_push_of_some _ q
  have neS : ∀ b o, s.heap.get? b = some o → b ≠ s.heap.objs.size := fun b o q => Nat.ne_of_lt (Heap.lt_size q)
  have hSn : s.heap.objs.size ∉ [z, TI, TO, i1, i2] := fun hm => by
    obtain ⟨o, ho⟩ := st.obj _ hm
    exact absurd (Heap.lt_size ho) (Nat.lt_irrefl _)
  show wpAny _ A.in1.in1 (do let old ← Builtin.List.listItems (.ref s.heap.objs.size); Builtin.List.listUpdate (.ref s.heap.objs.size) (fun _ => #[]); letGo old.toList.reverse; Builtin.List.listExtendWith (.ref s.heap.objs.size) (.ref z) .none) _ _ _
  refine wpAny_bind ?_
  unfold Builtin.List.listItems
  refine wpAny_bind (wpAny_seqItems hS rfl (wpAny_pure ?_))
  show wpAny _ _ (updateSeq s.heap.objs.size (fun _ => #[]) >>= fun _ => letGo (#[] : Array Value).toList.reverse >>= fun _ => Builtin.List.listExtendWith (.ref s.heap.objs.size) (.ref z) .none) _ _ _
  refine wpAny_bind (wpAny_updateSeq hS rfl ?_)
  have hS₂ := Heap.get?_update_self (Obj.mapSeq (fun _ => (#[] : Array Value))) hS rfl
  have kp1 : ∀ b o, s.heap.get? b = some o → ((s.heap.push { cls := .type "list", data := .seq #[] }).update s.heap.objs.size (Obj.mapSeq (fun _ => (#[] : Array Value)))).get? b = some o :=
    fun b o e => (Heap.get?_update_other _ _ (Ne.symm (neS b o e))).trans (kp0 b o e)
  refine wpAny_bind (wpAny_letGo ?_)
  unfold Builtin.List.listExtendWith
  have hz1 := kp1 _ _ hz
  refine wpAny_bind (wpAny_typeOf (T := "zip") ⟨_, hz1, rfl⟩ ?_)
  have hSz : s.heap.objs.size ≠ z := fun e => hSn (by rw [e]; simp)
  have h1 : Builtin.List.listSameRef (.ref s.heap.objs.size) (.ref z) = false := by simp [Builtin.List.listSameRef, hSz]
  have h2 : (Value.type "zip" == Value.type "list") = false := by decide
  have h3 : (Value.type "zip" == Value.type "tuple") = false := by decide
  simp only [h1, h2, h3, Bool.or_false, Bool.false_eq_true, if_false]
  refine wpAny_bind (wpAny_pyIter_zip hz1 ?_)
  refine wpAny_bind (wpAny_holding ?_)
  unfold Builtin.List.listLengthHint
  refine wpAny_bind (wpAny_specialOf (T := "zip") ⟨_, hz1, rfl⟩ F.zip_no_len ?_)
  refine wpAny_bind (wpAny_specialOf (T := "zip") ⟨_, hz1, rfl⟩ F.zip_no_hint ?_)
  refine wpAny_pure ?_
  show wpAny _ A.in1.in1 (rule "list.extend.makes-room" >>= fun _ => Builtin.List.listTouch (.ref s.heap.objs.size) >>= fun _ =>
    again (.builtin "list.extend.loop" ⟨[.ref s.heap.objs.size, .ref z, .none], []⟩)) _ _ _
  refine wpAny_bind (wpAny_rule ?_)
  refine wpAny_bind ?_
  show wpAny _ _ (updateSeq s.heap.objs.size (·.push .none) >>= fun _ => updateSeq s.heap.objs.size (·.pop)) _ _ _
  refine wpAny_bind (wpAny_updateSeq hS₂ rfl ?_)
  have hS₃ := Heap.get?_update_self (Obj.mapSeq (·.push Value.none)) hS₂ rfl
  refine wpAny_updateSeq (hz := by seq_fits) hS₃ rfl ?_
  have hS₄ := Heap.get?_update_self (Obj.mapSeq (·.pop)) hS₃ rfl
  have kp2 : ∀ b o, s.heap.get? b = some o → ((((s.heap.push { cls := .type "list", data := .seq #[] }).update s.heap.objs.size (Obj.mapSeq (fun _ => (#[] : Array Value)))).update s.heap.objs.size (Obj.mapSeq (·.push Value.none))).update s.heap.objs.size (Obj.mapSeq (·.pop))).get? b = some o :=
    fun b o e => (Heap.get?_update_other _ _ (Ne.symm (neS b o e))).trans ((Heap.get?_update_other _ _ (Ne.symm (neS b o e))).trans (kp1 b o e))
  have hn : H s.heap.objs.size = none := I.hok.fresh (Nat.le_refl _)
  have Sm : Same H (upd H s.heap.objs.size (.lst [])) := fun b u q => by rw [upd_ne (ne_of_none q hn)]; exact q
  refine wpAny_pure ⟨plainId_quiet F.plain_extend_loop _, zip_loop (A := A.in1) hh D .none hx hy hSn (min vx.length vy.length - 0) 0 _ (upd H s.heap.objs.size (.lst [])) [] rfl (Nat.zero_le _)
    (I.laid (t' := s.toks) kp2 (Nat.le_refl _) ⟨by show 0 ≤ _; exact Nat.zero_le _, [], _, .nil, hS₄⟩) Sm upd_same rfl (fun j t h => by simp at h) (fun c hc => ?_) (zst_keep st kp2) hn fun s' H' ts' I' S' hl hlen hp => ⟨rfl, hQ s' H' ts' I' S' hl hlen hp⟩⟩
  obtain ⟨o, ho⟩ := st.obj c hc
  exact ⟨by rw [upd_ne (neS c o ho)]; exact (hf c hc).1, (hf c hc).2⟩
end
def tLZip (K : PySem.W.Frag) (ta : TA) : TE := fun σ H Q => ta σ H fun vs H2 => ∃ l1 l2 vx vy, vs = [V.ref l1, V.ref l2] ∧ SqL K H2 l1 vx ∧ SqL K H2 l2 vy ∧
  ∀ S H' ts, H2 S = none → Same H2 H' → H' S = some (.lst (ts.map V.ref)) → ts.length = min vx.length vy.length → ZPairs H2 H' S vx vy ts → Q (.ref S) H'
section
variable {X : Cx} {fa : Nat → Addr} {W : Wi} {a b : Expr} {f : M (List D)} {p p2 q pos : Pos}
theorem pe_lzip {ta : TA} (hc : X.calm = true) (hg : Gl X "list") (hm : X.mg "list" = none) (hg2 : Gl X "zip") (hm2 : X.mg "zip" = none) (ha : PA X [a, b] ta)
    (hs : starEach [a, b] X.env = (false, eval a X.env) :: starEach [b] X.env := by rfl) (hpl : (backTo q (starEach [b] X.env)).any (·.1) = false := by rfl) :
    PE X (.Call (.Name "list" p) [.Call (.Name "zip" p2) [a, b] [] q] [] pos) (tLZip X.K ta) := by
  refine ⟨fun pins s σ H Q I h => ?_⟩
  refine Call_ (ld_blt I hg hm PyProof.Rows.boot_list ?_)
  refine PyProof.Rows.callWith_type1 (PyProof.Rows.args_cons ?_ rfl) rfl rfl
  refine Call_ (ld_blt I hg2 hm2 PyProof.Rows.boot_zip ?_)
  refine PyProof.Rows.callWith_type1 (thn (ha.run q pins s σ H _ I h) fun us s1 ⟨vs, H1, I1, r1, q1⟩ => ?_) hs hpl
  obtain ⟨l1, l2, vx, vy, rfl, hx, hy, q1⟩ := q1
  cases r1 with
  | cons r rr =>
    cases rr with
    | cons r' rr =>
      cases rr
      cases r
      cases r'
      obtain ⟨its, rv, p1, _⟩ := I1.list hx
      obtain ⟨its2, rv2, p2', _⟩ := I1.list hy
      refine call_zip_2 p1.isList p2'.isList fun h' hz hTI hTO h1 h2 hsz hk => PyProof.Rows.args_nil ?_
      have I2 : Inv X pins σ H1 { s1 with heap := h' } := I1.kept (t' := s1.toks) hk
      refine list_zip (I1.ok.hd hc) (PySem.W.ktu_apart s1.heap.objs.size l1 l2 p1.lt p2'.lt) I2 hx hy (fun c hcm => ?_) hz ⟨hTI, ⟨_, _, hTO⟩, h1, h2, .inl hz⟩ fun s' H' ts' I' S' hl hlen hp => ?_
      · have e' : c = s1.heap.objs.size + 4 ∨ c = s1.heap.objs.size + 2 ∨ c = s1.heap.objs.size + 3 ∨ c = s1.heap.objs.size ∨ c = s1.heap.objs.size + 1 := by simpa using hcm
        have hle : s1.heap.objs.size ≤ c := by
          rcases e' with z | z | z | z | z
          · rw [z]; exact Nat.le_add_right _ _
          · rw [z]; exact Nat.le_add_right _ _
          · rw [z]; exact Nat.le_add_right _ _
          · rw [z]; exact Nat.le_refl _
          · rw [z]; exact Nat.le_add_right _ _
        exact I1.fpOk hle (I1.hok.fresh hle)
      · exact ⟨.ref _, H', I', rfl, q1 _ H' ts' (I2.hok.fresh (Nat.le_refl _)) S' hl hlen hp⟩
def lzipG : List D → Option D
  | [.list xs, .list ys] => some (.list ((xs.zip ys).map fun p => .tuple [p.1, p.2]))
  | _ => none
theorem zpairs_dvs {K : PySem.W.Frag} {B : Addr → Prop} {H0 H : Hp} {S : Addr} (tb : ∀ t, B t → H0 t ≠ none) : ∀ {vx vy : List V} {xs ys : List D} {ts : List Addr}, DVs K H B vx xs → DVs K H B vy ys → ts.length = min vx.length vy.length → ZPairs H0 H S vx vy ts →
    DVs K H B (ts.map V.ref) ((xs.zip ys).map fun p => PyData.tuple [p.1, p.2])
  | [], _, _, _, [], .nil, _, _, _ => .nil
  | [], _, _, _, t :: ts, _, _, hl, _ => by simp at hl
  | x :: vx, [], _, _, [], .cons _ _, .nil, _, _ => .nil
  | x :: vx, [], _, _, t :: ts, _, _, hl, _ => by simp at hl
  | x :: vx, y :: vy, _, _, [], _, _, hl, _ => by simp at hl
  | x :: vx, y :: vy, d :: xs, e :: ys, t :: ts, .cons a1 a2, .cons b1 b2, hl, hp => by
    obtain ⟨h1, h2, x', y', ex, ey, hr⟩ := hp 0 t rfl
    cases ex
    cases ey
    refine .cons (.tup hr (fun z => tb t z h1) (.cons a1 (.cons b1 .nil))) (zpairs_dvs (S := S) tb a2 b2 (by simp only [List.length_cons] at hl; omega) fun j u hj => ?_)
    have := hp (j + 1) u (by simpa using hj)
    simpa using this
theorem pv_lzip (hc : X.calm = true) (hm : X.mg "list" = none) (hm2 : X.mg "zip" = none) (ha : PVs X fa W [a, b] f) (hg : Gl X "list" := by rfl) (hg2 : Gl X "zip" := by rfl)
    (hs : starEach [a, b] X.env = (false, eval a X.env) :: starEach [b] X.env := by rfl) (hpl : (backTo q (starEach [b] X.env)).any (·.1) = false := by rfl) :
    PV X fa W (.Call (.Name "list" p) [.Call (.Name "zip" p2) [a, b] [] q] [] pos) (appM lzipG f) :=
  PE.imp (pe_lzip hc hg hm hg2 hm2 ha hs hpl) fun σ H Q ⟨F, B, O, r, R, h⟩ => ⟨F, B, O, r, R, (Aft.bind h).mono fun ds r1 O1 σ1 H1 _ R1 e1 ⟨_, _, qq⟩ es vs x => by
    subst es
    unfold lzipG at qq
    split at qq
    · rename_i xs ys
      cases x with
      | cons x t =>
        cases t with
        | cons y t =>
          cases t
          cases x with
          | @lst l1 vx _ q1 b1 t1 =>
            cases y with
            | @lst l2 vy _ q2 b2 t2 =>
              refine ⟨l1, l2, vx, vy, rfl, .inl q1, .inl q2, fun S H' ts hS Sm hl hlen hp => ?_⟩
              refine qq O1 _ _ (R1.same Sm) (Ext.same Sm) rfl _ (.lst (.inl hl) (fun z => R1.trk S z hS) (zpairs_dvs (fun t z => R1.trk t z) (t1.same Sm) (t2.same Sm) hlen hp))
    · exact False.elim qq⟩
end
end DL

namespace DL
open PySem PySem.Spec PyProof.Rows L2
/-! ### calls where something may be raised -/
section
variable {X : Cx} {fa : Nat → Addr} {W : Wi} {k n : Nat} {G : Fn} {x : Str} {p pos : Pos} {e : Expr} {es : List Expr} {as : List AS} {kws : List Keyword}
theorem pv_calW (c : Cal X.prog X.w X.K X.mg X.base fa x k n G) (hr : Room k X.A) (hgd : X.A.guards = some []) (ha : PAs X fa W (e :: es) as) (hlen : as.length = n := by rfl) (hg : Gl X x := by rfl) (hdb : (x == ("__debug__" : Str)) = false := by decide)
    (he : starEach (e :: es) X.env = (false, eval e X.env) :: starEach es X.env := by rfl) (hpl : (backTo pos (starEach es X.env)).any (·.1) = false := by rfl) : PV X fa W (.Call (.Name x p) (e :: es) [] pos) (callM G as) := by
  obtain ⟨f, fd, ps, F, hm, kp, hb⟩ := c
  exact pv_call (E := E00) F hr hgd hm kp hb pass0 (fun _ _ _ _ _ _ h => h.elim) ha hlen hg hdb he hpl
theorem pv_cal0W (c : Cal X.prog X.w X.K X.mg X.base fa x k 0 G) (hr : Room k X.A) (hgd : X.A.guards = some []) (hg : Gl X x := by rfl) (hdb : (x == ("__debug__" : Str)) = false := by decide) : PV X fa W (.Call (.Name x p) [] [] pos) (callM G []) := by
  obtain ⟨f, fd, ps, F, hm, kp, hb⟩ := c
  exact pv_call0 (E := E00) F hr hgd hm kp hb pass0 (fun _ _ _ _ _ _ h => h.elim) rfl hg hdb
/-- an exception of the class at C, without fields -/
def xvC (C : Addr) : XV := fun _ _ ds cls d => ds = [] ∧ cls = .ref C ∧ d = none
/-- a def that may raise it -/
def CalX (P : Program) (w : World) (K : PySem.W.Frag) (mg : Str → Option Value) (base : Heap) (fa : Nat → Addr) (C : Addr) (x : Str) (k n : Nat) (G : Fn) : Prop :=
  ∃ (f : Addr) (fd : FuncData) (ps : List Str), FnG P w K mg base (L2.CX P w) k f fd ps (spF K fa (xvC C) n G) ∧ mg x = some (.ref f) ∧ PySem.W.keepIn K (.ref f) = true ∧ Binds K fd ps []
def CalXK (P : Program) (w : World) (K : PySem.W.Frag) (mg : Str → Option Value) (base : Heap) (fa : Nat → Addr) (C : Addr) (x : Str) (k n : Nat) (G : Fn) (ks : List Str) (is : List Nat) : Prop :=
  ∃ (f : Addr) (fd : FuncData) (ps : List Str), FnG P w K mg base (L2.CX P w) k f fd ps (spF K fa (xvC C) n G) ∧ mg x = some (.ref f) ∧ PySem.W.keepIn K (.ref f) = true ∧ KwB K fd ps ks is
theorem pv_calX {C : Addr} {E : XK} (c : CalX X.prog X.w X.K X.mg X.base fa C x k n G) (hx : Passes (L2.CX X.prog X.w) X E) (hr : Room k X.A) (hgd : X.A.guards = some []) (ha : PAs X fa (wOf (xvC C) E) (e :: es) as) (hlen : as.length = n := by rfl) (hg : Gl X x := by rfl) (hdb : (x == ("__debug__" : Str)) = false := by decide)
    (he : starEach (e :: es) X.env = (false, eval e X.env) :: starEach es X.env := by rfl) (hpl : (backTo pos (starEach es X.env)).any (·.1) = false := by rfl) : PV X fa (wOf (xvC C) E) (.Call (.Name x p) (e :: es) [] pos) (callM G as) := by
  obtain ⟨f, fd, ps, F, hm, kp, hb⟩ := c
  exact pv_call (E := E) F hr hgd hm kp hb hx (fun _ _ _ h => h) ha hlen hg hdb he hpl
theorem pv_calXK {C : Addr} {E : XK} {ks : List Str} {is : List Nat} (c : CalXK X.prog X.w X.K X.mg X.base fa C x k n G ks is) (hx : Passes (L2.CX X.prog X.w) X E) (hr : Room k X.A) (hgd : X.A.guards = some []) (ha : PKs X fa (wOf (xvC C) E) kws as) (hlen : (pmut is as).length = n := by rfl) (hg : Gl X x := by rfl)
    (hall : (backToKw pos (keywordEach kws X.env)).all (·.1.isSome) = true := by rfl) (hks : (backToKw pos (keywordEach kws X.env)).filterMap (·.1) = ks := by rfl) (hdb : (x == ("__debug__" : Str)) = false := by decide)
    (hpl : ((backTo pos (starEach [] X.env)).any (·.1) || (backToKw pos (keywordEach kws X.env)).any (·.1.isNone)) = false := by rfl) : PV X fa (wOf (xvC C) E) (.Call (.Name x p) [] kws pos) (callKM G is as) := by
  obtain ⟨f, fd, ps, F, hm, kp, hb⟩ := c
  exact pv_callK (E := E) F hr hgd hm kp hb hx (fun _ _ _ h => h) ha hlen hg hall hks hdb hpl
end
/-! ### raise C() -/
section
variable {X : Cx} {C : Addr} {bmB : List Value} {B newId initId : String}
theorem pmk_own0 {x : Str} {p pos : Pos} (F : ExcBaseFacts B newId initId bmB) (q : PySem.W.excIn X.K C bmB newId = true) (gC : X.mg x = some (.ref C)) (kC : PySem.W.keepIn X.K (.ref C) = true) (r : Raises X (.ref C)) (hg : Gl X x)
    (hdb : (x == ("__debug__" : Str)) = false := by decide) : PMk X (.Call (.Name x p) [] [] pos) (fun _ H Q => Q (.ref C) none H) := by
  intro pins s σ H Q I h
  refine wpAny_Call_Name_kw (ld_glob I hg gC ?_ hdb)
  refine PySem.W.callWith_K0 I.kIn kC ?_
  show wpAny _ _ (call (.ref C) []) _ _ _
  obtain ⟨bm, N, nm, qn, bs, hdct, sn, sub, ab, col, dd, k0, k1, k2, k3, k5, mN, hC, hN, hni, T⟩ := exc_obj I.kIn q
  refine wpAny_call_exc_subT F T hC hN hni (fun h' e hm => ?_) (Nat.zero_le _)
  exact mk_of I hm r h (I.hok.gone hm.new)
/-- what a class must say so that it is raised -/
structure RaiseC (K : PySem.W.Frag) (C : Addr) : Prop where
  ex : PySem.W.excIn K C [.type "ValueError", .type "Exception", .type "BaseException", .type "object"] "ValueError.__new__" = true
  kp : PySem.W.keepIn K (.ref C) = true
  sb : PySem.W.subIn K (.ref C) (.type "BaseException") = some true
  ty : PySem.W.typeIn K (.ref C) = some (.type "type")
def raiseM (ds : List D) : M Ctl := fun r => .ex 0 ds r
theorem g_raise0 {fa : Nat → Addr} {E : XK} {x : Str} {p pos pos2 : Pos} (T : RaiseC X.K C) (hc : X.calm = true) (tk : Takes X (fun cls d _ H => E cls d H)) (gC : X.mg x = some (.ref C)) (hg : Gl X x := by rfl) (hdb : (x == ("__debug__" : Str)) = false := by decide) :
    PG1 X fa (wOf (xvC C) E) (.Raise (some (.Call (.Name x p) [] [] pos)) none pos2) (raiseM []) :=
  PS.imp (ps_raise hc tk (pmk_own0 PySem.F.excBase_ValueError T.ex gC T.kp (raises_own T.sb T.ty) hg hdb)) fun Dn σ H ⟨F, B, O, r, R, h⟩ => h O σ H R Ext.refl (.ref C) none ⟨rfl, rfl, rfl⟩
end
/-! ### a def that may raise it -/
section
variable {P : Program} {w : World} {K : PySem.W.Frag} {mg : Str → Option Value} {base : Heap} {k : Nat} {f : Addr} {fd : FuncData} {ps N : List Str} {fa : Nat → Addr} {C : Addr} {x qual : Str} {st : Stmt}
theorem takes_def {scope : Scope} {cdv : Value} {A : Around} {outer : List Env} {s : Shared} {H : Hp} {E : XK} (hf : (envOfC qual scope s.heap.objs.size f cdv).frame = some (envOfC qual scope s.heap.objs.size f cdv).locals := by rfl) :
    Takes (cxOf (L2.CX P w) P w K mg base N qual scope f cdv A outer s H E) (fun cls d _ H => E cls d H) := takes_of rfl hf rfl rfl
theorem fn_bodyX (Fd : Fun K x qual st f fd) (S : FnScope N ps (defScope st)) {g : M Ctl}
    (hb : ∀ (cdv : Value) (A : Around) (outer : List Env) (s : Shared) (H : Hp) (E : XK), Room k (A.deeper (envOfC qual (defScope st) s.heap.objs.size f cdv)) → (A.deeper (envOfC qual (defScope st) s.heap.objs.size f cdv)).guards = some [] →
      PGs (cxOf (L2.CX P w) P w K mg base N qual (defScope st) f cdv A outer s H E) fa (wOf (xvC C) E) (defBody st) g) :
    FnG P w K mg base (L2.CX P w) (k + 1) f fd ps (spF K fa (xvC C) ps.length (bodyF N.length g)) := fn_body Fd S hb
theorem FnG.calX {n : Nat} {G : Fn} (F : FnG P w K mg base (L2.CX P w) k f fd ps (spF K fa (xvC C) n G)) (Fd : Fun K x x st f fd) (hm : mg x = some (.ref f)) (hb : Binds K fd ps []) : CalX P w K mg base fa C x k n G := ⟨f, fd, ps, F, hm, Fd.kp, hb⟩
theorem FnG.calXK {n : Nat} {G : Fn} {ks : List Str} {is : List Nat} (F : FnG P w K mg base (L2.CX P w) k f fd ps (spF K fa (xvC C) n G)) (Fd : Fun K x x st f fd) (hm : mg x = some (.ref f)) (hb : KwB K fd ps ks is) : CalXK P w K mg base fa C x k n G ks is := ⟨f, fd, ps, F, hm, Fd.kp, hb⟩
end
end DL

namespace DL
open PySem PySem.Spec PyProof.Rows L2
/-! ### try: return e, except C as n: return [s, isinstance(n, D)] -/
def tryM (f : M D) (s2 : Str) : M Ctl := fun r => match f r with
  | .ok d r' => .ok (.rt d) r'
  | .ex _ _ r' => .ok (.rt (.list [.str s2, .bool true])) r'
  | .bad => .bad
/-- what the classes must say -/
structure TryC (K : PySem.W.Frag) (C Dd : Addr) : Prop where
  exc : ExcC K C
  exm : PySem.W.exmOne K (.ref C) (.ref C) = some true
  kit : PySem.W.kitOne K (.ref C) (.ref Dd) = some true
section
variable {X : Cx} {fa : Nat → Addr} {C Dd : Addr} {e : Expr} {f : M D} {n cn dn : Str} {s2 : Str} {i j : Nat} {rp np p1 p2 p3 p4 p5 p6 p7 pos pos' : Pos}
theorem g_try (T : TryC X.K C Dd) (hs : X.stack = X.env :: X.outer) (hf : X.env.frame = some X.env.locals) (hN : X.N.Nodup) (i : Nat) (hi : X.N[i]? = some n) (hln : X.env.kindOf n = some .local) (hv : Vis X.env.scope n) (gC : X.mg cn = some (.ref C)) (gD : X.mg dn = some (.ref Dd)) (tk : Takes X (fun _ _ _ _ => False))
    (hmI : X.mg "isinstance" = none) (hgC : Gl X cn) (hgD : Gl X dn) (hgI : Gl X "isinstance") (hd1 : (cn == ("__debug__" : Str)) = false) (hd2 : (dn == ("__debug__" : Str)) = false) (hd3 : (n == ("__debug__" : Str)) = false) (hd4 : (n == ("__classdict__" : Str)) = false)
    (hbody : ∀ (pn : List (Addr × Obj)) (xe : Value → Shared → Prop) (E : XK), Passes (L2.CX X.prog X.w) (X.tr pn xe) E → PV (X.tr pn xe) fa (wOf (xvC C) E) e f) :
    PG1 X fa W0 (.Try [.Return (some e) rp] [.ExceptHandler (some (.Name cn np)) (some n) [.Return (some (.List [.Constant (.str s2) j p1, .Call (.Name "isinstance" p2) [.Name n p3, .Name dn p4] [] p5] p6)) p7] pos'] [] [] pos) (tryM f s2) := by
  let tb : WX → TS := fun W Dn σ H => ∃ E : XK, (∀ cls d σ H, E cls d H → W cls d σ H) ∧ tS X.K fa (wOf (xvC C) E) (retM f) Dn σ H
  let ts : Addr → Value → Option Addr → TS := fun a cls d Dn σ H => (∃ σ0 : L2.St, σ = σ0.set i (some (.ref a))) ∧ cls = .ref C ∧ d = none ∧ ∀ p, H p = none → Dn.rt (.ref p) (upd H p (.lst [.str s2, .bl true]))
  have hb : ∀ (W : WX) (pn : List (Addr × Obj)) (xe : Value → Shared → Prop), Takes (X.tr pn xe) W → PassesOwn (model X.prog X.w) X.A X.env xe → PSs (X.tr pn xe) [.Return (some e) rp] (tb W) := fun W pn xe tkW _ =>
    ⟨fun pins s σ H Dn I ⟨E, hE, h⟩ => (gs_one (g_ret (hbody pn xe E (passes_call tkW hE)))).run pins s σ H Dn I h⟩
  have hsu : ∀ (a : Addr) (oe : Obj) (cls : Value) (d : Option Addr) (pn : List (Addr × Obj)), Zc cls d oe → (∃ vs, oe.data = .fields vs) →
      PSs (X.suite a ((a, oe) :: pn)) [.Return (some (.List [.Constant (.str s2) j p1, .Call (.Name "isinstance" p2) [.Name n p3, .Name dn p4] [] p5] p6)) p7] (ts a cls d) := fun a oe cls d pn hz hfd => by
    refine ⟨fun pins s σ H Dn I h => ?_⟩
    obtain ⟨⟨σ0, eσ⟩, ec, ed, h⟩ := h
    subst ec ed
    have P := pss_one (ps_ret (pos := p7) (pe_lst (X := X.suite a ((a, oe) :: pn)) (pos := p6) (pa_cons (show PE (X.suite a ((a, oe) :: pn)) (.Constant (.str s2) j p1) (tC (.str s2)) from pe_str) (pa_cons (pe_callB (p := p2) (pos := p5) (call_isE T.exc hz hfd) hgI hmI boot_isinstance (pa_cons (pe_var (i := i) (pos := p3) hi hv hd3 hd4) (pa_cons (pe_glob (pos := p4) hgD gD (show RelV (.ref Dd) (.ref Dd) from rfl) hd2) pa_nil))) pa_nil))))
    refine P.run pins s σ H Dn I ?_
    have hl : σ.length = X.N.length := I.len
    have hi' : i < σ0.length := by
      have := (List.getElem?_eq_some_iff.mp hi).1
      rw [eσ, List.length_set] at hl
      omega
    show tRet (tLst (tCons (tC (.str s2)) (tCons (tCB (rIsE X.K C a) (tCons (tVar i) (tCons (tC (.ref Dd)) tNil))) tNil))) Dn σ H
    refine ⟨.ref a, by rw [eσ, List.getElem?_set_self hi'], .ref Dd, .ref Dd, true, rfl, fun u hu => by cases hu; rfl, T.kit, by show 2 ≤ sizeLine; decide, fun p hp => h p hp⟩
  refine PS.imp (ps_try_as (tb := tb) (ts := ts) hs hf hN hi hln ⟨hgC, hd1, .inl gC⟩ tk hb hsu) fun Dn σ H ⟨F, B, O, r, R, h⟩ => ?_
  let E : XK := fun cls d H' => cls = .ref C ∧ d = none ∧ ∀ p, H' p = none → Dn.rt (.ref p) (upd H' p (.lst [.str s2, .bl true]))
  refine ⟨E, fun cls d σ' H' hE => ?_, F, B, O, r, R, ?_⟩
  · obtain ⟨rfl, rfl, hr⟩ := hE
    exact ⟨true, T.exm, fun _ a _ => ⟨⟨σ', rfl⟩, rfl, rfl, hr⟩, fun z => by cases z⟩
  · unfold tryM at h
    unfold retM
    cases ef : f r with
    | bad => rw [ef] at h; exact False.elim h
    | ok d r' => rw [ef] at h; exact h
    | ex c ds r' =>
      rw [ef] at h
      intro O' σ' H' R' e' cls dct hx
      obtain ⟨_, ec, ed⟩ := hx
      refine ⟨ec, ed, fun p hp => ?_⟩
      have S := same_fresh (o := .lst [V.str s2, V.bl true]) hp
      exact h O' σ' _ (R'.same S) (e'.trans (Ext.same S)) (.ref p) (.lst (.inl upd_same) (fun z => R'.trk p z hp) (.cons (.str _) (.cons (.bl _) .nil)))
end
end DL

namespace DL
open PySem PySem.Spec PyProof.Rows L2
/-! ### xs.reverse() -/
def reverseG : List D → List D → Option (D × List D) := fun ds es => match es with
  | [] => some (.none, ds.reverse)
  | _ => none
theorem mut_reverse : MutD rReverse reverseG := by
  intro K H B l xs vs ds es ds' z hl x y eg
  unfold reverseG at eg
  split at eg
  · cases eg
    cases y
    exact ⟨_, _, x.reverse, .non, fun Q q => ⟨l, xs, rfl, rfl, hl, q⟩⟩
  · cases eg
section
variable {X : Cx} {fa : Nat → Addr} {W : Wi} {x : Str} {px apos pos : Pos}
theorem pv_reverse (i : Nat) (hN : X.N[i]? = some x := by rfl) (hv : Vis X.env.scope x := by first | exact Or.inl rfl | exact Or.inr (Or.inl rfl) | exact Or.inr (Or.inr rfl)) (hd : (x == ("__debug__" : Str)) = false := by decide)
    (hcd : (x == ("__classdict__" : Str)) = false := by decide) (hbase : attributeBase (.Name x px) "reverse" X.env (eval (.Name x px) X.env) = eval (.Name x px) X.env := by rfl) (hline : (apos.endLine == pos.line) = true := by rfl) :
    PV X fa W (.Call (.Attribute (.Name x px) "reverse" apos) [] [] pos) (mutM i reverseG nilM) :=
  PE.imp (pe_bm0 PySem.F.plainAttrs_list PySem.F.slot_list_reverse PySem.F.type_list_reverse mt_reverse (pe_var hN hv hd hcd) hbase hline) fun _ _ _ q => tMut0 mut_reverse q
end
/-! ### max(xs), min(xs), of a list or of a tuple of whole numbers -/
section
variable {prog : Program} {w : World} {A : Around} {E : Value → Shared → Prop} {s : Shared} {l : Addr} {xs : Array (Int × Tok)}
theorem iter_intTup {Q : Value → Shared → Prop} (hl : s.heap.IsTuple l (intItems xs))
    (h : ∀ s₂ : Shared, s₂ = { s with heap := s.heap.push { cls := .type "tuple_iterator", data := .fields #[.ref l, .int 0 0] } } →
      (s₂.heap.IsTupleIter s.heap.objs.size l 0 ∧ s₂.heap.IsTuple l (intItems xs)) → (∀ b ∈ [s.heap.objs.size, l], b < s₂.heap.objs.size) → l ≠ s.heap.objs.size → Q (.ref s.heap.objs.size) s₂) :
    wpAny (model prog w) A (pyIter (.ref l)) Q E s := by
  have hlt : l < s.heap.objs.size := by obtain ⟨_, e, _⟩ := hl; exact Heap.lt_size e
  refine wpAny_pyIter_tuple hl (h _ rfl ⟨⟨_, Heap.get?_push_size _ rfl, rfl, rfl⟩, hl.push _⟩ (fun b hb => ?_) (Nat.ne_of_lt hlt))
  show b < (s.heap.push _).objs.size
  rw [Heap.size_push]
  rcases List.mem_cons.mp hb with rfl | hb
  · exact Nat.lt_succ_self _
  · rcases List.mem_cons.mp hb with rfl | hb
    · exact Nat.lt_succ_of_lt hlt
    · cases hb
theorem old_keptT {h' : Heap} (hk : ∀ b o, b ∉ [s.heap.objs.size] → (s.heap.push { cls := .type "tuple_iterator", data := .fields #[.ref l, .int 0 0] }).get? b = some o → h'.get? b = some o) :
    ∀ b o, s.heap.get? b = some o → h'.get? b = some o := fun b o e => by
  refine hk b o (fun hm => ?_) (Heap.get?_push_of_some _ e)
  rcases List.mem_cons.mp hm with e1 | hm
  · exact absurd (e1 ▸ Heap.lt_size e) (Nat.lt_irrefl _)
  · cases hm
theorem max_intTup {Q : Value → Shared → Prop} (hh : A.handled = none) (hl : s.heap.IsTuple l (intItems xs)) (hne : 0 < xs.size)
    (h : ∀ v h' tk, (intItems xs)[argBest (fun i j => decide (numAt xs i > numAt xs j)) (xs.size - 1)]? = some v → (∀ b o, s.heap.get? b = some o → h'.get? b = some o) → Q v { s with heap := h', toks := tk }) :
    wpAny (model prog w) A (call (.builtin "max") [.ref l]) Q E s := by
  refine call_max_walk (iter_intTup hl fun s₂ e st hfp hlI => ?_)
  subst e
  refine ⟨_, _, _, _, _, _, _, rfl, Walks.tuple (A := A.in1) hh _ l hlI (intItems xs), st, hfp, by simpa [intItems] using hne, CmpOf.ints_gt (numAt xs) (fun _ _ => intItems_at), fun v h' tk hP hk => ?_⟩
  exact h v h' tk (by simpa [intItems] using hP) (old_keptT hk)
theorem min_intTup {Q : Value → Shared → Prop} (hh : A.handled = none) (hl : s.heap.IsTuple l (intItems xs)) (hne : 0 < xs.size)
    (h : ∀ v h' tk, (intItems xs)[argBest (fun i j => decide (numAt xs i < numAt xs j)) (xs.size - 1)]? = some v → (∀ b o, s.heap.get? b = some o → h'.get? b = some o) → Q v { s with heap := h', toks := tk }) :
    wpAny (model prog w) A (call (.builtin "min") [.ref l]) Q E s := by
  refine call_min_walk (iter_intTup hl fun s₂ e st hfp hlI => ?_)
  subst e
  refine ⟨_, _, _, _, _, _, _, rfl, Walks.tuple (A := A.in1) hh _ l hlI (intItems xs), st, hfp, by simpa [intItems] using hne, CmpOf.ints_lt (numAt xs) (fun _ _ => intItems_at), fun v h' tk hP hk => ?_⟩
  exact h v h' tk (by simpa [intItems] using hP) (old_keptT hk)
variable {its : List Value} {ns : List Int} {Q : Value → Shared → Prop}
theorem max_rawT (hh : A.handled = none) (hl : s.heap.IsTuple l its.toArray) (hi : IntsAre its ns) (hne : 0 < ns.length)
    (h : ∀ h' tk M t', (∀ b o, s.heap.get? b = some o → h'.get? b = some o) → M ∈ ns → (∀ a, a ∈ ns → a ≤ M) → Q (.int M t') { s with heap := h', toks := tk }) : wpAny (model prog w) A (call (.builtin "max") [.ref l]) Q E s := by
  obtain ⟨xs, e⟩ := hi.allInts.items
  have hn : numsOf (intItems xs).toList = ns := by rw [← e]; exact hi.numsOf
  rw [nums_intItems] at hn
  subst hn
  rw [e] at hl
  have hsz : 0 < xs.size := by simpa using hne
  refine max_intTup hh hl hsz fun v h' tk hv hk => ?_
  obtain ⟨t, rfl⟩ := intItems_at hv
  obtain ⟨h1, h2⟩ := argBest_gt (numAt xs) (xs.size - 1)
  refine h h' tk _ t hk ?_ fun a ha => ?_
  · rw [numAt_eq]; exact PySem.getD_mem (by rw [List.length_map, Array.length_toList]; omega)
  · obtain ⟨j, hj, rfl⟩ := mem_getD ha
    rw [List.length_map, Array.length_toList] at hj
    rw [← numAt_eq]; exact h2 j (by omega)
theorem min_rawT (hh : A.handled = none) (hl : s.heap.IsTuple l its.toArray) (hi : IntsAre its ns) (hne : 0 < ns.length)
    (h : ∀ h' tk M t', (∀ b o, s.heap.get? b = some o → h'.get? b = some o) → M ∈ ns → (∀ a, a ∈ ns → M ≤ a) → Q (.int M t') { s with heap := h', toks := tk }) : wpAny (model prog w) A (call (.builtin "min") [.ref l]) Q E s := by
  obtain ⟨xs, e⟩ := hi.allInts.items
  have hn : numsOf (intItems xs).toList = ns := by rw [← e]; exact hi.numsOf
  rw [nums_intItems] at hn
  subst hn
  rw [e] at hl
  have hsz : 0 < xs.size := by simpa using hne
  refine min_intTup hh hl hsz fun v h' tk hv hk => ?_
  obtain ⟨t, rfl⟩ := intItems_at hv
  obtain ⟨h1, h2⟩ := argBest_lt (numAt xs) (xs.size - 1)
  refine h h' tk _ t hk ?_ fun a ha => ?_
  · rw [numAt_eq]; exact PySem.getD_mem (by rw [List.length_map, Array.length_toList]; omega)
  · obtain ⟨j, hj, rfl⟩ := mem_getD ha
    rw [List.length_map, Array.length_toList] at hj
    rw [← numAt_eq]; exact h2 j (by omega)
end
def maxI : List Int → Int
  | [] => 0
  | [x] => x
  | x :: xs => if maxI xs ≤ x then x else maxI xs
def minI : List Int → Int
  | [] => 0
  | [x] => x
  | x :: xs => if x ≤ minI xs then x else minI xs
theorem maxI_spec : ∀ {xs : List Int}, 0 < xs.length → maxI xs ∈ xs ∧ ∀ y ∈ xs, y ≤ maxI xs
  | [x], _ => ⟨List.mem_singleton.mpr rfl, fun y hy => by rw [List.mem_singleton.mp hy]; exact Int.le_refl _⟩
  | x :: z :: xs, _ => by
    obtain ⟨h1, h2⟩ := maxI_spec (xs := z :: xs) (by simp)
    have e : maxI (x :: z :: xs) = if maxI (z :: xs) ≤ x then x else maxI (z :: xs) := rfl
    rw [e]
    split
    · rename_i h
      exact ⟨List.mem_cons_self, fun y hy => by
        rcases List.mem_cons.mp hy with rfl | hy
        · exact Int.le_refl _
        · exact Int.le_trans (h2 y hy) h⟩
    · rename_i h
      exact ⟨List.mem_cons_of_mem _ h1, fun y hy => by
        rcases List.mem_cons.mp hy with rfl | hy
        · omega
        · exact h2 y hy⟩
theorem minI_spec : ∀ {xs : List Int}, 0 < xs.length → minI xs ∈ xs ∧ ∀ y ∈ xs, minI xs ≤ y
  | [x], _ => ⟨List.mem_singleton.mpr rfl, fun y hy => by rw [List.mem_singleton.mp hy]; exact Int.le_refl _⟩
  | x :: z :: xs, _ => by
    obtain ⟨h1, h2⟩ := minI_spec (xs := z :: xs) (by simp)
    have e : minI (x :: z :: xs) = if x ≤ minI (z :: xs) then x else minI (z :: xs) := rfl
    rw [e]
    split
    · rename_i h
      exact ⟨List.mem_cons_self, fun y hy => by
        rcases List.mem_cons.mp hy with rfl | hy
        · exact Int.le_refl _
        · exact Int.le_trans h (h2 y hy)⟩
    · rename_i h
      exact ⟨List.mem_cons_of_mem _ h1, fun y hy => by
        rcases List.mem_cons.mp hy with rfl | hy
        · omega
        · exact h2 y hy⟩
def seqInts : List D → Option (List Int)
  | [.list ds] => intsD ds
  | [.tuple ds] => intsD ds
  | _ => none
def maxLG (ds : List D) : Option D := match seqInts ds with
  | some (n :: ns) => some (.int (maxI (n :: ns)))
  | _ => none
def minLG (ds : List D) : Option D := match seqInts ds with
  | some (n :: ns) => some (.int (minI (n :: ns)))
  | _ => none
section
variable {X : Cx}
theorem cd_maxL (hc : X.calm = true) : CallD X (.builtin "max") maxLG := by
  intro pins s σ H xs us Q I rv ⟨ds, z, dx, eg, k⟩
  unfold maxLG at eg
  cases es : seqInts ds with
  | none => rw [es] at eg; cases eg
  | some ns =>
    rw [es] at eg
    cases ns with
    | nil => cases eg
    | cons n ns =>
      cases eg
      have hsp := maxI_spec (xs := n :: ns) (by simp)
      have fin : ∀ m, m ∈ n :: ns → (∀ y, y ∈ n :: ns → y ≤ m) → Q (.int m) H := fun m h1 h2 => by
        have e : m = maxI (n :: ns) := Int.le_antisymm (hsp.2 m h1) (h2 _ hsp.1)
        subst e
        exact k _ H (fun _ _ q => q) fun B _ _ => .int _
      unfold seqInts at es
      split at es
      · rename_i es'
        have e := intsD_eq es
        subst e
        cases dx with
        | cons x t =>
          cases t
          cases x with
          | @lst a0 vs0 ds0 q b t =>
            have ev := dvs_int_of t
            subst ev
            exact cr_max hc pins s σ H _ us Q I rv ⟨_, n :: ns, rfl, .inl q, by simp, fin⟩
      · rename_i es'
        have e := intsD_eq es
        subst e
        cases dx with
        | cons x t =>
          cases t
          obtain ⟨a, rfl⟩ := x.isRef
          obtain ⟨vs, q, t⟩ := SqT.ofD x
          have ev := dvs_int_of t
          subst ev
          obtain ⟨its, r, p, _⟩ := I.tuple q
          rw [Vals.ref1 rv]
          exact max_rawT (I.ok.hd hc) (show s.heap.IsTuple a its.toArray from p) r.ints (by simp) fun h' tk m t' hk h1 h2 => ⟨.int _, H, I.kept hk, ⟨_, rfl⟩, fin m h1 h2⟩
      · cases es
theorem cd_minL (hc : X.calm = true) : CallD X (.builtin "min") minLG := by
  intro pins s σ H xs us Q I rv ⟨ds, z, dx, eg, k⟩
  unfold minLG at eg
  cases es : seqInts ds with
  | none => rw [es] at eg; cases eg
  | some ns =>
    rw [es] at eg
    cases ns with
    | nil => cases eg
    | cons n ns =>
      cases eg
      have hsp := minI_spec (xs := n :: ns) (by simp)
      have fin : ∀ m, m ∈ n :: ns → (∀ y, y ∈ n :: ns → m ≤ y) → Q (.int m) H := fun m h1 h2 => by
        have e : m = minI (n :: ns) := Int.le_antisymm (h2 _ hsp.1) (hsp.2 m h1)
        subst e
        exact k _ H (fun _ _ q => q) fun B _ _ => .int _
      unfold seqInts at es
      split at es
      · rename_i es'
        have e := intsD_eq es
        subst e
        cases dx with
        | cons x t =>
          cases t
          cases x with
          | @lst a0 vs0 ds0 q b t =>
            have ev := dvs_int_of t
            subst ev
            exact cr_min hc pins s σ H _ us Q I rv ⟨_, n :: ns, rfl, .inl q, by simp, fin⟩
      · rename_i es'
        have e := intsD_eq es
        subst e
        cases dx with
        | cons x t =>
          cases t
          obtain ⟨a, rfl⟩ := x.isRef
          obtain ⟨vs, q, t⟩ := SqT.ofD x
          have ev := dvs_int_of t
          subst ev
          obtain ⟨its, r, p, _⟩ := I.tuple q
          rw [Vals.ref1 rv]
          exact min_rawT (I.ok.hd hc) (show s.heap.IsTuple a its.toArray from p) r.ints (by simp) fun h' tk m t' hk h1 h2 => ⟨.int _, H, I.kept hk, ⟨_, rfl⟩, fin m h1 h2⟩
      · cases es
end
end DL

namespace DL
open PySem PySem.Spec PyProof.Rows L2
/-! ### xs.count(k), whole numbers -/
def countG : D → D → Option D
  | .list ds, .int k => match intsD ds with
    | some ns => some (.int (ns.count k : Nat))
    | none => none
  | _, _ => none
def countM (f g : M D) : M D := fun r => (f r).bind fun d r1 => match d with
  | .list ds => (g r1).bind fun e r2 => opt (countG (.list ds) e) r2
  | _ => .bad
section
variable {X : Cx} {fa : Nat → Addr} {W : Wi} {o e a b c : Expr} {f g : M D} {apos pos p p2 q : Pos}
theorem pv_count (ho : PV X fa W o f) (he : PV X fa W e g) (hbase : attributeBase o "count" X.env (eval o X.env) = eval o X.env := by rfl)
    (hfew : ((backTo pos (starEach [e] X.env)).all (fun x => !x.1) && (backToKw pos (keywordEach [] X.env)).all (fun x => x.1.isSome) && decide (([e] : List Expr).length + ([] : List Keyword).length + (if ([] : List Keyword).isEmpty then 0 else 1) < 30)) = true := by rfl)
    (hline : (apos.endLine == pos.line) = true := by rfl) (hs : starEach [e] X.env = (false, eval e X.env) :: starEach [] X.env := by rfl) (hplain : (backTo pos (starEach [] X.env)).any (·.1) = false := by rfl) :
    PV X fa W (.Call (.Attribute o "count" apos) [e] [] pos) (countM f g) := by
  refine PE.imp (pe_bm PySem.F.plainAttrs_list PySem.F.slot_list_count PySem.F.type_list_count mt_lcount ho (pvs_cons he pvs_nil (by exact hs)) hbase hfew hline hs hplain) fun σ H Q ⟨F, B, O, r, R, h⟩ => ?_
  refine ⟨F, B, O, r, R, (Aft.bind h).mono fun d r1 O1 σ1 H1 _ R1 e1 ⟨_, _, h1⟩ es v x => ?_⟩
  subst es
  cases d with
  | list ds =>
    cases x with
    | @lst l vs _ q1 b1 t1 =>
      refine ⟨.inl ⟨rfl, vs, .inl q1⟩, F, B, O1, r1, R1, ?_⟩
      have h2 := Aft.bind h1
      unfold consM nilM
      cases eg : g r1 with
      | bad => rw [eg] at h2; exact h2
      | ex c ds' r2 => rw [eg] at h2; exact h2
      | ok y r2 =>
        rw [eg] at h2
        intro O2 σ2 H2 R2 e2 es vs2 x2
        subst es
        obtain ⟨_, _, h3⟩ := h2 O2 _ H2 R2 e2
        cases y with
        | int k =>
          cases ei : intsD ds with
          | none => simp only [countG, ei] at h3; exact False.elim h3
          | some ns =>
            simp only [countG, ei] at h3
            have ed := intsD_eq ei
            subst ed
            have ev := dvs_int_of t1
            subst ev
            cases x2 with
            | cons xk tk =>
              cases tk
              cases xk
              have q2 : Rd H2 l (.lst (ns.map V.int)) := by
                have x3 := (DV.lst q1 b1 t1 : DV X.K H1 (Bn B O1) (.ref l) (.list (ns.map PyData.int))).ext e2
                cases x3 with
                | @lst _ vs3 _ q3 b3 t3 =>
                  have := dvs_int_of t3
                  subst this
                  exact q3
              exact ⟨l, ns, k, rfl, rfl, .inl q2, h3 O2 _ H2 R2 Ext.refl rfl _ (.int _)⟩
        | _ => exact False.elim h3
  | _ => exact False.elim h1
/-! ### list(range(a, b, c)) -/
def tLRange3 (ta : TA) : TE := fun σ H Q => ta σ H fun vs H1 => ∃ (i j k : Int) (n : Nat), vs = [V.int i, V.int j, V.int k] ∧ RgC i j k n ∧ n ≤ sizeLine ∧ ∀ p, H1 p = none → Q (.ref p) (upd H1 p (.lst ((List.range n).map fun m => V.int (i + (m : Nat) * k))))
theorem pe_lrange3 {ta : TA} (hc : X.calm = true) (hg : Gl X "list") (hm : X.mg "list" = none) (hg2 : Gl X "range") (hm2 : X.mg "range" = none) (ha : PA X [a, b, c] ta)
    (hs : starEach [a, b, c] X.env = (false, eval a X.env) :: starEach [b, c] X.env := by rfl) (hpl : (backTo q (starEach [b, c] X.env)).any (·.1) = false := by rfl) :
    PE X (.Call (.Name "list" p) [.Call (.Name "range" p2) [a, b, c] [] q] [] pos) (tLRange3 ta) := by
  refine ⟨fun pins s σ H Q I h => ?_⟩
  refine Call_ (ld_blt I hg hm PyProof.Rows.boot_list ?_)
  refine PyProof.Rows.callWith_type1 (PyProof.Rows.args_cons ?_ rfl) rfl rfl
  refine Call_ (ld_blt I hg2 hm2 boot_range ?_)
  refine PyProof.Rows.callWith_type1 (thn (ha.run q pins s σ H _ I h) fun us s1 ⟨vs, H1, I1, r1, q1⟩ => ?_) hs hpl
  obtain ⟨i, j, k, n, rfl, ⟨c0, c1, c2, c3⟩, hn, q1⟩ := q1
  cases r1 with
  | cons r rr =>
    cases rr with
    | cons r' rr =>
      cases rr with
      | cons r'' rr =>
        cases rr
        obtain ⟨t, rfl⟩ := r
        obtain ⟨t', rfl⟩ := r'
        obtain ⟨t'', rfl⟩ := r''
        refine call_range_3 c0 (PyProof.Rows.args_nil ?_) (.inl (PyProof.noPylong_small c1))
        have hl : sizeLine = 2 ^ 24 := sizeLine_eq
        have I2 : Inv X pins σ H1 { s1 with heap := s1.heap.push { cls := .type "range", data := .fields #[.int i t, .int j t', .int k t''] } } := I1.kept (t' := s1.toks) fun b o e => Heap.get?_push_of_some _ e
        refine call_list_range (n := n) (I1.ok.hd hc) (IsRange.new ..) c2 c3 (by omega) fun h' tk acc' c' hk hS hacc => ?_
        have rv : Vals ((List.range n).map fun m => V.int (i + (m : Nat) * k)) acc'.toList := by
          have := vals_ints (P := fun m v => ∃ t, v = .int (i + (m : Int) * k) t) (fun m => V.int (i + (m : Nat) * k)) (fun j v ⟨t, e⟩ => ⟨t, by rw [e]⟩) acc'.toList 0 (fun j v hv => by
            rw [Nat.zero_add]
            exact hacc.2 j v (by simpa using hv))
          rw [← List.range_eq_range', Array.length_toList, hacc.1] at this
          exact this
        exact ⟨.ref _, upd H1 _ (.lst ((List.range n).map fun m => V.int (i + (m : Nat) * k))), I2.laid (t' := tk) (fun b o e => hk b o e) (Nat.le_refl _) ⟨by rw [List.length_map, List.length_range]; exact hn, acc'.toList, c', rv, by simpa using hS⟩, rfl, q1 _ (I2.hok.fresh (Nat.le_refl _))⟩
/-- downwards by one -/
def lrange3G : List D → Option D
  | [.int i, .int j, .int k] => if k = -1 ∧ -(2 ^ 62) ≤ i ∧ i < 2 ^ 62 ∧ -(2 ^ 62) ≤ j ∧ j < 2 ^ 62 ∧ (i - j).toNat ≤ sizeLine then some (.list ((List.range (i - j).toNat).map fun m => .int (i + (m : Nat) * -1))) else none
  | _ => none
theorem pv_lrange3 {f : M (List D)} (hc : X.calm = true) (hm : X.mg "list" = none) (hm2 : X.mg "range" = none) (ha : PVs X fa W [a, b, c] f) (hg : Gl X "list" := by rfl) (hg2 : Gl X "range" := by rfl)
    (hs : starEach [a, b, c] X.env = (false, eval a X.env) :: starEach [b, c] X.env := by rfl) (hpl : (backTo q (starEach [b, c] X.env)).any (·.1) = false := by rfl) :
    PV X fa W (.Call (.Name "list" p) [.Call (.Name "range" p2) [a, b, c] [] q] [] pos) (appM lrange3G f) :=
  PE.imp (pe_lrange3 hc hg hm hg2 hm2 ha hs hpl) fun σ H Q ⟨F, B, O, r, R, h⟩ => ⟨F, B, O, r, R, (Aft.bind h).mono fun ds r1 O1 σ1 H1 _ R1 e1 ⟨_, _, qq⟩ es vs x => by
    subst es
    unfold lrange3G at qq
    split at qq
    · rename_i i j k
      cases x with
      | cons x1 t =>
        cases t with
        | cons x2 t =>
          cases t with
          | cons x3 t =>
            cases t
            cases x1
            cases x2
            cases x3
            split at qq
            · rename_i hi
              obtain ⟨rfl, h1, h2, h3, h4, h5⟩ := hi
              refine ⟨_, _, -1, _, rfl, RgC.neg h1 h2 h3 h4, h5, fun p n => ?_⟩
              exact qq O1 _ _ (R1.same (same_fresh n)) (Ext.same (same_fresh n)) rfl _ (.lst (.inl upd_same) (fun z => R1.trk p z n) (dvs_nats _ _))
            · exact False.elim qq
    · exact False.elim qq⟩
end
end DL
namespace DL
open PySem PySem.Spec PyProof.Rows L2
/-! ### sorted(xs), two pairs of whole numbers below 64 -/
def sortedP2G : List D → Option D
  | [.list [.tuple [.int a, .int b], .tuple [.int c, .int d]]] => if 0 ≤ a ∧ a < 64 ∧ 0 ≤ b ∧ b < 64 ∧ 0 ≤ c ∧ c < 64 ∧ 0 ≤ d ∧ d < 64 then
      (if a * 64 + b ≤ c * 64 + d then some (.list [.tuple [.int a, .int b], .tuple [.int c, .int d]]) else some (.list [.tuple [.int c, .int d], .tuple [.int a, .int b]])) else none
  | _ => none
theorem perm_two {v1 v2 : V} {ys : List V} (h : ys.Perm [v1, v2]) : ys = [v1, v2] ∨ ys = [v2, v1] := by
  match ys, h.length_eq with
  | [y1, y2], _ =>
    have m : y1 ∈ [v1, v2] := h.mem_iff.mp List.mem_cons_self
    rcases List.mem_cons.mp m with rfl | m
    · have := (List.Perm.cons_inv h)
      exact .inl (by rw [List.perm_singleton.mp this])
    · have e := List.mem_singleton.mp m
      subst e
      have h2 : [y1, y2].Perm [y1, v1] := h.trans (.swap _ _ _)
      exact .inr (by rw [List.perm_singleton.mp (List.Perm.cons_inv h2)])
section
variable {X : Cx}
theorem pair_tupI {K : PySem.W.Frag} {H : Hp} {B : Addr → Prop} {v : V} {a b : Int} (x : DV K H B v (.tuple [.int a, .int b])) : TupI K H v [a, b] := by
  obtain ⟨t, rfl⟩ := x.isRef
  obtain ⟨vs, q, tt⟩ := SqT.ofD x
  have ev := dvs_int_of (ns := [a, b]) tt
  subst ev
  exact ⟨t, rfl, q⟩
theorem cd_sortedP2 : CallD X (.builtin "sorted") sortedP2G := by
  intro pins s σ H xs us Q I rv ⟨ds, z, dx, eg, k⟩
  unfold sortedP2G at eg
  split at eg
  · rename_i a b c d
    split at eg
    · rename_i hb
      cases dx with
      | cons x t =>
        cases t
        cases x with
        | @lst a0 vs0 ds0 q bb t =>
          cases t with
          | @cons v1 _ _ _ x1 t =>
            cases t with
            | @cons v2 _ _ _ x2 t =>
              cases t
              have t1 := pair_tupI x1
              have t2 := pair_tupI x2
              refine cr_sortT (d := 2) (B := 64) (by decide) pins s σ H _ us Q I rv ⟨_, [v1, v2], rfl, .inl q, by simp, ?_, ?_⟩
              · intro x hx
                rcases List.mem_cons.mp hx with rfl | hx
                · exact ⟨_, t1, rfl, fun m hm => by
                    rcases List.mem_cons.mp hm with rfl | hm
                    · omega
                    · rw [List.mem_singleton.mp hm]; omega⟩
                · rw [List.mem_singleton.mp hx]
                  exact ⟨_, t2, rfl, fun m hm => by
                    rcases List.mem_cons.mp hm with rfl | hm
                    · omega
                    · rw [List.mem_singleton.mp hm]; omega⟩
              · intro ys p hp hs hn
                have c1 := code_pair a b
                have c2 := code_pair c d
                have S := same_fresh (o := .lst ys) hn
                rcases perm_two hp with rfl | rfl
                · have hle := (List.pairwise_cons.mp hs).1 v2 (by simp) _ _ t1 t2
                  rw [c1, c2] at hle
                  rw [if_pos hle] at eg
                  cases eg
                  exact k _ _ S fun B tb xx => by
                    cases xx with
                    | cons y _ => exact .lst (.inl upd_same) (fun z => tb _ z hn) ((y.lstAt I (.inl q)).same S)
                · have hle := (List.pairwise_cons.mp hs).1 v1 (by simp) _ _ t2 t1
                  rw [c1, c2] at hle
                  have fin : ∀ z : D, z = .list [.tuple [.int c, .int d], .tuple [.int a, .int b]] → (∀ v H', Same H H' → (∀ B, Trk B H → DVs X.K H B [V.ref a0] [.list [.tuple [.int a, .int b], .tuple [.int c, .int d]]] → DV X.K H' B v z) → Q v H') → Q (.ref p) (upd H p (.lst [v2, v1])) := fun z ez kk => by
                    subst ez
                    refine kk _ _ S fun B tb xx => ?_
                    cases xx with
                    | cons y _ =>
                      have yy := y.lstAt I (.inl q)
                      cases yy with
                      | cons y1 yt =>
                        cases yt with
                        | cons y2 yt =>
                          cases yt
                          exact .lst (.inl upd_same) (fun z => tb _ z hn) (DVs.same (.cons y2 (.cons y1 .nil)) S)
                  by_cases hlt : a * 64 + b ≤ c * 64 + d
                  · have e1 : a = c := by omega
                    have e2 : b = d := by omega
                    subst e1 e2
                    rw [if_pos hlt] at eg
                    cases eg
                    exact fin _ rfl k
                  · rw [if_neg hlt] at eg
                    cases eg
                    exact fin _ rfl k
    · cases eg
  · cases eg
def sortedXG (ds : List D) : Option D := match sortedG ds with
  | some z => some z
  | none => sortedP2G ds
theorem cd_sortedX : CallD X (.builtin "sorted") sortedXG := by
  intro pins s σ H xs us Q I rv ⟨ds, z, dx, eg, k⟩
  unfold sortedXG at eg
  cases e : sortedG ds with
  | some y =>
    rw [e] at eg
    cases eg
    exact cd_sorted pins s σ H xs us Q I rv ⟨ds, _, dx, e, k⟩
  | none =>
    rw [e] at eg
    exact cd_sortedP2 pins s σ H xs us Q I rv ⟨ds, z, dx, eg, k⟩
end
end DL

namespace DL
open PySem PySem.Spec PyProof.Rows L2
/-! ### an own list from list(range(n)) -/
theorem rangeL_map (n : Nat) : rangeL 0 n = (List.range n).map fun i => PyData.int ((i : Nat) : Int) := by
  unfold rangeL
  first
  | rfl
  | (apply List.map_congr_left; intro i _; simp)
def lrangeF (f : M D) : M (List D) := fun r => (f r).bind fun d r1 => match d with
  | .int i => if 0 ≤ i ∧ i ≤ sizeLine then .ok (rangeL 0 i.toNat) r1 else .bad
  | _ => .bad
section
variable {X : Cx} {fa : Nat → Addr} {W : Wi} {a : Expr} {f : M D} {p p2 q pos : Pos}
theorem pf_lrange (hc : X.calm = true) (hm : X.mg "list" = none) (hm2 : X.mg "range" = none) (ha : PV X fa W a f) (hg : Gl X "list" := by rfl) (hg2 : Gl X "range" := by rfl)
    (na : starEach [a] X.env = (false, eval a X.env) :: starEach [] X.env := by rfl) : PF X fa W (.Call (.Name "list" p) [.Call (.Name "range" p2) [a] [] q] [] pos) (lrangeF f) :=
  PE.imp (pe_lrange hc hg hm hg2 hm2 ha na) fun σ H Q ⟨F, B, O, r, R, h⟩ => by
    refine ⟨F, B, O, r, R, ?_⟩
    unfold lrangeF at h
    cases e : f r with
    | bad => rw [e] at h; exact h
    | ex c ds r' => rw [e] at h; exact h
    | ok d r1 =>
      rw [e, Res.ok_bind] at h
      cases d with
      | int i =>
        by_cases hi : 0 ≤ i ∧ i ≤ sizeLine
        · simp only [if_pos hi] at h
          intro O1 σ1 H1 R1 E1 es1 v x
          rw [es1] at R1
          cases x
          refine ⟨i.toNat, by rw [Int.toNat_of_nonneg hi.1], by omega, ?_⟩
          exact tF_new R1 (by rw [rangeL_map]; exact dvs_nats _ _) E1 h
        · simp only [if_neg hi] at h
      | _ => exact False.elim h
end
theorem takes0X {X : Cx} : Takes X (fun _ _ _ _ => False) := fun _ _ ⟨_, _, _, _, _, _, _, _, _, _, _, _, _, _, _, _, w⟩ => w.elim
/-! ### what the classes say -/
theorem kitCls_ref {K : PySem.W.Frag} {C : Addr} {v : Value} {b : Bool} (i : PySem.W.isClsIn K C = true) (t : PySem.W.typeIn K (.ref C) = some (.type "type")) (s : PySem.W.subIn K v (.ref C) = some b) : PySem.W.kitCls K v (.ref C) = some b := by
  unfold PySem.W.kitCls
  have i' : (PySem.W.clsIn K C).isSome = true := i
  have g : ((PySem.W.clsIn K C).isSome && PySem.W.typeIn K (.ref C) == some (.type "type")) = true := by rw [i', t]; rfl
  show (if ((PySem.W.clsIn K C).isSome && PySem.W.typeIn K (.ref C) == some (.type "type")) = true then PySem.W.subIn K v (.ref C) else none) = some b
  rw [if_pos g, s]
theorem kitOne_ref {K : PySem.W.Frag} {C : Addr} {v : Value} (i : PySem.W.isClsIn K C = true) (t : PySem.W.typeIn K (.ref C) = some (.type "type")) (s : PySem.W.subIn K v (.ref C) = some true) : PySem.W.kitOne K v (.ref C) = some true := by
  unfold PySem.W.kitOne
  split
  · rfl
  · exact kitCls_ref i t s
theorem exmOne_ref {K : PySem.W.Frag} {C : Addr} (e : PySem.W.subIn K (.ref C) (.type "BaseException") = some true) (i : PySem.W.isClsIn K C = true) (t : PySem.W.typeIn K (.ref C) = some (.type "type")) (s : PySem.W.subIn K (.ref C) (.ref C) = some true) : PySem.W.exmOne K (.ref C) (.ref C) = some true := by
  unfold PySem.W.exmOne
  have g : (PySem.W.subIn K (.ref C) (.type "BaseException") == some true) = true := by rw [e]; rfl
  rw [if_pos g]
  exact kitCls_ref i t s
end DL

namespace DL
open PySem PySem.Spec PyProof.Rows L2
/-! ### xs.extend(ys), ys a list or a tuple -/
set_option maxHeartbeats 4000000 in
theorem extend_tup (l : Addr) (its : Array Value) (n : Nat) (b : Addr) (its2 : Array Value) (h0 : ¬(!its.isEmpty && Builtin.List.listTooLong (its.size + its2.size)) = true) (h1 : its.size ≤ sizeLine) (h2 : its.size + its2.size ≤ sizeLine + 1) :
    Meets (Builtin.«list.extend» ⟨[.ref l, .ref b], []⟩) (fun _ R s => s.heap.get? l = some { cls := .type "list", data := .seq its n } ∧ s.heap.IsTuple b its2 ∧ R (.ok (.ret Value.none)) { s with heap := s.heap.update l (Obj.mapSeq fun x => x ++ its2), toks := s.toks }) :=
  .of_wp fun prog w A R s h => by
    obtain ⟨hp, g, d, tk, os⟩ := s
    obtain ⟨hl, ⟨o, ho, hc, m, hd⟩, h⟩ := h
    obtain ⟨oc, od, odat, osl⟩ := o
    cases hc
    cases hd
    have q1 := AutoSeq1.sub_tuple_tuple
    have q2 := AutoSeq1.sub_list_list
    have q3 := AutoSeq1.sub_tuple_list
    have q4 := AutoSeq1.sub_list_tuple
    have hz' : (its ++ its2).size ≤ sizeLine + 1 := by rw [Array.size_append]; exact h2
    wp_walk using (wpAny_updateSeq hl rfl (hz := h1) (_hz' := hz')), AutoSeq1.wpAny_loadPart' hl, AutoSeq1.wpAny_loadPart' ho
    all_goals first | exact ⟨_, rfl, h⟩ | skip
set_option maxHeartbeats 4000000 in
theorem extend_lst (l : Addr) (its : Array Value) (n : Nat) (b : Addr) (its2 : Array Value) (h0 : ¬(!its.isEmpty && Builtin.List.listTooLong (its.size + its2.size)) = true) (h1 : its.size ≤ sizeLine) (h2 : its.size + its2.size ≤ sizeLine + 1) :
    Meets (Builtin.«list.extend» ⟨[.ref l, .ref b], []⟩) (fun _ R s => s.heap.get? l = some { cls := .type "list", data := .seq its n } ∧ (∃ o, s.heap.get? b = some o ∧ o.cls = .type "list" ∧ ∃ m, o.data = .seq its2 m) ∧ R (.ok (.ret Value.none)) { s with heap := s.heap.update l (Obj.mapSeq fun x => x ++ its2), toks := s.toks }) :=
  .of_wp fun prog w A R s h => by
    obtain ⟨hp, g, d, tk, os⟩ := s
    obtain ⟨hl, ⟨o, ho, hc, m, hd⟩, h⟩ := h
    obtain ⟨oc, od, odat, osl⟩ := o
    cases hc
    cases hd
    have q1 := AutoSeq1.sub_tuple_tuple
    have q2 := AutoSeq1.sub_list_list
    have q3 := AutoSeq1.sub_tuple_list
    have q4 := AutoSeq1.sub_list_tuple
    have hz' : (its ++ its2).size ≤ sizeLine + 1 := by rw [Array.size_append]; exact h2
    wp_walk using (wpAny_updateSeq hl rfl (hz := h1) (_hz' := hz')), AutoSeq1.wpAny_loadPart' hl, AutoSeq1.wpAny_loadPart' ho
    all_goals first | exact ⟨_, rfl, h⟩ | skip
def rExtendA (K : PySem.W.Frag) : V → List V → Hp → VK → Prop := fun x vs H Q => ∃ l b xs zs, x = .ref l ∧ vs = [.ref b] ∧ H l = some (.lst xs) ∧ (SqL K H b zs ∨ SqT K H b zs) ∧ xs.length + zs.length ≤ sizeLine ∧ Q .non (upd H l (.lst (xs ++ zs)))
theorem mt_extendA {X : Cx} : MtM X "list.extend" (rExtendA X.K) := by
  intro pins s σ H x vs v us Q I rx rv h
  obtain ⟨l, b, xs, zs, rfl, rfl, hH, hB, hz, q⟩ := h
  rcases hB with hB | hB
  · cases rx
    obtain ⟨u, rfl, ru⟩ := rv.one
    cases ru
    obtain ⟨z, its, n, r, hl, e⟩ := I.lstM hH
    obtain ⟨its2, r2, ⟨o, n2, ho, hc, hdn, hd⟩, hlen⟩ := I.list hB
    have hsz : its.toArray.size + its2.toArray.size ≤ sizeLine := by
      have := r2.length
      rw [List.size_toArray, List.size_toArray]; omega
    have hlong : ¬ (!its.toArray.isEmpty && Builtin.List.listTooLong (its.toArray.size + its2.toArray.size)) = true := by
      rw [notLongL hsz, Bool.and_false]
      exact Bool.false_ne_true
    refine call_meets PySem.F.slot_list_extend ⟨_, e, rfl⟩ PySem.F.entry_list_extend (PySem.F.args_list_extend_2 _ _)
      (extend_lst l its.toArray n b its2.toArray hlong (by rw [List.size_toArray]; omega) (by omega)) ⟨e, ⟨o, ho, hc, n2, hd⟩, ?_⟩
    refine ⟨.non, _, I.lset (its' := its ++ its2) hH e (by simp) (r.append r2) ?_, rfl, q⟩
    rw [List.length_append]
    omega
  · cases rx
    obtain ⟨u, rfl, ru⟩ := rv.one
    cases ru
    obtain ⟨z, its, n, r, hl, e⟩ := I.lstM hH
    obtain ⟨its2, r2, p2, _⟩ := I.tuple hB
    have hsz : its.toArray.size + its2.toArray.size ≤ sizeLine := by
      have := r2.length
      rw [List.size_toArray, List.size_toArray]; omega
    have hlong : ¬ (!its.toArray.isEmpty && Builtin.List.listTooLong (its.toArray.size + its2.toArray.size)) = true := by
      rw [notLongL hsz, Bool.and_false]
      exact Bool.false_ne_true
    refine call_meets PySem.F.slot_list_extend ⟨_, e, rfl⟩ PySem.F.entry_list_extend (PySem.F.args_list_extend_2 _ _)
      (extend_tup l its.toArray n b its2.toArray hlong (by rw [List.size_toArray]; omega) (by omega)) ⟨e, p2, ?_⟩
    refine ⟨.non, _, I.lset (its' := its ++ its2) hH e (by simp) (r.append r2) ?_, rfl, q⟩
    rw [List.length_append]
    omega
def MutDK (K : PySem.W.Frag) (r : V → List V → Hp → VK → Prop) (g : List D → List D → Option (D × List D)) : Prop :=
  ∀ (H : Hp) (B : Addr → Prop) (l : Addr) (xs vs : List V) (ds es ds' : List D) (z : D), H l = some (.lst xs) → DVs K H B xs ds → DVs K H B vs es → g ds es = some (z, ds') →
    ∃ ys v, DVs K H B ys ds' ∧ DV K H B v z ∧ ∀ Q : VK, Q v (upd H l (.lst ys)) → r (.ref l) vs H Q
def extendG : List D → List D → Option (D × List D) := fun ds es => match es with
  | [d] => (seqOf d).bind fun xs => if ds.length + xs.length ≤ sizeLine then some (.none, ds ++ xs) else none
  | _ => none
theorem mut_extend {K : PySem.W.Frag} : MutDK K (rExtendA K) extendG := by
  intro H B l xs vs ds es ds' z hl x y eg
  unfold extendG at eg
  split at eg
  · rename_i d
    cases es : seqOf d with
    | none => rw [es] at eg; cases eg
    | some ws =>
      rw [es, Option.bind_some] at eg
      split at eg
      · rename_i hle
        cases eg
        cases y with
        | cons y t =>
          cases t
          unfold seqOf at es
          split at es
          · cases es
            cases y with
            | @lst b vs _ q1 b1 t1 => exact ⟨_, _, x.append t1, .non, fun Q q => ⟨l, b, xs, vs, rfl, rfl, hl, .inl (.inl q1), by rw [x.length, t1.length]; exact hle, q⟩⟩
          · cases es
            obtain ⟨b, rfl⟩ := y.isRef
            obtain ⟨vs, q1, t1⟩ := SqT.ofD y
            exact ⟨_, _, x.append t1, .non, fun Q q => ⟨l, b, xs, vs, rfl, rfl, hl, .inr q1, by rw [x.length, t1.length]; exact hle, q⟩⟩
          · cases es
      · cases eg
  · cases eg
section
variable {X : Cx} {fa : Nat → Addr} {W : Wi} {rr : V → List V → Hp → VK → Prop} {g : List D → List D → Option (D × List D)} {x : Str} {px apos pos : Pos} {e : Expr}
theorem tMutK {i : Nat} {f : M (List D)} {σ : L2.St} {H : Hp} {Q : VK} (hm : MutDK X.K rr g) (h : tV X.K fa W (mutM i g f) σ H Q) : tBM X.K "list" rr (tVar i) (tVs X.K fa W f) σ H Q := by
  obtain ⟨F, B, O, r, R, h⟩ := h
  unfold mutM at h
  cases e0 : ownL r i with
  | none => simp only [e0] at h; exact False.elim h
  | some ds0 =>
    simp only [e0] at h
    obtain ⟨o, as, h1, h2, _⟩ := R.mutA (ownL_some e0)
    cases h2 with
    | @own a xs0 _ ea x0 =>
      refine ⟨_, h1, .inl ⟨rfl, xs0, .inl (.inl ea)⟩, F, B, O, r, R, (Aft.bind h).mono fun es r1 O1 σ1 H1 _ R1 e1 ⟨_, _, q⟩ es v x => ?_⟩
      subst es
      cases e2 : ownL r1 i with
      | none => simp only [e2] at q; exact False.elim q
      | some ds =>
        simp only [e2] at q
        obtain ⟨o', as', k1, k2, k3, _, k4⟩ := R1.mutA (ownL_some e2)
        rw [h1] at k1
        cases k1
        cases k2 with
        | @own _ xs _ eb y =>
          cases eg : g ds es with
          | none =>
            rw [eg] at q
            exact False.elim q
          | some p =>
            rw [eg] at q
            obtain ⟨ys, v', y1, y2, y3⟩ := hm H1 _ a xs v ds _ p.2 p.1 eb y x eg
            obtain ⟨R2, E2⟩ := k4 a List.mem_cons_self (.lst ys) (.own (.list p.2)) (fun d z => nomatch z) fun mv => .own upd_same (DVs.mono mv _ _ y1)
            exact y3 Q (q O1 _ _ R2 E2 rfl v' (y2.ext E2))
theorem pv_extend {f : M (List D)} (i : Nat) (ha : PVs X fa W [e] f) (hN : X.N[i]? = some x := by rfl) (hv : Vis X.env.scope x := by first | exact Or.inl rfl | exact Or.inr (Or.inl rfl) | exact Or.inr (Or.inr rfl)) (hd : (x == ("__debug__" : Str)) = false := by decide)
    (hcd : (x == ("__classdict__" : Str)) = false := by decide) (hbase : attributeBase (.Name x px) "extend" X.env (eval (.Name x px) X.env) = eval (.Name x px) X.env := by rfl)
    (hfew : ((backTo pos (starEach [e] X.env)).all (fun x => !x.1) && (backToKw pos (keywordEach [] X.env)).all (fun x => x.1.isSome) && decide (([e] : List Expr).length + ([] : List Keyword).length + (if ([] : List Keyword).isEmpty then 0 else 1) < 30)) = true := by rfl)
    (hline : (apos.endLine == pos.line) = true := by rfl) (hs : starEach [e] X.env = (false, eval e X.env) :: starEach [] X.env := by rfl) (hplain : (backTo pos (starEach [] X.env)).any (·.1) = false := by rfl) :
    PV X fa W (.Call (.Attribute (.Name x px) "extend" apos) [e] [] pos) (mutM i extendG f) :=
  PE.imp (pe_bm PySem.F.plainAttrs_list PySem.F.slot_list_extend PySem.F.type_list_extend mt_extendA (pe_var hN hv hd hcd) ha hbase hfew hline hs hplain) fun _ _ _ q => tMutK mut_extend q
end
/-! ### sum(xs) -/
def sumG : List D → Option D
  | [.list ds] => (intsD ds).map fun ns => .int ns.sum
  | _ => none
theorem cd_sum {X : Cx} (hc : X.calm = true) : CallD X (.builtin "sum") sumG := by
  intro pins s σ H xs us Q I rv ⟨ds, z, dx, eg, k⟩
  unfold sumG at eg
  split at eg
  · rename_i es
    cases ei : intsD es with
    | none => rw [ei] at eg; cases eg
    | some ns =>
      rw [ei] at eg
      cases eg
      have e := intsD_eq ei
      subst e
      cases dx with
      | cons x t =>
        cases t
        cases x with
        | @lst a0 vs0 ds0 q b t =>
          have ev := dvs_int_of t
          subst ev
          exact cr_sum hc pins s σ H _ us Q I rv ⟨_, ns, rfl, .inl q, k _ H (fun _ _ q => q) fun B _ _ => .int _⟩
  · cases eg
end DL

namespace DL
open PySem PySem.Spec PyProof.Rows L2
/-! ### xs.index(name), texts -/
def idxS (n : Str) : List Str → Option Nat
  | [] => none
  | m :: ms => if m = n then some 0 else (idxS n ms).map (· + 1)
theorem idxS_spec {n : Str} : ∀ {ms : List Str} {j : Nat}, idxS n ms = some j → ms[j]? = some n ∧ ∀ m z, m < j → ms[m]? = some z → z ≠ n
  | [], _, h => by cases h
  | m :: ms, j, h => by
    unfold idxS at h
    split at h
    · rename_i e
      cases h
      exact ⟨by simp [e], fun _ _ h => absurd h (Nat.not_lt_zero _)⟩
    · rename_i e
      cases hi : idxS n ms with
      | none => rw [hi] at h; cases h
      | some k =>
        rw [hi] at h
        cases h
        obtain ⟨h1, h2⟩ := idxS_spec hi
        refine ⟨by simpa using h1, fun q z hq hz => ?_⟩
        cases q with
        | zero =>
          simp at hz
          subst hz
          exact e
        | succ q => exact h2 q z (Nat.lt_of_succ_lt_succ hq) (by simpa using hz)
def indexG : D → D → Option D
  | .list ds, .str n => match txts ds with
    | some ns => (idxS n ns).map fun j => .int (j : Nat)
    | none => none
  | _, _ => none
def indexM (f g : M D) : M D := fun r => (f r).bind fun d r1 => match d with
  | .list ds => (g r1).bind fun e r2 => opt (indexG (.list ds) e) r2
  | _ => .bad
theorem eqV_str (a b : Str) : eqV (.str a) (.str b) = (a == b) := rfl
section
variable {X : Cx} {fa : Nat → Addr} {W : Wi} {o e a b c : Expr} {f g : M D} {apos pos p p2 q : Pos}
theorem pv_index (ho : PV X fa W o f) (he : PV X fa W e g) (hbase : attributeBase o "index" X.env (eval o X.env) = eval o X.env := by rfl)
    (hfew : ((backTo pos (starEach [e] X.env)).all (fun x => !x.1) && (backToKw pos (keywordEach [] X.env)).all (fun x => x.1.isSome) && decide (([e] : List Expr).length + ([] : List Keyword).length + (if ([] : List Keyword).isEmpty then 0 else 1) < 30)) = true := by rfl)
    (hline : (apos.endLine == pos.line) = true := by rfl) (hs : starEach [e] X.env = (false, eval e X.env) :: starEach [] X.env := by rfl) (hplain : (backTo pos (starEach [] X.env)).any (·.1) = false := by rfl) :
    PV X fa W (.Call (.Attribute o "index" apos) [e] [] pos) (indexM f g) := by
  refine PE.imp (pe_bm PySem.F.plainAttrs_list PySem.F.slot_list_index PySem.F.type_list_index mt_index ho (pvs_cons he pvs_nil (by exact hs)) hbase hfew hline hs hplain) fun σ H Q ⟨F, B, O, r, R, h⟩ => ?_
  refine ⟨F, B, O, r, R, (Aft.bind h).mono fun d r1 O1 σ1 H1 _ R1 e1 ⟨_, _, h1⟩ es v x => ?_⟩
  subst es
  cases d with
  | list ds =>
    cases x with
    | @lst l vs _ q1 b1 t1 =>
      refine ⟨.inl ⟨rfl, vs, .inl q1⟩, F, B, O1, r1, R1, ?_⟩
      have h2 := Aft.bind h1
      unfold consM nilM
      cases eg : g r1 with
      | bad => rw [eg] at h2; exact h2
      | ex c ds' r2 => rw [eg] at h2; exact h2
      | ok y r2 =>
        rw [eg] at h2
        intro O2 σ2 H2 R2 e2 es vs2 x2
        subst es
        obtain ⟨_, _, h3⟩ := h2 O2 _ H2 R2 e2
        cases y with
        | str n =>
          cases ei : txts ds with
          | none => simp only [indexG, ei] at h3; exact False.elim h3
          | some ns =>
            cases ej : idxS n ns with
            | none => simp only [indexG, ei, ej] at h3; exact False.elim h3
            | some j =>
              simp only [indexG, ei, ej] at h3
              have ev := txts_of t1 ei
              subst ev
              obtain ⟨j1, j2⟩ := idxS_spec ej
              cases x2 with
              | cons xk tk =>
                cases tk
                cases xk
                have q2 : Rd H2 l (.lst (ns.map V.str)) := by
                  have x3 := (DV.lst q1 b1 t1 : DV X.K H1 (Bn B O1) (.ref l) (.list ds)).ext e2
                  cases x3 with
                  | @lst _ vs3 _ q3 b3 t3 =>
                    have ev := txts_of t3 ei
                    subst ev
                    exact q3
                refine ⟨l, ns.map V.str, .str n, j, .str n, rfl, rfl, .inl q2, rfl, by simp [flatV], by rw [List.getElem?_map, j1]; rfl, by rw [eqV_str]; simp, fun m z' hm hz => ?_, h3 O2 _ H2 R2 Ext.refl rfl _ (.int _)⟩
                rw [List.getElem?_map] at hz
                cases hz2 : ns[m]? with
                | none => rw [hz2] at hz; cases hz
                | some z =>
                  rw [hz2] at hz
                  cases hz
                  rw [eqV_str]
                  simpa using j2 m z hm hz2
        | _ => exact False.elim h3
  | _ => exact False.elim h1
/-! ### x += e, whole numbers -/
def augM (i : Nat) (f : M D) : M Ctl := fun r => match r[i]? with
  | some (.fz (.int a)) => (f r).bind fun d r1 => match d with
    | .int b => put i (.int (a + b)) r1
    | _ => .bad
  | _ => .bad
theorem g_aug (i : Nat) {x : Str} {pos' : Pos} (hN : X.N.Nodup) (h : PV X fa W a f) (hi : X.N[i]? = some x := by rfl) (hx : Loc X.env.scope x := by first | exact Or.inl rfl | exact Or.inr rfl)
    (hf : X.fn x = true ∨ X.env.scope.names.lookup x = some .local := by first | exact .inl rfl | exact .inr rfl | assumption) : PG1 X fa W (.AugAssign (.Name x pos') .Add a pos) (augM i f) :=
  PS.imp (ps_aug hN hi hx h ip_add hf) fun Dn σ H ⟨F, B, O, r, R, h⟩ => by
    unfold augM at h
    cases e : r[i]? with
    | none => simp only [e] at h; exact False.elim h
    | some s =>
      cases s with
      | fz d =>
        cases d with
        | int z =>
          simp only [e] at h
          obtain ⟨v, h1, h2⟩ := R.get e
          cases h2
          refine ⟨_, h1, F, B, O, r, R, (Aft.bind h).mono fun d r1 O1 σ1 H1 _ R1 _ ⟨_, _, q⟩ es v x => ?_⟩
          subst es
          cases d with
          | int w =>
            cases x
            refine ⟨z, w, rfl, rfl, ?_⟩
            obtain ⟨O', R', E', q'⟩ := put_ok R1 (.int (z + w)) q
            exact q'
          | _ => exact False.elim q
        | _ => simp only [e] at h; exact False.elim h
      | _ => simp only [e] at h; exact False.elim h
/-! ### a dict written out, and .get of a dict -/
def dictOf (t : List (Str × Int)) : D := .dict (t.map fun p => (.str p.1, .int p.2))
theorem dks_of {K : PySem.W.Frag} {H : Hp} {B : Addr → Prop} : ∀ t : List (Str × Int), DKs K H B (kvsOf t) (t.map fun p => (.str p.1, .int p.2))
  | [] => .nil
  | p :: t => .cons (k := .inr p.1) (.int p.2) (dks_of t)
theorem pv_displit {t : List (Str × Int)} {keys : List (Option Expr)} {values : List Expr} {dpos : Pos}
    (hd : PPs X dpos keys values (cT (kvsOf t))) (hall : keys.all (·.isSome) = true) (hl : keys.length = values.length) (h0 : keys ≠ []) (hk : keys.length ≤ 15) (hn : (t.map (·.1)).Nodup) (h15 : t.length ≤ 15) : PV X fa W (.Dict keys values dpos) (cV (dictOf t)) :=
  PE.imp (pe_disp hd hall hl h0 hk) fun σ H Q ⟨F, B, O, r, R, h⟩ => by
    intro p n
    have S := same_fresh (o := .dK []) n
    refine pairs_c _ ?_
    refine ⟨upd_same, kvsOf t, rfl, by unfold kvsOf; rw [List.length_map]; exact h15, ?_⟩
    have hm : mergeK [] (kvsOf t) = kvsOf t := by
      have := mergeK_new (kvsOf t) [] (by
        rw [List.nil_append]
        unfold kvsOf
        rw [List.map_map]
        have e : (((fun x : Key × V => x.1) ∘ fun p : Str × Int => ((.inr p.1 : Key), V.int p.2)) : Str × Int → Key) = (Sum.inr : Str → Key) ∘ fun x => x.1 := rfl
        rw [e, ← List.map_map]
        exact List.pairwise_map.mpr (hn.imp fun h q => h (Sum.inr.inj q)))
      rwa [List.nil_append] at this
    rw [hm]
    have S2 : Same H (upd (upd H p (.dK [])) p (.dK (kvsOf t))) := fun b u q => by
      have hb : b ≠ p := ne_of_none q n
      rw [upd_ne hb, upd_ne hb]
      exact q
    exact h O σ _ (R.same S2) (Ext.same S2) rfl (.ref p) (.dct (.inl upd_same) (fun z => R.trk p z n) (dks_of t))
def getDM (f : M D) (g : Rho → Option D) (z : Int) : M D := fun r => (f r).bind fun d r1 => match d with
  | .dict ds => match (g r1).bind toK with
    | some k => .ok ((dget ds k).getD (.int z)) r1
    | none => .bad
  | _ => .bad
theorem pv_getD {apos cpos zp : Pos} {z : Int} {j : Nat} {g : Rho → Option D} (hu : X.A.units + 1 < cLine) (ho : PV X fa W o f) (he : PB X fa e g) (m : M2 X o "get" apos e (.Constant (.int z) j zp) cpos) :
    PV X fa W (.Call (.Attribute o "get" apos) [e, .Constant (.int z) j zp] [] cpos) (getDM f g z) :=
  PE.imp (pe_dget2 hu ho he pe_int m) fun σ H Q ⟨F, B, O, r, R, h⟩ => by
    refine ⟨F, B, O, r, R, (Aft.bind h).mono fun d r1 O1 σ1 H1 _ R1 e1 ⟨_, _, h1⟩ es v x => ?_⟩
    subst es
    cases d with
    | dict ds =>
      cases x with
      | @dct a kvs _ q1 b1 t1 =>
        refine ⟨a, rfl, .inl ⟨_, q1⟩, F, B, O1, r1, R1, ?_⟩
        cases eg : g r1 with
        | none => simp only [eg, Option.bind_none] at h1; exact False.elim h1
        | some k =>
          cases ek : toK k with
          | none => simp only [eg, Option.bind_some, ek] at h1; exact False.elim h1
          | some key =>
            simp only [eg, Option.bind_some, ek] at h1
            refine ⟨k, rfl, fun v H' S xv => ?_⟩
            have ev := toK_kV xv ek
            subst ev
            refine ⟨_, .inl ⟨kvs, key, rd_same S q1, rfl, rfl⟩, ?_⟩
            have hq := h1 O1 _ H' (R1.same S) (Ext.same S) rfl
            cases hd : dget ds key with
            | some w =>
              obtain ⟨v2, e2, x2⟩ := t1.get hd
              rw [e2]
              rw [hd] at hq
              exact hq _ (x2.ext (Ext.same S))
            | none =>
              have hs := t1.some (k := key)
              rw [hd] at hs hq
              cases hv : valV kvs key with
              | none => exact hq _ (.int _)
              | some v2 => rw [hv] at hs; cases hs
    | _ => exact False.elim h1
end
end DL

namespace DL
open PySem PySem.Spec PyProof.Rows L2
/-! ### a def handed over -/
section
variable {X : Cx} {fa : Nat → Addr} {W : Wi} {k n i j : Nat} {G : Fn} {x : Str} {p pos : Pos} {e : Expr} {es : List Expr} {as : List AS} {CX : CXT} {E : XK} {f : Addr} {fd : FuncData} {ps : List Str} {sp : Sp} {t : TA}
def CalA (P : Program) (w : World) (K : PySem.W.Frag) (mg : Str → Option Value) (base : Heap) (fa : Nat → Addr) (j k n : Nat) (G : Fn) : Prop :=
  ∃ (fd : FuncData) (ps : List Str), FnG P w K mg base CX0 k (fa j) fd ps (spF K fa xv0 n G) ∧ PySem.W.keepIn K (.ref (fa j)) = true ∧ Binds K fd ps []
theorem pe_callGL (F : FnG X.prog X.w X.K X.mg X.base CX k f fd ps sp) (hr : Room k X.A) (hgd : X.A.guards = some []) (hN : X.N[i]? = some x) (hv : Vis X.env.scope x) (hk : PySem.W.keepIn X.K (.ref f) = true) (hb : Binds X.K fd ps []) (hx : Passes CX X E) (ha : PA X (e :: es) t)
    (hdb : (x == ("__debug__" : Str)) = false) (hcd : (x == ("__classdict__" : Str)) = false)
    (he : starEach (e :: es) X.env = (false, eval e X.env) :: starEach es X.env) (hpl : (backTo pos (starEach es X.env)).any (·.1) = false) :
    PE X (.Call (.Name x p) (e :: es) [] pos) (fun σ H Q => σ[i]? = some (some (.ref f)) ∧ tCall sp [] E t σ H Q) := by
  refine ⟨fun pins s σ H Q I ⟨hs, ht⟩ => ?_⟩
  have hvar := (pe_var (pos := p) hN hv hdb hcd).run pins s σ H (fun v H1 => v = .ref f ∧ H1 = H) I ⟨.ref f, hs, rfl, rfl⟩
  refine wpAny_Call_Name_kw (thn hvar fun u s1 ⟨v, H1, I1, r1, q1, q2⟩ => ?_)
  subst q1 q2
  obtain rfl : u = Value.ref f := r1
  refine PySem.W.callWith_K (h₀ := X.base) I.ok.mod.kin hk (thn (ha.run pos pins s1 σ _ _ I1 ht) fun us s2 ⟨vs, H2, I2, r, q⟩ => ⟨I2.kIn, ?_⟩) he hpl
  have q' : sp (vs ++ []) H2 Q E := q
  rw [List.append_nil] at q'
  exact run_fnG F hr hgd hb hx I2 r q'
def callF (i j : Nat) (G : Fn) (as : List AS) : M D := fun r => match r[i]? with
  | some (.fn j') => if j' = j then callM G as r else .bad
  | _ => .bad
theorem pv_callF (c : CalA X.prog X.w X.K X.mg X.base fa j k n G) (i : Nat) (hr : Room k X.A) (hgd : X.A.guards = some []) (ha : PAs X fa W (e :: es) as) (hlen : as.length = n := by rfl) (hN : X.N[i]? = some x := by rfl) (hv : Vis X.env.scope x := by first | exact Or.inl rfl | exact Or.inr (Or.inl rfl) | exact Or.inr (Or.inr rfl))
    (hdb : (x == ("__debug__" : Str)) = false := by decide) (hcd : (x == ("__classdict__" : Str)) = false := by decide)
    (he : starEach (e :: es) X.env = (false, eval e X.env) :: starEach es X.env := by rfl) (hpl : (backTo pos (starEach es X.env)).any (·.1) = false := by rfl) : PV X fa W (.Call (.Name x p) (e :: es) [] pos) (callF i j G as) := by
  obtain ⟨fd, ps, F, kp, hb⟩ := c
  refine PE.imp (pe_callGL (E := E00) F hr hgd hN hv kp hb pass0 ha hdb hcd he hpl) fun σ H Q h => ?_
  obtain ⟨F0, B, O, r, R, h⟩ := h
  unfold callF at h
  cases er : r[i]? with
  | none => simp only [er] at h; exact False.elim h
  | some s =>
    cases s with
    | fn j' =>
      simp only [er] at h
      by_cases hj : j' = j
      · subst hj
        rw [if_pos rfl] at h
        obtain ⟨o, as', l1, l2, h1, h2, _⟩ := R.sl.at er
        cases h2
        exact ⟨h1, tCallV hlen (fun _ _ _ _ _ _ h => h.elim) ⟨F0, B, O, r, R, h⟩⟩
      · rw [if_neg hj] at h
        exact False.elim h
    | _ => simp only [er] at h; exact False.elim h
end
def addrIn (K : PySem.W.Frag) (x : Str) : Addr := match PySem.W.nsIn K mainGlobals x with
  | some (some (.ref a)) => a
  | _ => 0
theorem addrIn_of {K : PySem.W.Frag} {x : Str} {a : Addr} (h : PySem.W.nsIn K mainGlobals x = some (some (.ref a))) : addrIn K x = a := by
  unfold addrIn
  rw [h]
theorem calA_of {P : Program} {w : World} {K : PySem.W.Frag} {mg : Str → Option Value} {base : Heap} {fa : Nat → Addr} {j k n : Nat} {G : Fn} {x : Str} (c : Cal P w K mg base fa x k n G) (h : mg x = some (.ref (fa j))) : CalA P w K mg base fa j k n G := by
  obtain ⟨f, fd, ps, F, hm, kp, hb⟩ := c
  rw [h] at hm
  cases hm
  exact ⟨fd, ps, F, kp, hb⟩
end DL

namespace DL
open PySem PySem.Spec PyProof.Rows L2
/-! ### x in a dict of the module, x a text or None -/
section
variable {X : Cx} {fa : Nat → Addr} {W : Wi} {d : Addr} {es : Array DictEntry} {n : Nat} {t : List (Str × Int)}
def rInK (d : Addr) (t : List (Str × Int)) : R2 := fun x y H Q => y = .ref d ∧ ((∃ z, x = .str z ∧ Q (.bl (t.lookup z).isSome) H) ∨ (x = .non ∧ Q (.bl false) H))
theorem op_inK (l : X.K.lookup d = some ⟨.type "dict", none, .dict es n, #[]⟩) (low : (d == sysModules) = false) (h : EntO X.w es.toList t) : OpR X (compareOp .In) (rInK d t) := by
  intro pins s σ H x y v u Q I rx ry ⟨hy, q⟩
  rcases q with ⟨z, rfl, q⟩ | ⟨rfl, q⟩
  · obtain ⟨n1, n2⟩ := nsIn_ent l h z
    cases hz : t.lookup z with
    | none =>
      rw [hz] at q
      exact op_in_kd ⟨l, h.lit, low⟩ pins s σ H _ y v u Q I rx ry ⟨z, none, rfl, hy, n1 hz, q⟩
    | some i =>
      rw [hz] at q
      obtain ⟨tk, e⟩ := n2 i hz
      exact op_in_kd ⟨l, h.lit, low⟩ pins s σ H _ y v u Q I rx ry ⟨z, _, rfl, hy, e, q⟩
  · subst hy
    cases rx
    cases ry
    refine wpAny_in_of (leaf_none (prog := X.prog) (w := X.w)) low (leaf_map I.kIn l h.lit) ?_
    rw [leaf_no h.lit]
    exact ⟨.bl false, H, I.tok _, rfl, q⟩
variable {x : Str} {a : Expr} {f : M D} {p pos : Pos}
theorem tInK {K : PySem.W.Frag} {σ : L2.St} {H : Hp} {Q : VK} (h : tV K fa W (mapM1 (inK t) f) σ H Q) : tOp (rInK d t) (tV K fa W f) (tC (.ref d)) σ H Q := by
  obtain ⟨F, B, O, r, R, h⟩ := h
  exact ⟨F, B, O, r, R, (Aft.bind h).mono fun d1 r1 O1 σ1 H1 _ R1 _ ⟨_, _, q⟩ es v x => by
    subst es
    refine ⟨rfl, ?_⟩
    cases d1 with
    | none =>
      cases x
      exact .inr ⟨rfl, q O1 _ H1 R1 Ext.refl rfl _ (.bl _)⟩
    | str s =>
      cases x
      exact .inl ⟨s, rfl, q O1 _ H1 R1 Ext.refl rfl _ (.bl _)⟩
    | _ => exact False.elim q⟩
theorem pv_inK (g : GKD X.K X.w X.mg x t) (ha : PV X fa W a f) (hg : Gl X x := by rfl) (hd : (x == ("__debug__" : Str)) = false := by decide) (hm : behindInMarks .In (.Name x p) = false := by rfl) : PV X fa W (.Compare a [.In] [.Name x p] pos) (mapM1 (inK t) f) := by
  obtain ⟨d, es, n, h1, h2, h3, h4⟩ := g
  exact PE.imp (pe_cmpR (op_inK h2 h3 h4) ha (pe_glob (v := .ref d) hg h1 rfl hd) hm) fun σ H Q h => tInK h
end
end DL

namespace DL
open PySem PySem.Spec PyProof.Rows L2
/-! ### zip of three: lists and tuples in any mix -/
def SqB (b : Bool) (K : PySem.W.Frag) (H : Hp) (a : Addr) (xs : List V) : Prop := if b = true then SqL K H a xs else SqT K H a xs
def IsB (b : Bool) (h : Heap) (a : Addr) (its : Array Value) : Prop := if b = true then h.IsList a its else h.IsTuple a its
def ItB (b : Bool) (h : Heap) (it a : Addr) (i : Nat) : Prop := if b = true then h.IsListIter it a i else h.IsTupleIter it a i
def objB (b : Bool) (a : Addr) : Obj := if b = true then { cls := .type "list_iterator", data := .fields #[.ref a, .int 0 0] } else { cls := .type "tuple_iterator", data := .fields #[.ref a, .int 0 0] }
theorem SqB.inv {X : Cx} {b : Bool} {pins : List (Addr × Obj)} {σ : L2.St} {H : Hp} {s : Shared} {a : Addr} {xs : List V} (I : Inv X pins σ H s) (h : SqB b X.K H a xs) : ∃ its : List Value, Vals xs its ∧ IsB b s.heap a its.toArray ∧ a < s.heap.objs.size := by
  cases b with
  | true =>
    obtain ⟨its, r, p, _⟩ := I.list h
    exact ⟨its, r, p.isList, p.lt⟩
  | false =>
    obtain ⟨its, r, p, _⟩ := I.tuple h
    obtain ⟨o, ho, _⟩ := id p
    exact ⟨its, r, p, Heap.lt_size ho⟩
theorem SqB.inj {X : Cx} {b : Bool} {pins : List (Addr × Obj)} {σ : L2.St} {H : Hp} {s : Shared} {a : Addr} {xs ys : List V} (I : Inv X pins σ H s) (h : SqB b X.K H a xs) (h' : SqB b X.K H a ys) : xs = ys := by
  cases b with
  | true => exact I.list_inj h h'
  | false => exact I.tuple_inj h h'
theorem ItB.at {b : Bool} {h h' : Heap} {it a : Addr} {i : Nat} (x : ItB b h it a i) (e : ∀ o, h.get? it = some o → h'.get? it = some o) : ItB b h' it a i := by
  cases b with
  | true => exact Heap.IsListIter.at x e
  | false => exact Heap.IsTupleIter.at x e
theorem ItB.obj {b : Bool} {h : Heap} {it a : Addr} {i : Nat} (x : ItB b h it a i) : ∃ o, h.get? it = some o ∧ ∀ v, o.data ≠ .cell v := by
  cases b with
  | true =>
    obtain ⟨o, e, _, d⟩ := x
    exact ⟨o, e, fun v q => by rw [d] at q; cases q⟩
  | false =>
    obtain ⟨o, e, _, d⟩ := x
    exact ⟨o, e, fun v q => by rw [d] at q; cases q⟩
theorem ItB.start {b : Bool} {h : Heap} {it a : Addr} (e : h.get? it = some (objB b a)) : ItB b h it a 0 := by
  cases b with
  | true => exact ⟨_, e, rfl, rfl⟩
  | false => exact ⟨_, e, rfl, rfl⟩
theorem drawsB {prog : Program} {w : World} {A : Around} (b : Bool) (hh : A.handled = none) (it a : Addr) (hne : a ≠ it) (items : Array Value) :
    Draws prog w A it [it, a] items.size (fun i v => items[i]? = some v) (fun i h => ItB b h it a i ∧ IsB b h a items) := by
  cases b with
  | true => exact Draws.list hh it a hne items
  | false => exact Draws.tuple hh it a hne items
theorem beginsB (b : Bool) (a : Addr) (items : Array Value) : Begins (.ref a) (objB b a) fun h => IsB b h a items := by
  cases b with
  | true => exact begins_list a items
  | false => exact begins_tuple a items
def Itz3 (K : PySem.W.Frag) (b1 b2 b3 : Bool) (a1 a2 a3 : Addr) : It :=
  ⟨fun i H => ∃ (xs ys us : List V) (x y u : V), SqB b1 K H a1 xs ∧ SqB b2 K H a2 ys ∧ SqB b3 K H a3 us ∧ xs[i]? = some x ∧ ys[i]? = some y ∧ us[i]? = some u,
    fun i H v H' => ∃ T x y u, v = .ref T ∧ H T = none ∧ H' = upd H T (.tup [x, y, u]) ∧ (∀ xs, SqB b1 K H a1 xs → xs[i]? = some x) ∧ (∀ ys, SqB b2 K H a2 ys → ys[i]? = some y) ∧ ∀ us, SqB b3 K H a3 us → us[i]? = some u,
    fun i H => ∃ xs ys us : List V, SqB b1 K H a1 xs ∧ SqB b2 K H a2 ys ∧ SqB b3 K H a3 us ∧ i ≤ xs.length ∧ i ≤ ys.length ∧ i ≤ us.length ∧ (i = xs.length ∨ i = ys.length ∨ i = us.length)⟩
theorem turn_zip3 {P : Program} {w : World} {K : PySem.W.Frag} {elts : List Expr} {kk : Nat} {tpos : Pos} {b1 b2 b3 : Bool} {a1 a2 a3 z TI TO i1 i2 i3 : Addr} (S : ZipSep3 z TI TO i1 i2 i3 [i1, a1] [i2, a2] [i3, a3]) (n1 : a1 ≠ i1) (n2 : a2 ≠ i2) (n3 : a3 ≠ i3) :
    Turn P w K (.Tuple elts kk tpos) (Itz3 K b1 b2 b3 a1 a2 a3) [z, TI, TO, i1, i2, i3] z (fun i h => IsZip h z TI TO .none ∧ IsTupOf3 h TI (.ref i1) (.ref i2) (.ref i3) ∧ (∃ x y u, IsTupOf3 h TO x y u) ∧ ItB b1 h i1 a1 i ∧ ItB b2 h i2 a2 i ∧ ItB b3 h i3 a3 i) where
  mem := by simp
  obj := fun i h st c hc => by
    obtain ⟨hz, hTI, ⟨x, y, u, hTO⟩, h1, h2, h3⟩ := st
    have e' : c = z ∨ c = TI ∨ c = TO ∨ c = i1 ∨ c = i2 ∨ c = i3 := by simpa using hc
    rcases e' with q | q | q | q | q | q
    · rw [q]; exact ⟨_, hz, fun v q => nomatch q⟩
    · rw [q]; exact ⟨_, hTI, fun v q => nomatch q⟩
    · rw [q]; exact ⟨_, hTO, fun v q => nomatch q⟩
    · rw [q]; exact h1.obj
    · rw [q]; exact h2.obj
    · rw [q]; exact h3.obj
  keep := fun i h h' st k => by
    obtain ⟨hz, hTI, ⟨x, y, u, hTO⟩, h1, h2, h3⟩ := st
    exact ⟨k z (by simp) _ hz, k TI (by simp) _ hTI, ⟨x, y, u, k TO (by simp) _ hTO⟩, h1.at fun o q => k i1 (by simp) o q, h2.at fun o q => k i2 (by simp) o q, h3.at fun o q => k i3 (by simp) o q⟩
  item := by
    intro X hP hw hK hc i pins s σ H E I hf st hg
    subst hP hw hK
    obtain ⟨hz, hTI, ⟨x0, y0, u0, hTO⟩, h1, h2, h3⟩ := st
    obtain ⟨xs, ys, us, x, y, u, hqx, hqy, hqu, hx, hy, hu⟩ := hg
    obtain ⟨its, rv, p, l1⟩ := SqB.inv I hqx
    obtain ⟨its2, rv2, p2, l2⟩ := SqB.inv I hqy
    obtain ⟨its3, rv3, p3, l3⟩ := SqB.inv I hqu
    obtain ⟨v1, hv1, rl1⟩ := rv.get hx
    obtain ⟨v2, hv2, rl2⟩ := rv2.get hy
    obtain ⟨v3, hv3, rl3⟩ := rv3.get hu
    have hzl : z < s.heap.objs.size := Heap.lt_size hz
    have hh := I.ok.hd hc
    have lt : ∀ {its : List Value} {v : Value}, its[i]? = some v → i < its.toArray.size := fun e => by
      rw [List.size_toArray]
      exact (List.getElem?_eq_some_iff.mp e).1
    refine wpAny_pyNext_zipD3_item S (drawsB b1 (A := X.A.in1) hh i1 a1 n1 its.toArray) (drawsB b2 (A := X.A.in1) hh i2 a2 n2 its2.toArray) (drawsB b3 (A := X.A.in1) hh i3 a3 n3 its3.toArray) hz hTI hTO ⟨h1, p⟩ ⟨h2, p2⟩ ⟨h3, p3⟩ (lt hv1) (lt hv2) (lt hv3) fun x1 x2 x3 h' tk e1 e2 e3 z' TO' q1 q2 q3 hT hsz hk => ?_
    have g1 : x1 = v1 := by simpa [hv1] using e1.symm
    have g2 : x2 = v2 := by simpa [hv2] using e2.symm
    have g3 : x3 = v3 := by simpa [hv3] using e3.symm
    subst g1 g2 g3
    refine ⟨_, rfl, wpAny_letOwnedTupleGo_zip (s := { s with heap := h', toks := tk }) z' fun h'' z'' sb => ?_⟩
    have hT2 : h''.get? s.heap.objs.size = some { cls := .type "tuple", data := .seq #[x1, x2, x3] } := (sb.2 _ (Nat.ne_of_gt hzl)).trans hT
    have new : ObjOk X.prog X.w (upd H s.heap.objs.size (.tup [x, y, u])) h'' s.heap.objs.size (.tup [x, y, u]) :=
      ⟨by show 3 ≤ sizeLine; decide, [x1, x2, x3], .cons rl1 (.cons rl2 (.cons rl3 .nil)), ⟨_, hT2, rfl, _, rfl⟩⟩
    have I1 : Inv X pins σ (upd H s.heap.objs.size (.tup [x, y, u])) { s with heap := h'', toks := tk } :=
      I.turnedNew (t' := tk) (ch := [z, TI, TO, i1, i2, i3]) (fun c o hb q => (sb.2 c (fun q' => hb (by simp [q']))).trans (hk c o (fun q' => hb (by simp [q'])) (fun q' => hb (by simp [q'])) (fun q' => hb (by simp [q'])) (fun q' => hb (by simp [q'])) (fun q' => hb (by simp [q'])) q)) hf (Nat.le_refl _) new
    refine ⟨.ref s.heap.objs.size, _, I1, rfl, ⟨_, x, y, u, rfl, I.hok.fresh (Nat.le_refl _), rfl, fun l hl => by rw [SqB.inj I hl hqx]; exact hx, fun l hl => by rw [SqB.inj I hl hqy]; exact hy, fun l hl => by rw [SqB.inj I hl hqu]; exact hu⟩, ⟨z'', ?_, ⟨x1, x2, x3, ?_⟩, ?_, ?_, ?_⟩, fun c hcm => ?_⟩
    · exact (sb.2 _ S.TIz).trans (hk _ _ S.TIz S.TITO S.TIi1 S.TIi2 S.TIi3 hTI)
    · exact (sb.2 _ S.TOz).trans TO'
    · exact q1.1.at fun o q => (sb.2 _ S.zi1.symm).trans q
    · exact q2.1.at fun o q => (sb.2 _ S.zi2.symm).trans q
    · exact q3.1.at fun o q => (sb.2 _ S.zi3.symm).trans q
    · have hlt : c < s.heap.objs.size := by
        have e' : c = z ∨ c = TI ∨ c = TO ∨ c = i1 ∨ c = i2 ∨ c = i3 := by simpa using hcm
        rcases e' with q | q | q | q | q | q
        · rw [q]; exact hzl
        · rw [q]; exact Heap.lt_size hTI
        · rw [q]; exact Heap.lt_size hTO
        · rw [q]; obtain ⟨_, e1, _⟩ := h1.obj; exact Heap.lt_size e1
        · rw [q]; obtain ⟨_, e2, _⟩ := h2.obj; exact Heap.lt_size e2
        · rw [q]; obtain ⟨_, e2, _⟩ := h3.obj; exact Heap.lt_size e2
      rw [upd_ne (Nat.ne_of_lt hlt)]
      exact (hf c hcm).1
  done := by
    intro X hP hw hK hc i pins s σ H E I hf st hg
    subst hP hw hK
    obtain ⟨hz, hTI, ⟨x0, y0, u0, hTO⟩, h1, h2, h3⟩ := st
    obtain ⟨xs, ys, us, hqx, hqy, hqu, le1, le2, le3, hend⟩ := hg
    obtain ⟨its, rv, p, _⟩ := SqB.inv I hqx
    obtain ⟨its2, rv2, p2, _⟩ := SqB.inv I hqy
    obtain ⟨its3, rv3, p3, _⟩ := SqB.inv I hqu
    have l1 := rv.length
    have l2 := rv2.length
    have l3 := rv3.length
    have hh := I.ok.hd hc
    exact wpAny_pyNext_zipD3_end S (drawsB b1 (A := X.A.in1) hh i1 a1 n1 its.toArray) (drawsB b2 (A := X.A.in1) hh i2 a2 n2 its2.toArray) (drawsB b3 (A := X.A.in1) hh i3 a3 n3 its3.toArray) hz hTI hTO ⟨h1, p⟩ ⟨h2, p2⟩ ⟨h3, p3⟩ (by rw [List.size_toArray]; omega) (by rw [List.size_toArray]; omega) (by rw [List.size_toArray]; omega) (by rw [List.size_toArray, List.size_toArray, List.size_toArray]; omega)
      fun h' tk hk => ⟨rfl, I.turnedL (t' := tk) (ch := [z, TI, TO, i1, i2, i3]) (fun c o hb q =>
        hk c o (fun q' => hb (by simp [q'])) (fun q' => hb (by simp [q'])) (fun q' => hb (by simp [q'])) (fun q' => hb (by simp [q'])) (fun q' => hb (by simp [q'])) q) hf⟩
  self := fun A i s Q E st h => wpAny_pyIter_zip st.1 h
def iZip3 (K : PySem.W.Frag) (ta : TA) : TI := fun σ H R => ta σ H fun vs H1 => ∃ b1 b2 b3 a1 a2 a3 xs ys us, vs = [.ref a1, .ref a2, .ref a3] ∧ SqB b1 K H1 a1 xs ∧ SqB b2 K H1 a2 ys ∧ SqB b3 K H1 a3 us ∧ R (Itz3 K b1 b2 b3 a1 a2 a3) H1
theorem pi_zip3 {X : Cx} {e e2 e3 : Expr} {ta : TA} {p pos tpos : Pos} {elts : List Expr} {kk : Nat} (hg : Gl X "zip") (hm : X.mg "zip" = none) (ha : PA X [e, e2, e3] ta)
    (hs : starEach [e, e2, e3] X.env = (false, eval e X.env) :: starEach [e2, e3] X.env := by rfl) (hpl : (backTo pos (starEach [e2, e3] X.env)).any (·.1) = false := by rfl) :
    PI X (.Tuple elts kk tpos) (.Call (.Name "zip" p) [e, e2, e3] [] pos) (iZip3 X.K ta) := by
  refine ⟨fun pins s σ H R I h => ?_⟩
  refine Call_ (ld_blt I hg hm PyProof.Rows.boot_zip (PyProof.Rows.callWith_type1 (thn (ha.run pos pins s σ H _ I h) fun us s1 ⟨vs, H1, I1, r1, q1⟩ => ?_) hs hpl))
  obtain ⟨b1, b2, b3, a1, a2, a3, xs, ys, zs, ex, hqx, hqy, hqu, q⟩ := q1
  subst ex
  cases r1 with
  | cons r rr =>
    cases rr with
    | cons r' rr =>
      cases rr with
      | cons r'' rr =>
        cases rr
        cases r
        cases r'
        cases r''
        obtain ⟨its, rv, p1, l1⟩ := SqB.inv I1 hqx
        obtain ⟨its2, rv2, p2, l2⟩ := SqB.inv I1 hqy
        obtain ⟨its3, rv3, p3, l3⟩ := SqB.inv I1 hqu
        have fresh6 : ∀ c, c ∈ [s1.heap.objs.size + 5, s1.heap.objs.size + 3, s1.heap.objs.size + 4, s1.heap.objs.size, s1.heap.objs.size + 1, s1.heap.objs.size + 2] → FpOk X pins H1 c := fun c hcm => by
          have e' : c = s1.heap.objs.size + 5 ∨ c = s1.heap.objs.size + 3 ∨ c = s1.heap.objs.size + 4 ∨ c = s1.heap.objs.size ∨ c = s1.heap.objs.size + 1 ∨ c = s1.heap.objs.size + 2 := by simpa using hcm
          have hle : s1.heap.objs.size ≤ c := by
            rcases e' with z | z | z | z | z | z
            · rw [z]; exact Nat.le_add_right _ _
            · rw [z]; exact Nat.le_add_right _ _
            · rw [z]; exact Nat.le_add_right _ _
            · rw [z]; exact Nat.le_refl _
            · rw [z]; exact Nat.le_add_right _ _
            · rw [z]; exact Nat.le_add_right _ _
          exact I1.fpOk hle (I1.hok.fresh hle)
        refine zip_begins3 (beginsB b1 a1 its.toArray) (beginsB b2 a2 its2.toArray) (beginsB b3 a3 its3.toArray) p1 p2 p3 fun h' hz hTI hTO h1 h2 h3 hsz hk => wpAny_pyIter_zip hz ?_
        have I2 : Inv X pins σ H1 { s1 with heap := h' } := I1.kept (t' := s1.toks) hk
        have lt1 : ∀ {a : Addr}, a < s1.heap.objs.size → ∀ b ∈ [a], b < s1.heap.objs.size := fun h b hb => by rw [List.mem_singleton.mp hb]; exact h
        have S := zip_sep3 (lt1 l1) (lt1 l2) (lt1 l3)
        exact ⟨s1.heap.objs.size + 5, [s1.heap.objs.size + 5, s1.heap.objs.size + 3, s1.heap.objs.size + 4, s1.heap.objs.size, s1.heap.objs.size + 1, s1.heap.objs.size + 2], _, _, H1, rfl, I2, turn_zip3 S (Nat.ne_of_lt l1) (Nat.ne_of_lt (Nat.lt_succ_of_lt l2)) (Nat.ne_of_lt (Nat.lt_succ_of_lt (Nat.lt_succ_of_lt l3))), ⟨hz, hTI, ⟨_, _, _, hTO⟩, ItB.start h1, ItB.start h2, ItB.start h3⟩, fresh6, q⟩
/-- the values -/
def seqB : D → Option (Bool × List D)
  | .list ds => some (true, ds)
  | .tuple ds => some (false, ds)
  | _ => none
def zip3L : List D → List D → List D → List D
  | x :: xs, y :: ys, u :: us => .tuple [x, y, u] :: zip3L xs ys us
  | _, _, _ => []
theorem zip3_get : ∀ {xs ys us : List D} {i : Nat} {z : D}, (zip3L xs ys us)[i]? = some z → ∃ x y u, xs[i]? = some x ∧ ys[i]? = some y ∧ us[i]? = some u ∧ z = .tuple [x, y, u]
  | x :: xs, y :: ys, u :: us, 0, z, h => by
    cases h
    exact ⟨x, y, u, rfl, rfl, rfl, rfl⟩
  | x :: xs, y :: ys, u :: us, i + 1, z, h => by
    obtain ⟨a, b, c, h1, h2, h3, h4⟩ := zip3_get (xs := xs) (ys := ys) (us := us) (i := i) (by simpa [zip3L] using h)
    exact ⟨a, b, c, by simpa using h1, by simpa using h2, by simpa using h3, h4⟩
  | [], _, _, _, _, h => by simp [zip3L] at h
  | _ :: _, [], _, _, _, h => by simp [zip3L] at h
  | _ :: _, _ :: _, [], _, _, h => by simp [zip3L] at h
theorem zip3_len : ∀ xs ys us : List D, (zip3L xs ys us).length ≤ xs.length ∧ (zip3L xs ys us).length ≤ ys.length ∧ (zip3L xs ys us).length ≤ us.length ∧ ((zip3L xs ys us).length = xs.length ∨ (zip3L xs ys us).length = ys.length ∨ (zip3L xs ys us).length = us.length)
  | x :: xs, y :: ys, u :: us => by
    obtain ⟨h1, h2, h3, h4⟩ := zip3_len xs ys us
    simp only [zip3L, List.length_cons]
    omega
  | [], _, _ => by simp [zip3L]
  | _ :: _, [], _ => by simp [zip3L]
  | _ :: _, _ :: _, [] => by simp [zip3L]
def zip3G : List D → Option (List D)
  | [a, b, c] => (seqB a).bind fun xs => (seqB b).bind fun ys => (seqB c).bind fun us => some (zip3L xs.2 ys.2 us.2)
  | _ => none
def zip3M (f : M (List D)) : M (List D) := fun r => (f r).bind fun ds r1 => opt (zip3G ds) r1
theorem SqB.ofD {K : PySem.W.Frag} {H : Hp} {B : Addr → Prop} {v : V} {d : D} {p : Bool × List D} (e : seqB d = some p) (x : DV K H B v d) : ∃ a xs, v = .ref a ∧ SqB p.1 K H a xs ∧ DVs K H B xs p.2 := by
  cases d with
  | list ds =>
    cases e
    cases x with
    | lst q b t => exact ⟨_, _, rfl, .inl q, t⟩
  | tuple ds =>
    cases e
    obtain ⟨a, rfl⟩ := x.isRef
    obtain ⟨xs, q, t⟩ := SqT.ofD x
    exact ⟨a, xs, rfl, q, t⟩
  | _ => cases e
theorem itz3_ok {K : PySem.W.Frag} {B : Addr → Prop} {O : List Addr} {H : Hp} {v1 v2 v3 : V} {d1 d2 d3 : D} {p1 p2 p3 : Bool × List D} (e1 : seqB d1 = some p1) (e2 : seqB d2 = some p2) (e3 : seqB d3 = some p3) (x1 : DV K H (Bn B O) v1 d1) (x2 : DV K H (Bn B O) v2 d2) (x3 : DV K H (Bn B O) v3 d3) :
    ∃ a1 a2 a3, v1 = .ref a1 ∧ v2 = .ref a2 ∧ v3 = .ref a3 ∧ (∃ xs ys us, SqB p1.1 K H a1 xs ∧ SqB p2.1 K H a2 ys ∧ SqB p3.1 K H a3 us) ∧ ItOk K B O H (Itz3 K p1.1 p2.1 p3.1 a1 a2 a3) (zip3L p1.2 p2.2 p3.2) := by
  obtain ⟨a1, xs0, rfl, q1, _⟩ := SqB.ofD e1 x1
  obtain ⟨a2, ys0, rfl, q2, _⟩ := SqB.ofD e2 x2
  obtain ⟨a3, us0, rfl, q3, _⟩ := SqB.ofD e3 x3
  refine ⟨a1, a2, a3, rfl, rfl, rfl, ⟨xs0, ys0, us0, q1, q2, q3⟩, ?_⟩
  intro C H' e tC
  obtain ⟨_, xs, w1, h1, h2⟩ := SqB.ofD e1 (DV.mono e _ _ x1)
  obtain ⟨_, ys, w2, k1, k2⟩ := SqB.ofD e2 (DV.mono e _ _ x2)
  obtain ⟨_, us, w3, m1, m2⟩ := SqB.ofD e3 (DV.mono e _ _ x3)
  cases w1
  cases w2
  cases w3
  have l1 := h2.length
  have l2 := k2.length
  have l3 := m2.length
  obtain ⟨z1, z2, z3, z4⟩ := zip3_len p1.2 p2.2 p3.2
  refine ⟨fun i z hz => ?_, ⟨xs, ys, us, h1, k1, m1, by omega, by omega, by omega, by omega⟩⟩
  obtain ⟨a, b, c, ha, hb, hc, rfl⟩ := zip3_get hz
  obtain ⟨v, h3, h4⟩ := h2.get ha
  obtain ⟨u, k3, k4⟩ := k2.get hb
  obtain ⟨t, m3, m4⟩ := m2.get hc
  refine ⟨⟨xs, ys, us, v, u, t, h1, k1, m1, h3, k3, m3⟩, fun y H2 ⟨T, w1, w2, w3, ey, n, e2, q1, q2, q3⟩ => ?_⟩
  subst ey e2
  have f1 := q1 xs h1
  have f2 := q2 ys k1
  have f3 := q3 us m1
  rw [h3] at f1
  rw [k3] at f2
  rw [m3] at f3
  cases f1
  cases f2
  cases f3
  have S := same_fresh (o := .tup [v, u, t]) n
  exact ⟨S, .tup (.inl upd_same) (fun z => tC T z n) (.cons (h4.same S) (.cons (k4.same S) (.cons (m4.same S) .nil)))⟩
section
variable {X : Cx} {fa : Nat → Addr} {W : Wi}
theorem it_zip3 {e e2 e3 : Expr} {f : M (List D)} {p pos tpos : Pos} {elts : List Expr} {kk : Nat} (hm : X.mg "zip" = none) (ha : PVs X fa W [e, e2, e3] f) (hg : Gl X "zip" := by rfl) (hs : starEach [e, e2, e3] X.env = (false, eval e X.env) :: starEach [e2, e3] X.env := by rfl) (hpl : (backTo pos (starEach [e2, e3] X.env)).any (·.1) = false := by rfl) :
    PIt X fa W (.Tuple elts kk tpos) (.Call (.Name "zip" p) [e, e2, e3] [] pos) (zip3M f) := by
  refine PI.imp (pi_zip3 hg hm ha hs hpl) fun σ H R ⟨F, B, O, r, hR, h⟩ => ⟨F, B, O, r, hR, (Aft.bind h).mono fun ds r1 O1 σ1 H1 _ R1 _ ⟨_, _, q⟩ es vs x => ?_⟩
  subst es
  cases eg : zip3G ds with
  | none => rw [eg] at q; exact False.elim q
  | some zs =>
    rw [eg] at q
    match ds, eg, x with
    | [d1, d2, d3], eg, x =>
      cases x with
      | cons x1 t =>
        cases t with
        | cons x2 t =>
          cases t with
          | cons x3 t =>
            cases t
            cases s1 : seqB d1 with
            | none => simp [zip3G, s1] at eg
            | some p1 =>
              cases s2 : seqB d2 with
              | none => simp [zip3G, s1, s2] at eg
              | some p2 =>
                cases s3 : seqB d3 with
                | none => simp [zip3G, s1, s2, s3] at eg
                | some p3 =>
                  simp only [zip3G, s1, s2, s3, Option.bind_some, Option.some.injEq] at eg
                  subst eg
                  obtain ⟨a1, a2, a3, rfl, rfl, rfl, ⟨xs, ys, us, q1, q2, q3⟩, it⟩ := itz3_ok s1 s2 s3 x1 x2 x3
                  exact ⟨_, _, _, a1, a2, a3, xs, ys, us, rfl, q1, q2, q3, q O1 _ H1 R1 Ext.refl rfl _ it⟩
    | [], eg, _ => cases eg
    | [_], eg, _ => cases eg
    | [_, _], eg, _ => cases eg
    | _ :: _ :: _ :: _ :: _, eg, _ => cases eg
end
end DL

namespace DL
open PySem PySem.Spec PyProof.Rows L2
/-! ### a, b = xs, xs a list -/
def tgLst (n : Nat) (u : List D → M Ctl) : D → M Ctl := fun d r => match d with
  | .list ds => if ds.length = n then (u ds r).bind fun _ r1 => .ok .nx r1 else .bad
  | _ => .bad
theorem tgLst_ok {n : Nat} {u : List D → M Ctl} (hu : ∀ ds r, u ds r = .bad ∨ ∃ r', u ds r = .ok .nx r') : TgOk (tgLst n u) := fun d r => by
  cases d with
  | list ds =>
    simp only [tgLst]
    split
    · rcases hu ds r with e | ⟨r1, e⟩
      · exact .inl (by rw [e]; rfl)
      · exact .inr ⟨r1, by rw [e]; rfl⟩
    · exact .inl rfl
  | _ => exact .inl rfl
section
variable {X : Cx} {fa : Nat → Addr} {pos : Pos}
theorem tg_lst {es : List Expr} {k n : Nat} {S : List Nat} {u : List D → M Ctl} (hc : X.calm = true) (h : PTs1 X fa S es u) (hu : ∀ ds r, u ds r = .bad ∨ ∃ r', u ds r = .ok .nx r') (hn : (assignEach es X.env).length = n := by rfl) (hst : (assignEach es X.env).findIdx? (·.1) = none := by rfl) : PT1 X fa S (.Tuple es k pos) (tgLst n u) := by
  refine ⟨PG.imp (pg_unl hc h hn hst) fun v σ H Q ⟨F, B, O, r, d, R, x, r', e, h⟩ => ?_, tgLst_ok hu⟩
  cases d with
  | list ds =>
    simp only [tgLst] at e
    split at e
    · rename_i hl
      cases x with
      | lst q b t =>
        rcases hu ds r with eu | ⟨r1, eu⟩
        · rw [eu] at e; cases e
        · rw [eu] at e
          cases e
          exact ⟨_, _, rfl, .inl q, by rw [t.length]; exact hl, F, B, O, r, ds, R, t, _, eu, h⟩
    · cases e
  | _ => cases e
end
end DL

namespace DL
open PySem PySem.Spec PyProof.Rows L2
/-! ### str(x), x a whole number or a text -/
def strG : List D → Option D
  | [.int i] => if i.natAbs.log2 < 1920 then some (.str (toString i)) else none
  | [.str a] => some (.str a)
  | _ => none
theorem cd_str {X : Cx} : CallD X (.type "str") strG := by
  intro pins s σ H xs us Q I rv ⟨ds, z, dx, eg, k⟩
  unfold strG at eg
  split at eg
  · rename_i i
    split at eg
    · rename_i hl
      cases eg
      cases dx with
      | cons x t =>
        cases t
        cases x
        exact call_str_int pins s σ H _ us Q I rv ⟨i, rfl, hl, k _ H (Same.refl H) fun B _ _ => .str _⟩
    · cases eg
  · rename_i a
    cases eg
    cases dx with
    | cons x t =>
      cases t
      cases x
      exact SkE.call_str_str pins s σ H _ us Q I rv ⟨a, rfl, k _ H (Same.refl H) fun B _ _ => .str _⟩
  · cases eg
/-! ### x.rjust(n), x.ljust(n), x.rstrip(y) -/
def rjG (a : Str) : D → Option D
  | .int i => if PadOk i = true then some (.str (Txt.rjust a i)) else none
  | _ => none
def ljG (a : Str) : D → Option D
  | .int i => if PadOk i = true then some (.str (Txt.ljust a i)) else none
  | _ => none
def rsG (a : Str) : D → Option D
  | .str b => if a.length ≤ sizeLine then some (.str (Txt.rstripChars a b)) else none
  | _ => none
def m1M (g : Str → D → Option D) (a b : M D) : M D := fun r => (a r).bind fun x r1 => match x with
  | .str s => (b r1).bind fun y r2 => opt (g s y) r2
  | _ => .bad
section
variable {X : Cx} {fa : Nat → Addr} {W : Wi} {a b : Expr} {f1 f2 : M D} {apos pos : Pos}
theorem meth_i {K : PySem.W.Frag} {g : Str → D → Option D} {h : Str → Int → Str} (hg : ∀ x e z, g x e = some z → ∃ i, e = .int i ∧ PadOk i = true ∧ z = .str (h x i)) {σ : L2.St} {H : Hp} {Q : VK} (q : tV K fa W (m1M g f1 f2) σ H Q) :
    tM1 (fun x xs H Q => ∃ (a : Str) (i : Int), x = .str a ∧ xs = [.int i] ∧ PadOk i = true ∧ Q (.str (h a i)) H) (tV K fa W f1) (tV K fa W f2) σ H Q := by
  obtain ⟨F, B, O, r, R, q⟩ := q
  refine ⟨F, B, O, r, R, (Aft.bind q).mono fun x r1 O1 σ1 H1 _ R1 e1 ⟨_, _, h1⟩ es v1 x1 => ?_⟩
  subst es
  cases x with
  | str w =>
    cases x1
    refine ⟨⟨w, rfl⟩, F, B, O1, r1, R1, (Aft.bind h1).mono fun y r2 O2 σ2 H2 _ R2 e2 ⟨_, _, h2⟩ es v2 x2 => ?_⟩
    subst es
    cases hy : g w y with
    | none => rw [hy] at h2; exact False.elim h2
    | some z =>
      rw [hy] at h2
      obtain ⟨i, rfl, hp, rfl⟩ := hg _ _ _ hy
      cases x2
      exact ⟨w, i, rfl, rfl, hp, h2 O2 _ H2 R2 Ext.refl rfl _ (.str _)⟩
  | _ => exact False.elim h1
theorem pv_rjust (ha : PV X fa W a f1) (hb : PV X fa W b f2) (hs : starEach [b] X.env = [(false, eval b X.env)] := by rfl) (hbase : attributeBase a "rjust" X.env (eval a X.env) = eval a X.env := by rfl) (hline : (apos.endLine == pos.line) = true := by rfl) :
    PV X fa W (.Call (.Attribute a "rjust" apos) [b] [] pos) (m1M rjG f1 f2) :=
  PE.imp (pe_m1 F.slot_str_rjust F.type_str_rjust mt_rjust ha hb hs hbase hline) fun _ _ _ q => meth_i (fun x e z hz => by
    unfold rjG at hz
    split at hz
    · split at hz
      · rename_i hp
        cases hz
        exact ⟨_, rfl, hp, rfl⟩
      · cases hz
    · cases hz) q
theorem pv_ljust (ha : PV X fa W a f1) (hb : PV X fa W b f2) (hs : starEach [b] X.env = [(false, eval b X.env)] := by rfl) (hbase : attributeBase a "ljust" X.env (eval a X.env) = eval a X.env := by rfl) (hline : (apos.endLine == pos.line) = true := by rfl) :
    PV X fa W (.Call (.Attribute a "ljust" apos) [b] [] pos) (m1M ljG f1 f2) :=
  PE.imp (pe_m1 F.slot_str_ljust F.type_str_ljust mt_ljust ha hb hs hbase hline) fun _ _ _ q => meth_i (fun x e z hz => by
    unfold ljG at hz
    split at hz
    · split at hz
      · rename_i hp
        cases hz
        exact ⟨_, rfl, hp, rfl⟩
      · cases hz
    · cases hz) q
theorem pv_rstrip (ha : PV X fa W a f1) (hb : PV X fa W b f2) (hs : starEach [b] X.env = [(false, eval b X.env)] := by rfl) (hbase : attributeBase a "rstrip" X.env (eval a X.env) = eval a X.env := by rfl) (hline : (apos.endLine == pos.line) = true := by rfl) :
    PV X fa W (.Call (.Attribute a "rstrip" apos) [b] [] pos) (m1M rsG f1 f2) := by
  refine PE.imp (pe_m1 F.slot_str_rstrip F.type_str_rstrip mt_rstripChars ha hb hs hbase hline) fun σ H Q ⟨F, B, O, r, R, q⟩ => ?_
  refine ⟨F, B, O, r, R, (Aft.bind q).mono fun x r1 O1 σ1 H1 _ R1 e1 ⟨_, _, h1⟩ es v1 x1 => ?_⟩
  subst es
  cases x with
  | str w =>
    cases x1
    refine ⟨⟨w, rfl⟩, F, B, O1, r1, R1, (Aft.bind h1).mono fun y r2 O2 σ2 H2 _ R2 e2 ⟨_, _, h2⟩ es v2 x2 => ?_⟩
    subst es
    cases y with
    | str z =>
      cases x2
      by_cases hl : w.length ≤ sizeLine
      · have e : rsG w (.str z) = some (.str (Txt.rstripChars w z)) := if_pos hl
        rw [e] at h2
        exact ⟨w, z, rfl, rfl, hl, h2 O2 _ H2 R2 Ext.refl rfl _ (.str _)⟩
      · have e : rsG w (.str z) = none := if_neg hl
        rw [e] at h2
        exact False.elim h2
    | _ => exact False.elim h2
  | _ => exact False.elim h1
/-! ### f-strings -/
def fmtG : D → Option D
  | .str y => if y.length ≤ sizeLine then some (.str y) else none
  | .int i => if i.natAbs.log2 < 1920 then some (.str (toString i)) else none
  | _ => none
theorem pv_fmt (ha : PV X fa W a f1) : PV X fa W (.FormattedValue a (-1) none pos) (mapM1 fmtG f1) :=
  PE.imp (pe_fmt ha) fun σ H Q ⟨F, B, O, r, R, h⟩ => ⟨F, B, O, r, R, (Aft.bind h).mono fun d r1 O1 σ1 H1 _ R1 e1 ⟨_, _, qq⟩ es v x => by
    subst es
    cases d with
    | int i =>
      cases x
      by_cases hl : i.natAbs.log2 < 1920
      · have e : fmtG (.int i) = some (.str (toString i)) := if_pos hl
        rw [e] at qq
        exact .inr ⟨i, rfl, hl, qq O1 _ H1 R1 Ext.refl rfl _ (.str _)⟩
      · have e : fmtG (.int i) = none := if_neg hl
        rw [e] at qq
        exact False.elim qq
    | str y =>
      cases x
      by_cases hl : y.length ≤ sizeLine
      · have e : fmtG (.str y) = some (.str y) := if_pos hl
        rw [e] at qq
        exact .inl ⟨y, rfl, hl, qq O1 _ H1 R1 Ext.refl rfl _ (.str _)⟩
      · have e : fmtG (.str y) = none := if_neg hl
        rw [e] at qq
        exact False.elim qq
    | _ => exact False.elim qq⟩
def jsM : List (M D) → Str → M D
  | [], acc => fun r => .ok (.str acc) r
  | f :: fs, acc => fun r => (f r).bind fun d r1 => match d with
    | .str y => if (acc ++ y).length ≤ sizeLine then jsM fs (acc ++ y) r1 else .bad
    | _ => .bad
inductive PVj (X : Cx) (fa : Nat → Addr) (W : Wi) : List Expr → List (M D) → Prop where
  | nil : PVj X fa W [] []
  | cons {e : Expr} {f : M D} {es : List Expr} {fs : List (M D)} (h : PV X fa W e f) (r : PVj X fa W es fs) : PVj X fa W (e :: es) (f :: fs)
theorem PVj.pj {es : List Expr} {fs : List (M D)} (h : PVj X fa W es fs) : PJ X es (fs.map fun f => tV X.K fa W f) := by
  induction h with
  | nil => exact .nil
  | cons h _ ih => exact .cons h ih
theorem tjs_of {K : PySem.W.Frag} : ∀ (fs : List (M D)) (acc : Str) {σ : L2.St} {H : Hp} {Q : VK}, tV K fa W (jsM fs acc) σ H Q → tJs (fs.map fun f => tV K fa W f) acc σ H fun out H1 => Q (.str out) H1
  | [], acc, σ, H, Q, ⟨F, B, O, r, R, h⟩ => h O σ H R Ext.refl rfl _ (.str _)
  | f :: fs, acc, σ, H, Q, ⟨F, B, O, r, R, h⟩ => by
    refine ⟨F, B, O, r, R, (Aft.bind h).mono fun x r1 O1 σ1 H1 _ R1 e1 ⟨_, _, h1⟩ es v1 x1 => ?_⟩
    subst es
    cases x with
    | str y =>
      cases x1
      dsimp only at h1
      by_cases hl : (acc ++ y).length ≤ sizeLine
      · rw [if_pos hl] at h1
        exact ⟨y, rfl, hl, tjs_of fs (acc ++ y) ⟨F, B, O1, r1, R1, h1⟩⟩
      · rw [if_neg hl] at h1
        exact False.elim h1
    | _ => exact False.elim h1
theorem pv_fstr {e1 e2 : Expr} {es : List Expr} {fs : List (M D)} (h : PVj X fa W (e1 :: e2 :: es) fs) : PV X fa W (.JoinedStr (e1 :: e2 :: es) pos) (jsM fs Str.empty) :=
  PE.imp (pe_joined h.pj) fun _ _ _ q => tjs_of fs _ q
end
end DL

/-! ### a comprehension over a list that its own def owns, and that is only lent -/
namespace DL
open PySem PySem.Spec PyProof.Rows L2
section
variable {K : PySem.W.Frag} {fa : Nat → Addr} {F : Fx} {B : Addr → Prop} {O O' : List Addr} {r : Rho} {σ : L2.St} {H H' : Hp}
theorem RL.lend (R : RL K fa F B O r σ H) {i : Nat} {ds : List D} (e : r[i]? = some (.own (.list ds))) : ∃ O' a xs, σ[i]? = some (some (.ref a)) ∧ H a = some (.lst xs) ∧ DVs K H (Bn (Ad B a) O') xs ds ∧ RL K fa F (Ad B a) O' (r.set i .emp) σ H ∧
    ¬ B a ∧ a ∈ O ∧ a ∉ O' ∧ (a ∈ F.I ∨ F.H0 a = none) ∧ (∀ b ∈ O', b ∈ O) := by
  obtain ⟨o, as, l1, l2, h1, h2, h3, h4⟩ := R.sl.at e
  cases h2 with
  | @own a xs _ ea x =>
    have ndp := R.nd
    rw [h3] at ndp
    have na : a ∉ l1 ++ ([] ++ l2) := fun m => by
      simp only [List.nil_append, List.mem_append, List.cons_append, List.nodup_append, List.nodup_cons] at m ndp
      rcases m with m | m
      · exact ndp.2.2 a m a List.mem_cons_self rfl
      · exact ndp.2.1.1 m
    have aO : a ∈ O := by rw [h3]; simp
    have sub : ∀ b, b ∈ l1 ++ ([] ++ l2) → b ∈ O := fun b m => by
      rw [h3]
      simp only [List.nil_append, List.mem_append] at m ⊢
      rcases m with m | m
      · exact .inl m
      · exact .inr (.inr m)
    have bn : ∀ b, Bn (Ad B a) (l1 ++ ([] ++ l2)) b → Bn B O b := fun b z => by
      rcases z with (z | z) | z
      · exact .inl z
      · exact .inr (by rw [z]; exact aO)
      · exact .inr (sub b z)
    have hset : σ.set i (some (.ref a)) = σ := by
      apply List.ext_getElem?
      intro j
      by_cases hj : j = i
      · subst hj
        rw [h1, List.getElem?_set_self (by exact (List.getElem?_eq_some_iff.mp h1).1)]
      · rw [List.getElem?_set_ne (Ne.symm hj)]
    have q := h4 H (Bn (Ad B a) (l1 ++ ([] ++ l2))) (fun b u q nb => ⟨q, fun z => nb (bn b z)⟩) (fun b _ u q => q) .emp (some (.ref a)) [] (.emp _)
    rw [hset] at q
    refine ⟨l1 ++ ([] ++ l2), a, xs, h1, ea, DVs.mono (fun b u q nb => ⟨q, fun z => nb (bn b z)⟩) _ _ x, ⟨q, ?_, R.fr, R.fe, fun b m => ⟨?_, (R.ow b (sub b m)).2⟩, ?_, fun p hp => ?_⟩, (R.ow a aO).1, aO, na, (R.ow a aO).2, sub⟩
    · refine ndp.sublist ?_
      simp
    · rintro (z | z)
      · exact (R.ow b (sub b m)).1 z
      · subst z; exact na m
    · rintro b (z | z)
      · exact R.bt b z
      · subst z; rw [ea]; exact fun w => nomatch w
    · obtain ⟨q1, d', q2⟩ := R.io p hp
      have ne : p.1 ≠ i := fun z => by
        rw [z, e] at q2
        cases q2
      rw [List.getElem?_set_ne (Ne.symm ne)]
      exact ⟨q1, d', q2⟩
theorem RL.unlend {a : Addr} (R : RL K fa F (Ad B a) O r σ H) {i : Nat} {s : Sl} {ds : List D} {xs : List V} (e : r[i]? = some s) (l : light s = true) (nB : ¬ B a) (e0 : a ∈ F.I ∨ F.H0 a = none) (es : σ[i]? = some (some (.ref a))) (ea : H a = some (.lst xs)) (x : DVs K H (Bn (Ad B a) O) xs ds) :
    ∃ O', RL K fa F B O' (r.set i (.own (.list ds))) σ H ∧ (∀ b ∈ O', b = a ∨ b ∈ O) := by
  obtain ⟨o, as, l1, l2, h1, h2, h3, h4⟩ := R.sl.at e
  have := h2.light l
  subst this
  have aO : a ∉ O := fun z => (R.ow a z).1 (.inr rfl)
  have sub : ∀ b, b ∈ l1 ++ ([a] ++ l2) → b = a ∨ b ∈ O := fun b m => by
    rw [h3]
    simp only [List.mem_append, List.mem_singleton, List.nil_append] at m ⊢
    rcases m with m | m | m
    · exact .inr (.inl m)
    · exact .inl m
    · exact .inr (.inr m)
  have bn : ∀ b, Bn B (l1 ++ ([a] ++ l2)) b → Bn (Ad B a) O b := fun b z => by
    rcases z with z | z
    · exact .inl (.inl z)
    · rcases sub b z with w | w
      · exact .inl (.inr w)
      · exact .inr w
  have hset : σ.set i (some (.ref a)) = σ := by
    apply List.ext_getElem?
    intro j
    by_cases hj : j = i
    · subst hj
      rw [es, List.getElem?_set_self (by exact (List.getElem?_eq_some_iff.mp es).1)]
    · rw [List.getElem?_set_ne (Ne.symm hj)]
  have q := h4 H (Bn B (l1 ++ ([a] ++ l2))) (fun b u q nb => ⟨q, fun z => nb (bn b z)⟩) (fun b _ u q => q) (.own (.list ds)) (some (.ref a)) [a] (.own ea (x.ban bn))
  rw [hset] at q
  refine ⟨l1 ++ ([a] ++ l2), ⟨q, ?_, R.fr, R.fe, fun b m => ?_, fun b z => R.bt b (.inl z), fun p hp => ?_⟩, sub⟩
  · have nd := R.nd
    rw [h3] at nd aO
    simp only [List.mem_append, List.nil_append, not_or] at aO
    simp only [List.nil_append] at nd
    rw [List.nodup_append] at nd ⊢
    obtain ⟨n1, n2, n3⟩ := nd
    refine ⟨n1, ?_, fun b hb c hc => ?_⟩
    · show (a :: l2).Nodup
      exact List.nodup_cons.mpr ⟨aO.2, n2⟩
    · rcases List.mem_cons.mp (show c ∈ a :: l2 from hc) with hc | hc
      · intro z
        subst z hc
        exact aO.1 hb
      · exact n3 b hb c hc
  · rcases sub b m with w | w
    · subst w; exact ⟨nB, e0⟩
    · exact ⟨fun z => (R.ow b w).1 (.inl z), (R.ow b w).2⟩
  · obtain ⟨q1, d', q2⟩ := R.io p hp
    have ne : p.1 ≠ i := fun z => by
      rw [z, e] at q2
      cases Option.some.inj q2
      cases l
    rw [List.getElem?_set_ne (Ne.symm ne)]
    exact ⟨q1, d', q2⟩
end
/-- the list at slot i, lent to a comprehension -/
def lcO (own : List Nat) (i : Nat) (t : D → M Ctl) (c : M Bool) (e : M D) : M (List D) := fun r => match r[i]? with
  | some (.own (.list ds)) => (lcM own (fun r0 => .ok ds r0) t c e (r.set i .emp)).bind fun ys r1 => match r1[i]? with
    | some .emp => .ok ys (r1.set i (.own (.list ds)))
    | _ => .bad
  | _ => .bad
theorem tF_lcO {K : PySem.W.Frag} {fa : Nat → Addr} {W : Wi} {own S : List Nat} {i0 : Nat} {t : D → M Ctl} {c : M Bool} {e : M D} {σ : L2.St} {H : Hp} {Q : VK} (hS : ∀ i ∈ S, i ∈ own) (ok : TgOk t) (h : tF K fa W (lcO own i0 t c e) σ H Q) :
    tLc (iList K (tVar i0)) (tG K fa S t) (tM K fa W0 c) (tV K fa W0 e) own σ H Q := by
  obtain ⟨F, B0, O0, r0', R0, h0⟩ := h
  unfold lcO at h0
  cases ei : r0'[i0]? with
  | none => simp only [ei] at h0
  | some s =>
  cases s with
  | emp => simp only [ei] at h0
  | fz d => simp only [ei] at h0
  | fn j => simp only [ei] at h0
  | deep d => simp only [ei] at h0
  | own d =>
  cases d with
  | list ds =>
    simp only [ei] at h0
    obtain ⟨O1, a0, xs0, hσ, ha0, hx0, R1, nB0, aO0, na0, fi0, sub0⟩ := R0.lend ei
    refine ⟨_, hσ, a0, rfl, ⟨xs0, .inl (.inl ha0)⟩, ?_⟩
    simp only [lcM, Res.ok_bind] at h0
    -- names as in the reading of a comprehension
    generalize hB : Ad B0 a0 = B at R1 hx0
    generalize hr : r0'.set i0 .emp = r0 at R1 h0
    obtain ⟨σ1, hσ1⟩ : ∃ s, s = σ := ⟨_, rfl⟩
    subst hσ1
    obtain ⟨H1, hH1⟩ : ∃ s, s = H := ⟨_, rfl⟩
    subst hH1
    by_cases hk : okW own r0 = true ∧ ds.length ≤ sizeLine
    case neg => rw [if_neg hk] at h0; exact False.elim h0
    rw [if_pos hk] at h0
    obtain ⟨hw0, hlen⟩ := hk
    intro Dd hD
    have nD : H1 Dd = none := hD
    have e0D : F.H0 Dd = none := R1.new0 nD
    -- what the whole run comes to
    cases ec : collM own t c e ds r0 with
    | bad => rw [ec] at h0; exact False.elim h0
    | ex k ds' r' =>
      have q := collM_noex (own := own) (c := c) (e := e) ok ds r0
      rw [ec] at q
      cases q
    | ok out rE =>
      rw [ec, Res.ok_bind] at h0
      by_cases hwE : okW own rE = true
      case neg => rw [if_neg hwE] at h0; exact False.elim h0
      rw [if_pos hwE] at h0
      have itok : ∀ (C : Addr → Prop) O' H', Ext O1 H1 O' H' → Mv H1 (Bn B O1) H' C → (∀ i d, ds[i]? = some d → (Itl K a0).go i H' ∧ ∀ x H2, (Itl K a0).yld i H' x H2 → Same H' H2 ∧ DV K H2 C x d) ∧ (Itl K a0).stop ds.length H' := by
        intro C O' H' e m
        have h1 : SqL K H' a0 xs0 := .inl (.inl (e.kp a0 _ na0 ha0))
        have h2 := DVs.mono m _ _ hx0
        refine ⟨fun i d hd => ?_, ⟨xs0, h1, by rw [h2.length]; exact Nat.le_refl _⟩⟩
        obtain ⟨v, h3, h4⟩ := h2.get hd
        refine ⟨⟨xs0, v, h1, h3⟩, fun y H2 ⟨e2, q⟩ => ?_⟩
        subst e2
        have e3 := q xs0 h1
        rw [h3] at e3
        cases e3
        exact ⟨fun _ _ z => z, h4⟩
      have S1 := same_fresh (o := .lst []) hD
      have RB : RL K fa F (Ad B Dd) O1 r0 σ1 (upd H1 Dd (.lst [])) := R1.addBan hD S1 (by rw [upd_same]; exact fun z => nomatch z)
      have RW := RB.wipe hw0
      refine ⟨fun i m H2 => m = ds.length - i ∧ i ≤ ds.length ∧ ∃ O2 r2 acc vs, RL K fa F (Ad B Dd) O2 (wR r2 own) (L2.wipe σ1 own) H2 ∧ okW own r2 = true ∧ Ext O1 H1 O2 H2 ∧ r2.length = r0.length ∧ H2 Dd = some (.lst vs) ∧ DVs K H2 (Bn (Ad B Dd) O2) vs acc ∧ acc.length ≤ i ∧
        ∃ rest, collM own t c e (ds.drop i) r2 = .ok rest rE ∧ acc ++ rest = out, ⟨ds.length, rfl, Nat.zero_le _, O1, r0, [], [], RW, hw0, Ext.same S1, rfl, upd_same, .nil, Nat.le_refl _, out, ec, rfl⟩, ?_⟩
      rintro i m H2 ⟨rfl, hi, O2, r2, acc, vs, R2, hw2, E2, hl2, eD, xa, hla, rest, er, eo⟩
      have mv : Mv H1 (Bn B O1) H2 (Bn (Ad B Dd) O2) := mv_new (ext_mono E2) hD
      obtain ⟨k1, k2⟩ := itok _ O2 H2 E2 mv
      by_cases hlt : i < ds.length
      · refine .inr ?_
        have hd : ds[i]? = some ds[i] := List.getElem?_eq_getElem hlt
        obtain ⟨g1, g2⟩ := k1 i _ hd
        have hdr : ds.drop i = ds[i] :: ds.drop (i + 1) := List.drop_eq_getElem_cons hlt
        rw [hdr] at er
        simp only [collM, hw2, if_true] at er
        refine ⟨g1, fun H' => ∃ O3 r3 acc vs, RL K fa F (Ad B Dd) O3 (wR r3 own) (L2.wipe σ1 own) H' ∧ okW own r3 = true ∧ Ext O1 H1 O3 H' ∧ r3.length = r0.length ∧ H' Dd = some (.lst vs) ∧ DVs K H' (Bn (Ad B Dd) O3) vs acc ∧ acc.length ≤ i + 1 ∧
          ∃ rest, collM own t c e (ds.drop (i + 1)) r3 = .ok rest rE ∧ acc ++ rest = out, fun H' q => ⟨ds.length - (i + 1), by omega, rfl, hlt, q⟩, fun x H3 hy => ?_⟩
        obtain ⟨S2, x2⟩ := g2 x H3 hy
        rcases ok ds[i] (wR r2 own) with et | ⟨r4, et⟩
        · rw [et] at er; cases er
        · rw [et, Res.ok_bind] at er
          refine ⟨F, Ad B Dd, O2, wR r2 own, ds[i], R2.same S2, x2, r4, et, fun O4 σ4 H4 R4 e4 o4 => ?_⟩
          have wq : L2.wipe σ4 own = L2.wipe σ1 own := by
            have o5 : Out own (L2.wipe σ1 own) σ4 := ⟨o4.1, fun j m => o4.2 j fun z => m (hS j z)⟩
            rw [wipe_eq o5, wipe_wipe]
          have E4 : Ext O1 H1 O4 H4 := (E2.trans (Ext.same S2)).trans e4
          have l4 : r4.length = r0.length := by rw [R4.len, o4.1, wipe_length, R1.len]
          refine ⟨wq, F, Ad B Dd, O4, r4, R4, ?_⟩
          cases hc : c r4 with
          | bad => rw [hc] at er; cases er
          | ex => rw [hc] at er; cases er
          | ok k r5 =>
            rw [hc, nE_ok, Res.ok_bind] at er
            intro O5 σ5 H5 R5 e5 es5
            subst es5
            have eD5 : H5 Dd = some (.lst vs) := by
              refine e5.kp Dd _ (fun z => (R4.ow Dd z).1 (.inr rfl)) (e4.kp Dd _ (fun z => (R2.ow Dd z).1 (.inr rfl)) (S2 _ _ eD))
            have xa5 : DVs K H5 (Bn (Ad B Dd) O5) vs acc := ((xa.same S2).ext e4).ext e5
            have l5 : r5.length = r0.length := by rw [R5.len, ← R4.len]; exact l4
            have E5 := E4.trans e5
            cases k with
            | true =>
              rw [if_pos rfl] at er ⊢
              refine ⟨F, Ad B Dd, O5, r5, R5, ?_⟩
              cases he : e r5 with
              | bad => rw [he] at er; cases er
              | ex => rw [he] at er; cases er
              | ok y r6 =>
                rw [he, nE_ok, Res.ok_bind] at er
                intro O6 σ6 H6 R6 e6 es6 v x6
                subst es6
                cases hq : collM own t c e (ds.drop (i + 1)) r6 with
                | bad => rw [hq] at er; cases er
                | ex => rw [hq] at er; cases er
                | ok ys r7 =>
                  rw [hq, Res.ok_bind] at er
                  cases er
                  have eD6 : H6 Dd = some (.lst vs) := e6.kp Dd _ (fun z => (R5.ow Dd z).1 (.inr rfl)) eD5
                  have xa6 := xa5.ext e6
                  have hw6 := collM_okW _ _ hq hwE
                  refine ⟨vs, eD6, by rw [xa6.length]; omega, O6, r6, acc ++ [y], vs ++ [v], ?_, hw6, (E5.trans e6).updNew hD, by rw [R6.len, ← R5.len]; exact l5, upd_same, (xa6.append (.cons x6 .nil)).updBan (.inl (.inr rfl)), by rw [List.length_append, List.length_singleton]; omega, ys, hq, by rw [← eo, List.append_assoc]; rfl⟩
                  have R7 := (R6.updBan (o := .lst (vs ++ [v])) (.inr rfl) e0D).wipe hw6
                  rw [wq] at R7
                  exact R7
            | false =>
              rw [if_neg Bool.false_ne_true] at er ⊢
              have hw5 := collM_okW _ _ er hwE
              have R7 := R5.wipe hw5
              rw [wq] at R7
              exact ⟨O5, r5, acc, vs, R7, hw5, E5, l5, eD5, xa5, by omega, rest, er, eo⟩
      · have hi2 : i = ds.length := by omega
        subst hi2
        rw [List.drop_length] at er
        cases er
        rw [List.append_nil] at eo
        subst eo
        have RK := R1.back mv R2 hw0 hl2
        generalize bkR r0 (wR rE own) own = rb at h0 RK
        rw [Res.ok_bind] at h0
        have ha2 : H2 a0 = some (.lst xs0) := E2.kp a0 _ na0 ha0
        have hx2 := DVs.mono mv _ _ hx0
        subst hB
        have ne : a0 ≠ Dd := fun z => by rw [z, hD] at ha0; cases ha0
        cases eb : rb[i0]? with
        | none => simp only [eb] at h0
        | some s =>
        cases s with
        | emp =>
          simp only [eb] at h0
          have RS : RL K fa F (Ad (Ad B0 Dd) a0) O2 rb σ1 H2 := RK.unBan fun b z => by
            rcases z with (z | z) | z
            · exact .inl (.inl z)
            · exact .inr z
            · exact .inl (.inr z)
          obtain ⟨O', R', sub⟩ := RS.unlend (xs := xs0) eb rfl (fun z => z.elim nB0 ne) fi0 hσ ha2 (hx2.ban fun b z => by
            rcases z with ((z | z) | z) | z
            · exact .inl (.inl (.inl z))
            · exact .inl (.inr z)
            · exact .inl (.inl (.inr z))
            · exact .inr z)
          refine .inl ⟨k2, h0 O' Dd vs H2 hD R' ⟨fun b o hb q => E2.kp b o (fun z => hb (sub0 b z)) q, fun b m => ?_, E2.th⟩ eD (xa.ban fun b z => ?_)⟩
          · rcases sub b m with z | z
            · exact .inl (by rw [z]; exact aO0)
            · exact (E2.nw b z).imp (sub0 b) id
          · rcases z with (z | z) | z
            · exact .inl (.inl (.inl z))
            · exact .inl (.inr z)
            · rcases sub b z with w | w
              · exact .inl (.inl (.inr w))
              · exact .inr w
        | fz d => simp only [eb] at h0
        | own d => simp only [eb] at h0
        | deep d => simp only [eb] at h0
        | fn d => simp only [eb] at h0
  | _ => simp only [ei] at h0
section
variable {X : Cx} {fa : Nat → Addr} {W : Wi} {tg elt : Expr} {ifs : List Expr} {scope : Scope} {own : List (Str × Nat)} {S : List Nat} {t : D → M Ctl} {c : M Bool} {e : M D} {pos : Pos}
theorem pf_lcO (i0 : Nat) {x0 : Str} {p0 : Pos} (hc : X.calm = true) (hN : X.N.Nodup) (ok : BlkOk X.N X.env.scope scope own) (hS : ∀ i ∈ S, i ∈ own.map (·.2)) (tok : TgOk t)
    (hg : ∀ (s : Shared) (H : Hp) (C : Addr) (cl : List (Str × Addr)) (fp : List Addr), PT1 (X.blk s H scope (compEnvC scope cl C X.env) fp) fa S tg t)
    (ht : ∀ (s : Shared) (H : Hp) (C : Addr) (cl : List (Str × Addr)) (fp : List Addr), PTs (X.blk s H scope (compEnvC scope cl C X.env) fp) ifs (tM X.K fa W0 c))
    (he : ∀ (s : Shared) (H : Hp) (C : Addr) (cl : List (Str × Addr)) (fp : List Addr), PV (X.blk s H scope (compEnvC scope cl C X.env) fp) fa W0 elt e)
    (hi : X.N[i0]? = some x0 := by rfl) (hv : Vis X.env.scope x0 := by first | exact Or.inl rfl | exact Or.inr (Or.inl rfl) | exact Or.inr (Or.inr rfl)) (hd : (x0 == ("__debug__" : Str)) = false := by decide)
    (hcd : (x0 == ("__classdict__" : Str)) = false := by decide) (hs : ∀ x, foldedSetIterable (.Name x0 p0) X.env x = pure x := by intro _; rfl) :
    PF X fa W (.ListComp elt [⟨tg, .Name x0 p0, ifs, 0⟩] scope pos) (lcO (own.map (·.2)) i0 t c e) :=
  PE.imp (pe_lc hc hN (pi_list (pe_var hi hv hd hcd)) ok (fun s H C cl fp => (hg s H C cl fp).pg) ht he hs) fun _ _ _ q => tF_lcO hS tok q
end
end DL

namespace K03
open PySem PySem.Spec PyProof.Rows L2 DL
def topS (i : Nat) : Stmt := PySem.Challenge.pw_unseentables_k03_whole_grids_by_own_widt.main.body.getD i (.Pass ⟨0, 0, 0, 0⟩)
structure Bt (mg : Str → Option Value) : Prop where
  abs_ : mg "abs" = none
  enumerate_ : mg "enumerate" = none
  int_ : mg "int" = none
  isinstance_ : mg "isinstance" = none
  len_ : mg "len" = none
  max_ : mg "max" = none
  range_ : mg "range" = none
  repr_ : mg "repr" = none
  str_ : mg "str" = none
  tuple_ : mg "tuple" = none
  zip_ : mg "zip" = none
section
variable {P : Program} {w : World} {K : PySem.W.Frag} {mg : Str → Option Value} {base : Heap} {fa : Nat → Addr}
abbrev s_grid : Stmt := topS 1
abbrev n_grid : List Str := ["columns", "rows", "lines", "row", "widths", "place", "filled", "many", "column", "value", "line", "width"]
theorem sc_grid : FnScope ["columns", "rows", "lines", "row", "widths", "place", "filled", "many", "column", "value", "line", "width"] ["columns", "rows"] (defScope s_grid) := ⟨rfl, rfl, rfl, by decide +kernel, rfl, by decide +kernel, by decide +kernel⟩
def m_grid (G__grid_line : Fn) : M Ctl :=
    (seqM (setOwn 2 (lnM (consM (lstOf (lcM [8] (iterM (rdV 0)) (tgPut 8) yesM (bin2 ixG (rdV 8) (cV (.int 0))))) nilM)))
    (seqM (forM (iterM (rdV 1)) (tgPut 3) (exprM (mutM 2 appendG (consM (lstOf (lcM [9] (iterM (rdV 3)) (tgPut 9) yesM (appM strG (consM (rdV 9) nilM)))) nilM))))
    (seqM (setOwn 4 (lnM nilM))
    (seqM (forM (appI range1 (consM (appM lenG (consM (rdV 0) nilM)) nilM)) (tgPut 5) (exprM (mutM 4 appendG (consM (appM maxLG (consM (lstOf (lcO [10] 2 (tgPut 10) yesM (appM lenG (consM (bin2 ixG (rdV 10) (rdV 5)) nilM)))) nilM)) nilM))))
    (seqM (exprM (mutM 2 insertG (consM (cV (.int 1)) (consM (lstOf (lcM [11] (iterM (rdV 4)) (tgPut 11) yesM (bin2 mulG (cV (.str "-")) (rdV 11)))) nilM))))
    (seqM (setOwn 6 (lcM [10] (iterM (rdV 2)) (tgPut 10) yesM (callM G__grid_line [.val (rdV 0), .val (rdV 4), .val (rdV 10)])))
    (seqM (setM 7 (ifM (truM (bin2 eqG (appM lenG (consM (rdV 1) nilM)) (cV (.int 1)))) (cV (.str "(1 row)")) (jsM [(cV (.str "(")), (mapM1 fmtG (appM lenG (consM (rdV 1) nilM))), (cV (.str " rows)"))] Str.empty)))
    (retM (joinM (cV (.str "\n")) (bin2 addG (rdV 6) (lstM (consM (rdV 7) nilM))))))))))))

theorem b_grid {G__grid_line : Fn} (b : Bt mg) (hs : ∃ o, base.get? sysModules = some o) (c__grid_line : Cal P w K mg base fa "_grid_line" 1 3 G__grid_line) {f : Addr} (cdv : Value) (A : Around) (outer : List Env) (s : Shared) (H : Hp) (E : XK)
    (hr : Room 1 (A.deeper (envOfC "grid" (defScope s_grid) s.heap.objs.size f cdv))) (hgd : (A.deeper (envOfC "grid" (defScope s_grid) s.heap.objs.size f cdv)).guards = some []) :
    PGs (cxOf CX0 P w K mg base ["columns", "rows", "lines", "row", "widths", "place", "filled", "many", "column", "value", "line", "width"] "grid" (defScope s_grid) f cdv A outer s H E).nox fa W0 (defBody s_grid) (m_grid G__grid_line) :=
  have nd := sc_grid.nd
  (gs_cons (g_setF 2 nd (pf_lst (pvs_cons (pv_ofF (pf_lc rfl nd (it_e (pv_nm 0)) (own := [("column", 8)]) (blkOk_by (by show L2.blkC n_grid (defScope s_grid) _ _ = true; decide +kernel)) (S := [8]) (by decide) (tgPut_ok 8) (fun _ _ _ _ _ => (tg_nm 8 nd)) (fun _ _ _ _ _ => pts_none) (fun _ _ _ _ _ => (pv_ix ix_seqD (pv_nm 8) pv_int (fun _ _ => rfl))))) pvs_nil)))
      (gs_cons (g_for PassesOwn.never rfl (it_e (pv_nm 1)) (tg_nm 3 nd) (gs_one (g_expr (pv_append 2 (pvs_cons (pv_ofF (pf_lc rfl nd (it_e (pv_nm 3)) (own := [("value", 9)]) (blkOk_by (by show L2.blkC n_grid (defScope s_grid) _ _ = true; decide +kernel)) (S := [9]) (by decide) (tgPut_ok 9) (fun _ _ _ _ _ => (tg_nm 9 nd)) (fun _ _ _ _ _ => pts_none) (fun _ _ _ _ _ => (pv_cty cd_str b.str_ (pvs_cons (pv_nm 9) pvs_nil))))) pvs_nil)))))
      (gs_cons (g_setF 4 nd (pf_lst pvs_nil))
      (gs_cons (g_for PassesOwn.never rfl (it_range1 b.range_ (pvs_cons (pv_cb cd_len b.len_ (pvs_cons (pv_nm 0) pvs_nil)) pvs_nil)) (tg_nm 5 nd) (gs_one (g_expr (pv_append 4 (pvs_cons (pv_cb (cd_maxL rfl) b.max_ (pvs_cons (pv_ofF (pf_lcO 2 rfl nd (own := [("line", 10)]) (blkOk_by (by show L2.blkC n_grid (defScope s_grid) _ _ = true; decide +kernel)) (S := [10]) (by decide) (tgPut_ok 10) (fun _ _ _ _ _ => (tg_nm 10 nd)) (fun _ _ _ _ _ => pts_none) (fun _ _ _ _ _ => (pv_cb cd_len b.len_ (pvs_cons (pv_ix ix_seqD (pv_nm 10) (pv_nm 5) (fun _ _ => rfl)) pvs_nil))))) pvs_nil)) pvs_nil)))))
      (gs_cons (g_expr (pv_insert 2 (pvs_cons pv_int (pvs_cons (pv_ofF (pf_lc rfl nd (it_e (pv_nm 4)) (own := [("width", 11)]) (blkOk_by (by show L2.blkC n_grid (defScope s_grid) _ _ = true; decide +kernel)) (S := [11]) (by decide) (tgPut_ok 11) (fun _ _ _ _ _ => (tg_nm 11 nd)) (fun _ _ _ _ _ => pts_none) (fun _ _ _ _ _ => (pv_bin od_mul pv_str (pv_nm 11))))) pvs_nil))))
      (gs_cons (g_setLcF 6 rfl nd (sw_true (by rfl) (by rfl) (by rfl) (by rfl)) (it_e (pv_nm 2)) (own := [("line", 10)]) (blkOk_by (by show L2.blkC n_grid (defScope s_grid) _ _ = true; decide +kernel)) (S := [10]) (by decide) (tgPut_ok 10) (fun _ _ _ _ _ => (tg_nm 10 nd)) (fun _ _ _ _ _ => pts_none) (fun _ _ _ _ _ => (pv_cal c__grid_line (hr.mono (by decide)) hgd (as_val (pv_nm 0) (as_val (pv_nm 4) (as_val (pv_nm 10) as_nil))))))
      (gs_cons (g_set 7 nd (pv_if (pm_cmp (od_eq hr hs) bg_eq (pv_cb cd_len b.len_ (pvs_cons (pv_nm 1) pvs_nil)) pv_int (by rfl)) pv_str (pv_fstr (PVj.cons pv_str (PVj.cons (pv_fmt (pv_cb cd_len b.len_ (pvs_cons (pv_nm 1) pvs_nil))) (PVj.cons pv_str PVj.nil))))))
      (gs_one (g_ret (pv_join pv_str (pv_bin od_add (pv_nm 6) (pv_lst (pvs_cons (pv_nm 7) pvs_nil)))))))))))))

abbrev s__grid_line : Stmt := topS 2
abbrev n__grid_line : List Str := ["columns", "widths", "words", "parts", "column", "width", "word"]
theorem sc__grid_line : FnScope ["columns", "widths", "words", "parts", "column", "width", "word"] ["columns", "widths", "words"] (defScope s__grid_line) := ⟨rfl, rfl, rfl, by decide +kernel, rfl, by decide +kernel, by decide +kernel⟩
def m__grid_line  : M Ctl :=
    (seqM (setOwn 3 (lnM nilM))
    (seqM (forM (zip3M (consM (rdV 0) (consM (rdV 1) (consM (rdV 2) nilM)))) (tgTup 3 (tgCons (tgPut 4) (tgCons (tgPut 5) (tgCons (tgPut 6) tgNil)))) (exprM (mutM 3 appendG (consM (ifM (truM (bin2 eqG (bin2 ixG (rdV 4) (cV (.int 1))) (cV (.str "number")))) (m1M rjG (rdV 6) (rdV 5)) (m1M ljG (rdV 6) (rdV 5))) nilM))))
    (retM (m1M rsG (joinM (cV (.str "  ")) (rdV 3)) (cV (.str " "))))))

theorem b__grid_line  (b : Bt mg) (hs : ∃ o, base.get? sysModules = some o) {f : Addr} (cdv : Value) (A : Around) (outer : List Env) (s : Shared) (H : Hp) (E : XK)
    (hr : Room 0 (A.deeper (envOfC "_grid_line" (defScope s__grid_line) s.heap.objs.size f cdv))) (hgd : (A.deeper (envOfC "_grid_line" (defScope s__grid_line) s.heap.objs.size f cdv)).guards = some []) :
    PGs (cxOf CX0 P w K mg base ["columns", "widths", "words", "parts", "column", "width", "word"] "_grid_line" (defScope s__grid_line) f cdv A outer s H E).nox fa W0 (defBody s__grid_line) (m__grid_line) :=
  have nd := sc__grid_line.nd
  (gs_cons (g_setF 3 nd (pf_lst pvs_nil))
      (gs_cons (g_for PassesOwn.never rfl (it_zip3 b.zip_ (pvs_cons (pv_nm 0) (pvs_cons (pv_nm 1) (pvs_cons (pv_nm 2) pvs_nil)))) (tg_tup rfl (tgs_cons (tg_nm 4 nd) (tgs_cons (tg_nm 5 nd) (tgs_cons (tg_nm 6 nd) tgs_nil))) (tgCons_ok (tgPut_ok 4) (tgCons_ok (tgPut_ok 5) (tgCons_ok (tgPut_ok 6) tgNil_ok)))) (gs_one (g_expr (pv_append 3 (pvs_cons (pv_if (pm_cmp (od_eq hr hs) bg_eq (pv_ix ix_seqD (pv_nm 4) pv_int (fun _ _ => rfl)) pv_str (by rfl)) (pv_rjust (pv_nm 6) (pv_nm 5)) (pv_ljust (pv_nm 6) (pv_nm 5))) pvs_nil)))))
      (gs_one (g_ret (pv_rstrip (pv_join pv_str (pv_nm 3)) pv_str)))))

abbrev s__law_loom : Stmt := topS 4
abbrev n__law_loom : List Str := ["_law_script", "_law_cells", "_law_stirred", "_law_cell"]
theorem sc__law_loom : FnScope ["_law_script", "_law_cells", "_law_stirred", "_law_cell"] ["_law_script"] (defScope s__law_loom) := ⟨rfl, rfl, rfl, by decide +kernel, rfl, by decide +kernel, by decide +kernel⟩
def m__law_loom  : M (List (D × D)) :=
    (goOn (setsM [1, 2] [.val (lstOf (lcM [3] (iterM (slM (rdV 0) .no (.at (cV (.int 63))))) (tgPut 3) yesM (bin2 addG (bin2 mulG (cV (.int 2)) (appM absG (consM (rdV 3) nilM))) (appM toIntG (consM (bin2 ltG (rdV 3) (cV (.int 0))) nilM))))), .val (bin2 addG (cV (.int 51407)) (bin2 mulG (cV (.int 5)) (appM lenG (consM (rdV 0) nilM))))])
    (goOn (forM (iterM (rdV 1)) (tgPut 3) (setM 2 (bin2 modG (appM toIntG (consM (bin2 addG (bin2 addG (bin2 mulG (rdV 2) (cV (.int 48271))) (rdV 3)) (cV (.int 17))) nilM)) (cV (.int 4294967291)))))
    (evE [((.inr "far"), .lst (lcM [3] (iterM (rdV 1)) (tgPut 3) (truM (bin2 geG (rdV 3) (bin2 powG (cV (.int 10)) (cV (.int 15))))) (rdV 3))), ((.inr "stirred"), .val (rdV 2)), ((.inr "times"), .val (cV (.int 0)))])))

theorem b__law_loom  (b : Bt mg) (hs : ∃ o, base.get? sysModules = some o) {f : Addr} (cdv : Value) (A : Around) (outer : List Env) (s : Shared) (H : Hp) (E : XK)
    (hr : Room 0 (A.deeper (envOfC "_law_loom" (defScope s__law_loom) s.heap.objs.size f cdv))) (hgd : (A.deeper (envOfC "_law_loom" (defScope s__law_loom) s.heap.objs.size f cdv)).guards = some []) :
    L2.PSs (cxOf CX0 P w K mg base ["_law_script", "_law_cells", "_law_stirred", "_law_cell"] "_law_loom" (defScope s__law_loom) f cdv A outer s H E).nox (defBody s__law_loom) (tRetD K fa W0 (m__law_loom)) :=
  have nd := sc__law_loom.nd
  (rd_cons (g_par2 1 2 rfl nd (pn_val (pv_ofF (pf_lc rfl nd (it_e (pv_sl (pv_nm 0) pp_no (pp_at pv_int))) (own := [("_law_cell", 3)]) (blkOk_by (by show L2.blkC n__law_loom (defScope s__law_loom) _ _ = true; decide +kernel)) (S := [3]) (by decide) (tgPut_ok 3) (fun _ _ _ _ _ => (tg_nm 3 nd)) (fun _ _ _ _ _ => pts_none) (fun _ _ _ _ _ => (pv_bin od_add (pv_bin od_mul pv_int (pv_cb cd_abs b.abs_ (pvs_cons (pv_nm 3) pvs_nil))) (pv_cty cd_int b.int_ (pvs_cons (pv_cmp od_lt (pv_nm 3) pv_int (by rfl)) pvs_nil)))))) (pn_val (pv_bin od_add pv_int (pv_bin od_mul pv_int (pv_cb cd_len b.len_ (pvs_cons (pv_nm 0) pvs_nil)))) pn_nil)))
      (rd_cons (g_for PassesOwn.never rfl (it_e (pv_nm 1)) (tg_nm 3 nd) (gs_one (g_set 2 nd (pv_bin od_mod (pv_cty cd_int b.int_ (pvs_cons (pv_bin od_add (pv_bin od_add (pv_bin od_mul (pv_nm 2) pv_int) (pv_nm 3)) pv_int) pvs_nil)) pv_int))))
      (rd_one (rd_disp (pps_lst (kk := (.inr "far")) pe_str (pf_lc rfl nd (it_e (pv_nm 1)) (own := [("_law_cell", 3)]) (blkOk_by (by show L2.blkC n__law_loom (defScope s__law_loom) _ _ = true; decide +kernel)) (S := [3]) (by decide) (tgPut_ok 3) (fun _ _ _ _ _ => (tg_nm 3 nd)) (fun _ _ _ _ _ => (pts_1 (pm_cmp od_ge bg_ge (pv_nm 3) (pv_bin od_pow pv_int pv_int) (by rfl)))) (fun _ _ _ _ _ => (pv_nm 3))) (pps_val (k := .non) (kk := (.inr "stirred")) pe_str (pv_nm 2) (pps_val (k := .non) (kk := (.inr "times")) pe_str pv_int pps_nil))) (by decide) (by decide) rfl rfl (by simp) (by decide)))))

abbrev s__law_draw : Stmt := topS 5
abbrev n__law_draw : List Str := ["_law_loom_here", "_law_many", "_law_cell", "_law_one"]
theorem sc__law_draw : FnScope ["_law_loom_here", "_law_many", "_law_cell", "_law_one"] ["_law_loom_here", "_law_many"] (defScope s__law_draw) := ⟨rfl, rfl, rfl, by decide +kernel, rfl, by decide +kernel, by decide +kernel⟩
def m__law_draw  : M Ctl :=
    (seqM (ifM (truM (bin2 ltG (rdV 1) (cV (.int 2)))) (retM (cV (.int 0))) nxM)
    (seqM (ifM (truMB (bin2B neG (bin2B dictG (rdB 0) (fun _ => some (.str "far"))) (fun _ => some (.list [])))) (seqM (setM 2 (deepM 0 (.inr "far") popG nilB))
    (seqM (ifM (truM (bin2 geG (rdV 2) (rdV 1))) (exprM (deepM 0 (.inr "far") appendG (consB (bin2B fdivG (rdB 2) (rdB 1)) nilB))) nxM)
    (retM (bin2 modG (appM toIntG (consM (rdV 2) nilM)) (rdV 1))))) nxM)
    (seqM (setIxM 0 (fun _ => some (.str "times")) (bin2 addG (ofB (bin2B dictG (rdB 0) (fun _ => some (.str "times")))) (cV (.int 1))))
    (seqM (setM 3 (bin2 modG (ofB (appB toIntG (consB (bin2B addG (bin2B dictG (rdB 0) (fun _ => some (.str "stirred"))) (bin2B mulG (fun _ => some (.int 2654435761)) (bin2B dictG (rdB 0) (fun _ => some (.str "times"))))) nilB))) (cV (.int 4294967279))))
    (seqM (setM 3 (bin2 modG (ofB (appB toIntG (consB (bin2B addG (bin2B addG (bin2B mulG (rdB 3) (rdB 3)) (bin2B mulG (fun _ => some (.int 40503)) (bin2B dictG (rdB 0) (fun _ => some (.str "times"))))) (fun _ => some (.int 17))) nilB))) (cV (.int 4294967231))))
    (seqM (setM 3 (bin2 modG (ofB (appB toIntG (consB (bin2B addG (bin2B mulG (rdB 3) (rdB 3)) (bin2B dictG (rdB 0) (fun _ => some (.str "stirred")))) nilB))) (cV (.int 4294967197))))
    (retM (bin2 modG (appM toIntG (consM (bin2 fdivG (rdV 3) (cV (.int 128))) nilM)) (rdV 1)))))))))

theorem b__law_draw  (b : Bt mg) (hs : ∃ o, base.get? sysModules = some o) {f : Addr} (cdv : Value) (A : Around) (outer : List Env) (s : Shared) (H : Hp) (E : XK)
    (hr : Room 0 (A.deeper (envOfC "_law_draw" (defScope s__law_draw) s.heap.objs.size f cdv))) (hgd : (A.deeper (envOfC "_law_draw" (defScope s__law_draw) s.heap.objs.size f cdv)).guards = some []) :
    PGs (cxOf CX0 P w K mg base ["_law_loom_here", "_law_many", "_law_cell", "_law_one"] "_law_draw" (defScope s__law_draw) f cdv A outer s H E).nox fa W0 (defBody s__law_draw) (m__law_draw) :=
  have nd := sc__law_draw.nd
  (gs_cons (g_if (pm_cmp od_lt bg_lt (pv_nm 1) pv_int (by rfl)) (gs_one (g_ret pv_int)) gs_nil)
      (gs_cons (g_if (pm_cmpB (od_ne hr hs) bg_ne (pb_dget (hu_of hr) (pb_nm 0) pb_str (fun _ _ => rfl)) pb_nil (by rfl)) (gs_cons (g_set 2 nd (pv_dpop 0 (hu_of hr)))
      (gs_cons (g_if (pm_cmp od_ge bg_ge (pv_nm 2) (pv_nm 1) (by rfl)) (gs_one (g_expr (pv_dappend 0 (hu_of hr) (pbs_cons (pb_bin od_fdiv (pb_nm 2) (pb_nm 1)) pbs_nil)))) gs_nil)
      (gs_one (g_ret (pv_bin od_mod (pv_cty cd_int b.int_ (pvs_cons (pv_nm 2) pvs_nil)) (pv_nm 1)))))) gs_nil)
      (gs_cons (g_setIx 0 (hu_of hr) pb_str (pv_bin od_add (pv_ofB (pb_dget (hu_of hr) (pb_nm 0) pb_str (fun _ _ => rfl))) pv_int))
      (gs_cons (g_set 3 nd (pv_bin od_mod (pv_ofB (pb_cty cd_int b.int_ (pbs_cons (pb_bin od_add (pb_dget (hu_of hr) (pb_nm 0) pb_str (fun _ _ => rfl)) (pb_bin od_mul pb_int (pb_dget (hu_of hr) (pb_nm 0) pb_str (fun _ _ => rfl)))) pbs_nil))) pv_int))
      (gs_cons (g_set 3 nd (pv_bin od_mod (pv_ofB (pb_cty cd_int b.int_ (pbs_cons (pb_bin od_add (pb_bin od_add (pb_bin od_mul (pb_nm 3) (pb_nm 3)) (pb_bin od_mul pb_int (pb_dget (hu_of hr) (pb_nm 0) pb_str (fun _ _ => rfl)))) pb_int) pbs_nil))) pv_int))
      (gs_cons (g_set 3 nd (pv_bin od_mod (pv_ofB (pb_cty cd_int b.int_ (pbs_cons (pb_bin od_add (pb_bin od_mul (pb_nm 3) (pb_nm 3)) (pb_dget (hu_of hr) (pb_nm 0) pb_str (fun _ _ => rfl))) pbs_nil))) pv_int))
      (gs_one (g_ret (pv_bin od_mod (pv_cty cd_int b.int_ (pvs_cons (pv_bin od_fdiv (pv_nm 3) pv_int) pvs_nil)) (pv_nm 1))))))))))

abbrev s__law_pick : Stmt := topS 6
abbrev n__law_pick : List Str := ["_law_loom_here", "_law_things"]
theorem sc__law_pick : FnScope ["_law_loom_here", "_law_things"] ["_law_loom_here", "_law_things"] (defScope s__law_pick) := ⟨rfl, rfl, rfl, by decide +kernel, rfl, by decide +kernel, by decide +kernel⟩
def m__law_pick (G__law_draw : Fn) : M Ctl :=
    (retM (bin2 ixG (rdV 1) (callM G__law_draw [.ref 0, .val (appM lenG (consM (rdV 1) nilM))])))

theorem b__law_pick {G__law_draw : Fn} (b : Bt mg) (hs : ∃ o, base.get? sysModules = some o) (c__law_draw : Cal P w K mg base fa "_law_draw" 1 2 G__law_draw) {f : Addr} (cdv : Value) (A : Around) (outer : List Env) (s : Shared) (H : Hp) (E : XK)
    (hr : Room 1 (A.deeper (envOfC "_law_pick" (defScope s__law_pick) s.heap.objs.size f cdv))) (hgd : (A.deeper (envOfC "_law_pick" (defScope s__law_pick) s.heap.objs.size f cdv)).guards = some []) :
    PGs (cxOf CX0 P w K mg base ["_law_loom_here", "_law_things"] "_law_pick" (defScope s__law_pick) f cdv A outer s H E).nox fa W0 (defBody s__law_pick) (m__law_pick G__law_draw) :=
  have nd := sc__law_pick.nd
  (gs_one (g_ret (pv_ix ix_seqD (pv_nm 1) (pv_cal c__law_draw (hr.mono (by decide)) hgd (as_ref 0 (as_val (pv_cb cd_len b.len_ (pvs_cons (pv_nm 1) pvs_nil)) as_nil))) (fun _ _ => rfl))))

abbrev s__law_keys : Stmt := topS 8
abbrev n__law_keys : List Str := ["_law_told"]
theorem sc__law_keys : FnScope ["_law_told"] [] (defScope s__law_keys) := ⟨rfl, rfl, rfl, by decide +kernel, rfl, by decide +kernel, by decide +kernel⟩
def m__law_keys  : M Ctl :=
    (seqM (setM 0 (cV (.str "and append as ask back by change count distinct down drop else first from greatest group having if into")))
    (seqM (setM 0 (bin2 addG (rdV 0) (cV (.str " join keep least less make mark meet not number numbered on or order pairs put room running select"))))
    (retM (appM tupleG (consM (splitM (bin2 addG (rdV 0) (cV (.str " strike sum text then to up values where with within without"))) (cV (.str " "))) nilM)))))

theorem b__law_keys  (b : Bt mg) (hs : ∃ o, base.get? sysModules = some o) {f : Addr} (cdv : Value) (A : Around) (outer : List Env) (s : Shared) (H : Hp) (E : XK)
    (hr : Room 0 (A.deeper (envOfC "_law_keys" (defScope s__law_keys) s.heap.objs.size f cdv))) (hgd : (A.deeper (envOfC "_law_keys" (defScope s__law_keys) s.heap.objs.size f cdv)).guards = some []) :
    PGs (cxOf CX0 P w K mg base ["_law_told"] "_law_keys" (defScope s__law_keys) f cdv A outer s H E).nox fa W0 (defBody s__law_keys) (m__law_keys) :=
  have nd := sc__law_keys.nd
  (gs_cons (g_set 0 nd pv_str)
      (gs_cons (g_set 0 nd (pv_bin od_add (pv_nm 0) pv_str))
      (gs_one (g_ret (pv_cty cd_tuple b.tuple_ (pvs_cons (pv_split (pv_bin od_add (pv_nm 0) pv_str) pv_str) pvs_nil))))))

abbrev s__law_name : Stmt := topS 9
abbrev n__law_name : List Str := ["_law_loom_here", "_law_last", "_law_many", "_law_found", "_law_turn"]
theorem sc__law_name : FnScope ["_law_loom_here", "_law_last", "_law_many", "_law_found", "_law_turn"] ["_law_loom_here", "_law_last"] (defScope s__law_name) := ⟨rfl, rfl, rfl, by decide +kernel, rfl, by decide +kernel, by decide +kernel⟩
def m__law_name (G__law_draw : Fn) (G__law_pick : Fn) (G__law_keys : Fn) : M Ctl :=
    (seqM (setM 2 (callM G__law_draw [.ref 0, .val (callM G__law_pick [.ref 0, .val (lstM (consM (cV (.int 1)) (consM (cV (.int 2)) (consM (cV (.int 4)) (consM (cV (.int 8)) nilM)))))])]))
    (seqM (setM 3 (bin2 addG (slM (joinM (cV (.str "")) (lstOf (lcM [4] (appI range1 (consM (rdV 2) nilM)) (tgPut 4) yesM (callM G__law_pick [.ref 0, .val (cV (.str "abcdefghijklmnopqrstuvwxyz"))])))) .no (.at (cV (.int 7)))) (rdV 1)))
    (retM (ifM (truM (bin2 inG (rdV 3) (callM G__law_keys []))) (bin2 addG (cV (.str "q")) (slM (rdV 3) (.at (mapM1 negG (cV (.int 7)))) .no)) (rdV 3)))))

theorem b__law_name {G__law_draw : Fn} {G__law_pick : Fn} {G__law_keys : Fn} (b : Bt mg) (hs : ∃ o, base.get? sysModules = some o) (c__law_draw : Cal P w K mg base fa "_law_draw" 1 2 G__law_draw) (c__law_pick : Cal P w K mg base fa "_law_pick" 2 2 G__law_pick) (c__law_keys : Cal P w K mg base fa "_law_keys" 1 0 G__law_keys) {f : Addr} (cdv : Value) (A : Around) (outer : List Env) (s : Shared) (H : Hp) (E : XK)
    (hr : Room 2 (A.deeper (envOfC "_law_name" (defScope s__law_name) s.heap.objs.size f cdv))) (hgd : (A.deeper (envOfC "_law_name" (defScope s__law_name) s.heap.objs.size f cdv)).guards = some []) :
    PGs (cxOf CX0 P w K mg base ["_law_loom_here", "_law_last", "_law_many", "_law_found", "_law_turn"] "_law_name" (defScope s__law_name) f cdv A outer s H E).nox fa W0 (defBody s__law_name) (m__law_name G__law_draw G__law_pick G__law_keys) :=
  have nd := sc__law_name.nd
  (gs_cons (g_set 2 nd (pv_cal c__law_draw (hr.mono (by decide)) hgd (as_ref 0 (as_val (pv_cal c__law_pick (hr.mono (by decide)) hgd (as_ref 0 (as_val (pv_lst (pvs_cons pv_int (pvs_cons pv_int (pvs_cons pv_int (pvs_cons pv_int pvs_nil))))) as_nil))) as_nil))))
      (gs_cons (g_set 3 nd (pv_bin od_add (pv_sl (pv_join pv_str (pv_ofF (pf_lc rfl nd (it_range1 b.range_ (pvs_cons (pv_nm 2) pvs_nil)) (own := [("_law_turn", 4)]) (blkOk_by (by show L2.blkC n__law_name (defScope s__law_name) _ _ = true; decide +kernel)) (S := [4]) (by decide) (tgPut_ok 4) (fun _ _ _ _ _ => (tg_nm 4 nd)) (fun _ _ _ _ _ => pts_none) (fun _ _ _ _ _ => (pv_cal c__law_pick (hr.mono (by decide)) hgd (as_ref 0 (as_val pv_str as_nil))))))) pp_no (pp_at pv_int)) (pv_nm 1)))
      (gs_one (g_ret (pv_if (pm_cmp (od_in hr hs) bg_in (pv_nm 3) (pv_cal0 c__law_keys (hr.mono (by decide)) hgd) (by rfl)) (pv_bin od_add pv_str (pv_sl (pv_nm 3) (pp_at (pv_neg pv_int)) pp_no)) (pv_nm 3))))))

abbrev s__law_columns : Stmt := topS 10
abbrev n__law_columns : List Str := ["_law_loom_here", "_law_many", "_law_place"]
theorem sc__law_columns : FnScope ["_law_loom_here", "_law_many", "_law_place"] ["_law_loom_here", "_law_many"] (defScope s__law_columns) := ⟨rfl, rfl, rfl, by decide +kernel, rfl, by decide +kernel, by decide +kernel⟩
def m__law_columns (G__law_name : Fn) (G__law_pick : Fn) : M Ctl :=
    (retM (appM tupleG (consM (lstOf (lcM [2] (appI range1 (consM (rdV 1) nilM)) (tgPut 2) yesM (tupM (consM (callM G__law_name [.ref 0, .val (bin2 ixG (cV (.str "abcdefgh")) (rdV 2))]) (consM (callM G__law_pick [.ref 0, .val (lstM (consM (cV (.str "number")) (consM (cV (.str "text")) nilM)))]) nilM))))) nilM)))

theorem b__law_columns {G__law_name : Fn} {G__law_pick : Fn} (b : Bt mg) (hs : ∃ o, base.get? sysModules = some o) (c__law_name : Cal P w K mg base fa "_law_name" 3 2 G__law_name) (c__law_pick : Cal P w K mg base fa "_law_pick" 2 2 G__law_pick) {f : Addr} (cdv : Value) (A : Around) (outer : List Env) (s : Shared) (H : Hp) (E : XK)
    (hr : Room 3 (A.deeper (envOfC "_law_columns" (defScope s__law_columns) s.heap.objs.size f cdv))) (hgd : (A.deeper (envOfC "_law_columns" (defScope s__law_columns) s.heap.objs.size f cdv)).guards = some []) :
    PGs (cxOf CX0 P w K mg base ["_law_loom_here", "_law_many", "_law_place"] "_law_columns" (defScope s__law_columns) f cdv A outer s H E).nox fa W0 (defBody s__law_columns) (m__law_columns G__law_name G__law_pick) :=
  have nd := sc__law_columns.nd
  (gs_one (g_ret (pv_cty cd_tuple b.tuple_ (pvs_cons (pv_ofF (pf_lc rfl nd (it_range1 b.range_ (pvs_cons (pv_nm 1) pvs_nil)) (own := [("_law_place", 2)]) (blkOk_by (by show L2.blkC n__law_columns (defScope s__law_columns) _ _ = true; decide +kernel)) (S := [2]) (by decide) (tgPut_ok 2) (fun _ _ _ _ _ => (tg_nm 2 nd)) (fun _ _ _ _ _ => pts_none) (fun _ _ _ _ _ => (pv_tup (pvs_cons (pv_cal c__law_name (hr.mono (by decide)) hgd (as_ref 0 (as_val (pv_ix ix_seqD pv_str (pv_nm 2) (fun _ _ => rfl)) as_nil))) (pvs_cons (pv_cal c__law_pick (hr.mono (by decide)) hgd (as_ref 0 (as_val (pv_lst (pvs_cons pv_str (pvs_cons pv_str pvs_nil))) as_nil))) pvs_nil)))))) pvs_nil))))

abbrev s__law_value : Stmt := topS 11
abbrev n__law_value : List Str := ["_law_loom_here", "_law_kind", "_law_far_here", "_law_many", "_law_turn"]
theorem sc__law_value : FnScope ["_law_loom_here", "_law_kind", "_law_far_here", "_law_many", "_law_turn"] ["_law_loom_here", "_law_kind"] (defScope s__law_value) := ⟨rfl, rfl, rfl, by decide +kernel, rfl, by decide +kernel, by decide +kernel⟩
def m__law_value (G__law_draw : Fn) (G__law_pick : Fn) : M Ctl :=
    (seqM (ifM (truM (bin2 eqG (rdV 1) (cV (.str "number")))) (seqM (setM 2 (lstM (consM (cV (.int 0)) (consM (cV (.int 1)) (consM (mapM1 negG (cV (.int 1))) (consM (bin2 powG (cV (.int 10)) (cV (.int 12))) (consM (mapM1 negG (bin2 powG (cV (.int 10)) (cV (.int 12)))) (consM (bin2 subG (bin2 powG (cV (.int 10)) (cV (.int 12))) (cV (.int 1))) (consM (cV (.int 7)) (consM (cV (.int 10)) (consM (mapM1 negG (cV (.int 10))) (consM (bin2 subG (callM G__law_draw [.ref 0, .val (bin2 mulG (cV (.int 2)) (bin2 powG (cV (.int 10)) (cV (.int 6))))]) (bin2 powG (cV (.int 10)) (cV (.int 6)))) nilM))))))))))))
    (retM (callM G__law_pick [.ref 0, .val (bin2 addG (rdV 2) (bin2 mulG (lstM (consM (bin2 subG (callM G__law_draw [.ref 0, .val (cV (.int 9))]) (cV (.int 4))) nilM)) (cV (.int 8))))]))) nxM)
    (seqM (setM 3 (callM G__law_pick [.ref 0, .val (lstM (consM (cV (.int 0)) (consM (cV (.int 1)) (consM (cV (.int 1)) (consM (cV (.int 2)) (consM (cV (.int 3)) (consM (cV (.int 5)) (consM (cV (.int 12)) nilM))))))))]))
    (retM (joinM (cV (.str "")) (lstOf (lcM [4] (appI range1 (consM (rdV 3) nilM)) (tgPut 4) yesM (callM G__law_pick [.ref 0, .val (cV (.str "abz09 "))])))))))

theorem b__law_value {G__law_draw : Fn} {G__law_pick : Fn} (b : Bt mg) (hs : ∃ o, base.get? sysModules = some o) (c__law_draw : Cal P w K mg base fa "_law_draw" 1 2 G__law_draw) (c__law_pick : Cal P w K mg base fa "_law_pick" 2 2 G__law_pick) {f : Addr} (cdv : Value) (A : Around) (outer : List Env) (s : Shared) (H : Hp) (E : XK)
    (hr : Room 2 (A.deeper (envOfC "_law_value" (defScope s__law_value) s.heap.objs.size f cdv))) (hgd : (A.deeper (envOfC "_law_value" (defScope s__law_value) s.heap.objs.size f cdv)).guards = some []) :
    PGs (cxOf CX0 P w K mg base ["_law_loom_here", "_law_kind", "_law_far_here", "_law_many", "_law_turn"] "_law_value" (defScope s__law_value) f cdv A outer s H E).nox fa W0 (defBody s__law_value) (m__law_value G__law_draw G__law_pick) :=
  have nd := sc__law_value.nd
  (gs_cons (g_if (pm_cmp (od_eq hr hs) bg_eq (pv_nm 1) pv_str (by rfl)) (gs_cons (g_set 2 nd (pv_lst (pvs_cons pv_int (pvs_cons pv_int (pvs_cons (pv_neg pv_int) (pvs_cons (pv_bin od_pow pv_int pv_int) (pvs_cons (pv_neg (pv_bin od_pow pv_int pv_int)) (pvs_cons (pv_bin od_sub (pv_bin od_pow pv_int pv_int) pv_int) (pvs_cons pv_int (pvs_cons pv_int (pvs_cons (pv_neg pv_int) (pvs_cons (pv_bin od_sub (pv_cal c__law_draw (hr.mono (by decide)) hgd (as_ref 0 (as_val (pv_bin od_mul pv_int (pv_bin od_pow pv_int pv_int)) as_nil))) (pv_bin od_pow pv_int pv_int)) pvs_nil))))))))))))
      (gs_one (g_ret (pv_cal c__law_pick (hr.mono (by decide)) hgd (as_ref 0 (as_val (pv_bin od_add (pv_nm 2) (pv_bin od_mul (pv_lst (pvs_cons (pv_bin od_sub (pv_cal c__law_draw (hr.mono (by decide)) hgd (as_ref 0 (as_val pv_int as_nil))) pv_int) pvs_nil)) pv_int)) as_nil)))))) gs_nil)
      (gs_cons (g_set 3 nd (pv_cal c__law_pick (hr.mono (by decide)) hgd (as_ref 0 (as_val (pv_lst (pvs_cons pv_int (pvs_cons pv_int (pvs_cons pv_int (pvs_cons pv_int (pvs_cons pv_int (pvs_cons pv_int (pvs_cons pv_int pvs_nil)))))))) as_nil))))
      (gs_one (g_ret (pv_join pv_str (pv_ofF (pf_lc rfl nd (it_range1 b.range_ (pvs_cons (pv_nm 3) pvs_nil)) (own := [("_law_turn", 4)]) (blkOk_by (by show L2.blkC n__law_value (defScope s__law_value) _ _ = true; decide +kernel)) (S := [4]) (by decide) (tgPut_ok 4) (fun _ _ _ _ _ => (tg_nm 4 nd)) (fun _ _ _ _ _ => pts_none) (fun _ _ _ _ _ => (pv_cal c__law_pick (hr.mono (by decide)) hgd (as_ref 0 (as_val pv_str as_nil)))))))))))

abbrev s__law_row : Stmt := topS 12
abbrev n__law_row : List Str := ["_law_loom_here", "_law_columns_here", "_law_name_here", "_law_kind"]
theorem sc__law_row : FnScope ["_law_loom_here", "_law_columns_here", "_law_name_here", "_law_kind"] ["_law_loom_here", "_law_columns_here"] (defScope s__law_row) := ⟨rfl, rfl, rfl, by decide +kernel, rfl, by decide +kernel, by decide +kernel⟩
def m__law_row (G__law_value : Fn) : M Ctl :=
    (retM (appM tupleG (consM (lstOf (lcM [2, 3] (iterM (rdV 1)) (tgTup 2 (tgCons (tgPut 2) (tgCons (tgPut 3) tgNil))) yesM (callM G__law_value [.ref 0, .val (rdV 3)]))) nilM)))

theorem b__law_row {G__law_value : Fn} (b : Bt mg) (hs : ∃ o, base.get? sysModules = some o) (c__law_value : Cal P w K mg base fa "_law_value" 3 2 G__law_value) {f : Addr} (cdv : Value) (A : Around) (outer : List Env) (s : Shared) (H : Hp) (E : XK)
    (hr : Room 3 (A.deeper (envOfC "_law_row" (defScope s__law_row) s.heap.objs.size f cdv))) (hgd : (A.deeper (envOfC "_law_row" (defScope s__law_row) s.heap.objs.size f cdv)).guards = some []) :
    PGs (cxOf CX0 P w K mg base ["_law_loom_here", "_law_columns_here", "_law_name_here", "_law_kind"] "_law_row" (defScope s__law_row) f cdv A outer s H E).nox fa W0 (defBody s__law_row) (m__law_row G__law_value) :=
  have nd := sc__law_row.nd
  (gs_one (g_ret (pv_cty cd_tuple b.tuple_ (pvs_cons (pv_ofF (pf_lc rfl nd (it_e (pv_nm 1)) (own := [("_law_name_here", 2), ("_law_kind", 3)]) (blkOk_by (by show L2.blkC n__law_row (defScope s__law_row) _ _ = true; decide +kernel)) (S := [2, 3]) (by decide) (tgTup_ok (tgCons_ok (tgPut_ok 2) (tgCons_ok (tgPut_ok 3) tgNil_ok))) (fun _ _ _ _ _ => (tg_tup rfl (tgs_cons (tg_nm 2 nd) (tgs_cons (tg_nm 3 nd) tgs_nil)) (tgCons_ok (tgPut_ok 2) (tgCons_ok (tgPut_ok 3) tgNil_ok)))) (fun _ _ _ _ _ => pts_none) (fun _ _ _ _ _ => (pv_cal c__law_value (hr.mono (by decide)) hgd (as_ref 0 (as_val (pv_nm 3) as_nil)))))) pvs_nil))))

abbrev s__law_filled : Stmt := topS 13
abbrev n__law_filled : List Str := ["_law_told", "_law_kind", "_law_wide", "_law_gap"]
theorem sc__law_filled : FnScope ["_law_told", "_law_kind", "_law_wide", "_law_gap"] ["_law_told", "_law_kind", "_law_wide"] (defScope s__law_filled) := ⟨rfl, rfl, rfl, by decide +kernel, rfl, by decide +kernel, by decide +kernel⟩
def m__law_filled  : M Ctl :=
    (seqM (setM 3 (bin2 mulG (cV (.str " ")) (bin2 subG (rdV 2) (appM lenG (consM (rdV 0) nilM)))))
    (retM (ifM (truM (bin2 eqG (rdV 1) (cV (.str "number")))) (bin2 addG (rdV 3) (rdV 0)) (bin2 addG (rdV 0) (rdV 3)))))

theorem b__law_filled  (b : Bt mg) (hs : ∃ o, base.get? sysModules = some o) {f : Addr} (cdv : Value) (A : Around) (outer : List Env) (s : Shared) (H : Hp) (E : XK)
    (hr : Room 0 (A.deeper (envOfC "_law_filled" (defScope s__law_filled) s.heap.objs.size f cdv))) (hgd : (A.deeper (envOfC "_law_filled" (defScope s__law_filled) s.heap.objs.size f cdv)).guards = some []) :
    PGs (cxOf CX0 P w K mg base ["_law_told", "_law_kind", "_law_wide", "_law_gap"] "_law_filled" (defScope s__law_filled) f cdv A outer s H E).nox fa W0 (defBody s__law_filled) (m__law_filled) :=
  have nd := sc__law_filled.nd
  (gs_cons (g_set 3 nd (pv_bin od_mul pv_str (pv_bin od_sub (pv_nm 2) (pv_cb cd_len b.len_ (pvs_cons (pv_nm 0) pvs_nil)))))
      (gs_one (g_ret (pv_if (pm_cmp (od_eq hr hs) bg_eq (pv_nm 1) pv_str (by rfl)) (pv_bin od_add (pv_nm 3) (pv_nm 0)) (pv_bin od_add (pv_nm 0) (pv_nm 3))))))

abbrev s__law_bare : Stmt := topS 14
abbrev n__law_bare : List Str := ["_law_line", "_law_found", "_law_turn"]
theorem sc__law_bare : FnScope ["_law_line", "_law_found", "_law_turn"] ["_law_line"] (defScope s__law_bare) := ⟨rfl, rfl, rfl, by decide +kernel, rfl, by decide +kernel, by decide +kernel⟩
def m__law_bare  : M Ctl :=
    (seqM (setM 1 (appM lenG (consM (rdV 0) nilM)))
    (seqM (forM (appI range1 (consM (appM lenG (consM (rdV 0) nilM)) nilM)) (tgPut 2) (setM 1 (ifM (andM (truM (bin2 gtG (rdV 1) (cV (.int 0)))) (truM (bin2 eqG (bin2 ixG (rdV 0) (bin2 subG (rdV 1) (cV (.int 1)))) (cV (.str " "))))) (bin2 subG (rdV 1) (cV (.int 1))) (rdV 1))))
    (retM (slM (rdV 0) .no (.at (rdV 1))))))

theorem b__law_bare  (b : Bt mg) (hs : ∃ o, base.get? sysModules = some o) {f : Addr} (cdv : Value) (A : Around) (outer : List Env) (s : Shared) (H : Hp) (E : XK)
    (hr : Room 0 (A.deeper (envOfC "_law_bare" (defScope s__law_bare) s.heap.objs.size f cdv))) (hgd : (A.deeper (envOfC "_law_bare" (defScope s__law_bare) s.heap.objs.size f cdv)).guards = some []) :
    PGs (cxOf CX0 P w K mg base ["_law_line", "_law_found", "_law_turn"] "_law_bare" (defScope s__law_bare) f cdv A outer s H E).nox fa W0 (defBody s__law_bare) (m__law_bare) :=
  have nd := sc__law_bare.nd
  (gs_cons (g_set 1 nd (pv_cb cd_len b.len_ (pvs_cons (pv_nm 0) pvs_nil)))
      (gs_cons (g_for PassesOwn.never rfl (it_range1 b.range_ (pvs_cons (pv_cb cd_len b.len_ (pvs_cons (pv_nm 0) pvs_nil)) pvs_nil)) (tg_nm 2 nd) (gs_one (g_set 1 nd (pv_if (pm_w (pmw_and (pm_cmp od_gt bg_gt (pv_nm 1) pv_int (by rfl)) (pmw_and1 (pm_cmp (od_eq hr hs) bg_eq (pv_ix ix_seqD (pv_nm 0) (pv_bin od_sub (pv_nm 1) pv_int) (fun _ _ => rfl)) pv_str (by rfl))))) (pv_bin od_sub (pv_nm 1) pv_int) (pv_nm 1)))))
      (gs_one (g_ret (pv_sl (pv_nm 0) pp_no (pp_at (pv_nm 1)))))))

abbrev s__law_lines : Stmt := topS 15
abbrev n__law_lines : List Str := ["_law_columns_here", "_law_listed", "_law_told", "_law_wide", "_law_place", "_law_name_here", "_law_kind", "_law_found", "_law_row_here", "_law_cells", "_law_dashes", "_law_last", "_law_value_here", "_law_own", "_law_many"]
theorem sc__law_lines : FnScope ["_law_columns_here", "_law_listed", "_law_told", "_law_wide", "_law_place", "_law_name_here", "_law_kind", "_law_found", "_law_row_here", "_law_cells", "_law_dashes", "_law_last", "_law_value_here", "_law_own", "_law_many"] ["_law_columns_here", "_law_listed"] (defScope s__law_lines) := ⟨rfl, rfl, rfl, by decide +kernel, rfl, by decide +kernel, by decide +kernel⟩
def m__law_lines (G__law_filled : Fn) (G__law_bare : Fn) : M Ctl :=
    (seqM (setOwn 2 (lcM [8] (iterM (rdV 1)) (tgPut 8) yesM (lstOf (lcM [12] (iterM (rdV 8)) (tgPut 12) yesM (ifM (truMB (isiB "int" (rdB 12))) (appM strG (consM (rdV 12) nilM)) (rdV 12))))))
    (seqM (setOwn 3 (lnM nilM))
    (seqM (forM (enumM (consM (rdV 0) nilM)) (tgTup 2 (tgCons (tgPut 4) (tgCons (tgTup 2 (tgCons (tgPut 5) (tgCons (tgPut 6) tgNil))) tgNil))) (exprM (mutM 3 appendG (consM (appM maxLG (consM (bin2 addG (lstM (consM (appM lenG (consM (rdV 5) nilM)) nilM)) (lstOf (lcM [8] (iterM (rdV 2)) (tgPut 8) yesM (appM lenG (consM (bin2 ixG (rdV 8) (rdV 4)) nilM))))) nilM)) nilM))))
    (seqM (setOwn 7 (lnM nilM))
    (seqM (forM (iterM (bin2 addG (lstM (consM (lstOf (lcM [5, 6] (iterM (rdV 0)) (tgTup 2 (tgCons (tgPut 5) (tgCons (tgPut 6) tgNil))) yesM (rdV 5))) nilM)) (rdV 2))) (tgPut 8) (seqM (setOwn 9 (lcM [4, 13] (enumM (consM (rdV 8) nilM)) (tgTup 2 (tgCons (tgPut 4) (tgCons (tgPut 13) tgNil))) yesM (callM G__law_filled [.val (rdV 13), .val (bin2 ixG (bin2 ixG (rdV 0) (rdV 4)) (cV (.int 1))), .val (ownIx 3 (rdB 4))])))
    (exprM (mutM 7 appendG (consM (callM G__law_bare [.val (joinM (cV (.str "  ")) (rdV 9))]) nilM)))))
    (seqM (setM 10 (joinM (cV (.str "  ")) (lstOf (lcM [14] (iterM (rdV 3)) (tgPut 14) yesM (bin2 mulG (cV (.str "-")) (rdV 14))))))
    (seqM (setM 11 (ifM (truM (bin2 eqG (appM lenG (consM (rdV 2) nilM)) (cV (.int 1)))) (cV (.str "(1 row)")) (bin2 addG (bin2 addG (cV (.str "(")) (appM strG (consM (appM lenG (consM (rdV 2) nilM)) nilM))) (cV (.str " rows)")))))
    (retM (bin2 addG (bin2 addG (bin2 addG (slM (rdV 7) .no (.at (cV (.int 1)))) (lstM (consM (rdV 10) nilM))) (slM (rdV 7) (.at (cV (.int 1))) .no)) (lstM (consM (rdV 11) nilM)))))))))))

theorem b__law_lines {G__law_filled : Fn} {G__law_bare : Fn} (b : Bt mg) (hs : ∃ o, base.get? sysModules = some o) (c__law_filled : Cal P w K mg base fa "_law_filled" 1 3 G__law_filled) (c__law_bare : Cal P w K mg base fa "_law_bare" 1 1 G__law_bare) {f : Addr} (cdv : Value) (A : Around) (outer : List Env) (s : Shared) (H : Hp) (E : XK)
    (hr : Room 1 (A.deeper (envOfC "_law_lines" (defScope s__law_lines) s.heap.objs.size f cdv))) (hgd : (A.deeper (envOfC "_law_lines" (defScope s__law_lines) s.heap.objs.size f cdv)).guards = some []) :
    PGs (cxOf CX0 P w K mg base ["_law_columns_here", "_law_listed", "_law_told", "_law_wide", "_law_place", "_law_name_here", "_law_kind", "_law_found", "_law_row_here", "_law_cells", "_law_dashes", "_law_last", "_law_value_here", "_law_own", "_law_many"] "_law_lines" (defScope s__law_lines) f cdv A outer s H E).nox fa W0 (defBody s__law_lines) (m__law_lines G__law_filled G__law_bare) :=
  have nd := sc__law_lines.nd
  (gs_cons (g_setLcF 2 rfl nd (sw_true (by rfl) (by rfl) (by rfl) (by rfl)) (it_e (pv_nm 1)) (own := [("_law_row_here", 8)]) (blkOk_by (by show L2.blkC n__law_lines (defScope s__law_lines) _ _ = true; decide +kernel)) (S := [8]) (by decide) (tgPut_ok 8) (fun _ _ _ _ _ => (tg_nm 8 nd)) (fun _ _ _ _ _ => pts_none) (fun _ _ _ _ _ => (pv_ofF (pf_lc rfl nd (it_e (pv_nm 8)) (own := [("_law_value_here", 12)]) (blkOk_by (by show L2.blkC n__law_lines { kind := .function, names := [(".0", .local), ("_law_row_here", .local)], isGenerator := false, isCoroutine := false } _ _ = true; decide +kernel)) (S := [12]) (by decide) (tgPut_ok 12) (fun _ _ _ _ _ => (tg_nm 12 nd)) (fun _ _ _ _ _ => pts_none) (fun _ _ _ _ _ => (pv_if (pm_truB (pb_isi it_int (pb_nm 12) b.isinstance_ b.int_ (by decide +kernel))) (pv_cty cd_str b.str_ (pvs_cons (pv_nm 12) pvs_nil)) (pv_nm 12)))))))
      (gs_cons (g_setF 3 nd (pf_lst pvs_nil))
      (gs_cons (g_for PassesOwn.never rfl (it_enum b.enumerate_ (pvs_cons (pv_nm 0) pvs_nil)) (tg_tup rfl (tgs_cons (tg_nm 4 nd) (tgs_cons (tg_tup rfl (tgs_cons (tg_nm 5 nd) (tgs_cons (tg_nm 6 nd) tgs_nil)) (tgCons_ok (tgPut_ok 5) (tgCons_ok (tgPut_ok 6) tgNil_ok))) tgs_nil)) (tgCons_ok (tgPut_ok 4) (tgCons_ok (tgTup_ok (tgCons_ok (tgPut_ok 5) (tgCons_ok (tgPut_ok 6) tgNil_ok))) tgNil_ok))) (gs_one (g_expr (pv_append 3 (pvs_cons (pv_cb (cd_maxL rfl) b.max_ (pvs_cons (pv_bin od_add (pv_lst (pvs_cons (pv_cb cd_len b.len_ (pvs_cons (pv_nm 5) pvs_nil)) pvs_nil)) (pv_ofF (pf_lc rfl nd (it_e (pv_nm 2)) (own := [("_law_row_here", 8)]) (blkOk_by (by show L2.blkC n__law_lines (defScope s__law_lines) _ _ = true; decide +kernel)) (S := [8]) (by decide) (tgPut_ok 8) (fun _ _ _ _ _ => (tg_nm 8 nd)) (fun _ _ _ _ _ => pts_none) (fun _ _ _ _ _ => (pv_cb cd_len b.len_ (pvs_cons (pv_ix ix_seqD (pv_nm 8) (pv_nm 4) (fun _ _ => rfl)) pvs_nil)))))) pvs_nil)) pvs_nil)))))
      (gs_cons (g_setF 7 nd (pf_lst pvs_nil))
      (gs_cons (g_for PassesOwn.never rfl (it_e (pv_bin od_add (pv_lst (pvs_cons (pv_ofF (pf_lc rfl nd (it_e (pv_nm 0)) (own := [("_law_name_here", 5), ("_law_kind", 6)]) (blkOk_by (by show L2.blkC n__law_lines (defScope s__law_lines) _ _ = true; decide +kernel)) (S := [5, 6]) (by decide) (tgTup_ok (tgCons_ok (tgPut_ok 5) (tgCons_ok (tgPut_ok 6) tgNil_ok))) (fun _ _ _ _ _ => (tg_tup rfl (tgs_cons (tg_nm 5 nd) (tgs_cons (tg_nm 6 nd) tgs_nil)) (tgCons_ok (tgPut_ok 5) (tgCons_ok (tgPut_ok 6) tgNil_ok)))) (fun _ _ _ _ _ => pts_none) (fun _ _ _ _ _ => (pv_nm 5)))) pvs_nil)) (pv_nm 2))) (tg_nm 8 nd) (gs_cons (g_setLcF 9 rfl nd (sw_true (by rfl) (by rfl) (by rfl) (by rfl)) (it_enum b.enumerate_ (pvs_cons (pv_nm 8) pvs_nil)) (own := [("_law_place", 4), ("_law_own", 13)]) (blkOk_by (by show L2.blkC n__law_lines (defScope s__law_lines) _ _ = true; decide +kernel)) (S := [4, 13]) (by decide) (tgTup_ok (tgCons_ok (tgPut_ok 4) (tgCons_ok (tgPut_ok 13) tgNil_ok))) (fun _ _ _ _ _ => (tg_tup rfl (tgs_cons (tg_nm 4 nd) (tgs_cons (tg_nm 13 nd) tgs_nil)) (tgCons_ok (tgPut_ok 4) (tgCons_ok (tgPut_ok 13) tgNil_ok)))) (fun _ _ _ _ _ => pts_none) (fun _ _ _ _ _ => (pv_cal c__law_filled (hr.mono (by decide)) hgd (as_val (pv_nm 13) (as_val (pv_ix ix_seqD (pv_ix ix_seqD (pv_nm 0) (pv_nm 4) (fun _ _ => rfl)) pv_int (fun _ _ => rfl)) (as_val (pv_ixO 3 (pb_nm 4) (fun _ _ => rfl)) as_nil))))))
      (gs_one (g_expr (pv_append 7 (pvs_cons (pv_cal c__law_bare (hr.mono (by decide)) hgd (as_val (pv_join pv_str (pv_nm 9)) as_nil)) pvs_nil))))))
      (gs_cons (g_set 10 nd (pv_join pv_str (pv_ofF (pf_lc rfl nd (it_e (pv_nm 3)) (own := [("_law_many", 14)]) (blkOk_by (by show L2.blkC n__law_lines (defScope s__law_lines) _ _ = true; decide +kernel)) (S := [14]) (by decide) (tgPut_ok 14) (fun _ _ _ _ _ => (tg_nm 14 nd)) (fun _ _ _ _ _ => pts_none) (fun _ _ _ _ _ => (pv_bin od_mul pv_str (pv_nm 14)))))))
      (gs_cons (g_set 11 nd (pv_if (pm_cmp (od_eq hr hs) bg_eq (pv_cb cd_len b.len_ (pvs_cons (pv_nm 2) pvs_nil)) pv_int (by rfl)) pv_str (pv_bin od_add (pv_bin od_add pv_str (pv_cty cd_str b.str_ (pvs_cons (pv_cb cd_len b.len_ (pvs_cons (pv_nm 2) pvs_nil)) pvs_nil))) pv_str)))
      (gs_one (g_ret (pv_bin od_add (pv_bin od_add (pv_bin od_add (pv_sl (pv_nm 7) pp_no (pp_at pv_int)) (pv_lst (pvs_cons (pv_nm 10) pvs_nil))) (pv_sl (pv_nm 7) (pp_at pv_int) pp_no)) (pv_lst (pvs_cons (pv_nm 11) pvs_nil))))))))))))

abbrev s__law_far : Stmt := topS 16
abbrev n__law_far : List Str := ["_law_loom_here", "_law_row_here", "_law_far_here", "_law_own"]
theorem sc__law_far : FnScope ["_law_loom_here", "_law_row_here", "_law_far_here", "_law_own"] ["_law_loom_here", "_law_row_here"] (defScope s__law_far) := ⟨rfl, rfl, rfl, by decide +kernel, rfl, by decide +kernel, by decide +kernel⟩
def m__law_far (G__law_pick : Fn) : M Ctl :=
    (seqM (setM 2 (lstM (consM (bin2 powG (cV (.int 10)) (cV (.int 40))) (consM (mapM1 negG (bin2 powG (cV (.int 10)) (cV (.int 40)))) (consM (bin2 powG (cV (.int 10)) (cV (.int 13))) (consM (bin2 subG (mapM1 negG (bin2 powG (cV (.int 10)) (cV (.int 12)))) (cV (.int 1))) (consM (cV (.int 0)) (consM (mapM1 negG (cV (.int 7))) nilM))))))))
    (retM (appM tupleG (consM (lstOf (lcM [3] (iterM (rdV 1)) (tgPut 3) yesM (ifM (truMB (isiB "int" (rdB 3))) (callM G__law_pick [.ref 0, .val (bin2 addG (rdV 2) (bin2 mulG (lstM (consM (rdV 3) nilM)) (cV (.int 6))))]) (rdV 3)))) nilM))))

theorem b__law_far {G__law_pick : Fn} (b : Bt mg) (hs : ∃ o, base.get? sysModules = some o) (c__law_pick : Cal P w K mg base fa "_law_pick" 2 2 G__law_pick) {f : Addr} (cdv : Value) (A : Around) (outer : List Env) (s : Shared) (H : Hp) (E : XK)
    (hr : Room 2 (A.deeper (envOfC "_law_far" (defScope s__law_far) s.heap.objs.size f cdv))) (hgd : (A.deeper (envOfC "_law_far" (defScope s__law_far) s.heap.objs.size f cdv)).guards = some []) :
    PGs (cxOf CX0 P w K mg base ["_law_loom_here", "_law_row_here", "_law_far_here", "_law_own"] "_law_far" (defScope s__law_far) f cdv A outer s H E).nox fa W0 (defBody s__law_far) (m__law_far G__law_pick) :=
  have nd := sc__law_far.nd
  (gs_cons (g_set 2 nd (pv_lst (pvs_cons (pv_bin od_pow pv_int pv_int) (pvs_cons (pv_neg (pv_bin od_pow pv_int pv_int)) (pvs_cons (pv_bin od_pow pv_int pv_int) (pvs_cons (pv_bin od_sub (pv_neg (pv_bin od_pow pv_int pv_int)) pv_int) (pvs_cons pv_int (pvs_cons (pv_neg pv_int) pvs_nil))))))))
      (gs_one (g_ret (pv_cty cd_tuple b.tuple_ (pvs_cons (pv_ofF (pf_lc rfl nd (it_e (pv_nm 1)) (own := [("_law_own", 3)]) (blkOk_by (by show L2.blkC n__law_far (defScope s__law_far) _ _ = true; decide +kernel)) (S := [3]) (by decide) (tgPut_ok 3) (fun _ _ _ _ _ => (tg_nm 3 nd)) (fun _ _ _ _ _ => pts_none) (fun _ _ _ _ _ => (pv_if (pm_truB (pb_isi it_int (pb_nm 3) b.isinstance_ b.int_ (by decide +kernel))) (pv_cal c__law_pick (hr.mono (by decide)) hgd (as_ref 0 (as_val (pv_bin od_add (pv_nm 2) (pv_bin od_mul (pv_lst (pvs_cons (pv_nm 3) pvs_nil)) pv_int)) as_nil))) (pv_nm 3))))) pvs_nil)))))

abbrev s_law : Stmt := topS 17
abbrev n_law : List Str := ["_law_script", "_law_loom_here", "_law_turn", "_law_columns_here", "_law_many", "_law_listed", "_law_kept", "_law_due", "_law_seen", "_law_again"]
theorem sc_law : FnScope ["_law_script", "_law_loom_here", "_law_turn", "_law_columns_here", "_law_many", "_law_listed", "_law_kept", "_law_due", "_law_seen", "_law_again"] ["_law_script"] (defScope s_law) := ⟨rfl, rfl, rfl, by decide +kernel, rfl, by decide +kernel, by decide +kernel⟩
def m_law (G__law_loom : FnD) (G__law_columns : Fn) (G__law_draw : Fn) (G__law_far : Fn) (G__law_row : Fn) (G__law_pick : Fn) (G__law_lines : Fn) (G_grid : Fn) : M Ctl :=
    (seqM (mkM 1 G__law_loom [.val (rdV 0)])
    (seqM (forM (appI range1 (consM (cV (.int 14)) nilM)) (tgPut 2) (seqM (setM 3 (callM G__law_columns [.ref 1, .val (bin2 ixG (lstM (consM (cV (.int 1)) (consM (cV (.int 2)) (consM (cV (.int 3)) (consM (cV (.int 8)) (consM (bin2 addG (cV (.int 1)) (callM G__law_draw [.ref 1, .val (cV (.int 5))])) nilM)))))) (bin2 modG (appM toIntG (consM (rdV 2) nilM)) (cV (.int 5))))]))
    (seqM (setM 4 (ifM (andM (truM (bin2 eqG (rdV 2) (cV (.int 10)))) (truM (bin2 eqG (callM G__law_draw [.ref 1, .val (cV (.int 3))]) (cV (.int 0))))) (cV (.int 32)) (callM G__law_draw [.ref 1, .val (cV (.int 6))])))
    (seqM (setM 5 (appM tupleG (consM (lstOf (lcM [9] (appI range1 (consM (rdV 4) nilM)) (tgPut 9) yesM (callM G__law_far [.ref 1, .val (callM G__law_row [.ref 1, .val (rdV 3)])]))) nilM)))
    (seqM (ifM (andM (truM (bin2 eqG (bin2 ixG (bin2 ixG (rdV 3) (cV (.int 0))) (cV (.int 1))) (cV (.str "text")))) (truM (bin2 eqG (callM G__law_draw [.ref 1, .val (cV (.int 3))]) (cV (.int 0))))) (setM 5 (bin2 addG (rdV 5) (tupM (consM (bin2 addG (tupM (consM (callM G__law_pick [.ref 1, .val (lstM (consM (cV (.str "")) (consM (cV (.str " ")) (consM (cV (.str " a ")) (consM (cV (.str "b  ")) nilM)))))]) nilM)) (slM (callM G__law_row [.ref 1, .val (rdV 3)]) (.at (cV (.int 1))) .no)) nilM)))) nxM)
    (seqM (setsM [6, 7] [.val (appM reprG (consM (lstM (consM (rdV 3) (consM (rdV 5) nilM))) nilM)), .val (joinM (cV (.str "\n")) (callM G__law_lines [.val (rdV 3), .val (rdV 5)]))])
    (seqM (setM 8 (ifM (truM (bin2 eqG (rdV 2) (cV (.int 3)))) (callKM G_grid [1, 0] [.val (rdV 5), .val (rdV 3)]) (callM G_grid [.val (rdV 3), .val (rdV 5)])))
    (seqM (ifM (orM (truM (bin2 neG (appM reprG (consM (lstM (consM (rdV 8) (consM (callM G_grid [.val (rdV 3), .val (rdV 5)]) nilM))) nilM)) (appM reprG (consM (lstM (consM (rdV 7) (consM (rdV 7) nilM))) nilM)))) (truM (bin2 neG (appM reprG (consM (lstM (consM (rdV 3) (consM (rdV 5) nilM))) nilM)) (rdV 6)))) (retM (cV (.bool false))) nxM)
    (ifM (truM (bin2 neG (appM lenG (consM (splitM (rdV 8) (cV (.str "\n"))) nilM)) (bin2 addG (appM lenG (consM (rdV 5) nilM)) (cV (.int 3))))) (retM (cV (.bool false))) nxM)))))))))
    (retM (cV (.bool true)))))

theorem b_law {G__law_loom : FnD} {G__law_columns : Fn} {G__law_draw : Fn} {G__law_far : Fn} {G__law_row : Fn} {G__law_pick : Fn} {G__law_lines : Fn} {G_grid : Fn} (b : Bt mg) (hs : ∃ o, base.get? sysModules = some o) (c__law_loom : CalD P w K mg base fa "_law_loom" 1 1 G__law_loom) (c__law_columns : Cal P w K mg base fa "_law_columns" 4 2 G__law_columns) (c__law_draw : Cal P w K mg base fa "_law_draw" 1 2 G__law_draw) (c__law_far : Cal P w K mg base fa "_law_far" 3 2 G__law_far) (c__law_row : Cal P w K mg base fa "_law_row" 4 2 G__law_row) (c__law_pick : Cal P w K mg base fa "_law_pick" 2 2 G__law_pick) (c__law_lines : Cal P w K mg base fa "_law_lines" 2 2 G__law_lines) (c_grid_rows_columns : CalK P w K mg base fa "grid" 2 2 G_grid ["rows", "columns"] [1, 0]) (c_grid : Cal P w K mg base fa "grid" 2 2 G_grid) {f : Addr} (cdv : Value) (A : Around) (outer : List Env) (s : Shared) (H : Hp) (E : XK)
    (hr : Room 4 (A.deeper (envOfC "law" (defScope s_law) s.heap.objs.size f cdv))) (hgd : (A.deeper (envOfC "law" (defScope s_law) s.heap.objs.size f cdv)).guards = some []) :
    PGs (cxOf CX0 P w K mg base ["_law_script", "_law_loom_here", "_law_turn", "_law_columns_here", "_law_many", "_law_listed", "_law_kept", "_law_due", "_law_seen", "_law_again"] "law" (defScope s_law) f cdv A outer s H E).nox fa W0 (defBody s_law) (m_law G__law_loom G__law_columns G__law_draw G__law_far G__law_row G__law_pick G__law_lines G_grid) :=
  have nd := sc_law.nd
  (gs_cons (g_mkc 1 nd c__law_loom (hr.mono (by decide)) hgd (as_val (pv_nm 0) as_nil))
      (gs_cons (g_for PassesOwn.never rfl (it_range1 b.range_ (pvs_cons pv_int pvs_nil)) (tg_nm 2 nd) (gs_cons (g_set 3 nd (pv_cal c__law_columns (hr.mono (by decide)) hgd (as_ref 1 (as_val (pv_ix ix_seqD (pv_lst (pvs_cons pv_int (pvs_cons pv_int (pvs_cons pv_int (pvs_cons pv_int (pvs_cons (pv_bin od_add pv_int (pv_cal c__law_draw (hr.mono (by decide)) hgd (as_ref 1 (as_val pv_int as_nil)))) pvs_nil)))))) (pv_bin od_mod (pv_cty cd_int b.int_ (pvs_cons (pv_nm 2) pvs_nil)) pv_int) (fun _ _ => rfl)) as_nil))))
      (gs_cons (g_set 4 nd (pv_if (pm_w (pmw_and (pm_cmp (od_eq hr hs) bg_eq (pv_nm 2) pv_int (by rfl)) (pmw_and1 (pm_cmp (od_eq hr hs) bg_eq (pv_cal c__law_draw (hr.mono (by decide)) hgd (as_ref 1 (as_val pv_int as_nil))) pv_int (by rfl))))) pv_int (pv_cal c__law_draw (hr.mono (by decide)) hgd (as_ref 1 (as_val pv_int as_nil)))))
      (gs_cons (g_set 5 nd (pv_cty cd_tuple b.tuple_ (pvs_cons (pv_ofF (pf_lc rfl nd (it_range1 b.range_ (pvs_cons (pv_nm 4) pvs_nil)) (own := [("_law_again", 9)]) (blkOk_by (by show L2.blkC n_law (defScope s_law) _ _ = true; decide +kernel)) (S := [9]) (by decide) (tgPut_ok 9) (fun _ _ _ _ _ => (tg_nm 9 nd)) (fun _ _ _ _ _ => pts_none) (fun _ _ _ _ _ => (pv_cal c__law_far (hr.mono (by decide)) hgd (as_ref 1 (as_val (pv_cal c__law_row (hr.mono (by decide)) hgd (as_ref 1 (as_val (pv_nm 3) as_nil))) as_nil)))))) pvs_nil)))
      (gs_cons (g_if (pm_w (pmw_and (pm_cmp (od_eq hr hs) bg_eq (pv_ix ix_seqD (pv_ix ix_seqD (pv_nm 3) pv_int (fun _ _ => rfl)) pv_int (fun _ _ => rfl)) pv_str (by rfl)) (pmw_and1 (pm_cmp (od_eq hr hs) bg_eq (pv_cal c__law_draw (hr.mono (by decide)) hgd (as_ref 1 (as_val pv_int as_nil))) pv_int (by rfl))))) (gs_one (g_set 5 nd (pv_bin od_add (pv_nm 5) (pv_tup (pvs_cons (pv_bin od_add (pv_tup (pvs_cons (pv_cal c__law_pick (hr.mono (by decide)) hgd (as_ref 1 (as_val (pv_lst (pvs_cons pv_str (pvs_cons pv_str (pvs_cons pv_str (pvs_cons pv_str pvs_nil))))) as_nil))) pvs_nil)) (pv_sl (pv_cal c__law_row (hr.mono (by decide)) hgd (as_ref 1 (as_val (pv_nm 3) as_nil))) (pp_at pv_int) pp_no)) pvs_nil))))) gs_nil)
      (gs_cons (g_par2 6 7 rfl nd (pn_val (pv_cb (cd_repr hr hgd hs) b.repr_ (pvs_cons (pv_lst (pvs_cons (pv_nm 3) (pvs_cons (pv_nm 5) pvs_nil))) pvs_nil)) (pn_val (pv_join pv_str (pv_cal c__law_lines (hr.mono (by decide)) hgd (as_val (pv_nm 3) (as_val (pv_nm 5) as_nil)))) pn_nil)))
      (gs_cons (g_set 8 nd (pv_if (pm_cmp (od_eq hr hs) bg_eq (pv_nm 2) pv_int (by rfl)) (pv_calK c_grid_rows_columns (hr.mono (by decide)) hgd (ks_val (pv_nm 5) (ks_val (pv_nm 3) ks_nil))) (pv_cal c_grid (hr.mono (by decide)) hgd (as_val (pv_nm 3) (as_val (pv_nm 5) as_nil)))))
      (gs_cons (g_if (pm_w (pmw_or (pm_cmp (od_ne hr hs) bg_ne (pv_cb (cd_repr hr hgd hs) b.repr_ (pvs_cons (pv_lst (pvs_cons (pv_nm 8) (pvs_cons (pv_cal c_grid (hr.mono (by decide)) hgd (as_val (pv_nm 3) (as_val (pv_nm 5) as_nil))) pvs_nil))) pvs_nil)) (pv_cb (cd_repr hr hgd hs) b.repr_ (pvs_cons (pv_lst (pvs_cons (pv_nm 7) (pvs_cons (pv_nm 7) pvs_nil))) pvs_nil)) (by rfl)) (pmw_or1 (pm_cmp (od_ne hr hs) bg_ne (pv_cb (cd_repr hr hgd hs) b.repr_ (pvs_cons (pv_lst (pvs_cons (pv_nm 3) (pvs_cons (pv_nm 5) pvs_nil))) pvs_nil)) (pv_nm 6) (by rfl))))) (gs_one (g_ret pv_bl)) gs_nil)
      (gs_one (g_if (pm_cmp (od_ne hr hs) bg_ne (pv_cb cd_len b.len_ (pvs_cons (pv_split (pv_nm 8) pv_str) pvs_nil)) (pv_bin od_add (pv_cb cd_len b.len_ (pvs_cons (pv_nm 5) pvs_nil)) pv_int) (by rfl)) (gs_one (g_ret pv_bl)) gs_nil))))))))))
      (gs_one (g_ret pv_bl))))
end
end K03

namespace K03
open PySem PySem.Spec PyProof.Rows L2 DL
section
variable {P : Program} {w : World} {K : PySem.W.Frag} {mg : Str → Option Value} {base : Heap} {fa : Nat → Addr}
def G__grid_line : Fn := bodyF0 7 (m__grid_line)
theorem k__grid_line (b : Bt mg) (hs : ∃ o, base.get? sysModules = some o) {f : Addr} {fd : FuncData} (Fd : Fun K "_grid_line" "_grid_line" s__grid_line f fd) (hm : mg "_grid_line" = some (.ref f)) : Cal P w K mg base fa "_grid_line" 1 3 G__grid_line :=
  (fn_body0 (CX := CX0) (k := 0) Fd sc__grid_line (fun cdv A outer s H E hr hgd => b__grid_line b hs cdv A outer s H E hr hgd)).cal Fd hm (Fd.binds (ps := ["columns", "widths", "words"]) fun _ _ _ _ _ _ us hl => match us, hl with | [_, _, _], _ => rfl)
def G__law_loom : FnD := fun sls => (m__law_loom) (inRho 4 sls)
theorem k__law_loom (b : Bt mg) (hs : ∃ o, base.get? sysModules = some o) {f : Addr} {fd : FuncData} (Fd : Fun K "_law_loom" "_law_loom" s__law_loom f fd) (hm : mg "_law_loom" = some (.ref f)) : CalD P w K mg base fa "_law_loom" 1 1 G__law_loom :=
  (fnD_body (CX := CX0) (k := 0) Fd sc__law_loom (fun cdv A outer s H E hr hgd => b__law_loom b hs cdv A outer s H E hr hgd)).calD Fd hm (Fd.binds (ps := ["_law_script"]) fun _ _ _ _ _ _ us hl => match us, hl with | [_], _ => rfl)
def G__law_draw : Fn := bodyF0 4 (m__law_draw)
theorem k__law_draw (b : Bt mg) (hs : ∃ o, base.get? sysModules = some o) {f : Addr} {fd : FuncData} (Fd : Fun K "_law_draw" "_law_draw" s__law_draw f fd) (hm : mg "_law_draw" = some (.ref f)) : Cal P w K mg base fa "_law_draw" 1 2 G__law_draw :=
  (fn_body0 (CX := CX0) (k := 0) Fd sc__law_draw (fun cdv A outer s H E hr hgd => b__law_draw b hs cdv A outer s H E hr hgd)).cal Fd hm (Fd.binds (ps := ["_law_loom_here", "_law_many"]) fun _ _ _ _ _ _ us hl => match us, hl with | [_, _], _ => rfl)
def G__law_keys : Fn := bodyF0 1 (m__law_keys)
theorem k__law_keys (b : Bt mg) (hs : ∃ o, base.get? sysModules = some o) {f : Addr} {fd : FuncData} (Fd : Fun K "_law_keys" "_law_keys" s__law_keys f fd) (hm : mg "_law_keys" = some (.ref f)) : Cal P w K mg base fa "_law_keys" 1 0 G__law_keys :=
  (fn_body0 (CX := CX0) (k := 0) Fd sc__law_keys (fun cdv A outer s H E hr hgd => b__law_keys b hs cdv A outer s H E hr hgd)).cal Fd hm (Fd.binds (ps := []) fun _ _ _ _ _ _ us hl => match us, hl with | [], _ => rfl)
def G__law_filled : Fn := bodyF0 4 (m__law_filled)
theorem k__law_filled (b : Bt mg) (hs : ∃ o, base.get? sysModules = some o) {f : Addr} {fd : FuncData} (Fd : Fun K "_law_filled" "_law_filled" s__law_filled f fd) (hm : mg "_law_filled" = some (.ref f)) : Cal P w K mg base fa "_law_filled" 1 3 G__law_filled :=
  (fn_body0 (CX := CX0) (k := 0) Fd sc__law_filled (fun cdv A outer s H E hr hgd => b__law_filled b hs cdv A outer s H E hr hgd)).cal Fd hm (Fd.binds (ps := ["_law_told", "_law_kind", "_law_wide"]) fun _ _ _ _ _ _ us hl => match us, hl with | [_, _, _], _ => rfl)
def G__law_bare : Fn := bodyF0 3 (m__law_bare)
theorem k__law_bare (b : Bt mg) (hs : ∃ o, base.get? sysModules = some o) {f : Addr} {fd : FuncData} (Fd : Fun K "_law_bare" "_law_bare" s__law_bare f fd) (hm : mg "_law_bare" = some (.ref f)) : Cal P w K mg base fa "_law_bare" 1 1 G__law_bare :=
  (fn_body0 (CX := CX0) (k := 0) Fd sc__law_bare (fun cdv A outer s H E hr hgd => b__law_bare b hs cdv A outer s H E hr hgd)).cal Fd hm (Fd.binds (ps := ["_law_line"]) fun _ _ _ _ _ _ us hl => match us, hl with | [_], _ => rfl)
def G_grid : Fn := bodyF0 12 (m_grid G__grid_line)
theorem k_grid (b : Bt mg) (hs : ∃ o, base.get? sysModules = some o) (c__grid_line : Cal P w K mg base fa "_grid_line" 1 3 G__grid_line) {f : Addr} {fd : FuncData} (Fd : Fun K "grid" "grid" s_grid f fd) (hm : mg "grid" = some (.ref f)) : Cal P w K mg base fa "grid" 2 2 G_grid :=
  (fn_body0 (CX := CX0) (k := 1) Fd sc_grid (fun cdv A outer s H E hr hgd => b_grid b hs c__grid_line cdv A outer s H E hr hgd)).cal Fd hm (Fd.binds (ps := ["columns", "rows"]) fun _ _ _ _ _ _ us hl => match us, hl with | [_, _], _ => rfl)
theorem k_grid_rows_columns (b : Bt mg) (hs : ∃ o, base.get? sysModules = some o) (c__grid_line : Cal P w K mg base fa "_grid_line" 1 3 G__grid_line) {f : Addr} {fd : FuncData} (Fd : Fun K "grid" "grid" s_grid f fd) (hm : mg "grid" = some (.ref f)) : CalK P w K mg base fa "grid" 2 2 G_grid ["rows", "columns"] [1, 0] :=
  (fn_body0 (CX := CX0) (k := 1) Fd sc_grid (fun cdv A outer s H E hr hgd => b_grid b hs c__grid_line cdv A outer s H E hr hgd)).calK Fd hm (Fun.kwb Fd fun _ _ _ _ _ _ ws hl => match ws, hl with | w0 :: w1 :: _, _ => rfl | [], hl => absurd hl (by simp [pmut]) | [_], hl => absurd hl (by simp [pmut]))
def G__law_pick : Fn := bodyF0 2 (m__law_pick G__law_draw)
theorem k__law_pick (b : Bt mg) (hs : ∃ o, base.get? sysModules = some o) (c__law_draw : Cal P w K mg base fa "_law_draw" 1 2 G__law_draw) {f : Addr} {fd : FuncData} (Fd : Fun K "_law_pick" "_law_pick" s__law_pick f fd) (hm : mg "_law_pick" = some (.ref f)) : Cal P w K mg base fa "_law_pick" 2 2 G__law_pick :=
  (fn_body0 (CX := CX0) (k := 1) Fd sc__law_pick (fun cdv A outer s H E hr hgd => b__law_pick b hs c__law_draw cdv A outer s H E hr hgd)).cal Fd hm (Fd.binds (ps := ["_law_loom_here", "_law_things"]) fun _ _ _ _ _ _ us hl => match us, hl with | [_, _], _ => rfl)
def G__law_lines : Fn := bodyF0 15 (m__law_lines G__law_filled G__law_bare)
theorem k__law_lines (b : Bt mg) (hs : ∃ o, base.get? sysModules = some o) (c__law_filled : Cal P w K mg base fa "_law_filled" 1 3 G__law_filled) (c__law_bare : Cal P w K mg base fa "_law_bare" 1 1 G__law_bare) {f : Addr} {fd : FuncData} (Fd : Fun K "_law_lines" "_law_lines" s__law_lines f fd) (hm : mg "_law_lines" = some (.ref f)) : Cal P w K mg base fa "_law_lines" 2 2 G__law_lines :=
  (fn_body0 (CX := CX0) (k := 1) Fd sc__law_lines (fun cdv A outer s H E hr hgd => b__law_lines b hs c__law_filled c__law_bare cdv A outer s H E hr hgd)).cal Fd hm (Fd.binds (ps := ["_law_columns_here", "_law_listed"]) fun _ _ _ _ _ _ us hl => match us, hl with | [_, _], _ => rfl)
def G__law_name : Fn := bodyF0 5 (m__law_name G__law_draw G__law_pick G__law_keys)
theorem k__law_name (b : Bt mg) (hs : ∃ o, base.get? sysModules = some o) (c__law_draw : Cal P w K mg base fa "_law_draw" 1 2 G__law_draw) (c__law_pick : Cal P w K mg base fa "_law_pick" 2 2 G__law_pick) (c__law_keys : Cal P w K mg base fa "_law_keys" 1 0 G__law_keys) {f : Addr} {fd : FuncData} (Fd : Fun K "_law_name" "_law_name" s__law_name f fd) (hm : mg "_law_name" = some (.ref f)) : Cal P w K mg base fa "_law_name" 3 2 G__law_name :=
  (fn_body0 (CX := CX0) (k := 2) Fd sc__law_name (fun cdv A outer s H E hr hgd => b__law_name b hs c__law_draw c__law_pick c__law_keys cdv A outer s H E hr hgd)).cal Fd hm (Fd.binds (ps := ["_law_loom_here", "_law_last"]) fun _ _ _ _ _ _ us hl => match us, hl with | [_, _], _ => rfl)
def G__law_value : Fn := bodyF0 5 (m__law_value G__law_draw G__law_pick)
theorem k__law_value (b : Bt mg) (hs : ∃ o, base.get? sysModules = some o) (c__law_draw : Cal P w K mg base fa "_law_draw" 1 2 G__law_draw) (c__law_pick : Cal P w K mg base fa "_law_pick" 2 2 G__law_pick) {f : Addr} {fd : FuncData} (Fd : Fun K "_law_value" "_law_value" s__law_value f fd) (hm : mg "_law_value" = some (.ref f)) : Cal P w K mg base fa "_law_value" 3 2 G__law_value :=
  (fn_body0 (CX := CX0) (k := 2) Fd sc__law_value (fun cdv A outer s H E hr hgd => b__law_value b hs c__law_draw c__law_pick cdv A outer s H E hr hgd)).cal Fd hm (Fd.binds (ps := ["_law_loom_here", "_law_kind"]) fun _ _ _ _ _ _ us hl => match us, hl with | [_, _], _ => rfl)
def G__law_far : Fn := bodyF0 4 (m__law_far G__law_pick)
theorem k__law_far (b : Bt mg) (hs : ∃ o, base.get? sysModules = some o) (c__law_pick : Cal P w K mg base fa "_law_pick" 2 2 G__law_pick) {f : Addr} {fd : FuncData} (Fd : Fun K "_law_far" "_law_far" s__law_far f fd) (hm : mg "_law_far" = some (.ref f)) : Cal P w K mg base fa "_law_far" 3 2 G__law_far :=
  (fn_body0 (CX := CX0) (k := 2) Fd sc__law_far (fun cdv A outer s H E hr hgd => b__law_far b hs c__law_pick cdv A outer s H E hr hgd)).cal Fd hm (Fd.binds (ps := ["_law_loom_here", "_law_row_here"]) fun _ _ _ _ _ _ us hl => match us, hl with | [_, _], _ => rfl)
def G__law_columns : Fn := bodyF0 3 (m__law_columns G__law_name G__law_pick)
theorem k__law_columns (b : Bt mg) (hs : ∃ o, base.get? sysModules = some o) (c__law_name : Cal P w K mg base fa "_law_name" 3 2 G__law_name) (c__law_pick : Cal P w K mg base fa "_law_pick" 2 2 G__law_pick) {f : Addr} {fd : FuncData} (Fd : Fun K "_law_columns" "_law_columns" s__law_columns f fd) (hm : mg "_law_columns" = some (.ref f)) : Cal P w K mg base fa "_law_columns" 4 2 G__law_columns :=
  (fn_body0 (CX := CX0) (k := 3) Fd sc__law_columns (fun cdv A outer s H E hr hgd => b__law_columns b hs c__law_name c__law_pick cdv A outer s H E hr hgd)).cal Fd hm (Fd.binds (ps := ["_law_loom_here", "_law_many"]) fun _ _ _ _ _ _ us hl => match us, hl with | [_, _], _ => rfl)
def G__law_row : Fn := bodyF0 4 (m__law_row G__law_value)
theorem k__law_row (b : Bt mg) (hs : ∃ o, base.get? sysModules = some o) (c__law_value : Cal P w K mg base fa "_law_value" 3 2 G__law_value) {f : Addr} {fd : FuncData} (Fd : Fun K "_law_row" "_law_row" s__law_row f fd) (hm : mg "_law_row" = some (.ref f)) : Cal P w K mg base fa "_law_row" 4 2 G__law_row :=
  (fn_body0 (CX := CX0) (k := 3) Fd sc__law_row (fun cdv A outer s H E hr hgd => b__law_row b hs c__law_value cdv A outer s H E hr hgd)).cal Fd hm (Fd.binds (ps := ["_law_loom_here", "_law_columns_here"]) fun _ _ _ _ _ _ us hl => match us, hl with | [_, _], _ => rfl)
def G_law : Fn := bodyF0 10 (m_law G__law_loom G__law_columns G__law_draw G__law_far G__law_row G__law_pick G__law_lines G_grid)
theorem k_law (b : Bt mg) (hs : ∃ o, base.get? sysModules = some o) (c__law_loom : CalD P w K mg base fa "_law_loom" 1 1 G__law_loom) (c__law_columns : Cal P w K mg base fa "_law_columns" 4 2 G__law_columns) (c__law_draw : Cal P w K mg base fa "_law_draw" 1 2 G__law_draw) (c__law_far : Cal P w K mg base fa "_law_far" 3 2 G__law_far) (c__law_row : Cal P w K mg base fa "_law_row" 4 2 G__law_row) (c__law_pick : Cal P w K mg base fa "_law_pick" 2 2 G__law_pick) (c__law_lines : Cal P w K mg base fa "_law_lines" 2 2 G__law_lines) (c_grid_rows_columns : CalK P w K mg base fa "grid" 2 2 G_grid ["rows", "columns"] [1, 0]) (c_grid : Cal P w K mg base fa "grid" 2 2 G_grid) {f : Addr} {fd : FuncData} (Fd : Fun K "law" "law" s_law f fd) (hm : mg "law" = some (.ref f)) : Cal P w K mg base fa "law" 5 1 G_law :=
  (fn_body0 (CX := CX0) (k := 4) Fd sc_law (fun cdv A outer s H E hr hgd => b_law b hs c__law_loom c__law_columns c__law_draw c__law_far c__law_row c__law_pick c__law_lines c_grid_rows_columns c_grid cdv A outer s H E hr hgd)).cal Fd hm (Fd.binds (ps := ["_law_script"]) fun _ _ _ _ _ _ us hl => match us, hl with | [_], _ => rfl)
end
end K03

namespace K03
open PySem PySem.Spec PyProof.Rows L2 DL
theorem all_mk {P : Program} {w : World} {K : PySem.W.Frag} {h : Heap} {mg : Str → Option Value} {fl : Addr} (X : K.In h) (G : h.Ns mainGlobals mg) (hfl : mg "law" = some (.ref fl))
    {a__grid_line : Addr} {oc__grid_line kV__grid_line dc__grid_line pm__grid_line cd__grid_line ct__grid_line : Value} {od__grid_line an__grid_line : Option Addr} {sl__grid_line : Array (Option Value)}
    (q__grid_line : PySem.W.nsIn K mainGlobals "_grid_line" = some (some (.ref a__grid_line))) (l__grid_line : K.lookup a__grid_line = some ⟨oc__grid_line, od__grid_line, .func (PySem.W.fnOf "_grid_line" "_grid_line" (defArgs s__grid_line) (defBody s__grid_line) (defScope s__grid_line) .none kV__grid_line dc__grid_line pm__grid_line an__grid_line cd__grid_line ct__grid_line), sl__grid_line⟩) (e__grid_line : PySem.W.codeIn K cd__grid_line "_grid_line" = true) (p__grid_line : PySem.W.keepIn K (.ref a__grid_line) = true)
    {a__law_loom : Addr} {oc__law_loom kV__law_loom dc__law_loom pm__law_loom cd__law_loom ct__law_loom : Value} {od__law_loom an__law_loom : Option Addr} {sl__law_loom : Array (Option Value)}
    (q__law_loom : PySem.W.nsIn K mainGlobals "_law_loom" = some (some (.ref a__law_loom))) (l__law_loom : K.lookup a__law_loom = some ⟨oc__law_loom, od__law_loom, .func (PySem.W.fnOf "_law_loom" "_law_loom" (defArgs s__law_loom) (defBody s__law_loom) (defScope s__law_loom) .none kV__law_loom dc__law_loom pm__law_loom an__law_loom cd__law_loom ct__law_loom), sl__law_loom⟩) (e__law_loom : PySem.W.codeIn K cd__law_loom "_law_loom" = true) (p__law_loom : PySem.W.keepIn K (.ref a__law_loom) = true)
    {a__law_draw : Addr} {oc__law_draw kV__law_draw dc__law_draw pm__law_draw cd__law_draw ct__law_draw : Value} {od__law_draw an__law_draw : Option Addr} {sl__law_draw : Array (Option Value)}
    (q__law_draw : PySem.W.nsIn K mainGlobals "_law_draw" = some (some (.ref a__law_draw))) (l__law_draw : K.lookup a__law_draw = some ⟨oc__law_draw, od__law_draw, .func (PySem.W.fnOf "_law_draw" "_law_draw" (defArgs s__law_draw) (defBody s__law_draw) (defScope s__law_draw) .none kV__law_draw dc__law_draw pm__law_draw an__law_draw cd__law_draw ct__law_draw), sl__law_draw⟩) (e__law_draw : PySem.W.codeIn K cd__law_draw "_law_draw" = true) (p__law_draw : PySem.W.keepIn K (.ref a__law_draw) = true)
    {a__law_keys : Addr} {oc__law_keys kV__law_keys dc__law_keys pm__law_keys cd__law_keys ct__law_keys : Value} {od__law_keys an__law_keys : Option Addr} {sl__law_keys : Array (Option Value)}
    (q__law_keys : PySem.W.nsIn K mainGlobals "_law_keys" = some (some (.ref a__law_keys))) (l__law_keys : K.lookup a__law_keys = some ⟨oc__law_keys, od__law_keys, .func (PySem.W.fnOf "_law_keys" "_law_keys" (defArgs s__law_keys) (defBody s__law_keys) (defScope s__law_keys) .none kV__law_keys dc__law_keys pm__law_keys an__law_keys cd__law_keys ct__law_keys), sl__law_keys⟩) (e__law_keys : PySem.W.codeIn K cd__law_keys "_law_keys" = true) (p__law_keys : PySem.W.keepIn K (.ref a__law_keys) = true)
    {a__law_filled : Addr} {oc__law_filled kV__law_filled dc__law_filled pm__law_filled cd__law_filled ct__law_filled : Value} {od__law_filled an__law_filled : Option Addr} {sl__law_filled : Array (Option Value)}
    (q__law_filled : PySem.W.nsIn K mainGlobals "_law_filled" = some (some (.ref a__law_filled))) (l__law_filled : K.lookup a__law_filled = some ⟨oc__law_filled, od__law_filled, .func (PySem.W.fnOf "_law_filled" "_law_filled" (defArgs s__law_filled) (defBody s__law_filled) (defScope s__law_filled) .none kV__law_filled dc__law_filled pm__law_filled an__law_filled cd__law_filled ct__law_filled), sl__law_filled⟩) (e__law_filled : PySem.W.codeIn K cd__law_filled "_law_filled" = true) (p__law_filled : PySem.W.keepIn K (.ref a__law_filled) = true)
    {a__law_bare : Addr} {oc__law_bare kV__law_bare dc__law_bare pm__law_bare cd__law_bare ct__law_bare : Value} {od__law_bare an__law_bare : Option Addr} {sl__law_bare : Array (Option Value)}
    (q__law_bare : PySem.W.nsIn K mainGlobals "_law_bare" = some (some (.ref a__law_bare))) (l__law_bare : K.lookup a__law_bare = some ⟨oc__law_bare, od__law_bare, .func (PySem.W.fnOf "_law_bare" "_law_bare" (defArgs s__law_bare) (defBody s__law_bare) (defScope s__law_bare) .none kV__law_bare dc__law_bare pm__law_bare an__law_bare cd__law_bare ct__law_bare), sl__law_bare⟩) (e__law_bare : PySem.W.codeIn K cd__law_bare "_law_bare" = true) (p__law_bare : PySem.W.keepIn K (.ref a__law_bare) = true)
    {a_grid : Addr} {oc_grid kV_grid dc_grid pm_grid cd_grid ct_grid : Value} {od_grid an_grid : Option Addr} {sl_grid : Array (Option Value)}
    (q_grid : PySem.W.nsIn K mainGlobals "grid" = some (some (.ref a_grid))) (l_grid : K.lookup a_grid = some ⟨oc_grid, od_grid, .func (PySem.W.fnOf "grid" "grid" (defArgs s_grid) (defBody s_grid) (defScope s_grid) .none kV_grid dc_grid pm_grid an_grid cd_grid ct_grid), sl_grid⟩) (e_grid : PySem.W.codeIn K cd_grid "grid" = true) (p_grid : PySem.W.keepIn K (.ref a_grid) = true)
    {a__law_pick : Addr} {oc__law_pick kV__law_pick dc__law_pick pm__law_pick cd__law_pick ct__law_pick : Value} {od__law_pick an__law_pick : Option Addr} {sl__law_pick : Array (Option Value)}
    (q__law_pick : PySem.W.nsIn K mainGlobals "_law_pick" = some (some (.ref a__law_pick))) (l__law_pick : K.lookup a__law_pick = some ⟨oc__law_pick, od__law_pick, .func (PySem.W.fnOf "_law_pick" "_law_pick" (defArgs s__law_pick) (defBody s__law_pick) (defScope s__law_pick) .none kV__law_pick dc__law_pick pm__law_pick an__law_pick cd__law_pick ct__law_pick), sl__law_pick⟩) (e__law_pick : PySem.W.codeIn K cd__law_pick "_law_pick" = true) (p__law_pick : PySem.W.keepIn K (.ref a__law_pick) = true)
    {a__law_lines : Addr} {oc__law_lines kV__law_lines dc__law_lines pm__law_lines cd__law_lines ct__law_lines : Value} {od__law_lines an__law_lines : Option Addr} {sl__law_lines : Array (Option Value)}
    (q__law_lines : PySem.W.nsIn K mainGlobals "_law_lines" = some (some (.ref a__law_lines))) (l__law_lines : K.lookup a__law_lines = some ⟨oc__law_lines, od__law_lines, .func (PySem.W.fnOf "_law_lines" "_law_lines" (defArgs s__law_lines) (defBody s__law_lines) (defScope s__law_lines) .none kV__law_lines dc__law_lines pm__law_lines an__law_lines cd__law_lines ct__law_lines), sl__law_lines⟩) (e__law_lines : PySem.W.codeIn K cd__law_lines "_law_lines" = true) (p__law_lines : PySem.W.keepIn K (.ref a__law_lines) = true)
    {a__law_name : Addr} {oc__law_name kV__law_name dc__law_name pm__law_name cd__law_name ct__law_name : Value} {od__law_name an__law_name : Option Addr} {sl__law_name : Array (Option Value)}
    (q__law_name : PySem.W.nsIn K mainGlobals "_law_name" = some (some (.ref a__law_name))) (l__law_name : K.lookup a__law_name = some ⟨oc__law_name, od__law_name, .func (PySem.W.fnOf "_law_name" "_law_name" (defArgs s__law_name) (defBody s__law_name) (defScope s__law_name) .none kV__law_name dc__law_name pm__law_name an__law_name cd__law_name ct__law_name), sl__law_name⟩) (e__law_name : PySem.W.codeIn K cd__law_name "_law_name" = true) (p__law_name : PySem.W.keepIn K (.ref a__law_name) = true)
    {a__law_value : Addr} {oc__law_value kV__law_value dc__law_value pm__law_value cd__law_value ct__law_value : Value} {od__law_value an__law_value : Option Addr} {sl__law_value : Array (Option Value)}
    (q__law_value : PySem.W.nsIn K mainGlobals "_law_value" = some (some (.ref a__law_value))) (l__law_value : K.lookup a__law_value = some ⟨oc__law_value, od__law_value, .func (PySem.W.fnOf "_law_value" "_law_value" (defArgs s__law_value) (defBody s__law_value) (defScope s__law_value) .none kV__law_value dc__law_value pm__law_value an__law_value cd__law_value ct__law_value), sl__law_value⟩) (e__law_value : PySem.W.codeIn K cd__law_value "_law_value" = true) (p__law_value : PySem.W.keepIn K (.ref a__law_value) = true)
    {a__law_far : Addr} {oc__law_far kV__law_far dc__law_far pm__law_far cd__law_far ct__law_far : Value} {od__law_far an__law_far : Option Addr} {sl__law_far : Array (Option Value)}
    (q__law_far : PySem.W.nsIn K mainGlobals "_law_far" = some (some (.ref a__law_far))) (l__law_far : K.lookup a__law_far = some ⟨oc__law_far, od__law_far, .func (PySem.W.fnOf "_law_far" "_law_far" (defArgs s__law_far) (defBody s__law_far) (defScope s__law_far) .none kV__law_far dc__law_far pm__law_far an__law_far cd__law_far ct__law_far), sl__law_far⟩) (e__law_far : PySem.W.codeIn K cd__law_far "_law_far" = true) (p__law_far : PySem.W.keepIn K (.ref a__law_far) = true)
    {a__law_columns : Addr} {oc__law_columns kV__law_columns dc__law_columns pm__law_columns cd__law_columns ct__law_columns : Value} {od__law_columns an__law_columns : Option Addr} {sl__law_columns : Array (Option Value)}
    (q__law_columns : PySem.W.nsIn K mainGlobals "_law_columns" = some (some (.ref a__law_columns))) (l__law_columns : K.lookup a__law_columns = some ⟨oc__law_columns, od__law_columns, .func (PySem.W.fnOf "_law_columns" "_law_columns" (defArgs s__law_columns) (defBody s__law_columns) (defScope s__law_columns) .none kV__law_columns dc__law_columns pm__law_columns an__law_columns cd__law_columns ct__law_columns), sl__law_columns⟩) (e__law_columns : PySem.W.codeIn K cd__law_columns "_law_columns" = true) (p__law_columns : PySem.W.keepIn K (.ref a__law_columns) = true)
    {a__law_row : Addr} {oc__law_row kV__law_row dc__law_row pm__law_row cd__law_row ct__law_row : Value} {od__law_row an__law_row : Option Addr} {sl__law_row : Array (Option Value)}
    (q__law_row : PySem.W.nsIn K mainGlobals "_law_row" = some (some (.ref a__law_row))) (l__law_row : K.lookup a__law_row = some ⟨oc__law_row, od__law_row, .func (PySem.W.fnOf "_law_row" "_law_row" (defArgs s__law_row) (defBody s__law_row) (defScope s__law_row) .none kV__law_row dc__law_row pm__law_row an__law_row cd__law_row ct__law_row), sl__law_row⟩) (e__law_row : PySem.W.codeIn K cd__law_row "_law_row" = true) (p__law_row : PySem.W.keepIn K (.ref a__law_row) = true)
    {a_law : Addr} {oc_law kV_law dc_law pm_law cd_law ct_law : Value} {od_law an_law : Option Addr} {sl_law : Array (Option Value)}
    (q_law : PySem.W.nsIn K mainGlobals "law" = some (some (.ref a_law))) (l_law : K.lookup a_law = some ⟨oc_law, od_law, .func (PySem.W.fnOf "law" "law" (defArgs s_law) (defBody s_law) (defScope s_law) .none kV_law dc_law pm_law an_law cd_law ct_law), sl_law⟩) (e_law : PySem.W.codeIn K cd_law "law" = true) (p_law : PySem.W.keepIn K (.ref a_law) = true)
    
     (z_abs : PySem.W.nsIn K mainGlobals "abs" = some none) (z_enumerate : PySem.W.nsIn K mainGlobals "enumerate" = some none) (z_int : PySem.W.nsIn K mainGlobals "int" = some none) (z_isinstance : PySem.W.nsIn K mainGlobals "isinstance" = some none) (z_len : PySem.W.nsIn K mainGlobals "len" = some none) (z_max : PySem.W.nsIn K mainGlobals "max" = some none) (z_range : PySem.W.nsIn K mainGlobals "range" = some none) (z_repr : PySem.W.nsIn K mainGlobals "repr" = some none) (z_str : PySem.W.nsIn K mainGlobals "str" = some none) (z_tuple : PySem.W.nsIn K mainGlobals "tuple" = some none) (z_zip : PySem.W.nsIn K mainGlobals "zip" = some none) :
    ∃ fd : FuncData, (∀ (s : Shared) (v : Value), BindsTo s fd ⟨[v], []⟩ [("_law_script", v)]) ∧ ∀ base : Heap, K.In base → base.Ns mainGlobals mg → (∃ o, base.get? sysModules = some o) → FnG P w K mg base CX0 5 fl fd ["_law_script"] (spF K (fun _ => 0) xv0 1 G_law) := by
  have e := hfl.symm.trans (PySem.W.mg_of X G q_law)
  cases e
  refine ⟨PySem.W.fnOf "law" "law" (defArgs s_law) (defBody s_law) (defScope s_law) .none kV_law dc_law pm_law an_law cd_law ct_law, fun s v => .of_eq rfl, fun base _ _ hs => ?_⟩
  have b : Bt mg := ⟨PySem.W.mg_none_of X G z_abs, PySem.W.mg_none_of X G z_enumerate, PySem.W.mg_none_of X G z_int, PySem.W.mg_none_of X G z_isinstance, PySem.W.mg_none_of X G z_len, PySem.W.mg_none_of X G z_max, PySem.W.mg_none_of X G z_range, PySem.W.mg_none_of X G z_repr, PySem.W.mg_none_of X G z_str, PySem.W.mg_none_of X G z_tuple, PySem.W.mg_none_of X G z_zip⟩
  have F__grid_line := fun_mk (st := s__grid_line) l__grid_line e__grid_line p__grid_line
  have C__grid_line := k__grid_line (P := P) (w := w) (fa := fun _ => 0) b hs F__grid_line (PySem.W.mg_of X G q__grid_line)
  have F__law_loom := fun_mk (st := s__law_loom) l__law_loom e__law_loom p__law_loom
  have C__law_loom := k__law_loom (P := P) (w := w) (fa := fun _ => 0) b hs F__law_loom (PySem.W.mg_of X G q__law_loom)
  have F__law_draw := fun_mk (st := s__law_draw) l__law_draw e__law_draw p__law_draw
  have C__law_draw := k__law_draw (P := P) (w := w) (fa := fun _ => 0) b hs F__law_draw (PySem.W.mg_of X G q__law_draw)
  have F__law_keys := fun_mk (st := s__law_keys) l__law_keys e__law_keys p__law_keys
  have C__law_keys := k__law_keys (P := P) (w := w) (fa := fun _ => 0) b hs F__law_keys (PySem.W.mg_of X G q__law_keys)
  have F__law_filled := fun_mk (st := s__law_filled) l__law_filled e__law_filled p__law_filled
  have C__law_filled := k__law_filled (P := P) (w := w) (fa := fun _ => 0) b hs F__law_filled (PySem.W.mg_of X G q__law_filled)
  have F__law_bare := fun_mk (st := s__law_bare) l__law_bare e__law_bare p__law_bare
  have C__law_bare := k__law_bare (P := P) (w := w) (fa := fun _ => 0) b hs F__law_bare (PySem.W.mg_of X G q__law_bare)
  have F_grid := fun_mk (st := s_grid) l_grid e_grid p_grid
  have C_grid := k_grid (P := P) (w := w) (fa := fun _ => 0) b hs C__grid_line F_grid (PySem.W.mg_of X G q_grid)
  have C_grid_rows_columns := k_grid_rows_columns (P := P) (w := w) (fa := fun _ => 0) b hs C__grid_line F_grid (PySem.W.mg_of X G q_grid)
  have F__law_pick := fun_mk (st := s__law_pick) l__law_pick e__law_pick p__law_pick
  have C__law_pick := k__law_pick (P := P) (w := w) (fa := fun _ => 0) b hs C__law_draw F__law_pick (PySem.W.mg_of X G q__law_pick)
  have F__law_lines := fun_mk (st := s__law_lines) l__law_lines e__law_lines p__law_lines
  have C__law_lines := k__law_lines (P := P) (w := w) (fa := fun _ => 0) b hs C__law_filled C__law_bare F__law_lines (PySem.W.mg_of X G q__law_lines)
  have F__law_name := fun_mk (st := s__law_name) l__law_name e__law_name p__law_name
  have C__law_name := k__law_name (P := P) (w := w) (fa := fun _ => 0) b hs C__law_draw C__law_pick C__law_keys F__law_name (PySem.W.mg_of X G q__law_name)
  have F__law_value := fun_mk (st := s__law_value) l__law_value e__law_value p__law_value
  have C__law_value := k__law_value (P := P) (w := w) (fa := fun _ => 0) b hs C__law_draw C__law_pick F__law_value (PySem.W.mg_of X G q__law_value)
  have F__law_far := fun_mk (st := s__law_far) l__law_far e__law_far p__law_far
  have C__law_far := k__law_far (P := P) (w := w) (fa := fun _ => 0) b hs C__law_pick F__law_far (PySem.W.mg_of X G q__law_far)
  have F__law_columns := fun_mk (st := s__law_columns) l__law_columns e__law_columns p__law_columns
  have C__law_columns := k__law_columns (P := P) (w := w) (fa := fun _ => 0) b hs C__law_name C__law_pick F__law_columns (PySem.W.mg_of X G q__law_columns)
  have F__law_row := fun_mk (st := s__law_row) l__law_row e__law_row p__law_row
  have C__law_row := k__law_row (P := P) (w := w) (fa := fun _ => 0) b hs C__law_value F__law_row (PySem.W.mg_of X G q__law_row)
  have F_law := fun_mk (st := s_law) l_law e_law p_law
  exact fn_body0 (CX := CX0) (k := 4) F_law sc_law (fun cdv A outer s H E hr hgd => b_law b hs C__law_loom C__law_columns C__law_draw C__law_far C__law_row C__law_pick C__law_lines C_grid_rows_columns C_grid cdv A outer s H E hr hgd)
end K03

/-! ### what a run of the data layer comes to, backwards -/
namespace DL
open PySem PySem.Spec PyProof.Rows L2
def Wp {α : Type} (x : Res α) (Q : α → Rho → Prop) : Prop := match x with
  | .ok a r => Q a r
  | _ => False
section
variable {α β : Type} {Q : α → Rho → Prop}
theorem Wp.mono {x : Res α} {Q' : α → Rho → Prop} (h : Wp x Q) (k : ∀ a r, Q a r → Q' a r) : Wp x Q' := by
  cases x with
  | ok a r => exact k a r h
  | _ => exact h
theorem Wp.ok {x : Res α} (h : Wp x Q) : ∃ a r, x = .ok a r ∧ Q a r := by
  cases x with
  | ok a r => exact ⟨a, r, rfl, h⟩
  | _ => exact h.elim
theorem wp_ok (a : α) (r : Rho) : Wp (.ok a r) Q ↔ Q a r := Iff.rfl
theorem wp_bad : Wp (.bad : Res α) Q ↔ False := Iff.rfl
theorem wp_ex (c : Nat) (ds : List D) (r : Rho) : Wp (.ex c ds r : Res α) Q ↔ False := Iff.rfl
theorem wp_bind {x : Res β} {f : β → Rho → Res α} : Wp (x.bind f) Q ↔ Wp x (fun a r => Wp (f a r) Q) := by cases x <;> rfl
theorem wp_opt (o : Option α) (r : Rho) : Wp (opt o r) Q ↔ ∃ z, o = some z ∧ Q z r := by
  cases o with
  | none => exact ⟨fun h => h.elim, fun ⟨_, h, _⟩ => by cases h⟩
  | some z => exact ⟨fun h => ⟨z, rfl, h⟩, fun ⟨_, h, q⟩ => by cases h; exact q⟩
theorem wp_of_ans {x : Res D} {d : D} {Q : D → Rho → Prop} (h : ans x = some d) (k : ∀ r, Q d r) : Wp x Q := by
  obtain ⟨r, rfl⟩ := of_ans h
  exact k r
theorem ans_of_wp {x : Res D} {d : D} (h : Wp x fun a _ => a = d) : ans x = some d := by
  obtain ⟨a, r, rfl, rfl⟩ := h.ok
  rfl
end
section
variable {G : Fn} {Q : D → Rho → Prop} {r : Rho}
theorem res_ans (x : Res D) (r1 : Rho) : Wp (match x with | .ok d _ => Res.ok d r1 | .ex c ds _ => .ex c ds r1 | .bad => .bad) Q ↔ ∃ z, ans x = some z ∧ Q z r1 := by
  cases x with
  | ok a r => exact ⟨fun h => ⟨a, rfl, h⟩, fun ⟨z, h, q⟩ => by cases h; exact q⟩
  | ex _ _ _ => exact ⟨fun h => h.elim, fun ⟨z, h, q⟩ => by cases h⟩
  | bad => exact ⟨fun h => h.elim, fun ⟨z, h, q⟩ => by cases h⟩
theorem wp_call0 : Wp (callM G [] r) Q ↔ ∃ z, ans (G []) = some z ∧ Q z r := res_ans _ _
theorem wp_call1 {f : M D} : Wp (callM G [.val f] r) Q ↔ Wp (f r) fun d r1 => ∃ z, ans (G [.fz d]) = some z ∧ Q z r1 := by
  unfold callM
  simp only [wp_bind, evA, wp_ok, refs]
  exact Iff.of_eq (congrArg _ (funext fun d => funext fun r1 => propext (res_ans _ _)))
theorem wp_call2 {f g : M D} : Wp (callM G [.val f, .val g] r) Q ↔ Wp (f r) fun d r1 => Wp (g r1) fun e r2 => ∃ z, ans (G [.fz d, .fz e]) = some z ∧ Q z r2 := by
  unfold callM
  simp only [wp_bind, evA, wp_ok, refs]
  exact Iff.of_eq (congrArg _ (funext fun d => funext fun r1 => congrArg _ (funext fun e => funext fun r2 => propext (res_ans _ _))))
theorem wp_call3 {f g h : M D} : Wp (callM G [.val f, .val g, .val h] r) Q ↔ Wp (f r) fun d r1 => Wp (g r1) fun e r2 => Wp (h r2) fun k r3 => ∃ z, ans (G [.fz d, .fz e, .fz k]) = some z ∧ Q z r3 := by
  unfold callM
  simp only [wp_bind, evA, wp_ok, refs]
  exact Iff.of_eq (congrArg _ (funext fun d => funext fun r1 => congrArg _ (funext fun e => funext fun r2 => congrArg _ (funext fun k => funext fun r3 => propext (res_ans _ _)))))
theorem wp_call4 {f g h i : M D} : Wp (callM G [.val f, .val g, .val h, .val i] r) Q ↔ Wp (f r) fun d r1 => Wp (g r1) fun e r2 => Wp (h r2) fun k r3 => Wp (i r3) fun l r4 => ∃ z, ans (G [.fz d, .fz e, .fz k, .fz l]) = some z ∧ Q z r4 := by
  unfold callM
  simp only [wp_bind, evA, wp_ok, refs]
  exact Iff.of_eq (congrArg _ (funext fun d => funext fun r1 => congrArg _ (funext fun e => funext fun r2 => congrArg _ (funext fun k => funext fun r3 => congrArg _ (funext fun l => funext fun r4 => propext (res_ans _ _))))))
theorem wp_callK1 {f : M D} : Wp (callKM G [0] [.val f] r) Q ↔ Wp (f r) fun d r1 => ∃ z, ans (G [.fz d]) = some z ∧ Q z r1 := by
  unfold callKM
  simp only [wp_bind, evA, wp_ok, refs]
  exact Iff.of_eq (congrArg _ (funext fun d => funext fun r1 => propext (res_ans _ _)))
theorem wp_callK10 {f g : M D} : Wp (callKM G [1, 0] [.val f, .val g] r) Q ↔ Wp (f r) fun d r1 => Wp (g r1) fun e r2 => ∃ z, ans (G [.fz e, .fz d]) = some z ∧ Q z r2 := by
  unfold callKM
  simp only [wp_bind, evA, wp_ok, refs]
  exact Iff.of_eq (congrArg _ (funext fun d => funext fun r1 => congrArg _ (funext fun e => funext fun r2 => propext (res_ans _ _))))
theorem wp_callK01 {f g : M D} : Wp (callKM G [0, 1] [.val f, .val g] r) Q ↔ Wp (f r) fun d r1 => Wp (g r1) fun e r2 => ∃ z, ans (G [.fz d, .fz e]) = some z ∧ Q z r2 := by
  unfold callKM
  simp only [wp_bind, evA, wp_ok, refs]
  exact Iff.of_eq (congrArg _ (funext fun d => funext fun r1 => congrArg _ (funext fun e => funext fun r2 => propext (res_ans _ _))))
end
/-! ### bodies -/
section
variable {n : Nat} {g : M Ctl} {sls : List Sl} {Q : D → Rho → Prop}
theorem wp_body0 : Wp (bodyF0 n g sls) Q ↔ Wp (g (inRho n sls)) fun c r => match c with | .nx => Q .none r | .rt d => Q d r | _ => False := by
  unfold bodyF0
  cases g (inRho n sls) with
  | ok a r => cases a <;> rfl
  | _ => rfl
end
/-! ### functions with a slot that is lent -/
/-- G keeps what J tells of its first slot, and answers what `post` tells -/
def Draws (J : D → Prop) (G : Fn) (pre : List D → Prop) (post : List D → D → Prop) : Prop :=
  ∀ L ds, J L → pre ds → Wp (G (.deep L :: ds.map .fz)) fun z s => ∃ L2, s[0]? = some (.deep L2) ∧ J L2 ∧ post ds z
section
variable {J : D → Prop} {G : Fn} {pre : List D → Prop} {post : List D → D → Prop} {Q : D → Rho → Prop} {r : Rho} {i : Nat} {f g : M D}
theorem call_d0 (h : Draws J G pre post) {L : D} (hr : r[i]? = some (.deep L)) (hL : J L) (hp : pre []) (k : ∀ z L2, J L2 → post [] z → Q z (r.set i (.deep L2))) : Wp (callM G [.ref i] r) Q := by
  unfold callM
  simp only [wp_bind, evA, hr, wp_ok, refs]
  obtain ⟨a, s, e, L2, h1, h2, h3⟩ := (h L [] hL hp).ok
  have e' : G ([Sl.emp].set 0 (.deep L)) = .ok a s := e
  rw [e']
  simp only [h1]
  exact k a L2 h2 h3
theorem call_d1 (h : Draws J G pre post) {L0 : D} (hr : r[i]? = some (.deep L0)) (hf : Wp (f r) fun d r1 => ∃ L, r1[i]? = some (.deep L) ∧ J L ∧ pre [d] ∧ ∀ z L2, J L2 → post [d] z → Q z (r1.set i (.deep L2))) : Wp (callM G [.ref i, .val f] r) Q := by
  unfold callM
  simp only [wp_bind, evA, hr, wp_ok, refs]
  refine hf.mono fun d r1 ⟨L, h1, h2, h3, k⟩ => ?_
  simp only [h1]
  obtain ⟨a, s, e, L2, q1, q2, q3⟩ := (h L [d] h2 h3).ok
  have e' : G ([Sl.emp, .fz d].set 0 (.deep L)) = .ok a s := e
  rw [e']
  simp only [q1]
  exact k a L2 q2 q3
theorem call_d2 (h : Draws J G pre post) {L0 : D} (hr : r[i]? = some (.deep L0)) (hf : Wp (f r) fun d r1 => Wp (g r1) fun e r2 => ∃ L, r2[i]? = some (.deep L) ∧ J L ∧ pre [d, e] ∧ ∀ z L2, J L2 → post [d, e] z → Q z (r2.set i (.deep L2))) : Wp (callM G [.ref i, .val f, .val g] r) Q := by
  unfold callM
  simp only [wp_bind, evA, hr, wp_ok, refs]
  refine hf.mono fun d r1 h1 => h1.mono fun e0 r2 ⟨L, h1, h2, h3, k⟩ => ?_
  simp only [h1]
  obtain ⟨a, s, e, L2, q1, q2, q3⟩ := (h L [d, e0] h2 h3).ok
  have e' : G ([Sl.emp, .fz d, .fz e0].set 0 (.deep L)) = .ok a s := e
  rw [e']
  simp only [q1]
  exact k a L2 q2 q3
end
/-! ### loops -/
section
variable {Q : Ctl → Rho → Prop}
def ctl : Option D → Ctl
  | none => .nx
  | some z => .rt z
/-- a loop that keeps I and never answers -/
theorem wp_loop_inv {t : D → M Ctl} {b : M Ctl} (I : Rho → Prop) : ∀ {ds : List D} {r : Rho}, I r →
    (∀ d ∈ ds, ∀ r, I r → Wp (t d r) fun _ r1 => Wp (b r1) fun c r2 => c = .nx ∧ I r2) → Wp (loopM t b ds r) fun c r => c = .nx ∧ I r
  | [], r, h, _ => ⟨rfl, h⟩
  | d :: ds, r, h, k => by
    unfold loopM
    rw [wp_bind]
    refine (k d List.mem_cons_self r h).mono fun _ r1 h1 => ?_
    rw [wp_bind]
    refine h1.mono fun c r2 ⟨h2, h3⟩ => ?_
    subst h2
    exact wp_loop_inv I h3 fun x hx => k x (List.mem_cons_of_mem _ hx)
/-- a loop that answers what F tells of the first item of which it tells something -/
theorem wp_loop_find {t : D → M Ctl} {b : M Ctl} (I : Rho → Prop) (F : D → Option D) : ∀ {ds : List D} {r : Rho}, I r →
    (∀ d ∈ ds, ∀ r, I r → Wp (t d r) fun _ r1 => Wp (b r1) fun c r2 => c = ctl (F d) ∧ (F d = none → I r2)) → Wp (loopM t b ds r) fun c r => c = ctl (ds.findSome? F) ∧ (ds.findSome? F = none → I r)
  | [], r, h, _ => ⟨rfl, fun _ => h⟩
  | d :: ds, r, h, k => by
    unfold loopM
    rw [wp_bind]
    refine (k d List.mem_cons_self r h).mono fun _ r1 h1 => ?_
    rw [wp_bind]
    refine h1.mono fun c r2 ⟨h2, h3⟩ => ?_
    subst h2
    rw [List.findSome?_cons]
    cases e : F d with
    | none => exact wp_loop_find I F (h3 e) fun x hx => k x (List.mem_cons_of_mem _ hx)
    | some z => exact ⟨rfl, fun h => by cases h⟩
/-- a list made turn by turn, what I tells of the slots kept -/
theorem wp_coll {own : List Nat} {t : D → M Ctl} {c : M Bool} {e : M D} (I : Rho → Prop) (P : D → Prop) (hI : ∀ r, I r → okW own r = true) : ∀ {ds : List D} {r : Rho}, I r →
    (∀ d ∈ ds, ∀ r, I r → Wp (t d (wR r own)) fun _ r1 => Wp (c r1) fun k r2 => k = true ∧ Wp (e r2) fun y r3 => P y ∧ I r3) →
    Wp (collM own t c e ds r) fun ys r1 => ys.length = ds.length ∧ (∀ y ∈ ys, P y) ∧ I r1
  | [], r, h, _ => ⟨rfl, (fun _ h => nomatch h), h⟩
  | d :: ds, r, h, k => by
    unfold collM
    rw [if_pos (hI r h), wp_bind]
    refine (k d List.mem_cons_self r h).mono fun _ r1 h1 => ?_
    obtain ⟨b, r2, e1, rfl, h2⟩ := h1.ok
    rw [e1, nE_ok, Res.ok_bind, if_pos rfl]
    obtain ⟨y, r3, e2, h3, h4⟩ := h2.ok
    rw [e2, nE_ok, Res.ok_bind, wp_bind]
    refine (wp_coll I P hI h4 fun x hx => k x (List.mem_cons_of_mem _ hx)).mono fun ys r4 ⟨q1, q2, q3⟩ => ?_
    refine ⟨by rw [List.length_cons, List.length_cons, q1], fun z hz => ?_, q3⟩
    rcases List.mem_cons.mp hz with rfl | hz
    · exact h3
    · exact q2 z hz
theorem wp_lc {own : List Nat} {f : M (List D)} {t : D → M Ctl} {c : M Bool} {e : M D} {r : Rho} {Q : List D → Rho → Prop} (I : Rho → Prop) (P : D → Prop) (hI : ∀ r, I r → okW own r = true)
    (hf : Wp (f r) fun ds r0 => ds.length ≤ sizeLine ∧ I r0 ∧ (∀ d ∈ ds, ∀ r, I r → Wp (t d (wR r own)) fun _ r1 => Wp (c r1) fun k r2 => k = true ∧ Wp (e r2) fun y r3 => P y ∧ I r3) ∧
      ∀ ys r1, ys.length = ds.length → (∀ y ∈ ys, P y) → I r1 → Q ys (bkR r0 (wR r1 own) own)) : Wp (lcM own f t c e r) Q := by
  unfold lcM
  rw [wp_bind]
  refine hf.mono fun ds r0 ⟨h1, h2, h3, k⟩ => ?_
  rw [if_pos ⟨hI _ h2, h1⟩, wp_bind]
  refine (wp_coll I P hI h2 h3).mono fun ys r1 ⟨q1, q2, q3⟩ => ?_
  rw [if_pos (hI _ q3)]
  exact k ys r1 q1 q2 q3
/-- a list that depends on the item alone -/
theorem wp_lcp {i : Nat} {f : M (List D)} {c : M Bool} {e : M D} {r : Rho} {Q : List D → Rho → Prop} (p : D → Bool) (g : D → D)
    (hf : Wp (f r) fun ds r0 => ds.length ≤ sizeLine ∧ (∃ s, r0[i]? = some s ∧ light s = true) ∧ (∀ d ∈ ds, c (r0.set i (.fz d)) = .ok (p d) (r0.set i (.fz d))) ∧ (∀ d ∈ ds, p d = true → e (r0.set i (.fz d)) = .ok (g d) (r0.set i (.fz d))) ∧
      Q ((ds.filter p).map g) r0) : Wp (lcM [i] f (tgPut i) c e r) Q := by
  obtain ⟨ds, r0, e0, h1, ⟨s, h2, h3⟩, h4, h5, k⟩ := hf.ok
  rw [lc_pure p g e0 h2 h3 h1 h4 h5]
  exact k
end
end DL

/-! ### steps, from the head -/
namespace DL
open PySem PySem.Spec PyProof.Rows L2
def OpW {α : Type} (o : Option α) (k : α → Prop) : Prop := match o with
  | some a => k a
  | none => False
def IfP (c : Bool) (p q : Prop) : Prop := if c = true then p else q
def RdK (o : Option Sl) (i : Nat) (r : Rho) (Q : D → Rho → Prop) : Prop := match o with
  | some (.fz d) => Q d r
  | some (.own d) => Q d (r.set i (.fz d))
  | _ => False
def PutK (o : Option Sl) (p : Prop) : Prop := match o with
  | some (.deep _) => False
  | some _ => p
  | none => False
section
variable {α β : Type} {Q : α → Rho → Prop} {QD : D → Rho → Prop} {QC : Ctl → Rho → Prop} {QB : Bool → Rho → Prop} {QL : List D → Rho → Prop} {k : α → Prop} {p q : Prop} {r : Rho} {i : Nat} {f g h : M D} {fl gl : M (List D)} {fc gc : M Ctl} {fb gb : M Bool} {ob oc od : Rho → Option D}
theorem op_some (a : α) : OpW (some a) k ↔ k a := Iff.rfl
theorem op_none : OpW (none : Option α) k ↔ False := Iff.rfl
theorem ifp_t : IfP true p q ↔ p := by simp [IfP]
theorem ifp_f : IfP false p q ↔ q := by simp [IfP]
theorem rd_fz (d : D) : RdK (some (.fz d)) i r QD ↔ QD d r := Iff.rfl
theorem rd_own (d : D) : RdK (some (.own d)) i r QD ↔ QD d (r.set i (.fz d)) := Iff.rfl
theorem put_fz (d : D) : PutK (some (.fz d)) p ↔ p := Iff.rfl
theorem put_own (d : D) : PutK (some (.own d)) p ↔ p := Iff.rfl
theorem put_emp : PutK (some .emp) p ↔ p := Iff.rfl
theorem wp_rdV : Wp (rdV i r) QD ↔ RdK r[i]? i r QD := by
  unfold rdV RdK
  cases r[i]? with
  | none => rfl
  | some s => cases s <;> rfl
theorem wp_put (d : D) : Wp (put i d r) QC ↔ PutK r[i]? (QC .nx (r.set i (.fz d))) := by
  unfold put PutK
  cases r[i]? with
  | none => rfl
  | some s => cases s <;> rfl
theorem wp_optW (o : Option α) : Wp (opt o r) Q ↔ OpW o fun z => Q z r := by cases o <;> rfl
theorem wp_cV (d : D) : Wp (cV d r) QD ↔ QD d r := Iff.rfl
theorem wp_nx : Wp (nxM r) QC ↔ QC .nx r := Iff.rfl
theorem wp_yes : Wp (yesM r) QB ↔ QB true r := Iff.rfl
theorem wp_nilM : Wp (nilM r) QL ↔ QL [] r := Iff.rfl
theorem wp_consM : Wp (consM f fl r) QL ↔ Wp (f r) fun x r1 => Wp (fl r1) fun y r2 => QL (x :: y) r2 := by
  unfold consM; simp only [wp_bind, wp_ok]
theorem wp_bin2 {o : D → D → Option D} : Wp (bin2 o f g r) QD ↔ Wp (f r) fun x r1 => Wp (g r1) fun y r2 => OpW (o x y) fun z => QD z r2 := by
  unfold bin2; simp only [wp_bind, wp_optW]
theorem wp_appM {o : List D → Option D} : Wp (appM o fl r) QD ↔ Wp (fl r) fun x r1 => OpW (o x) fun z => QD z r1 := by
  unfold appM; simp only [wp_bind, wp_optW]
theorem wp_appI {o : List D → Option (List D)} : Wp (appI o fl r) QL ↔ Wp (fl r) fun x r1 => OpW (o x) fun z => QL z r1 := by
  unfold appI; simp only [wp_bind, wp_optW]
theorem wp_mapM1 {o : D → Option D} : Wp (mapM1 o f r) QD ↔ Wp (f r) fun x r1 => OpW (o x) fun z => QD z r1 := by
  unfold mapM1; simp only [wp_bind, wp_optW]
theorem wp_iterM : Wp (iterM f r) QL ↔ Wp (f r) fun x r1 => OpW (items x) fun z => QL z r1 := by
  unfold iterM; simp only [wp_bind, wp_optW]
theorem wp_truM : Wp (truM f r) QB ↔ Wp (f r) fun x r1 => OpW (truD x) fun b => QB b r1 := by
  unfold truM; simp only [wp_bind, wp_optW]
theorem wp_truMB : Wp (truMB ob r) QB ↔ OpW (ob r) fun x => OpW (truD x) fun b => QB b r := by
  unfold truMB
  cases ob r with
  | none => rfl
  | some d => exact wp_optW _
theorem wp_ofB : Wp (ofB ob r) QD ↔ OpW (ob r) fun x => IfP (scal x) (QD x r) False := by
  unfold ofB
  cases ob r with
  | none => rfl
  | some d => simp only [OpW, IfP]; cases scal d <;> simp [wp_bad, wp_ok]
theorem wp_ifM {a b : M α} : Wp (ifM fb a b r) Q ↔ Wp (fb r) fun c r1 => IfP c (Wp (a r1) Q) (Wp (b r1) Q) := by
  unfold ifM
  rw [wp_bind]
  refine Iff.of_eq (congrArg _ (funext fun c => funext fun r1 => ?_))
  cases c <;> simp [IfP]
theorem wp_andM : Wp (andM fb gb r) QB ↔ Wp (fb r) fun c r1 => IfP c (Wp (gb r1) QB) (QB false r1) := by
  unfold andM
  rw [wp_bind]
  refine Iff.of_eq (congrArg _ (funext fun c => funext fun r1 => ?_))
  cases c <;> simp [IfP, wp_ok]
theorem wp_orM : Wp (orM fb gb r) QB ↔ Wp (fb r) fun c r1 => IfP c (QB true r1) (Wp (gb r1) QB) := by
  unfold orM
  rw [wp_bind]
  refine Iff.of_eq (congrArg _ (funext fun c => funext fun r1 => ?_))
  cases c <;> simp [IfP, wp_ok]
theorem wp_notM : Wp (DL.notM fb r) QB ↔ Wp (fb r) fun c r1 => QB (!c) r1 := by
  unfold DL.notM; simp only [wp_bind, wp_ok]
theorem wp_andV : Wp (andV f g r) QD ↔ Wp (f r) fun x r1 => OpW (truD x) fun b => IfP b (Wp (g r1) QD) (QD x r1) := by
  unfold andV
  rw [wp_bind]
  refine Iff.of_eq (congrArg _ (funext fun c => funext fun r1 => ?_))
  cases truD c with
  | none => rfl
  | some b => cases b <;> simp [IfP, OpW, wp_ok]
theorem wp_orV : Wp (orV f g r) QD ↔ Wp (f r) fun x r1 => OpW (truD x) fun b => IfP b (QD x r1) (Wp (g r1) QD) := by
  unfold orV
  rw [wp_bind]
  refine Iff.of_eq (congrArg _ (funext fun c => funext fun r1 => ?_))
  cases truD c with
  | none => rfl
  | some b => cases b <;> simp [IfP, OpW, wp_ok]
theorem wp_notV : Wp (notV f r) QD ↔ Wp (f r) fun x r1 => OpW (truD x) fun b => QD (.bool (!b)) r1 := by
  unfold notV
  rw [wp_bind]
  refine Iff.of_eq (congrArg _ (funext fun c => funext fun r1 => ?_))
  cases truD c with
  | none => rfl
  | some b => rfl
def SeqK (g : M Ctl) (Q : Ctl → Rho → Prop) (c : Ctl) (r : Rho) : Prop := match c with
  | .nx => Wp (g r) Q
  | c => Q c r
theorem sq_nx : SeqK gc QC .nx r ↔ Wp (gc r) QC := Iff.rfl
theorem sq_rt (d : D) : SeqK gc QC (.rt d) r ↔ QC (.rt d) r := Iff.rfl
theorem sq_bk : SeqK gc QC .bk r ↔ QC .bk r := Iff.rfl
theorem sq_ct : SeqK gc QC .ct r ↔ QC .ct r := Iff.rfl
theorem wp_seqM : Wp (seqM fc gc r) QC ↔ Wp (fc r) (SeqK gc QC) := by
  unfold seqM
  rw [wp_bind]
  refine Iff.of_eq (congrArg _ (funext fun c => funext fun r1 => ?_))
  cases c <;> rfl
theorem wp_retM : Wp (retM f r) QC ↔ Wp (f r) fun d r1 => QC (.rt d) r1 := by
  unfold retM; simp only [wp_bind, wp_ok]
theorem wp_setM : Wp (setM i f r) QC ↔ Wp (f r) fun d r1 => PutK r1[i]? (QC .nx (r1.set i (.fz d))) := by
  unfold setM; simp only [wp_bind, wp_put]
theorem wp_setOwn : Wp (setOwn i fl r) QC ↔ Wp (fl r) fun d r1 => PutK r1[i]? (QC .nx (r1.set i (.own (.list d)))) := by
  unfold setOwn
  rw [wp_bind]
  refine Iff.of_eq (congrArg _ (funext fun c => funext fun r1 => ?_))
  unfold PutK
  cases r1[i]? with
  | none => rfl
  | some s => cases s <;> rfl
theorem wp_tgPut (d : D) : Wp (tgPut i d r) QC ↔ PutK r[i]? (QC .nx (r.set i (.fz d))) := wp_put d
theorem wp_tgNil : Wp (tgNil [] r) QC ↔ QC .nx r := Iff.rfl
theorem wp_tgCons {t : D → M Ctl} {u : List D → M Ctl} (d : D) (ds : List D) : Wp (tgCons t u (d :: ds) r) QC ↔ Wp (t d r) fun _ r1 => Wp (u ds r1) QC := by
  unfold tgCons; simp only [wp_bind]
theorem wp_tgTup {n : Nat} {u : List D → M Ctl} (ds : List D) : Wp (tgTup n u (.tuple ds) r) QC ↔ IfP (decide (ds.length = n)) (Wp (u ds r) fun _ r1 => QC .nx r1) False := by
  unfold tgTup IfP
  by_cases hl : ds.length = n <;> simp [hl, wp_bind, wp_ok, wp_bad]
theorem wp_tupM : Wp (tupM fl r) QD ↔ Wp (fl r) fun x r1 => IfP (decide (x.length ≤ sizeLine)) (QD (.tuple x) r1) False := by
  unfold tupM
  rw [wp_bind]
  refine Iff.of_eq (congrArg _ (funext fun c => funext fun r1 => ?_))
  unfold IfP
  by_cases hl : c.length ≤ sizeLine <;> simp [hl, wp_ok, wp_bad]
theorem wp_lstM : Wp (lstM fl r) QD ↔ Wp (fl r) fun x r1 => IfP (decide (x.length ≤ sizeLine)) (QD (.list x) r1) False := by
  unfold lstM
  rw [wp_bind]
  refine Iff.of_eq (congrArg _ (funext fun c => funext fun r1 => ?_))
  unfold IfP
  by_cases hl : c.length ≤ sizeLine <;> simp [hl, wp_ok, wp_bad]
theorem wp_lnM : Wp (lnM fl r) QL ↔ Wp (fl r) fun x r1 => IfP (decide (x.length ≤ sizeLine)) (QL x r1) False := by
  unfold lnM
  rw [wp_bind]
  refine Iff.of_eq (congrArg _ (funext fun c => funext fun r1 => ?_))
  unfold IfP
  by_cases hl : c.length ≤ sizeLine <;> simp [hl, wp_ok, wp_bad]
theorem wp_lstOf : Wp (lstOf fl r) QD ↔ Wp (fl r) fun x r1 => QD (.list x) r1 := by
  unfold lstOf; simp only [wp_bind, wp_ok]
theorem wp_exprM : Wp (exprM f r) QC ↔ Wp (f r) fun _ r1 => QC .nx r1 := by
  unfold exprM; simp only [wp_bind, wp_ok]
def asInt : D → Option Int
  | .int i => some i
  | _ => none
def asStr : D → Option Str
  | .str i => some i
  | _ => none
def one : List D → Option D
  | [d] => some d
  | _ => none
variable {QO : Option Int → Rho → Prop}
theorem wp_prtNo : Wp (prtM .no r) QO ↔ QO none r := Iff.rfl
theorem wp_prtAt : Wp (prtM (.at f) r) QO ↔ Wp (f r) fun d r1 => OpW (asInt d) fun j => QO (some j) r1 := by
  unfold prtM
  rw [wp_bind]
  refine Iff.of_eq (congrArg _ (funext fun c => funext fun r1 => ?_))
  cases c <;> rfl
theorem wp_slM {lo hi : SPart} : Wp (slM f lo hi r) QD ↔ Wp (f r) fun d r1 => Wp (prtM lo r1) fun l r2 => Wp (prtM hi r2) fun h r3 => OpW (slD d l h) fun z => QD z r3 := by
  unfold slM; simp only [wp_bind, wp_optW]
theorem wp_asgM {t : D → M Ctl} : Wp (asgM t f r) QC ↔ Wp (f r) fun d r1 => Wp (t d r1) QC := by
  unfold asgM; simp only [wp_bind]
theorem wp_forM {t : D → M Ctl} {b : M Ctl} : Wp (forM fl t b r) QC ↔ Wp (fl r) fun ds r1 => Wp (loopM t b ds r1) QC := by
  unfold forM; simp only [wp_bind]
theorem wp_enumM : Wp (enumM fl r) QL ↔ Wp (fl r) fun ds r1 => OpW (one ds) fun d => OpW (enumG d) fun z => QL z r1 := by
  unfold enumM
  rw [wp_bind]
  refine Iff.of_eq (congrArg _ (funext fun c => funext fun r1 => ?_))
  rcases c with _ | ⟨d, _ | ⟨e, t⟩⟩
  · rfl
  · exact propext (wp_optW _)
  · rfl
def ezip : List D → Option (List D)
  | [.tuple ds, .tuple es] => some (enumL (List.zipWith (fun x y => .tuple [x, y]) ds es))
  | _ => none
theorem wp_enzipM : Wp (enzipM fl r) QL ↔ Wp (fl r) fun ds r1 => OpW (ezip ds) fun z => QL z r1 := by
  unfold enzipM
  rw [wp_bind]
  refine Iff.of_eq (congrArg _ (funext fun c => funext fun r1 => ?_))
  rcases c with _ | ⟨x, _ | ⟨y, _ | ⟨z, t⟩⟩⟩
  · rfl
  · cases x <;> rfl
  · cases x <;> first | rfl | (cases y <;> rfl)
  · cases x <;> first | rfl | (cases y <;> rfl)
variable {QN : List ND → Rho → Prop} {es : List EN}
theorem wp_evN0 : Wp (evN [] r) QN ↔ QN [] r := Iff.rfl
theorem wp_evNv : Wp (evN (.val f :: es) r) QN ↔ Wp (f r) fun d r1 => Wp (evN es r1) fun t r2 => QN (.nv d :: t) r2 := by
  rw [evN]; simp only [wp_bind, wp_ok]
theorem wp_evNl : Wp (evN (.lst fl :: es) r) QN ↔ Wp (fl r) fun d r1 => Wp (evN es r1) fun t r2 => QN (.nl d :: t) r2 := by
  rw [evN]; simp only [wp_bind, wp_ok]
theorem wp_setsM {is : List Nat} : Wp (setsM is es r) QC ↔ Wp (evN es r) fun ns r1 => IfP (decide (is.length = ns.length ∧ ns.length ≤ sizeLine)) (OpW (setN is ns r1) fun r2 => QC .nx r2) False := by
  unfold setsM
  rw [wp_bind]
  refine Iff.of_eq (congrArg _ (funext fun c => funext fun r1 => ?_))
  unfold IfP
  by_cases hl : is.length = c.length ∧ c.length ≤ sizeLine
  · simp only [hl]
    cases setN is c r1 <;> simp [wp_ok, wp_bad, OpW]
  · simp [hl, wp_bad]
theorem wp_joinM : Wp (joinM f g r) QD ↔ Wp (f r) fun x r1 => OpW (asStr x) fun a => Wp (g r1) fun y r2 => OpW (txtsIn y) fun ys => IfP (joinOk a ys) (QD (.str (Txt.join a ys)) r2) False := by
  unfold joinM
  rw [wp_bind]
  refine Iff.of_eq (congrArg _ (funext fun c => funext fun r1 => ?_))
  cases c with
  | str a =>
    simp only [asStr, OpW, wp_bind]
    refine congrArg _ (funext fun y => funext fun r2 => ?_)
    cases txtsIn y with
    | none => rfl
    | some ys => simp only [IfP]; cases joinOk a ys <;> simp [wp_ok, wp_bad]
  | _ => rfl
theorem wp_splitM : Wp (splitM f g r) QD ↔ Wp (f r) fun x r1 => OpW (asStr x) fun a => Wp (g r1) fun y r2 => OpW (asStr y) fun b => IfP (splitOk a b) (QD (.list ((Txt.split a b).map PyData.str)) r2) False := by
  unfold splitM
  rw [wp_bind]
  refine Iff.of_eq (congrArg _ (funext fun c => funext fun r1 => ?_))
  cases c with
  | str a =>
    simp only [asStr, OpW, wp_bind]
    refine congrArg _ (funext fun y => funext fun r2 => ?_)
    cases y with
    | str b => simp only [IfP]; cases splitOk a b <;> simp [wp_ok, wp_bad]
    | _ => rfl
  | _ => rfl
theorem wp_setIxM : Wp (setIxM i ob f r) QC ↔ Wp (f r) fun d r1 => OpW r1[i]? fun s => OpW (ob r1) fun k => OpW (setIx s k d) fun s' => QC .nx (r1.set i s') := by
  unfold setIxM
  rw [wp_bind]
  refine Iff.of_eq (congrArg _ (funext fun c => funext fun r1 => ?_))
  cases r1[i]? with
  | none => rfl
  | some s =>
    simp only [OpW]
    cases ob r1 with
    | none => rfl
    | some k => simp only []; cases setIx s k c <;> rfl
theorem wp_ownIx : Wp (ownIx i ob r) QD ↔ OpW (ownL r i) fun ds => OpW (ob r) fun k => OpW (asInt k) fun j => OpW ((ixN ds.length j).bind fun j => ds[j]?) fun d => QD d r := by
  unfold ownIx
  cases ownL r i with
  | none => rfl
  | some ds =>
    simp only [OpW]
    cases ob r with
    | none => rfl
    | some k =>
      cases k with
      | int j => simp only [asInt]; cases ((ixN ds.length j).bind fun j => ds[j]?) <;> rfl
      | _ => rfl
theorem wp_goOn {h : M (List (D × D))} {QP : List (D × D) → Rho → Prop} : Wp (goOn fc h r) QP ↔ Wp (fc r) fun c r1 => match c with | .nx => Wp (h r1) QP | _ => False := by
  unfold goOn
  rw [wp_bind]
  refine Iff.of_eq (congrArg _ (funext fun c => funext fun r1 => ?_))
  cases c <;> rfl
variable {G : Fn}
theorem ex_op {o : Option α} : (∃ z, o = some z ∧ k z) ↔ OpW o k := by
  cases o with
  | none => exact ⟨(fun ⟨_, h, _⟩ => nomatch h), fun h => h.elim⟩
  | some z => exact ⟨fun ⟨_, h, q⟩ => by cases h; exact q, fun h => ⟨z, rfl, h⟩⟩
theorem wp_c0 : Wp (callM G [] r) QD ↔ OpW (ans (G [])) fun z => QD z r := by rw [wp_call0]; exact ex_op
theorem wp_c1 : Wp (callM G [.val f] r) QD ↔ Wp (f r) fun d r1 => OpW (ans (G [.fz d])) fun z => QD z r1 := by rw [wp_call1]; simp only [ex_op]
theorem wp_c2 : Wp (callM G [.val f, .val g] r) QD ↔ Wp (f r) fun d r1 => Wp (g r1) fun e r2 => OpW (ans (G [.fz d, .fz e])) fun z => QD z r2 := by rw [wp_call2]; simp only [ex_op]
theorem wp_c3 : Wp (callM G [.val f, .val g, .val h] r) QD ↔ Wp (f r) fun d r1 => Wp (g r1) fun e r2 => Wp (h r2) fun k r3 => OpW (ans (G [.fz d, .fz e, .fz k])) fun z => QD z r3 := by rw [wp_call3]; simp only [ex_op]
theorem wp_c4 {h' : M D} : Wp (callM G [.val f, .val g, .val h, .val h'] r) QD ↔ Wp (f r) fun d r1 => Wp (g r1) fun e r2 => Wp (h r2) fun k r3 => Wp (h' r3) fun l r4 => OpW (ans (G [.fz d, .fz e, .fz k, .fz l])) fun z => QD z r4 := by rw [wp_call4]; simp only [ex_op]
theorem wp_k1 : Wp (callKM G [0] [.val f] r) QD ↔ Wp (f r) fun d r1 => OpW (ans (G [.fz d])) fun z => QD z r1 := by rw [wp_callK1]; simp only [ex_op]
theorem wp_k10 : Wp (callKM G [1, 0] [.val f, .val g] r) QD ↔ Wp (f r) fun d r1 => Wp (g r1) fun e r2 => OpW (ans (G [.fz e, .fz d])) fun z => QD z r2 := by rw [wp_callK10]; simp only [ex_op]
theorem wp_k01 : Wp (callKM G [0, 1] [.val f, .val g] r) QD ↔ Wp (f r) fun d r1 => Wp (g r1) fun e r2 => OpW (ans (G [.fz d, .fz e])) fun z => QD z r2 := by rw [wp_callK01]; simp only [ex_op]
def BodyK (Q : D → Rho → Prop) (c : Ctl) (r : Rho) : Prop := match c with
  | .nx => Q .none r
  | .rt d => Q d r
  | _ => False
theorem wp_body {n : Nat} {sls : List Sl} : Wp (bodyF0 n fc sls) QD ↔ Wp (fc (inRho n sls)) (BodyK QD) := by
  rw [wp_body0]
  refine Iff.of_eq (congrArg _ (funext fun c => funext fun r1 => ?_))
  cases c <;> rfl
theorem bk_nx : BodyK QD .nx r ↔ QD .none r := Iff.rfl
theorem bk_rt (d : D) : BodyK QD (.rt d) r ↔ QD d r := Iff.rfl
end
/-! ### operations -/
theorem o_add (i j : Int) : addG (.int i) (.int j) = some (.int (i + j)) := rfl
theorem o_addS (x y : Str) : addG (.str x) (.str y) = if x.length + y.length ≤ sizeLine then some (.str (x ++ y)) else none := rfl
theorem o_addT (x y : List D) : addG (.tuple x) (.tuple y) = if x.length + y.length ≤ sizeLine then some (.tuple (x ++ y)) else none := rfl
theorem o_addL (x y : List D) : addG (.list x) (.list y) = if x.length + y.length ≤ sizeLine then some (.list (x ++ y)) else none := rfl
theorem o_sub (i j : Int) : subG (.int i) (.int j) = some (.int (i - j)) := rfl
theorem o_mul (i j : Int) : mulG (.int i) (.int j) = if mulOk i j = true then some (.int (i * j)) else none := rfl
theorem o_mod (i j : Int) : modG (.int i) (.int j) = if 0 < j then some (.int (i % j)) else none := rfl
theorem o_mod' {i j : Int} (h : 0 < j) : modG (.int i) (.int j) = some (.int (i % j)) := by rw [o_mod, if_pos h]
theorem o_mul' {i j : Int} (h : (-(2 ^ 64) < i ∧ i < 2 ^ 64) ∨ (-(2 ^ 64) < j ∧ j < 2 ^ 64)) : mulG (.int i) (.int j) = some (.int (i * j)) := by
  show (if mulOk i j = true then some (PyData.int (i * j)) else none) = _
  rw [if_pos (show mulOk i j = true from decide_eq_true h)]
theorem o_fdiv' {i j : Int} (h : 0 < j) (h2 : j < 1073741824) : fdivG (.int i) (.int j) = some (.int (i / j)) := by
  show (if 0 < j ∧ j < 1073741824 then some (PyData.int (i / j)) else none) = _
  rw [if_pos ⟨h, h2⟩]
theorem o_fdiv (i j : Int) : fdivG (.int i) (.int j) = if 0 < j ∧ j < 1073741824 then some (.int (i / j)) else none := rfl
theorem o_mulT {xs : List D} {k : Int} (h : 2 ≤ k) (h2 : k ≤ 1000) (h3 : xs.length ≤ 1000) : mulG (.tuple xs) (.int k) = some (.tuple (List.replicate k.toNat xs).flatten) := by
  have e : mulG (.tuple xs) (.int k) = if 2 ≤ k ∧ k ≤ 1000 ∧ xs.length ≤ 1000 then some (.tuple (List.replicate k.toNat xs).flatten) else if k = 1 then some (.tuple xs) else none := rfl
  rw [e, if_pos ⟨h, h2, h3⟩]
theorem o_mulT1 (xs : List D) : mulG (.tuple xs) (.int 1) = some (.tuple xs) := by
  have e : mulG (.tuple xs) (.int 1) = if 2 ≤ (1 : Int) ∧ (1 : Int) ≤ 1000 ∧ xs.length ≤ 1000 then some (.tuple (List.replicate (1 : Int).toNat xs).flatten) else if (1 : Int) = 1 then some (.tuple xs) else none := rfl
  rw [e, if_neg (fun h => absurd h.1 (by decide)), if_pos rfl]
theorem o_lt (i j : Int) : ltG (.int i) (.int j) = some (.bool (decide (i < j))) := rfl
theorem o_le (i j : Int) : leG (.int i) (.int j) = some (.bool (decide (i ≤ j))) := rfl
theorem o_gt (i j : Int) : gtG (.int i) (.int j) = some (.bool (decide (j < i))) := rfl
theorem o_ge (i j : Int) : geG (.int i) (.int j) = some (.bool (decide (j ≤ i))) := rfl
theorem o_eqI (i j : Int) : eqG (.int i) (.int j) = some (.bool (i == j)) := by
  unfold eqG
  have h (i : Int) : SeqAt.shaped (.int i) = true := rfl
  simp [h, PyData.eqv]
theorem o_neI (i j : Int) : neG (.int i) (.int j) = some (.bool (!(i == j))) := by
  unfold neG
  have h (i : Int) : SeqAt.shaped (.int i) = true := rfl
  simp [h, PyData.eqv]
theorem o_neS (x y : Str) : neG (.str x) (.str y) = some (.bool (x != y)) := rfl
theorem str_beq (a b : Str) : (a == b) = (b == a) := by
  rw [Bool.eq_iff_iff, beq_iff_eq, beq_iff_eq]
  exact eq_comm
theorem o_eqS (d : D) (x : Str) : eqG d (.str x) = some (.bool (eqS x d)) := by
  unfold eqG
  split
  · cases d <;> simp [PyData.eqv, eqS, str_beq]
  · cases d with
    | str a => simp only [eqS, str_beq]
    | _ => rfl
theorem o_isN (d : D) : isG d .none = some (.bool (isNone d)) := rfl
theorem o_isnN (d : D) : isnG d .none = some (.bool (!isNone d)) := rfl
theorem t_b (b : Bool) : truD (.bool b) = some b := rfl
theorem t_i (i : Int) : truD (.int i) = some (i != 0) := rfl
theorem l_t (ds : List D) : lenG [.tuple ds] = some (.int ds.length) := rfl
theorem l_l (ds : List D) : lenG [.list ds] = some (.int ds.length) := rfl
theorem i_t (ds : List D) : items (.tuple ds) = some ds := rfl
theorem i_l (ds : List D) : items (.list ds) = some ds := rfl
theorem i_s (x : Str) : items (.str x) = some (x.cps.toList.map sgn) := rfl
theorem ti_i (i : Int) : toIntG [.int i] = some (.int i) := rfl
theorem ti_b (b : Bool) : toIntG [.bool b] = some (.int (if b then 1 else 0)) := rfl
theorem neg_i (i : Int) : negG (.int i) = some (.int (-i)) := rfl
theorem abs_i (i : Int) : absG [.int i] = some (.int (if i < 0 then -i else i)) := rfl
theorem tup_l (ds : List D) : tupleG [.list ds] = some (.tuple ds) := rfl
theorem tup_t (ds : List D) : tupleG [.tuple ds] = some (.tuple ds) := rfl
theorem lst_l (ds : List D) : listG [.list ds] = some (.list ds) := rfl
theorem lst_t (ds : List D) : listG [.tuple ds] = some (.list ds) := rfl
theorem ix_t (ds : List D) (i : Int) : ixG (.tuple ds) (.int i) = atI ds i := rfl
theorem ix_l (ds : List D) (i : Int) : ixG (.list ds) (.int i) = atI ds i := rfl
theorem sl_t (ds : List D) (lo hi : Option Int) : slD (.tuple ds) lo hi = some (.tuple (cutD ds lo hi)) := rfl
theorem sl_l (ds : List D) (lo hi : Option Int) : slD (.list ds) lo hi = some (.list (cutD ds lo hi)) := rfl
theorem rev_t (ds : List D) : revG (.tuple ds) = some (.tuple ds.reverse) := rfl
theorem en_t (ds : List D) : enumG (.tuple ds) = some (enumL ds) := rfl
theorem en_l (ds : List D) : enumG (.list ds) = some (enumL ds) := rfl
theorem at_0 {α : Type} (x : α) (xs : List α) : atI (x :: xs) 0 = some x := by simp [atI, ixN]
theorem at_1 {α : Type} (x y : α) (xs : List α) : atI (x :: y :: xs) 1 = some y := by
  unfold atI ixN
  rw [if_pos (by omega), if_pos (by simp only [List.length_cons]; omega)]
  rfl
theorem nt_b (b : Bool) : notG (.bool b) = some (.bool (!b)) := rfl
theorem ai_i (i : Int) : asInt (.int i) = some i := rfl
theorem as_s (x : Str) : asStr (.str x) = some x := rfl
theorem one_ (d : D) : one [d] = some d := rfl
/-! ### what is still to be done, as words of its own -/
section
variable {α β : Type} {Q : α → Rho → Prop} {QD : D → Rho → Prop} {QC : Ctl → Rho → Prop} {QB : Bool → Rho → Prop} {QL : List D → Rho → Prop} {QR : Rho → Prop} {k : α → Prop} {p q : Prop} {r : Rho} {i : Nat} {f g h h' : M D} {fl gl : M (List D)} {fc gc : M Ctl} {fb gb : M Bool} {ob oc od : Rho → Option D} {G : Fn}
def OpK {α : Type} (Q : α → Rho → Prop) (r : Rho) (z : α) : Prop := Q z r
theorem opk {z : α} : OpK Q r z ↔ Q z r := Iff.rfl
def BinK2 (o : D → D → Option D) (x : D) (Q : D → Rho → Prop) (y : D) (r : Rho) : Prop := OpW (o x y) (OpK Q r)
def BinK1 (o : D → D → Option D) (g : M D) (Q : D → Rho → Prop) (x : D) (r : Rho) : Prop := Wp (g r) (BinK2 o x Q)
theorem k_bin2 {o : D → D → Option D} : Wp (bin2 o f g r) QD ↔ Wp (f r) (BinK1 o g QD) := wp_bin2
theorem k_bin2a {o : D → D → Option D} {x : D} : BinK1 o g QD x r ↔ Wp (g r) (BinK2 o x QD) := Iff.rfl
theorem k_bin2b {o : D → D → Option D} {x y : D} : BinK2 o x QD y r ↔ OpW (o x y) (OpK QD r) := Iff.rfl
def ConsK2 (x : D) (Q : List D → Rho → Prop) (y : List D) (r : Rho) : Prop := Q (x :: y) r
def ConsK1 (fl : M (List D)) (Q : List D → Rho → Prop) (x : D) (r : Rho) : Prop := Wp (fl r) (ConsK2 x Q)
theorem k_cons : Wp (consM f fl r) QL ↔ Wp (f r) (ConsK1 fl QL) := wp_consM
theorem k_consa {x : D} : ConsK1 fl QL x r ↔ Wp (fl r) (ConsK2 x QL) := Iff.rfl
theorem k_consb {x : D} {y : List D} : ConsK2 x QL y r ↔ QL (x :: y) r := Iff.rfl
def AppK {α β : Type} (o : α → Option β) (Q : β → Rho → Prop) (x : α) (r : Rho) : Prop := OpW (o x) (OpK Q r)
theorem k_app {o : α → Option β} {Q : β → Rho → Prop} {x : α} : AppK o Q x r ↔ OpW (o x) (OpK Q r) := Iff.rfl
theorem k_appM {o : List D → Option D} : Wp (appM o fl r) QD ↔ Wp (fl r) (AppK o QD) := wp_appM
theorem k_appI {o : List D → Option (List D)} : Wp (appI o fl r) QL ↔ Wp (fl r) (AppK o QL) := wp_appI
theorem k_mapM1 {o : D → Option D} : Wp (mapM1 o f r) QD ↔ Wp (f r) (AppK o QD) := wp_mapM1
theorem k_iterM : Wp (iterM f r) QL ↔ Wp (f r) (AppK items QL) := wp_iterM
theorem k_truM : Wp (truM f r) QB ↔ Wp (f r) (AppK truD QB) := wp_truM
def TbK (Q : Bool → Rho → Prop) (r : Rho) (x : D) : Prop := OpW (truD x) (OpK Q r)
theorem k_truMB : Wp (truMB ob r) QB ↔ OpW (ob r) (TbK QB r) := wp_truMB
theorem k_tb {x : D} : TbK QB r x ↔ OpW (truD x) (OpK QB r) := Iff.rfl
def OfK (Q : D → Rho → Prop) (r : Rho) (x : D) : Prop := scal x = true ∧ Q x r
theorem k_ofB : Wp (ofB ob r) QD ↔ OpW (ob r) (OfK QD r) := by
  rw [wp_ofB]
  cases ob r with
  | none => rfl
  | some d => simp only [OpW, IfP, OfK]; cases scal d <;> simp
theorem k_of {x : D} : OfK QD r x ↔ scal x = true ∧ QD x r := Iff.rfl
def IfK {α : Type} (a b : M α) (Q : α → Rho → Prop) (c : Bool) (r : Rho) : Prop := IfP c (Wp (a r) Q) (Wp (b r) Q)
theorem k_ifM {a b : M α} : Wp (ifM fb a b r) Q ↔ Wp (fb r) (IfK a b Q) := wp_ifM
theorem k_ift {a b : M α} : IfK a b Q true r ↔ Wp (a r) Q := ifp_t
theorem k_iff {a b : M α} : IfK a b Q false r ↔ Wp (b r) Q := ifp_f
def AndK (gb : M Bool) (Q : Bool → Rho → Prop) (c : Bool) (r : Rho) : Prop := IfP c (Wp (gb r) Q) (Q false r)
theorem k_andM : Wp (andM fb gb r) QB ↔ Wp (fb r) (AndK gb QB) := wp_andM
theorem k_andt : AndK gb QB true r ↔ Wp (gb r) QB := ifp_t
theorem k_andf : AndK gb QB false r ↔ QB false r := ifp_f
def OrK (gb : M Bool) (Q : Bool → Rho → Prop) (c : Bool) (r : Rho) : Prop := IfP c (Q true r) (Wp (gb r) Q)
theorem k_orM : Wp (orM fb gb r) QB ↔ Wp (fb r) (OrK gb QB) := wp_orM
theorem k_ort : OrK gb QB true r ↔ QB true r := ifp_t
theorem k_orf : OrK gb QB false r ↔ Wp (gb r) QB := ifp_f
def NotK (Q : Bool → Rho → Prop) (c : Bool) (r : Rho) : Prop := Q (!c) r
theorem k_notM : Wp (DL.notM fb r) QB ↔ Wp (fb r) (NotK QB) := wp_notM
theorem k_not {c : Bool} : NotK QB c r ↔ QB (!c) r := Iff.rfl
def AndVK2 (g : M D) (Q : D → Rho → Prop) (x : D) (r : Rho) (b : Bool) : Prop := IfP b (Wp (g r) Q) (Q x r)
def AndVK (g : M D) (Q : D → Rho → Prop) (x : D) (r : Rho) : Prop := OpW (truD x) (AndVK2 g Q x r)
theorem k_andV : Wp (andV f g r) QD ↔ Wp (f r) (AndVK g QD) := wp_andV
theorem k_andVa {x : D} : AndVK g QD x r ↔ OpW (truD x) (AndVK2 g QD x r) := Iff.rfl
theorem k_andVt {x : D} : AndVK2 g QD x r true ↔ Wp (g r) QD := ifp_t
theorem k_andVf {x : D} : AndVK2 g QD x r false ↔ QD x r := ifp_f
def OrVK2 (g : M D) (Q : D → Rho → Prop) (x : D) (r : Rho) (b : Bool) : Prop := IfP b (Q x r) (Wp (g r) Q)
def OrVK (g : M D) (Q : D → Rho → Prop) (x : D) (r : Rho) : Prop := OpW (truD x) (OrVK2 g Q x r)
theorem k_orV : Wp (orV f g r) QD ↔ Wp (f r) (OrVK g QD) := wp_orV
theorem k_orVa {x : D} : OrVK g QD x r ↔ OpW (truD x) (OrVK2 g QD x r) := Iff.rfl
theorem k_orVt {x : D} : OrVK2 g QD x r true ↔ QD x r := ifp_t
theorem k_orVf {x : D} : OrVK2 g QD x r false ↔ Wp (g r) QD := ifp_f
def NotVK2 (Q : D → Rho → Prop) (r : Rho) (b : Bool) : Prop := Q (.bool (!b)) r
def NotVK (Q : D → Rho → Prop) (x : D) (r : Rho) : Prop := OpW (truD x) (NotVK2 Q r)
theorem k_notV : Wp (notV f r) QD ↔ Wp (f r) (NotVK QD) := wp_notV
theorem k_notVa {x : D} : NotVK QD x r ↔ OpW (truD x) (NotVK2 QD r) := Iff.rfl
theorem k_notVb {b : Bool} : NotVK2 QD r b ↔ QD (.bool (!b)) r := Iff.rfl
def RetK (Q : Ctl → Rho → Prop) (d : D) (r : Rho) : Prop := Q (.rt d) r
theorem k_retM : Wp (retM f r) QC ↔ Wp (f r) (RetK QC) := wp_retM
theorem k_ret {d : D} : RetK QC d r ↔ QC (.rt d) r := Iff.rfl
def PtK (o : Option Sl) (i : Nat) (s : Sl) (Q : Ctl → Rho → Prop) (r : Rho) : Prop := PutK o (Q .nx (r.set i s))
theorem pt_fz {d : D} {s : Sl} : PtK (some (.fz d)) i s QC r ↔ QC .nx (r.set i s) := Iff.rfl
theorem pt_own {d : D} {s : Sl} : PtK (some (.own d)) i s QC r ↔ QC .nx (r.set i s) := Iff.rfl
theorem pt_emp {s : Sl} : PtK (some .emp) i s QC r ↔ QC .nx (r.set i s) := Iff.rfl
theorem pt_light {s s' : Sl} (h : light s' = true) : PtK (some s') i s QC r ↔ QC .nx (r.set i s) := by
  cases s' with
  | emp => rfl
  | fz d => rfl
  | fn i => rfl
  | _ => exact absurd h (by simp [light])
def SetK (i : Nat) (Q : Ctl → Rho → Prop) (d : D) (r : Rho) : Prop := PtK r[i]? i (.fz d) Q r
theorem k_setM : Wp (setM i f r) QC ↔ Wp (f r) (SetK i QC) := wp_setM
theorem k_set {d : D} : SetK i QC d r ↔ PtK r[i]? i (.fz d) QC r := Iff.rfl
def SetOK (i : Nat) (Q : Ctl → Rho → Prop) (d : List D) (r : Rho) : Prop := PtK r[i]? i (.own (.list d)) Q r
theorem k_setOwn : Wp (setOwn i fl r) QC ↔ Wp (fl r) (SetOK i QC) := wp_setOwn
theorem k_seto {d : List D} : SetOK i QC d r ↔ PtK r[i]? i (.own (.list d)) QC r := Iff.rfl
theorem k_put {d : D} : Wp (put i d r) QC ↔ PtK r[i]? i (.fz d) QC r := wp_put d
theorem k_tgPut {d : D} : Wp (tgPut i d r) QC ↔ PtK r[i]? i (.fz d) QC r := wp_put d
theorem k_tgNil : Wp (tgNil [] r) QC ↔ QC .nx r := Iff.rfl
def TgK {α : Type} (u : List D → M Ctl) (ds : List D) (Q : Ctl → Rho → Prop) (_ : α) (r : Rho) : Prop := Wp (u ds r) Q
theorem k_tgCons {t : D → M Ctl} {u : List D → M Ctl} {d : D} {ds : List D} : Wp (tgCons t u (d :: ds) r) QC ↔ Wp (t d r) (TgK u ds QC) := wp_tgCons d ds
theorem k_tg {u : List D → M Ctl} {ds : List D} {a : α} : TgK u ds QC a r ↔ Wp (u ds r) QC := Iff.rfl
def NxK {α : Type} (Q : Ctl → Rho → Prop) (_ : α) (r : Rho) : Prop := Q .nx r
theorem k_nxk {a : α} : NxK QC a r ↔ QC .nx r := Iff.rfl
theorem k_tgTup {n : Nat} {u : List D → M Ctl} {ds : List D} : Wp (tgTup n u (.tuple ds) r) QC ↔ ds.length = n ∧ Wp (u ds r) (NxK QC) := by
  rw [wp_tgTup]
  unfold IfP
  by_cases hl : ds.length = n <;> simp [hl]
  rfl
def TupK (Q : D → Rho → Prop) (x : List D) (r : Rho) : Prop := x.length ≤ sizeLine ∧ Q (.tuple x) r
theorem k_tupM : Wp (tupM fl r) QD ↔ Wp (fl r) (TupK QD) := by
  rw [wp_tupM]
  refine Iff.of_eq (congrArg _ (funext fun c => funext fun r1 => ?_))
  unfold IfP TupK
  by_cases hl : c.length ≤ sizeLine <;> simp [hl]
theorem k_tup {x : List D} : TupK QD x r ↔ x.length ≤ sizeLine ∧ QD (.tuple x) r := Iff.rfl
def LstK (Q : D → Rho → Prop) (x : List D) (r : Rho) : Prop := x.length ≤ sizeLine ∧ Q (.list x) r
theorem k_lstM : Wp (lstM fl r) QD ↔ Wp (fl r) (LstK QD) := by
  rw [wp_lstM]
  refine Iff.of_eq (congrArg _ (funext fun c => funext fun r1 => ?_))
  unfold IfP LstK
  by_cases hl : c.length ≤ sizeLine <;> simp [hl]
theorem k_lst {x : List D} : LstK QD x r ↔ x.length ≤ sizeLine ∧ QD (.list x) r := Iff.rfl
def LofK (Q : D → Rho → Prop) (x : List D) (r : Rho) : Prop := Q (.list x) r
theorem k_lstOf : Wp (lstOf fl r) QD ↔ Wp (fl r) (LofK QD) := wp_lstOf
theorem k_lof {x : List D} : LofK QD x r ↔ QD (.list x) r := Iff.rfl
theorem k_exprM : Wp (exprM f r) QC ↔ Wp (f r) (NxK QC) := wp_exprM
variable {QO : Option Int → Rho → Prop}
def PrtK2 (Q : Option Int → Rho → Prop) (r : Rho) (j : Int) : Prop := Q (some j) r
def PrtK (Q : Option Int → Rho → Prop) (d : D) (r : Rho) : Prop := OpW (asInt d) (PrtK2 Q r)
theorem k_prtAt : Wp (prtM (.at f) r) QO ↔ Wp (f r) (PrtK QO) := wp_prtAt
theorem k_prta {d : D} : PrtK QO d r ↔ OpW (asInt d) (PrtK2 QO r) := Iff.rfl
theorem k_prtb {j : Int} : PrtK2 QO r j ↔ QO (some j) r := Iff.rfl
def SlK3 (d : D) (l : Option Int) (Q : D → Rho → Prop) (h : Option Int) (r : Rho) : Prop := OpW (slD d l h) (OpK Q r)
def SlK2 (hi : SPart) (d : D) (Q : D → Rho → Prop) (l : Option Int) (r : Rho) : Prop := Wp (prtM hi r) (SlK3 d l Q)
def SlK1 (lo hi : SPart) (Q : D → Rho → Prop) (d : D) (r : Rho) : Prop := Wp (prtM lo r) (SlK2 hi d Q)
theorem k_slM {lo hi : SPart} : Wp (slM f lo hi r) QD ↔ Wp (f r) (SlK1 lo hi QD) := wp_slM
theorem k_sla {lo hi : SPart} {d : D} : SlK1 lo hi QD d r ↔ Wp (prtM lo r) (SlK2 hi d QD) := Iff.rfl
theorem k_slb {hi : SPart} {d : D} {l : Option Int} : SlK2 hi d QD l r ↔ Wp (prtM hi r) (SlK3 d l QD) := Iff.rfl
theorem k_slc {d : D} {l h : Option Int} : SlK3 d l QD h r ↔ OpW (slD d l h) (OpK QD r) := Iff.rfl
def AsgK (t : D → M Ctl) (Q : Ctl → Rho → Prop) (d : D) (r : Rho) : Prop := Wp (t d r) Q
theorem k_asgM {t : D → M Ctl} : Wp (asgM t f r) QC ↔ Wp (f r) (AsgK t QC) := wp_asgM
theorem k_asg {t : D → M Ctl} {d : D} : AsgK t QC d r ↔ Wp (t d r) QC := Iff.rfl
def ForK (t : D → M Ctl) (b : M Ctl) (Q : Ctl → Rho → Prop) (ds : List D) (r : Rho) : Prop := Wp (loopM t b ds r) Q
theorem k_forM {t : D → M Ctl} {b : M Ctl} : Wp (forM fl t b r) QC ↔ Wp (fl r) (ForK t b QC) := wp_forM
theorem k_for {t : D → M Ctl} {b : M Ctl} {ds : List D} : ForK t b QC ds r ↔ Wp (loopM t b ds r) QC := Iff.rfl
def enum1 : List D → Option (List D)
  | [d] => enumG d
  | _ => none
theorem k_enumM : Wp (enumM fl r) QL ↔ Wp (fl r) (AppK enum1 QL) := by
  rw [wp_enumM]
  refine Iff.of_eq (congrArg _ (funext fun c => funext fun r1 => ?_))
  rcases c with _ | ⟨d, _ | ⟨e, t⟩⟩ <;> rfl
theorem enum1_ (d : D) : enum1 [d] = enumG d := rfl
theorem k_enzipM : Wp (enzipM fl r) QL ↔ Wp (fl r) (AppK ezip QL) := wp_enzipM
theorem ezip_ (ds es : List D) : ezip [.tuple ds, .tuple es] = some (enumL (List.zipWith (fun x y => .tuple [x, y]) ds es)) := rfl
variable {QN : List ND → Rho → Prop} {es : List EN}
def EvK2 (n : ND) (Q : List ND → Rho → Prop) (t : List ND) (r : Rho) : Prop := Q (n :: t) r
def EvK (es : List EN) (Q : List ND → Rho → Prop) (d : D) (r : Rho) : Prop := Wp (evN es r) (EvK2 (.nv d) Q)
def EvLK (es : List EN) (Q : List ND → Rho → Prop) (d : List D) (r : Rho) : Prop := Wp (evN es r) (EvK2 (.nl d) Q)
theorem k_evNv : Wp (evN (.val f :: es) r) QN ↔ Wp (f r) (EvK es QN) := wp_evNv
theorem k_evNl : Wp (evN (.lst fl :: es) r) QN ↔ Wp (fl r) (EvLK es QN) := wp_evNl
theorem k_eva {d : D} : EvK es QN d r ↔ Wp (evN es r) (EvK2 (.nv d) QN) := Iff.rfl
theorem k_evl {d : List D} : EvLK es QN d r ↔ Wp (evN es r) (EvK2 (.nl d) QN) := Iff.rfl
theorem k_evb {n : ND} {t : List ND} : EvK2 n QN t r ↔ QN (n :: t) r := Iff.rfl
def RhK (Q : Ctl → Rho → Prop) (r : Rho) : Prop := Q .nx r
theorem k_rh : RhK QC r ↔ QC .nx r := Iff.rfl
def SetsK (is : List Nat) (Q : Ctl → Rho → Prop) (ns : List ND) (r : Rho) : Prop := (is.length = ns.length ∧ ns.length ≤ sizeLine) ∧ OpW (setN is ns r) (RhK Q)
theorem k_setsM {is : List Nat} : Wp (setsM is es r) QC ↔ Wp (evN es r) (SetsK is QC) := by
  rw [wp_setsM]
  refine Iff.of_eq (congrArg _ (funext fun c => funext fun r1 => ?_))
  unfold IfP SetsK
  by_cases hl : is.length = c.length ∧ c.length ≤ sizeLine <;> simp [hl]
  rfl
theorem k_sets {is : List Nat} {ns : List ND} : SetsK is QC ns r ↔ (is.length = ns.length ∧ ns.length ≤ sizeLine) ∧ OpW (setN is ns r) (RhK QC) := Iff.rfl
def JoK4 (a : Str) (Q : D → Rho → Prop) (r : Rho) (ys : List Str) : Prop := joinOk a ys = true ∧ Q (.str (Txt.join a ys)) r
def JoK3 (a : Str) (Q : D → Rho → Prop) (y : D) (r : Rho) : Prop := OpW (txtsIn y) (JoK4 a Q r)
def JoK2 (g : M D) (Q : D → Rho → Prop) (r : Rho) (a : Str) : Prop := Wp (g r) (JoK3 a Q)
def JoK1 (g : M D) (Q : D → Rho → Prop) (x : D) (r : Rho) : Prop := OpW (asStr x) (JoK2 g Q r)
theorem k_joinM : Wp (joinM f g r) QD ↔ Wp (f r) (JoK1 g QD) := by
  rw [wp_joinM]
  refine Iff.of_eq (congrArg _ (funext fun c => funext fun r1 => ?_))
  unfold JoK1 JoK2 JoK3
  refine congrArg _ (funext fun a => congrArg _ (funext fun y => funext fun r2 => congrArg _ (funext fun ys => ?_)))
  unfold IfP JoK4
  cases joinOk a ys <;> simp
theorem k_joa {x : D} : JoK1 g QD x r ↔ OpW (asStr x) (JoK2 g QD r) := Iff.rfl
theorem k_job {a : Str} : JoK2 g QD r a ↔ Wp (g r) (JoK3 a QD) := Iff.rfl
theorem k_joc {a : Str} {y : D} : JoK3 a QD y r ↔ OpW (txtsIn y) (JoK4 a QD r) := Iff.rfl
theorem k_jod {a : Str} {ys : List Str} : JoK4 a QD r ys ↔ joinOk a ys = true ∧ QD (.str (Txt.join a ys)) r := Iff.rfl
def SpK4 (a : Str) (Q : D → Rho → Prop) (r : Rho) (b : Str) : Prop := splitOk a b = true ∧ Q (.list ((Txt.split a b).map PyData.str)) r
def SpK3 (a : Str) (Q : D → Rho → Prop) (y : D) (r : Rho) : Prop := OpW (asStr y) (SpK4 a Q r)
def SpK2 (g : M D) (Q : D → Rho → Prop) (r : Rho) (a : Str) : Prop := Wp (g r) (SpK3 a Q)
def SpK1 (g : M D) (Q : D → Rho → Prop) (x : D) (r : Rho) : Prop := OpW (asStr x) (SpK2 g Q r)
theorem k_splitM : Wp (splitM f g r) QD ↔ Wp (f r) (SpK1 g QD) := by
  rw [wp_splitM]
  refine Iff.of_eq (congrArg _ (funext fun c => funext fun r1 => ?_))
  unfold SpK1 SpK2 SpK3
  refine congrArg _ (funext fun a => congrArg _ (funext fun y => funext fun r2 => congrArg _ (funext fun ys => ?_)))
  unfold IfP SpK4
  cases splitOk a ys <;> simp
theorem k_spa {x : D} : SpK1 g QD x r ↔ OpW (asStr x) (SpK2 g QD r) := Iff.rfl
theorem k_spb {a : Str} : SpK2 g QD r a ↔ Wp (g r) (SpK3 a QD) := Iff.rfl
theorem k_spc {a : Str} {y : D} : SpK3 a QD y r ↔ OpW (asStr y) (SpK4 a QD r) := Iff.rfl
theorem k_spd {a b : Str} : SpK4 a QD r b ↔ splitOk a b = true ∧ QD (.list ((Txt.split a b).map PyData.str)) r := Iff.rfl
def SixK4 (i : Nat) (Q : Ctl → Rho → Prop) (r : Rho) (s : Sl) : Prop := Q .nx (r.set i s)
def SixK3 (i : Nat) (Q : Ctl → Rho → Prop) (d : D) (r : Rho) (s : Sl) (k : D) : Prop := OpW (setIx s k d) (SixK4 i Q r)
def SixK2 (i : Nat) (ob : Rho → Option D) (Q : Ctl → Rho → Prop) (d : D) (r : Rho) (s : Sl) : Prop := OpW (ob r) (SixK3 i Q d r s)
def SixK1 (i : Nat) (ob : Rho → Option D) (Q : Ctl → Rho → Prop) (d : D) (r : Rho) : Prop := OpW r[i]? (SixK2 i ob Q d r)
theorem k_setIxM : Wp (setIxM i ob f r) QC ↔ Wp (f r) (SixK1 i ob QC) := wp_setIxM
theorem k_sixa {d : D} : SixK1 i ob QC d r ↔ OpW r[i]? (SixK2 i ob QC d r) := Iff.rfl
theorem k_sixb {d : D} {s : Sl} : SixK2 i ob QC d r s ↔ OpW (ob r) (SixK3 i QC d r s) := Iff.rfl
theorem k_sixc {d e : D} {s : Sl} : SixK3 i QC d r s e ↔ OpW (setIx s e d) (SixK4 i QC r) := Iff.rfl
theorem k_sixd {s : Sl} : SixK4 i QC r s ↔ QC .nx (r.set i s) := Iff.rfl
def ownIxO (i : Nat) (ob : Rho → Option D) (r : Rho) : Option D := (ownL r i).bind fun ds => (ob r).bind fun k => (asInt k).bind fun j => (ixN ds.length j).bind fun j => ds[j]?
theorem k_ownIx : Wp (ownIx i ob r) QD ↔ OpW (ownIxO i ob r) (OpK QD r) := by
  rw [wp_ownIx]
  unfold ownIxO
  cases ownL r i with
  | none => rfl
  | some ds =>
    cases ob r with
    | none => rfl
    | some k => cases k <;> rfl
theorem k_c0 : Wp (callM G [] r) QD ↔ OpW (ans (G [])) (OpK QD r) := wp_c0
def C1K (G : Fn) (Q : D → Rho → Prop) (d : D) (r : Rho) : Prop := OpW (ans (G [.fz d])) (OpK Q r)
theorem k_c1 : Wp (callM G [.val f] r) QD ↔ Wp (f r) (C1K G QD) := wp_c1
theorem k_c1a {d : D} : C1K G QD d r ↔ OpW (ans (G [.fz d])) (OpK QD r) := Iff.rfl
def C2K2 (G : Fn) (d : D) (Q : D → Rho → Prop) (e : D) (r : Rho) : Prop := OpW (ans (G [.fz d, .fz e])) (OpK Q r)
def C2K (G : Fn) (g : M D) (Q : D → Rho → Prop) (d : D) (r : Rho) : Prop := Wp (g r) (C2K2 G d Q)
theorem k_c2 : Wp (callM G [.val f, .val g] r) QD ↔ Wp (f r) (C2K G g QD) := wp_c2
theorem k_c2a {d : D} : C2K G g QD d r ↔ Wp (g r) (C2K2 G d QD) := Iff.rfl
theorem k_c2b {d e : D} : C2K2 G d QD e r ↔ OpW (ans (G [.fz d, .fz e])) (OpK QD r) := Iff.rfl
def C3K3 (G : Fn) (d e : D) (Q : D → Rho → Prop) (x : D) (r : Rho) : Prop := OpW (ans (G [.fz d, .fz e, .fz x])) (OpK Q r)
def C3K2 (G : Fn) (h : M D) (d : D) (Q : D → Rho → Prop) (e : D) (r : Rho) : Prop := Wp (h r) (C3K3 G d e Q)
def C3K (G : Fn) (g h : M D) (Q : D → Rho → Prop) (d : D) (r : Rho) : Prop := Wp (g r) (C3K2 G h d Q)
theorem k_c3 : Wp (callM G [.val f, .val g, .val h] r) QD ↔ Wp (f r) (C3K G g h QD) := wp_c3
theorem k_c3a {d : D} : C3K G g h QD d r ↔ Wp (g r) (C3K2 G h d QD) := Iff.rfl
theorem k_c3b {d e : D} : C3K2 G h d QD e r ↔ Wp (h r) (C3K3 G d e QD) := Iff.rfl
theorem k_c3c {d e x : D} : C3K3 G d e QD x r ↔ OpW (ans (G [.fz d, .fz e, .fz x])) (OpK QD r) := Iff.rfl
def C4K4 (G : Fn) (d e x : D) (Q : D → Rho → Prop) (y : D) (r : Rho) : Prop := OpW (ans (G [.fz d, .fz e, .fz x, .fz y])) (OpK Q r)
def C4K3 (G : Fn) (h' : M D) (d e : D) (Q : D → Rho → Prop) (x : D) (r : Rho) : Prop := Wp (h' r) (C4K4 G d e x Q)
def C4K2 (G : Fn) (h h' : M D) (d : D) (Q : D → Rho → Prop) (e : D) (r : Rho) : Prop := Wp (h r) (C4K3 G h' d e Q)
def C4K (G : Fn) (g h h' : M D) (Q : D → Rho → Prop) (d : D) (r : Rho) : Prop := Wp (g r) (C4K2 G h h' d Q)
theorem k_c4 : Wp (callM G [.val f, .val g, .val h, .val h'] r) QD ↔ Wp (f r) (C4K G g h h' QD) := wp_c4
theorem k_c4a {d : D} : C4K G g h h' QD d r ↔ Wp (g r) (C4K2 G h h' d QD) := Iff.rfl
theorem k_c4b {d e : D} : C4K2 G h h' d QD e r ↔ Wp (h r) (C4K3 G h' d e QD) := Iff.rfl
theorem k_c4c {d e x : D} : C4K3 G h' d e QD x r ↔ Wp (h' r) (C4K4 G d e x QD) := Iff.rfl
theorem k_c4d {d e x y : D} : C4K4 G d e x QD y r ↔ OpW (ans (G [.fz d, .fz e, .fz x, .fz y])) (OpK QD r) := Iff.rfl
theorem k_k1 : Wp (callKM G [0] [.val f] r) QD ↔ Wp (f r) (C1K G QD) := wp_k1
theorem k_k01 : Wp (callKM G [0, 1] [.val f, .val g] r) QD ↔ Wp (f r) (C2K G g QD) := wp_k01
def C2F2 (G : Fn) (d : D) (Q : D → Rho → Prop) (e : D) (r : Rho) : Prop := OpW (ans (G [.fz e, .fz d])) (OpK Q r)
def C2F (G : Fn) (g : M D) (Q : D → Rho → Prop) (d : D) (r : Rho) : Prop := Wp (g r) (C2F2 G d Q)
theorem k_k10 : Wp (callKM G [1, 0] [.val f, .val g] r) QD ↔ Wp (f r) (C2F G g QD) := wp_k10
theorem k_f2a {d : D} : C2F G g QD d r ↔ Wp (g r) (C2F2 G d QD) := Iff.rfl
theorem k_f2b {d e : D} : C2F2 G d QD e r ↔ OpW (ans (G [.fz e, .fz d])) (OpK QD r) := Iff.rfl
def rbO : Option Sl → Option D
  | some (.fz d) => some d
  | some (.own d) => some d
  | some (.deep d) => some d
  | _ => none
theorem rb_fz {d : D} : rbO (some (.fz d)) = some d := rfl
theorem rb_own {d : D} : rbO (some (.own d)) = some d := rfl
theorem rb_deep {d : D} : rbO (some (.deep d)) = some d := rfl
theorem e_rdB : rdB i r = rbO r[i]? := by
  unfold rdB rbO
  cases r[i]? with
  | none => rfl
  | some s => cases s <;> rfl
theorem e_bin2B {o : D → D → Option D} : bin2B o ob oc r = (ob r).bind fun x => (oc r).bind fun y => o x y := by
  unfold bin2B
  cases ob r <;> cases oc r <;> rfl
theorem e_nilB : nilB r = some [] := rfl
theorem e_consB {obl : Rho → Option (List D)} : consB ob obl r = (ob r).bind fun x => (obl r).bind fun y => some (x :: y) := by
  unfold consB
  cases ob r <;> cases obl r <;> rfl
theorem e_appB {o : List D → Option D} {obl : Rho → Option (List D)} : appB o obl r = (obl r).bind fun x => o x := by
  unfold appB
  cases obl r <;> rfl
theorem e_isiB {T : String} : isiB T ob r = (ob r).bind fun d => some (.bool (isiD T d)) := by
  unfold isiB
  cases ob r <;> rfl
def asBool : D → Option Bool
  | .bool b => some b
  | _ => none
theorem ab_b (b : Bool) : asBool (.bool b) = some b := rfl
theorem e_chB {o o' : D → D → Option D} : chB o o' ob oc od r = (ob r).bind fun x => (oc r).bind fun y => (o x y).bind fun z => (asBool z).bind fun b => bif b then (od r).bind fun w => o' y w else some (.bool false) := by
  unfold chB
  cases ob r with
  | none => rfl
  | some x =>
    cases oc r with
    | none => rfl
    | some y =>
      simp only [Option.bind_some]
      cases o x y with
      | none => rfl
      | some z =>
        cases z with
        | bool b =>
          cases b with
          | true => simp only [asBool, Option.bind_some, cond_true]; cases od r <;> rfl
          | false => rfl
        | _ => rfl
end
def isTup : D → Bool
  | .tuple _ => true
  | _ => false
theorem isTup_none : isTup .none = false := rfl
theorem isTup_bool (b : Bool) : isTup (.bool b) = false := rfl
theorem isTup_int (i : Int) : isTup (.int i) = false := rfl
theorem isTup_str (x : Str) : isTup (.str x) = false := rfl
theorem isTup_list (ds : List D) : isTup (.list ds) = false := rfl
theorem isTup_tuple (ds : List D) : isTup (.tuple ds) = true := rfl
theorem isTup_dict (ds : List (D × D)) : isTup (.dict ds) = false := rfl
def isStr : D → Bool
  | .str _ => true
  | _ => false
theorem isStr_none : isStr .none = false := rfl
theorem isStr_bool (b : Bool) : isStr (.bool b) = false := rfl
theorem isStr_int (i : Int) : isStr (.int i) = false := rfl
theorem isStr_str (x : Str) : isStr (.str x) = true := rfl
theorem isStr_list (ds : List D) : isStr (.list ds) = false := rfl
theorem isStr_tuple (ds : List D) : isStr (.tuple ds) = false := rfl
theorem isStr_dict (ds : List (D × D)) : isStr (.dict ds) = false := rfl
def isInt : D → Bool
  | .int _ => true
  | _ => false
theorem isInt_none : isInt .none = false := rfl
theorem isInt_bool (b : Bool) : isInt (.bool b) = false := rfl
theorem isInt_int (i : Int) : isInt (.int i) = true := rfl
theorem isInt_str (x : Str) : isInt (.str x) = false := rfl
theorem isInt_list (ds : List D) : isInt (.list ds) = false := rfl
theorem isInt_tuple (ds : List D) : isInt (.tuple ds) = false := rfl
theorem isInt_dict (ds : List (D × D)) : isInt (.dict ds) = false := rfl
def isBool : D → Bool
  | .bool _ => true
  | _ => false
theorem isBool_none : isBool .none = false := rfl
theorem isBool_bool (b : Bool) : isBool (.bool b) = true := rfl
theorem isBool_int (i : Int) : isBool (.int i) = false := rfl
theorem isBool_str (x : Str) : isBool (.str x) = false := rfl
theorem isBool_list (ds : List D) : isBool (.list ds) = false := rfl
theorem isBool_tuple (ds : List D) : isBool (.tuple ds) = false := rfl
theorem isBool_dict (ds : List (D × D)) : isBool (.dict ds) = false := rfl
def isList : D → Bool
  | .list _ => true
  | _ => false
theorem isList_none : isList .none = false := rfl
theorem isList_bool (b : Bool) : isList (.bool b) = false := rfl
theorem isList_int (i : Int) : isList (.int i) = false := rfl
theorem isList_str (x : Str) : isList (.str x) = false := rfl
theorem isList_list (ds : List D) : isList (.list ds) = true := rfl
theorem isList_tuple (ds : List D) : isList (.tuple ds) = false := rfl
theorem isList_dict (ds : List (D × D)) : isList (.dict ds) = false := rfl
theorem isi_tupB (d : D) : isiD "tuple" d = isTup d := by cases d <;> rfl
theorem isi_strB (d : D) : isiD "str" d = isStr d := by cases d <;> rfl
theorem isi_listB (d : D) : isiD "list" d = isList d := by cases d <;> rfl
theorem isi_int (d : D) : isiD "int" d = (isInt d || isBool d) := by cases d <;> rfl
theorem isi_bool (d : D) : isiD "bool" d = isBool d := by cases d <;> rfl
@[irreducible] def rng : List D → Option (List D) := range1
theorem rng_eq : range1 = rng := by
  unfold rng
  rfl
def ndS : ND → Sl
  | .nv d => .fz d
  | .nl ds => .own (.list ds)
def sn (o : Option Sl) (x : Option Rho) : Option Rho := match o with
  | some (.deep _) => none
  | some _ => x
  | none => none
theorem sn_emp (x : Option Rho) : sn (some .emp) x = x := rfl
theorem sn_fz (d : D) (x : Option Rho) : sn (some (.fz d)) x = x := rfl
theorem sn_own (d : D) (x : Option Rho) : sn (some (.own d)) x = x := rfl
theorem sn_light {s : Sl} (x : Option Rho) (h : light s = true) : sn (some s) x = x := by
  cases s with
  | emp => rfl
  | fz d => rfl
  | fn i => rfl
  | _ => exact absurd h (by simp [light])
theorem nd_v (d : D) : ndS (.nv d) = .fz d := rfl
theorem nd_l (d : List D) : ndS (.nl d) = .own (.list d) := rfl
theorem setN_nil (r : Rho) : setN [] [] r = some r := rfl
theorem setN_cons (i : Nat) (is : List Nat) (n : ND) (ns : List ND) (r : Rho) : setN (i :: is) (n :: ns) r = sn r[i]? (setN is ns (r.set i (ndS n))) := by
  cases e : r[i]? with
  | none => simp [setN, e, sn]
  | some s => cases s <;> cases n <;> simp [setN, e, sn, ndS]
theorem ln0 : (0 : Nat) ≤ sizeLine := by decide
theorem ln1 : (1 : Nat) ≤ sizeLine := by decide
theorem ln2 : (2 : Nat) ≤ sizeLine := by decide
theorem ln3 : (3 : Nat) ≤ sizeLine := by decide
theorem ln4 : (4 : Nat) ≤ sizeLine := by decide
theorem ln5 : (5 : Nat) ≤ sizeLine := by decide
theorem ln6 : (6 : Nat) ≤ sizeLine := by decide
theorem ln7 : (7 : Nat) ≤ sizeLine := by decide
theorem ln8 : (8 : Nat) ≤ sizeLine := by decide
theorem ln9 : (9 : Nat) ≤ sizeLine := by decide
theorem ln10 : (10 : Nat) ≤ sizeLine := by decide
theorem ln11 : (11 : Nat) ≤ sizeLine := by decide
theorem ln12 : (12 : Nat) ≤ sizeLine := by decide
theorem ln13 : (13 : Nat) ≤ sizeLine := by decide
theorem ln14 : (14 : Nat) ≤ sizeLine := by decide
theorem ln15 : (15 : Nat) ≤ sizeLine := by decide
theorem ln16 : (16 : Nat) ≤ sizeLine := by decide
theorem ln17 : (17 : Nat) ≤ sizeLine := by decide
theorem ln18 : (18 : Nat) ≤ sizeLine := by decide
theorem ln19 : (19 : Nat) ≤ sizeLine := by decide
theorem o_shrN (i : Int) (j : Nat) : shrG (.int i) (.int (j : Nat)) = some (.int (i / 2 ^ j)) := by
  show (if (0 : Int) ≤ (j : Int) then some (PyData.int (i / 2 ^ ((j : Int)).toNat)) else none) = _
  rw [if_pos (Int.natCast_nonneg j), Int.toNat_natCast]
theorem o_band (i j : Int) : bandG (.int i) (.int j) = some (.int (Builtin.bitAnd i j)) := rfl
theorem o_bor (i j : Int) : borG (.int i) (.int j) = some (.int (Builtin.bitOr i j)) := rfl
theorem max_ii (i j : Int) : maxG [.int i, .int j] = some (.int (if j > i then j else i)) := rfl
theorem min_ii (i j : Int) : minG [.int i, .int j] = some (.int (if j < i then j else i)) := rfl
theorem k_tgSub {i : Nat} {ob : Rho → Option D} {QC : Ctl → Rho → Prop} {r : Rho} {d : D} : Wp (tgSub i ob d r) QC ↔ SixK1 i ob QC d r := by
  unfold tgSub SixK1 SixK2 SixK3 SixK4
  cases r[i]? with
  | none => rfl
  | some s =>
    simp only [OpW]
    cases ob r with
    | none => rfl
    | some k =>
      simp only [OpW]
      cases setIx s k d <;> rfl
theorem e_chB3 {o o' o'' : D → D → Option D} {ob oc od oe : Rho → Option D} {r : Rho} : chB3 o o' o'' ob oc od oe r = (ob r).bind fun x => (oc r).bind fun y => (o x y).bind fun z => (asBool z).bind fun b => bif b then (od r).bind fun w => (o' y w).bind fun z2 => (asBool z2).bind fun b2 => bif b2 then (oe r).bind fun v => o'' w v else some (.bool false) else some (.bool false) := by
  unfold chB3
  cases ob r with
  | none => rfl
  | some x =>
    cases oc r with
    | none => rfl
    | some y =>
      simp only [Option.bind_some]
      cases o x y with
      | none => rfl
      | some z =>
        cases z with
        | bool b =>
          cases b with
          | false => rfl
          | true =>
            simp only [asBool, Option.bind_some, cond_true]
            cases od r with
            | none => rfl
            | some w =>
              simp only [Option.bind_some]
              cases o' y w with
              | none => rfl
              | some z2 =>
                cases z2 with
                | bool b2 =>
                  cases b2 with
                  | true => simp only [asBool, Option.bind_some, cond_true]; cases oe r <;> rfl
                  | false => rfl
                | _ => rfl
        | _ => rfl
def CbK2 (Q : D → Rho → Prop) (r : Rho) (d : D) : Prop := scal d = true ∧ Q d r
def CbK (n : Nat) (G : Fn) (Q : D → Rho → Prop) (r : Rho) (ds : List D) : Prop := ds.length = n ∧ OpW (ans (G (ds.map .fz))) (CbK2 Q r)
theorem k_callB {n : Nat} {G : Fn} {fb : Rho → Option (List D)} {r : Rho} {Q : D → Rho → Prop} : Wp (callB n G fb r) Q ↔ OpW (fb r) (CbK n G Q r) := by
  unfold callB CbK CbK2
  cases fb r with
  | none => rfl
  | some ds =>
    simp only [OpW]
    by_cases hl : ds.length = n
    · rw [if_pos hl]
      cases G (ds.map .fz) with
      | ok d r' => simp only [ans]; by_cases hs : scal d = true <;> simp [hs, hl, Wp]
      | _ => simp [ans, Wp]
    · rw [if_neg hl]
      simp [hl, Wp]
theorem k_cb {n : Nat} {G : Fn} {r : Rho} {Q : D → Rho → Prop} {ds : List D} : CbK n G Q r ds ↔ ds.length = n ∧ OpW (ans (G (ds.map .fz))) (CbK2 Q r) := Iff.rfl
theorem k_cb2 {r : Rho} {Q : D → Rho → Prop} {d : D} : CbK2 Q r d ↔ scal d = true ∧ Q d r := Iff.rfl
end DL

local macro_rules | `(tactic| simp_arith [$ts,*]) => `(tactic| simp only [DL.k_callB, DL.k_cb, DL.k_cb2, DL.o_shrN, DL.o_band, DL.o_bor, DL.max_ii, DL.min_ii, DL.k_tgSub, DL.e_chB3, DL.wp_ok, DL.wp_cV, DL.wp_nx, DL.wp_yes, DL.wp_nilM, DL.k_cons, DL.k_consa, DL.k_consb, DL.k_bin2, DL.k_bin2a, DL.k_bin2b, DL.opk, DL.k_app, DL.k_appM, DL.k_appI, DL.k_mapM1, DL.k_iterM, DL.k_truM, DL.k_truMB, DL.k_tb, DL.k_ofB, DL.k_of, DL.k_ifM, DL.k_ift, DL.k_iff, DL.k_andM, DL.k_andt, DL.k_andf, DL.k_orM, DL.k_ort, DL.k_orf, DL.k_notM, DL.k_not, DL.k_andV, DL.k_andVa, DL.k_andVt, DL.k_andVf, DL.k_orV, DL.k_orVa, DL.k_orVt, DL.k_orVf, DL.k_notV, DL.k_notVa, DL.k_notVb, DL.wp_seqM, DL.sq_nx, DL.sq_rt, DL.sq_bk, DL.sq_ct, DL.k_retM, DL.k_ret, DL.pt_fz, DL.pt_own, DL.pt_emp, DL.k_setM, DL.k_set, DL.k_setOwn, DL.k_seto, DL.k_put, DL.k_tgPut, DL.k_tgNil, DL.k_tgCons, DL.k_tg, DL.k_nxk, DL.k_tgTup, DL.k_tupM, DL.k_tup, DL.k_lstM, DL.k_lst, DL.k_lstOf, DL.k_lof, DL.k_exprM, DL.wp_prtNo, DL.k_prtAt, DL.k_prta, DL.k_prtb, DL.k_slM, DL.k_sla, DL.k_slb, DL.k_slc, DL.k_asgM, DL.k_asg, DL.k_forM, DL.k_for, DL.k_enumM, DL.enum1_, DL.k_enzipM, DL.ezip_, DL.wp_evN0, DL.k_evNv, DL.k_evNl, DL.k_eva, DL.k_evl, DL.k_evb, DL.k_rh, DL.k_setsM, DL.k_sets, DL.k_joinM, DL.k_joa, DL.k_job, DL.k_joc, DL.k_jod, DL.k_splitM, DL.k_spa, DL.k_spb, DL.k_spc, DL.k_spd, DL.k_setIxM, DL.k_sixa, DL.k_sixb, DL.k_sixc, DL.k_sixd, DL.k_ownIx, DL.k_c0, DL.k_c1, DL.k_c1a, DL.k_c2, DL.k_c2a, DL.k_c2b, DL.k_c3, DL.k_c3a, DL.k_c3b, DL.k_c3c, DL.k_c4, DL.k_c4a, DL.k_c4b, DL.k_c4c, DL.k_c4d, DL.k_k1, DL.k_k01, DL.k_k10, DL.k_f2a, DL.k_f2b, DL.wp_rdV, DL.rd_fz, DL.rd_own, DL.wp_body, DL.bk_nx, DL.bk_rt, DL.op_some, DL.op_none, DL.rb_fz, DL.rb_own, DL.rb_deep, DL.e_rdB, DL.e_bin2B, DL.e_nilB, DL.e_consB, DL.e_appB, DL.e_isiB, DL.e_chB, DL.ab_b, Option.bind_some, cond_true, cond_false, DL.o_add, DL.o_sub, DL.o_lt, DL.o_le, DL.o_gt, DL.o_ge, DL.o_eqI, DL.o_neI, DL.o_neS, DL.o_eqS, DL.o_isN, DL.o_isnN, DL.t_b, DL.t_i, DL.l_t, DL.l_l, DL.i_t, DL.i_l, DL.i_s, DL.ti_i, DL.ti_b, DL.neg_i, DL.abs_i, DL.tup_l, DL.tup_t, DL.lst_l, DL.lst_t, DL.ix_t, DL.ix_l, DL.sl_t, DL.sl_l, DL.rev_t, DL.en_t, DL.en_l, DL.at_0, DL.at_1, DL.nt_b, DL.ai_i, DL.as_s, DL.scal, List.getElem?_cons_zero, List.getElem?_cons_succ, List.set_cons_zero, List.set_cons_succ, List.length_cons, List.length_nil, List.map_cons, List.map_nil, List.replicate, List.cons_append, List.nil_append, Nat.sub_self, Nat.reduceSub, Nat.reduceAdd, Nat.zero_add, DL.inRho, DL.setN_nil, DL.setN_cons, DL.sn_emp, DL.sn_fz, DL.sn_own, DL.nd_v, DL.nd_l, DL.isTup_none, DL.isTup_bool, DL.isTup_int, DL.isTup_str, DL.isTup_list, DL.isTup_tuple, DL.isTup_dict, DL.isStr_none, DL.isStr_bool, DL.isStr_int, DL.isStr_str, DL.isStr_list, DL.isStr_tuple, DL.isStr_dict, DL.isInt_none, DL.isInt_bool, DL.isInt_int, DL.isInt_str, DL.isInt_list, DL.isInt_tuple, DL.isInt_dict, DL.isBool_none, DL.isBool_bool, DL.isBool_int, DL.isBool_str, DL.isBool_list, DL.isBool_tuple, DL.isBool_dict, DL.isList_none, DL.isList_bool, DL.isList_int, DL.isList_str, DL.isList_list, DL.isList_tuple, DL.isList_dict, DL.isi_tupB, DL.isi_strB, DL.isi_listB, DL.isi_int, DL.isi_bool, Bool.or_false, Bool.false_or, Bool.or_true, Bool.true_or, Bool.and_true, Bool.true_and, Bool.and_false, Bool.false_and, DL.ln0, DL.ln1, DL.ln2, DL.ln3, DL.ln4, DL.ln5, DL.ln6, DL.ln7, DL.ln8, DL.ln9, DL.ln10, DL.ln11, DL.ln12, DL.ln13, DL.ln14, DL.ln15, DL.ln16, DL.ln17, DL.ln18, DL.ln19, decide_true, decide_false, Bool.not_true, Bool.not_false, true_and, Option.some.injEq, exists_eq_left', PySem.PyData.int.injEq, PySem.PyData.str.injEq, PySem.PyData.tuple.injEq, PySem.PyData.list.injEq, PySem.PyData.bool.injEq, DL.Sl.deep.injEq, DL.Sl.fz.injEq, $ts,*])

/-! ### the loom -/
namespace DL
open PySem PySem.Spec PyProof.Rows L2
def m_draw  : M Ctl :=
    (seqM (ifM (truM (bin2 ltG (rdV 1) (cV (.int 2)))) (retM (cV (.int 0))) nxM)
    (seqM (ifM (truMB (bin2B neG (bin2B dictG (rdB 0) (fun _ => some (.str "far"))) (fun _ => some (.list [])))) (seqM (setM 2 (deepM 0 (.inr "far") popG nilB))
    (seqM (ifM (truM (bin2 geG (rdV 2) (rdV 1))) (exprM (deepM 0 (.inr "far") appendG (consB (bin2B fdivG (rdB 2) (rdB 1)) nilB))) nxM)
    (retM (bin2 modG (appM toIntG (consM (rdV 2) nilM)) (rdV 1))))) nxM)
    (seqM (setIxM 0 (fun _ => some (.str "times")) (bin2 addG (ofB (bin2B dictG (rdB 0) (fun _ => some (.str "times")))) (cV (.int 1))))
    (seqM (setM 3 (bin2 modG (ofB (appB toIntG (consB (bin2B addG (bin2B dictG (rdB 0) (fun _ => some (.str "stirred"))) (bin2B mulG (fun _ => some (.int 2654435761)) (bin2B dictG (rdB 0) (fun _ => some (.str "times"))))) nilB))) (cV (.int 4294967279))))
    (seqM (setM 3 (bin2 modG (ofB (appB toIntG (consB (bin2B addG (bin2B addG (bin2B mulG (rdB 3) (rdB 3)) (bin2B mulG (fun _ => some (.int 40503)) (bin2B dictG (rdB 0) (fun _ => some (.str "times"))))) (fun _ => some (.int 17))) nilB))) (cV (.int 4294967231))))
    (seqM (setM 3 (bin2 modG (ofB (appB toIntG (consB (bin2B addG (bin2B mulG (rdB 3) (rdB 3)) (bin2B dictG (rdB 0) (fun _ => some (.str "stirred")))) nilB))) (cV (.int 4294967197))))
    (retM (bin2 modG (appM toIntG (consM (bin2 fdivG (rdV 3) (cV (.int 128))) nilM)) (rdV 1)))))))))
def looms (far : List Int) (s t : Int) : D := .dict [(.str "far", .list (far.map .int)), (.str "stirred", .int s), (.str "times", .int t)]
def Loom (L : D) : Prop := ∃ (far : List Int) (s t : Int), far.length ≤ 63 ∧ L = looms far s t
theorem shaped_ints (far : List Int) : SeqAt.shaped (.list (far.map PyData.int)) = true := by
  have h1 : ∀ far : List Int, PyData.canLayAll0 (far.map PyData.int) = true := by
    intro far
    induction far with
    | nil => rfl
    | cons x xs ih => simp [PyData.canLayAll0, PyData.canLay0, ih]
  have h2 : ∀ far : List Int, PyData.depthAll (far.map PyData.int) = 0 := by
    intro far
    induction far with
    | nil => rfl
    | cons x xs ih => simp [PyData.depthAll, PyData.depth, ih]
  simp [SeqAt.shaped, PyData.canLay0, PyData.depth, h1, h2]
theorem ne_nil_ints (far : List Int) : neG (.list (far.map PyData.int)) (.list []) = some (.bool (!far.isEmpty)) := by
  unfold neG
  simp only [shaped_ints]
  have : SeqAt.shaped (.list []) = true := by decide
  simp only [this, and_self, if_true]
  cases far <;> simp [PyData.eqv, PyData.eqvAll]
theorem g_far (far : List Int) (s t : Int) : dictG (looms far s t) (.str "far") = some (.list (far.map .int)) := rfl
theorem g_stirred (far : List Int) (s t : Int) : dictG (looms far s t) (.str "stirred") = some (.int s) := rfl
theorem g_times (far : List Int) (s t : Int) : dictG (looms far s t) (.str "times") = some (.int t) := rfl
theorem s_times (far : List Int) (s t t' : Int) : setIx (.deep (looms far s t)) (.str "times") (.int t') = some (.deep (looms far s t')) := rfl
theorem pop_far {far : List Int} {s t : Int} {r : Rho} (h : far ≠ []) {Q : D → Rho → Prop} (hr : r[0]? = some (.deep (looms far s t)))
    (k : ∀ x, Q (.int x) (r.set 0 (.deep (looms far.dropLast s t)))) : Wp (deepM 0 (.inr "far") popG nilB r) Q := by
  unfold deepM deepL
  rw [hr]
  have e : dget [(PyData.str "far", PyData.list (far.map .int)), (.str "stirred", .int s), (.str "times", .int t)] (.inr "far") = some (.list (far.map .int)) := rfl
  have hl : far.length - 1 < far.length := Nat.sub_lt (List.length_pos_iff.mpr h) Nat.one_pos
  simp only [looms, e, nilB, List.all_nil, if_true, popG, List.length_map, List.getElem?_map, List.getElem?_eq_getElem hl, Option.map_some]
  have := k (far[far.length - 1]'hl)
  unfold looms at this
  rw [List.map_dropLast] at this
  exact this
theorem push_far {far : List Int} {s t x : Int} {r : Rho} {f : Rho → Option (List D)} {Q : D → Rho → Prop} (hr : r[0]? = some (.deep (looms far s t))) (hl : far.length < 64) (hf : f r = some [.int x])
    (k : Q .none (r.set 0 (.deep (looms (far ++ [x]) s t)))) : Wp (deepM 0 (.inr "far") appendG f r) Q := by
  unfold deepM deepL
  rw [hr]
  have e : dget [(PyData.str "far", PyData.list (far.map .int)), (.str "stirred", .int s), (.str "times", .int t)] (.inr "far") = some (.list (far.map .int)) := rfl
  have hs : (far.map PyData.int).length < sizeLine := by
    rw [List.length_map]
    exact Nat.lt_trans hl (by decide)
  simp only [looms, e, hf, List.all_cons, List.all_nil, scal, Bool.and_self, if_true, appendG, hs]
  unfold looms at k
  rw [List.map_append] at k
  exact k
/-- what a draw answers -/
def drawPre (ds : List D) : Prop := ∃ n : Int, ds = [.int n] ∧ n < 1073741824
def drawPost (ds : List D) (z : D) : Prop := ∃ k : Int, z = .int k ∧ 0 ≤ k ∧ ∀ n : Int, ds = [.int n] → 0 < n → k < n
theorem o_mod_n {i n : Int} (h : 0 < n) : modG (.int i) (.int n) = some (.int (i % n)) := o_mod' h
theorem emod_small (q m : Int) (h : 0 < m) (h' : m < 2 ^ 64) : -(2 ^ 64) < q % m ∧ q % m < 2 ^ 64 := by
  have := Int.emod_nonneg q (show m ≠ 0 by omega)
  have := Int.emod_lt_of_pos q h
  omega
theorem o_modA (i : Int) : modG (.int i) (.int 4294967279) = some (.int (i % 4294967279)) := o_mod' (by decide)
theorem o_modB (i : Int) : modG (.int i) (.int 4294967231) = some (.int (i % 4294967231)) := o_mod' (by decide)
theorem o_modC (i : Int) : modG (.int i) (.int 4294967197) = some (.int (i % 4294967197)) := o_mod' (by decide)
theorem o_modE (i : Int) : modG (.int i) (.int 4294967291) = some (.int (i % 4294967291)) := o_mod' (by decide)
theorem o_mulA (i : Int) : mulG (.int 2654435761) (.int i) = some (.int (2654435761 * i)) := o_mul' (.inl (by decide))
theorem o_mulB (i : Int) : mulG (.int 40503) (.int i) = some (.int (40503 * i)) := o_mul' (.inl (by decide))
theorem o_mulC (i : Int) : mulG (.int (i % 4294967279)) (.int (i % 4294967279)) = some (.int ((i % 4294967279) * (i % 4294967279))) := o_mul' (.inl (emod_small _ _ (by decide) (by decide)))
theorem o_mulD (i : Int) : mulG (.int (i % 4294967231)) (.int (i % 4294967231)) = some (.int ((i % 4294967231) * (i % 4294967231))) := o_mul' (.inl (emod_small _ _ (by decide) (by decide)))
theorem o_fdivA (i : Int) : fdivG (.int i) (.int 128) = some (.int (i / 128)) := o_fdiv' (by decide) (by decide)
theorem draw_draws : Draws Loom (bodyF0 4 m_draw) drawPre drawPost := by
  rintro L ds ⟨far, s, t, hf, rfl⟩ ⟨n, rfl, hn⟩
  have fin : ∀ (q : Int) (far : List Int) (t : Int), far.length ≤ 63 → 0 < n → Loom (looms far s t) ∧ drawPost [.int n] (.int (q % n)) := fun q far t h hn =>
        ⟨⟨far, s, t, h, rfl⟩, _, rfl, Int.emod_nonneg _ (by omega), fun m hm h => by
          cases hm
          exact Int.emod_lt_of_pos _ h⟩
  unfold m_draw
  simp_arith []
  by_cases h2 : n < 2
  · simp_arith [h2]
    exact ⟨⟨far, s, t, hf, rfl⟩, 0, rfl, by omega, fun n _ h => h⟩
  have hn0 : 0 < n := by omega
  simp_arith [h2, g_far, ne_nil_ints]
  by_cases hx : far = []
  · subst hx
    simp_arith [List.isEmpty_nil, g_times, g_stirred, s_times, o_modA, o_modB, o_modC, o_mulA, o_mulB, o_mulC, o_mulD, o_fdivA, o_mod_n hn0]
    exact fin _ [] (t + 1) (by simp) hn0
  · have hx' : far.isEmpty = false := by cases far with | nil => exact absurd rfl hx | cons _ _ => rfl
    simp_arith [hx']
    refine pop_far hx rfl fun x => ?_
    have hl : far.dropLast.length ≤ 63 := by rw [List.length_dropLast]; omega
    simp_arith []
    by_cases h3 : n ≤ x
    · simp_arith [h3]
      refine push_far (x := x / n) rfl (by rw [List.length_dropLast]; omega) ?_ ?_
      · simp [consB, bin2B, rdB, nilB, intG, hn0, hn]
      simp_arith [o_mod_n hn0]
      have hl2 : (far.dropLast ++ [x / n]).length ≤ 63 := by
        have := List.length_pos_iff.mpr hx
        simp only [List.length_append, List.length_dropLast, List.length_cons, List.length_nil]; omega
      exact fin x (far.dropLast ++ [x / n]) t hl2 hn0
    · simp_arith [h3, o_mod_n hn0]
      exact fin x far.dropLast t hl hn0
end DL

namespace DL
open PySem PySem.Spec PyProof.Rows L2
/-! ### picking -/
def m_pick (G__law_draw : Fn) : M Ctl :=
    (retM (bin2 ixG (rdV 1) (callM G__law_draw [.ref 0, .val (appM lenG (consM (rdV 1) nilM))])))
def parts : D → List D
  | .list xs => xs
  | .tuple xs => xs
  | .str x => x.cps.toList.map sgn
  | _ => []
def pickPre (ds : List D) : Prop := ∃ d, ds = [d] ∧ 0 < (parts d).length ∧ (parts d).length ≤ sizeLine
def pickPost (ds : List D) (z : D) : Prop := ∀ d, ds = [d] → z ∈ parts d
theorem len_parts {d : D} (h : 0 < (parts d).length) (h2 : (parts d).length ≤ sizeLine) : lenG [d] = some (.int (parts d).length) := by
  cases d with
  | list xs => rfl
  | tuple xs => rfl
  | str x =>
    simp only [parts, List.length_map, Array.length_toList] at h2 ⊢
    simp only [lenG]
    rw [if_pos (show x.length ≤ sizeLine from h2)]
    rfl
  | _ => exact absurd h (by simp [parts])
theorem atI_mem {α : Type} {xs : List α} {k : Int} (h0 : 0 ≤ k) (h1 : k < xs.length) : ∃ z, atI xs k = some z ∧ z ∈ xs := by
  obtain ⟨j, rfl⟩ := Int.eq_ofNat_of_zero_le h0
  have hj : j < xs.length := by omega
  exact ⟨xs[j], atI_nat (List.getElem?_eq_getElem hj), List.getElem_mem hj⟩
theorem ix_parts {d : D} {k : Int} (h2 : (parts d).length ≤ sizeLine) (h0 : 0 ≤ k) (h1 : k < (parts d).length) : ∃ z, ixG d (.int k) = some z ∧ z ∈ parts d := by
  cases d with
  | list xs => exact atI_mem h0 h1
  | tuple xs => exact atI_mem h0 h1
  | str x =>
    simp only [parts, List.length_map] at h1 h2 ⊢
    obtain ⟨z, e, m⟩ := atI_mem h0 h1
    refine ⟨sgn z, ?_, List.mem_map_of_mem m⟩
    simp only [ixG]
    rw [if_pos (show x.length ≤ sizeLine from by rw [Array.length_toList] at h2; exact h2), e]
    rfl
  | _ => exact absurd h1 (by simp only [parts, List.length_nil]; omega)
theorem pick_draws : Draws Loom (bodyF0 2 (m_pick (bodyF0 4 m_draw))) pickPre pickPost := by
  rintro L ds hL ⟨d, rfl, h1, h2⟩
  unfold m_pick
  simp_arith []
  refine call_d1 draw_draws rfl ?_
  simp_arith [len_parts h1 h2]
  refine ⟨hL, ⟨_, rfl, Int.lt_of_le_of_lt (Int.ofNat_le.mpr h2) (by decide)⟩, fun z L2 hL2 ⟨k, hz, k0, k1⟩ => ?_⟩
  subst hz
  obtain ⟨z, e, m⟩ := ix_parts h2 k0 (k1 _ rfl (by omega))
  simp_arith [e]
  exact ⟨hL2, fun d' h => by cases h; exact m⟩
/-! ### the loom itself -/
def m_loom  : M (List (D × D)) :=
    (goOn (setsM [1, 2] [.val (lstOf (lcM [3] (iterM (slM (rdV 0) .no (.at (cV (.int 63))))) (tgPut 3) yesM (bin2 addG (bin2 mulG (cV (.int 2)) (appM absG (consM (rdV 3) nilM))) (appM toIntG (consM (bin2 ltG (rdV 3) (cV (.int 0))) nilM))))), .val (bin2 addG (cV (.int 51407)) (bin2 mulG (cV (.int 5)) (appM lenG (consM (rdV 0) nilM))))])
    (goOn (forM (iterM (rdV 1)) (tgPut 3) (setM 2 (bin2 modG (appM toIntG (consM (bin2 addG (bin2 addG (bin2 mulG (rdV 2) (cV (.int 48271))) (rdV 3)) (cV (.int 17))) nilM)) (cV (.int 4294967291)))))
    (evE [((.inr "far"), .lst (lcM [3] (iterM (rdV 1)) (tgPut 3) (truM (bin2 geG (rdV 3) (bin2 powG (cV (.int 10)) (cV (.int 15))))) (rdV 3))), ((.inr "stirred"), .val (rdV 2)), ((.inr "times"), .val (cV (.int 0)))])))
/-- a list made turn by turn of the items for which something holds -/
theorem wp_collf {own : List Nat} {t : D → M Ctl} {c : M Bool} {e : M D} (I : Rho → Prop) (P : D → Prop) (hI : ∀ r, I r → okW own r = true) : ∀ {ds : List D} {r : Rho}, I r →
    (∀ d ∈ ds, ∀ r, I r → Wp (t d (wR r own)) fun _ r1 => Wp (c r1) fun k r2 => if k = true then Wp (e r2) fun y r3 => P y ∧ I r3 else I r2) →
    Wp (collM own t c e ds r) fun ys r1 => ys.length ≤ ds.length ∧ (∀ y ∈ ys, P y) ∧ I r1
  | [], r, h, _ => ⟨Nat.le_refl _, (fun _ h => nomatch h), h⟩
  | d :: ds, r, h, k => by
    unfold collM
    rw [if_pos (hI r h), wp_bind]
    refine (k d List.mem_cons_self r h).mono fun _ r1 h1 => ?_
    obtain ⟨b, r2, e1, h2⟩ := h1.ok
    rw [e1, nE_ok, Res.ok_bind]
    cases b with
    | true =>
      rw [if_pos rfl] at h2 ⊢
      obtain ⟨y, r3, e2, h3, h4⟩ := h2.ok
      rw [e2, nE_ok, Res.ok_bind, wp_bind]
      refine (wp_collf I P hI h4 fun x hx => k x (List.mem_cons_of_mem _ hx)).mono fun ys r4 ⟨q1, q2, q3⟩ => ?_
      refine ⟨by rw [List.length_cons, List.length_cons]; omega, fun z hz => ?_, q3⟩
      rcases List.mem_cons.mp hz with rfl | hz
      · exact h3
      · exact q2 z hz
    | false =>
      rw [if_neg (by simp)] at h2 ⊢
      refine (wp_collf I P hI h2 fun x hx => k x (List.mem_cons_of_mem _ hx)).mono fun ys r4 ⟨q1, q2, q3⟩ => ⟨Nat.le_succ_of_le q1, q2, q3⟩
theorem wp_lcf {own : List Nat} {f : M (List D)} {t : D → M Ctl} {c : M Bool} {e : M D} {r : Rho} {Q : List D → Rho → Prop} (I : Rho → Prop) (P : D → Prop) (hI : ∀ r, I r → okW own r = true)
    (hf : Wp (f r) fun ds r0 => ds.length ≤ sizeLine ∧ I r0 ∧ (∀ d ∈ ds, ∀ r, I r → Wp (t d (wR r own)) fun _ r1 => Wp (c r1) fun k r2 => if k = true then Wp (e r2) fun y r3 => P y ∧ I r3 else I r2) ∧
      ∀ ys r1, ys.length ≤ ds.length → (∀ y ∈ ys, P y) → I r1 → Q ys (bkR r0 (wR r1 own) own)) : Wp (lcM own f t c e r) Q := by
  unfold lcM
  rw [wp_bind]
  refine hf.mono fun ds r0 ⟨h1, h2, h3, k⟩ => ?_
  rw [if_pos ⟨hI _ h2, h1⟩, wp_bind]
  refine (wp_collf I P hI h2 h3).mono fun ys r1 ⟨q1, q2, q3⟩ => ?_
  rw [if_pos (hI _ q3)]
  exact k ys r1 q1 q2 q3
theorem ints_of {ys : List D} (h : ∀ y ∈ ys, ∃ i : Int, y = .int i) : ∃ is : List Int, ys = is.map .int := by
  induction ys with
  | nil => exact ⟨[], rfl⟩
  | cons y ys ih =>
    obtain ⟨i, rfl⟩ := h _ List.mem_cons_self
    obtain ⟨is, rfl⟩ := ih fun y hy => h y (List.mem_cons_of_mem _ hy)
    exact ⟨i :: is, rfl⟩
theorem cut63 {α : Type} (xs : List α) (h : xs.length ≤ 63) : cutD xs none (some 63) = xs := by
  unfold cutD
  have h1 : HT.sIx xs.length 0 none = 0 := rfl
  have h2 : HT.sIx xs.length xs.length (some 63) = xs.length := by
    show (if (63 : Int) < 0 then ((63 : Int) + (xs.length : Int)).toNat else min (63 : Int).toNat xs.length) = _
    exact (if_neg (by decide)).trans (Nat.min_eq_right h)
  rw [h1, h2, List.drop_zero, Nat.sub_zero, List.take_length]
theorem o_mul2 (i : Int) : mulG (.int 2) (.int i) = some (.int (2 * i)) := o_mul' (.inl (by decide))
theorem o_mul5 (i : Int) : mulG (.int 5) (.int i) = some (.int (5 * i)) := o_mul' (.inl (by decide))
theorem o_mulM (i : Int) : mulG (.int i) (.int 48271) = some (.int (i * 48271)) := o_mul' (.inr (by decide))
theorem o_pow15 : powG (.int 10) (.int 15) = some (.int 1000000000000000) := rfl
theorem loom_wp (ns : List Int) (h : ns.length ≤ 63) : Wp (m_loom [.fz (.list (ns.map .int)), .emp, .emp, .emp]) fun kvs _ => Loom (.dict kvs) := by
  have h63 : (63 : Nat) ≤ sizeLine := by decide
  unfold m_loom
  rw [wp_goOn]
  simp_arith []
  refine wp_lc (fun r => ∃ s, light s = true ∧ r = [.fz (.list (ns.map .int)), .emp, .emp, s]) (fun y => ∃ i : Int, y = .int i) (fun r ⟨s, hs, e⟩ => by subst e; simp [okW, hs]) ?_
  simp_arith []
  rw [cut63 _ (by rw [List.length_map]; exact h)]
  refine ⟨by rw [List.length_map]; omega, ⟨.emp, rfl, rfl⟩, ?_, ?_⟩
  · rintro d hd r ⟨s, hs, rfl⟩
    obtain ⟨i, _, rfl⟩ := List.mem_map.mp hd
    simp_arith [wR, o_mul2]
    exact ⟨⟨_, rfl⟩, _, rfl, rfl⟩
  rintro ys r1 hl hP ⟨s, hs, rfl⟩
  obtain ⟨is, rfl⟩ := ints_of hP
  rw [List.length_map, List.length_map] at hl
  have h2 : (2 : Nat) ≤ sizeLine := by decide
  simp_arith [wR, bkR, Option.getD, o_mul5, h2, and_self]
  rw [wp_goOn]
  simp_arith []
  refine (wp_loop_inv (fun r => ∃ (i : Int) (s : Sl), light s = true ∧ r = [.fz (.list (ns.map .int)), .fz (.list (is.map .int)), .fz (.int i), s]) ⟨_, .emp, rfl, rfl⟩ ?_).mono ?_
  · rintro d hd r ⟨i, s, hs, rfl⟩
    obtain ⟨j, _, rfl⟩ := List.mem_map.mp hd
    simp_arith [pt_light hs, o_mulM, o_modE]
    exact ⟨_, _, rfl, rfl⟩
  rintro c r ⟨rfl, i, s, hs, rfl⟩
  show Wp (evE _ _) _
  unfold evE
  rw [wp_bind]
  refine wp_lcf (fun r => ∃ s, light s = true ∧ r = [.fz (.list (ns.map .int)), .fz (.list (is.map .int)), .fz (.int i), s]) (fun y => ∃ i : Int, y = .int i) (fun r ⟨s, hs, e⟩ => by subst e; simp [okW, hs]) ?_
  simp_arith []
  refine ⟨by rw [List.length_map]; omega, ⟨s, hs, rfl⟩, ?_, ?_⟩
  · rintro d hd r ⟨s, hs, rfl⟩
    obtain ⟨j, _, rfl⟩ := List.mem_map.mp hd
    simp_arith [wR, o_pow15]
    split
    · exact ⟨⟨_, rfl⟩, _, rfl, rfl⟩
    · exact ⟨_, rfl, rfl⟩
  rintro ys r1 hl2 hP ⟨s, hs, rfl⟩
  obtain ⟨far, rfl⟩ := ints_of hP
  rw [List.length_map, List.length_map] at hl2
  simp_arith [wR, bkR, Option.getD, evE, wp_bind, isL, if_true]
  exact ⟨far, i, 0, by omega, rfl⟩
end DL

namespace DL
open PySem PySem.Spec PyProof.Rows L2
/-! ### how great a value is -/
structure Sm (j w : Nat) (d : D) : Prop where
  sho : d.showable = true
  lv : d.leavesShort 40 = true
  dp : d.depth ≤ j
  wt : d.weight ≤ w
theorem Sm.mono {j w j' w' : Nat} {d : D} (h : Sm j w d) (hj : j ≤ j') (hw : w ≤ w') : Sm j' w' d := ⟨h.sho, h.lv, Nat.le_trans h.dp hj, Nat.le_trans h.wt hw⟩
theorem sm_all {j w : Nat} : ∀ {xs : List D}, (∀ x ∈ xs, Sm j w x) → PyData.showableAll xs = true ∧ PyData.leavesShortAll 40 xs = true ∧ PyData.depthAll xs ≤ j ∧ PyData.weightAll xs ≤ xs.length * (w + 1)
  | [], _ => ⟨rfl, rfl, Nat.zero_le _, Nat.zero_le _⟩
  | x :: xs, h => by
    obtain ⟨h1, h2, h3, h4⟩ := sm_all fun y hy => h y (List.mem_cons_of_mem _ hy)
    have hx := h x List.mem_cons_self
    refine ⟨?_, ?_, ?_, ?_⟩
    · rw [PyData.showableAll, hx.sho, h1]; rfl
    · rw [PyData.leavesShortAll, hx.lv, h2]; rfl
    · rw [PyData.depthAll]; exact Nat.max_le.mpr ⟨hx.dp, h3⟩
    · rw [PyData.weightAll, List.length_cons, Nat.succ_mul]
      have := hx.wt
      omega
theorem Sm.tup {j w : Nat} {xs : List D} (h : ∀ x ∈ xs, Sm j w x) : Sm (j + 1) (xs.length * (w + 1)) (.tuple xs) := by
  obtain ⟨h1, h2, h3, h4⟩ := sm_all h
  exact ⟨by simpa [PyData.showable] using h1, by simpa [PyData.leavesShort] using h2, by simp only [PyData.depth]; omega, by simpa [PyData.weight] using h4⟩
theorem Sm.lst {j w : Nat} {xs : List D} (h : ∀ x ∈ xs, Sm j w x) : Sm (j + 1) (xs.length * (w + 1)) (.list xs) := by
  obtain ⟨h1, h2, h3, h4⟩ := sm_all h
  exact ⟨by simpa [PyData.showable] using h1, by simpa [PyData.leavesShort] using h2, by simp only [PyData.depth]; omega, by simpa [PyData.weight] using h4⟩
theorem Sm.tupn {j w n : Nat} {xs : List D} (h : ∀ x ∈ xs, Sm j w x) (hn : xs.length ≤ n) : Sm (j + 1) (n * (w + 1)) (.tuple xs) := (Sm.tup h).mono (Nat.le_refl _) (Nat.mul_le_mul_right _ hn)
theorem Sm.lstn {j w n : Nat} {xs : List D} (h : ∀ x ∈ xs, Sm j w x) (hn : xs.length ≤ n) : Sm (j + 1) (n * (w + 1)) (.list xs) := (Sm.lst h).mono (Nat.le_refl _) (Nat.mul_le_mul_right _ hn)
theorem Sm.none (j w : Nat) : Sm j w .none := ⟨rfl, rfl, Nat.zero_le _, Nat.zero_le _⟩
theorem Sm.bool (j w : Nat) (b : Bool) : Sm j w (.bool b) := ⟨rfl, rfl, Nat.zero_le _, Nat.zero_le _⟩
theorem Sm.repr {j w : Nat} {d : D} (h : Sm j w d) (hj : j ≤ 100) (hw : 42 * w + 40 ≤ sizeLine) : reprG [d] = some (.str d.shown) := by
  unfold reprG
  have := PyData.shown_le 40 (by decide) d h.lv
  have h1 := h.wt
  have h2 := h.dp
  exact if_pos ⟨h.sho, by omega, by omega⟩
theorem Sm.int {i : Int} (h : i.natAbs < 10 ^ 13) : Sm 0 50 (.int i) := by
  have h0 : (10 : Nat) ^ 13 < 2 ^ 44 := by decide
  have hl : i.natAbs.log2 < 44 := by
    by_cases hz : i.natAbs = 0
    · rw [hz]; decide
    · exact (Nat.log2_lt hz).mpr (by omega)
  refine ⟨?_, ?_, ?_, ?_⟩
  · simp only [PyData.showable, decide_eq_true_eq]; omega
  · have := int_text_length_le10 (a := i) (k := 13) (by decide) h
    have e : (PyData.shown (.int i)).length = (toString i).length := by
      simp only [PyData.shown]
      exact PySem.ofString_length _
    simp only [PyData.leavesShort, decide_eq_true_eq, e]
    omega
  · simp [PyData.depth]
  · simp only [PyData.weight]
    split <;> omega
/-- a text of few signs -/
def SS (n : Nat) (d : D) : Prop := ∃ x : Str, d = .str x ∧ x.length ≤ n ∧ ∀ c ∈ x.cps.toList, c < 1000
theorem SS.sm {n : Nat} {d : D} (h : SS n d) : Sm 0 n d := by
  obtain ⟨x, rfl, hl, hc⟩ := h
  refine ⟨rfl, ?_, Nat.le_of_eq (by simp [PyData.depth]), ?_⟩
  · simp only [PyData.leavesShort, List.all_eq_true, decide_eq_true_eq]
    intro c h
    exact Nat.lt_trans (hc c h) (by decide)
  · simp only [PyData.weight]
    exact hl
theorem SS.mono {n m : Nat} {d : D} (h : SS n d) (hm : n ≤ m) : SS m d := by
  obtain ⟨x, e, hl, hc⟩ := h
  exact ⟨x, e, Nat.le_trans hl hm, hc⟩
theorem SS.lay {n : Nat} {d : D} (h : SS n d) : d.canLay0 = true := by
  obtain ⟨x, rfl, hl, hc⟩ := h
  simp only [PyData.canLay0, PyData.strOk, Array.all_eq_true']
  intro c h
  have := hc c (Array.mem_toList_iff.mpr h)
  simp
  omega
theorem lay_all : ∀ {xs : List D}, (∀ x ∈ xs, x.canLay0 = true) → PyData.canLayAll0 xs = true
  | [], _ => rfl
  | x :: xs, h => by
    rw [PyData.canLayAll0, h x List.mem_cons_self, lay_all fun y hy => h y (List.mem_cons_of_mem _ hy)]
    rfl
theorem lay_tup {xs : List D} (h : ∀ x ∈ xs, x.canLay0 = true) : (PyData.tuple xs).canLay0 = true := by simpa [PyData.canLay0] using lay_all h
theorem shaped_of {d : D} {j w : Nat} (h : Sm j w d) (hl : d.canLay0 = true) (hj : j ≤ 64) : SeqAt.shaped d = true := by
  unfold SeqAt.shaped
  rw [hl, decide_eq_true (Nat.le_trans h.dp hj)]
  rfl
theorem SS.append {n m : Nat} {x y : Str} (h : SS n (.str x)) (h' : SS m (.str y)) : SS (n + m) (.str (x ++ y)) := by
  obtain ⟨_, e, hl, hc⟩ := h
  cases e
  obtain ⟨_, e, hl', hc'⟩ := h'
  cases e
  refine ⟨_, rfl, by rw [strLen_append]; omega, fun c hm => ?_⟩
  have : c ∈ x.cps.toList ++ y.cps.toList := by
    have e : (x ++ y).cps = x.cps ++ y.cps := rfl
    rw [e, Array.toList_append] at hm
    exact hm
  rcases List.mem_append.mp this with h | h
  · exact hc c h
  · exact hc' c h
theorem SS.cut {n : Nat} {x : Str} (h : SS n (.str x)) (lo hi : Option Int) : SS n (.str (L2.cutS x lo hi)) := by
  obtain ⟨_, e, hl, hc⟩ := h
  cases e
  refine ⟨_, rfl, Nat.le_trans (L2.cutS_length x lo hi) hl, fun c hm => ?_⟩
  unfold L2.cutS at hm
  exact hc c (List.mem_of_mem_drop (List.mem_of_mem_take hm))
theorem SS.one {c : Nat} (h : c < 1000) : SS 1 (sgn c) := ⟨_, rfl, Nat.le_refl _, fun d hd => by
  have : d ∈ [c] := hd
  rw [List.mem_singleton.mp this]
  exact h⟩
theorem ss_sgn {x : Str} {z : D} (hx : ∀ c ∈ x.cps.toList, c < 1000) (h : z ∈ x.cps.toList.map sgn) : SS 1 z := by
  obtain ⟨c, hc, rfl⟩ := List.mem_map.mp h
  exact SS.one (hx c hc)
theorem txts_ss : ∀ {ys : List D}, (∀ y ∈ ys, SS 1 y) → ∃ ts, txts ys = some ts ∧ ts.length = ys.length ∧ ∀ t ∈ ts, SS 1 (.str t)
  | [], _ => ⟨[], rfl, rfl, fun _ h => by cases h⟩
  | y :: ys, h => by
    obtain ⟨ts, e, hl, hs⟩ := txts_ss fun z hz => h z (List.mem_cons_of_mem _ hz)
    have hy := h y List.mem_cons_self
    obtain ⟨x, rfl, _⟩ := hy
    refine ⟨x :: ts, ?_, by rw [List.length_cons, List.length_cons, hl], fun t ht => ?_⟩
    · show (txts ys).map (x :: ·) = _
      rw [e]
      rfl
    · rcases List.mem_cons.mp ht with rfl | ht
      · exact h _ List.mem_cons_self
      · exact hs t ht
theorem join_chars {sep : Str} (hs : ∀ c ∈ sep.cps.toList, c < 1000) : ∀ (ts : List Str), (∀ t ∈ ts, ∀ c ∈ t.cps.toList, c < 1000) → ∀ c ∈ (Str.join sep ts).cps.toList, c < 1000
  | [], _, c, h => by cases h
  | [x], h, c, hc => h x List.mem_cons_self c hc
  | x :: y :: r, h, c, hc => by
    have e : (x ++ sep ++ Str.join sep (y :: r)).cps = x.cps ++ sep.cps ++ (Str.join sep (y :: r)).cps := rfl
    have hc' : c ∈ (x ++ sep ++ Str.join sep (y :: r)).cps.toList := hc
    rw [e, Array.toList_append, Array.toList_append] at hc'
    rcases List.mem_append.mp hc' with h1 | h1
    · rcases List.mem_append.mp h1 with h2 | h2
      · exact h x List.mem_cons_self c h2
      · exact hs c h2
    · exact join_chars hs (y :: r) (fun t ht => h t (List.mem_cons_of_mem _ ht)) c h1
theorem sum_le {n : Nat} : ∀ {ts : List Str}, (∀ t ∈ ts, t.length ≤ n) → (ts.map (·.length)).sum ≤ ts.length * n
  | [], _ => by simp
  | t :: ts, h => by
    have := sum_le fun x hx => h x (List.mem_cons_of_mem _ hx)
    have h1 := h t List.mem_cons_self
    rw [List.map_cons, List.sum_cons, List.length_cons, Nat.succ_mul]
    omega
theorem join_ss {n : Nat} {ts : List Str} (h : ∀ t ∈ ts, SS 1 (.str t)) (hl : ts.length ≤ n) (hn : n ≤ 1000) : joinOk "" ts = true ∧ SS n (.str (Txt.join "" ts)) := by
  have h1 : ∀ t ∈ ts, t.length ≤ 1 ∧ ∀ c ∈ t.cps.toList, c < 1000 := fun t ht => by
    obtain ⟨_, e, a, b⟩ := h t ht
    cases e
    exact ⟨a, b⟩
  have hs := sum_le (n := 1) fun t ht => (h1 t ht).1
  have e0 : ("" : Str).length = 0 := rfl
  refine ⟨decide_eq_true ?_, _, rfl, ?_, ?_⟩
  · rw [e0]; omega
  · have := StrLaws.join_length_le "" ts
    rw [e0] at this
    have e : Txt.join "" ts = Str.join "" ts := StrLaws.glued_eq_join _ _
    rw [e]
    omega
  · have e : Txt.join "" ts = Str.join "" ts := StrLaws.glued_eq_join _ _
    rw [e]
    exact join_chars (fun c h => by cases h) ts fun t ht => (h1 t ht).2
end DL

/-! ### the urn -/
namespace DL
open PySem PySem.Spec PyProof.Rows L2
theorem wp_nE {α : Type} {x : Res α} {Q : α → Rho → Prop} (h : Wp x Q) : Wp (nE x) Q := by
  cases x with
  | ok a r => exact h
  | _ => exact h.elim
theorem wp_mkD {i : Nat} {es : List (Key × EN)} {r : Rho} {Q : Ctl → Rho → Prop} (h : Wp (evE es r) fun t r1 => ∃ s, r1[i]? = some s ∧ light s = true ∧ Q .nx (r1.set i (.deep (.dict t)))) : Wp (mkD i es r) Q := by
  unfold mkD
  rw [wp_bind]
  refine (wp_nE h).mono fun t r1 ⟨s, h1, h2, h3⟩ => ?_
  simp only [h1, h2, if_true]
  exact h3
theorem wp_setDL {i : Nat} {k : Key} {f : M (List D)} {r : Rho} {Q : Ctl → Rho → Prop} (h : Wp (f r) fun es r1 => ∃ p, deepL r1 i k = some p ∧ p.1.length < sizeLine ∧ oneK p.1 k = true ∧ Q .nx (r1.set i (.deep (.dict (dset1 p.1 k (.list es)))))) : Wp (setDL i k f r) Q := by
  unfold setDL
  rw [wp_bind]
  refine (wp_nE h).mono fun t r1 ⟨p, h1, h2, h3, h4⟩ => ?_
  simp only [h1]
  rw [if_pos ⟨h2, h3⟩]
  exact h4
def m_take  : M Ctl :=
    (seqM (ifM (truM (bin2 ltG (rdV 1) (cV (.int 2)))) (retM (cV (.int 0))) nxM)
    (seqM (ifM (truMB (bin2B neG (bin2B dictG (rdB 0) (fun _ => some (.str "deep"))) (fun _ => some (.list [])))) (seqM (setM 2 (deepM 0 (.inr "deep") popG nilB))
    (seqM (ifM (truM (bin2 geG (rdV 2) (rdV 1))) (exprM (deepM 0 (.inr "deep") appendG (consB (bin2B fdivG (rdB 2) (rdB 1)) nilB))) nxM)
    (retM (bin2 modG (appM toIntG (consM (rdV 2) nilM)) (rdV 1))))) nxM)
    (seqM (setIxM 0 (fun _ => some (.str "turn")) (bin2 addG (ofB (bin2B dictG (rdB 0) (fun _ => some (.str "turn")))) (cV (.int 1))))
    (seqM (setM 3 (bin2 modG (ofB (appB toIntG (consB (bin2B addG (bin2B mulG (bin2B dictG (rdB 0) (fun _ => some (.str "state"))) (fun _ => some (.int 2862933555777941757))) (bin2B mulG (fun _ => some (.int 3037000493)) (bin2B dictG (rdB 0) (fun _ => some (.str "turn"))))) nilB))) (cV (.int 2305843009213693951))))
    (seqM (setIxM 0 (fun _ => some (.str "state")) (rdV 3))
    (retM (bin2 modG (appM toIntG (consM (bin2 fdivG (bin2 modG (appM toIntG (consM (bin2 addG (bin2 mulG (rdV 3) (rdV 3)) (bin2 mulG (cV (.int 362436069)) (rdV 3))) nilM)) (cV (.int 2305843009213693921))) (cV (.int 4194304))) nilM)) (rdV 1))))))))
def m_upick (G__law_take : Fn) : M Ctl :=
    (retM (bin2 ixG (rdV 1) (callM G__law_take [.ref 0, .val (appM lenG (consM (rdV 1) nilM))])))
def m_mixed (G__law_take : Fn) : M Ctl :=
    (seqM (setsM [2, 3] [.lst (listF (consM (rdV 1) nilM)), .lst (lnM nilM)])
    (seqM (whileM (truMB (bin2B neG (rdB 2) (fun _ => some (.list [])))) (exprM (mutM 3 appendG (consM (mutM 2 popAtG (consM (callM G__law_take [.ref 0, .val (ofB (appB lenG (consB (rdB 2) nilB)))]) nilM)) nilM))) 200)
    (retM (rdV 3))))
def m_urn (c0 : Int) : M (List (D × D)) :=
    (goOn (mkD 1 [((.inr "deep"), .lst (lnM nilM)), ((.inr "state"), .val (bin2 addG (cV (.int c0)) (appM lenG (consM (slM (rdV 0) .no (.at (cV (.int 63)))) nilM)))), ((.inr "turn"), .val (cV (.int 0)))])
    (goOn (forM (iterM (slM (rdV 0) .no (.at (cV (.int 63))))) (tgPut 2) (seqM (ifM (truM (bin2 geG (appM absG (consM (rdV 2) nilM)) (bin2 powG (cV (.int 10)) (cV (.int 18))))) (setDL 1 (.inr "deep") (addF (lnB (consB (appB absG (consB (rdB 2) nilB)) nilB)) (bin2B dictG (rdB 1) (fun _ => some (.str "deep"))))) nxM)
    (seqM (setM 3 (bin2 addG (bin2 mulG (cV (.int 2)) (appM absG (consM (rdV 2) nilM))) (appM toIntG (consM (bin2 ltG (rdV 2) (cV (.int 0))) nilM))))
    (setIxM 1 (fun _ => some (.str "state")) (bin2 modG (ofB (appB toIntG (consB (bin2B addG (bin2B mulG (bin2B addG (bin2B addG (bin2B dictG (rdB 1) (fun _ => some (.str "state"))) (rdB 3)) (fun _ => some (.int 1))) (fun _ => some (.int 2862933555777941757))) (fun _ => some (.int 3037000493))) nilB))) (cV (.int 2305843009213693951)))))))
    (slotD 1)))

def urns (deep : List Int) (s t : Int) : D := .dict [(.str "deep", .list (deep.map .int)), (.str "state", .int s), (.str "turn", .int t)]
def Urn (L : D) : Prop := ∃ (deep : List Int) (s t : Int), deep.length ≤ 63 ∧ L = urns deep s t
theorem u_deep (deep : List Int) (s t : Int) : dictG (urns deep s t) (.str "deep") = some (.list (deep.map .int)) := rfl
theorem u_state (deep : List Int) (s t : Int) : dictG (urns deep s t) (.str "state") = some (.int s) := rfl
theorem u_turn (deep : List Int) (s t : Int) : dictG (urns deep s t) (.str "turn") = some (.int t) := rfl
theorem us_state (deep : List Int) (s t s' : Int) : setIx (.deep (urns deep s t)) (.str "state") (.int s') = some (.deep (urns deep s' t)) := rfl
theorem us_turn (deep : List Int) (s t t' : Int) : setIx (.deep (urns deep s t)) (.str "turn") (.int t') = some (.deep (urns deep s t')) := rfl
theorem pop_deep {deep : List Int} {s t : Int} {r : Rho} (h : deep ≠ []) {Q : D → Rho → Prop} (hr : r[0]? = some (.deep (urns deep s t)))
    (k : ∀ x, Q (.int x) (r.set 0 (.deep (urns deep.dropLast s t)))) : Wp (deepM 0 (.inr "deep") popG nilB r) Q := by
  unfold deepM deepL
  rw [hr]
  have e : dget [(PyData.str "deep", PyData.list (deep.map .int)), (.str "state", .int s), (.str "turn", .int t)] (.inr "deep") = some (.list (deep.map .int)) := rfl
  have hl : deep.length - 1 < deep.length := Nat.sub_lt (List.length_pos_iff.mpr h) Nat.one_pos
  simp only [urns, e, nilB, List.all_nil, if_true, popG, List.length_map, List.getElem?_map, List.getElem?_eq_getElem hl, Option.map_some]
  have := k (deep[deep.length - 1]'hl)
  unfold urns at this
  rw [List.map_dropLast] at this
  exact this
theorem push_deep {deep : List Int} {s t x : Int} {r : Rho} {f : Rho → Option (List D)} {Q : D → Rho → Prop} (hr : r[0]? = some (.deep (urns deep s t))) (hl : deep.length < 64) (hf : f r = some [.int x])
    (k : Q .none (r.set 0 (.deep (urns (deep ++ [x]) s t)))) : Wp (deepM 0 (.inr "deep") appendG f r) Q := by
  unfold deepM deepL
  rw [hr]
  have e : dget [(PyData.str "deep", PyData.list (deep.map .int)), (.str "state", .int s), (.str "turn", .int t)] (.inr "deep") = some (.list (deep.map .int)) := rfl
  have hs : (deep.map PyData.int).length < sizeLine := by
    rw [List.length_map]
    exact Nat.lt_trans hl (by decide)
  simp only [urns, e, hf, List.all_cons, List.all_nil, scal, Bool.and_self, if_true, appendG, hs]
  unfold urns at k
  rw [List.map_append] at k
  exact k
theorem v_modA (i : Int) : modG (.int i) (.int 2305843009213693951) = some (.int (i % 2305843009213693951)) := o_mod' (by decide)
theorem v_modB (i : Int) : modG (.int i) (.int 2305843009213693921) = some (.int (i % 2305843009213693921)) := o_mod' (by decide)
theorem v_mulA (i : Int) : mulG (.int i) (.int 2862933555777941757) = some (.int (i * 2862933555777941757)) := o_mul' (.inr (by decide))
theorem v_mulB (i : Int) : mulG (.int 3037000493) (.int i) = some (.int (3037000493 * i)) := o_mul' (.inl (by decide))
theorem v_mulC (i : Int) : mulG (.int 362436069) (.int i) = some (.int (362436069 * i)) := o_mul' (.inl (by decide))
theorem v_mulD (i : Int) : mulG (.int (i % 2305843009213693951)) (.int (i % 2305843009213693951)) = some (.int ((i % 2305843009213693951) * (i % 2305843009213693951))) := o_mul' (.inl (emod_small _ _ (by decide) (by decide)))
theorem v_fdiv (i : Int) : fdivG (.int i) (.int 4194304) = some (.int (i / 4194304)) := o_fdiv' (by decide) (by decide)
theorem take_draws : Draws Urn (bodyF0 4 m_take) drawPre drawPost := by
  rintro L ds ⟨deep, s, t, hf, rfl⟩ ⟨n, rfl, hn⟩
  have fin : ∀ (q : Int) (deep : List Int) (s t : Int), deep.length ≤ 63 → 0 < n → Urn (urns deep s t) ∧ drawPost [.int n] (.int (q % n)) := fun q deep s t h hn =>
        ⟨⟨deep, s, t, h, rfl⟩, _, rfl, Int.emod_nonneg _ (by omega), fun m hm h => by
          cases hm
          exact Int.emod_lt_of_pos _ h⟩
  unfold m_take
  simp_arith []
  by_cases h2 : n < 2
  · simp_arith [h2]
    exact ⟨⟨deep, s, t, hf, rfl⟩, 0, rfl, by omega, fun n _ h => h⟩
  have hn0 : 0 < n := by omega
  simp_arith [h2, u_deep, ne_nil_ints]
  by_cases hx : deep = []
  · subst hx
    simp_arith [List.isEmpty_nil, u_turn, u_state, us_turn, us_state, v_modA, v_modB, v_mulA, v_mulB, v_mulC, v_mulD, v_fdiv, o_mod_n hn0]
    exact fin _ [] _ (t + 1) (by simp) hn0
  · have hx' : deep.isEmpty = false := by cases deep with | nil => exact absurd rfl hx | cons _ _ => rfl
    simp_arith [hx']
    refine pop_deep hx rfl fun x => ?_
    have hl : deep.dropLast.length ≤ 63 := by rw [List.length_dropLast]; omega
    simp_arith []
    by_cases h3 : n ≤ x
    · simp_arith [h3]
      refine push_deep (x := x / n) rfl (by rw [List.length_dropLast]; omega) ?_ ?_
      · simp [consB, bin2B, rdB, nilB, intG, hn0, hn]
      simp_arith [o_mod_n hn0]
      have hl2 : (deep.dropLast ++ [x / n]).length ≤ 63 := by
        have := List.length_pos_iff.mpr hx
        simp only [List.length_append, List.length_dropLast, List.length_cons, List.length_nil]; omega
      exact fin x (deep.dropLast ++ [x / n]) s t hl2 hn0
    · simp_arith [h3, o_mod_n hn0]
      exact fin x deep.dropLast s t hl hn0
theorem upick_draws : Draws Urn (bodyF0 2 (m_upick (bodyF0 4 m_take))) pickPre pickPost := by
  rintro L ds hL ⟨d, rfl, h1, h2⟩
  unfold m_upick
  simp_arith []
  refine call_d1 take_draws rfl ?_
  simp_arith [len_parts h1 h2]
  refine ⟨hL, ⟨_, rfl, Int.lt_of_le_of_lt (Int.ofNat_le.mpr h2) (by decide)⟩, fun z L2 hL2 ⟨k, hz, k0, k1⟩ => ?_⟩
  subst hz
  obtain ⟨z, e, m⟩ := ix_parts h2 k0 (k1 _ rfl (by omega))
  simp_arith [e]
  exact ⟨hL2, fun d' h => by cases h; exact m⟩
/-! ### mixing -/
theorem wp_while {c : M Bool} {b : M Ctl} {Q : Ctl → Rho → Prop} (I : Nat → Rho → Prop) (hstep : ∀ n r, I n r → Wp (c r) fun k r1 => IfP k (∃ m, m + 1 = n ∧ Wp (b r1) fun x r2 => x = .nx ∧ I m r2) (Q .nx r1)) : ∀ (fuel n : Nat) (r : Rho), n < fuel → I n r → Wp (whileM c b fuel r) Q
  | 0, n, r, h, _ => absurd h (Nat.not_lt_zero _)
  | fuel + 1, n, r, h, hI => by
    unfold whileM
    rw [wp_bind]
    refine (hstep n r hI).mono fun k r1 q => ?_
    cases k with
    | true =>
      obtain ⟨m, hm, q2⟩ := ifp_t.mp q
      rw [if_pos rfl, wp_bind]
      refine q2.mono fun x r2 ⟨hx, hI2⟩ => ?_
      subst hx
      exact wp_while I hstep fuel m r2 (by omega) hI2
    | false =>
      rw [if_neg (by simp)]
      exact ifp_f.mp q
end DL

namespace DL
open PySem PySem.Spec PyProof.Rows L2
theorem ifp_tt {c : Bool} {p q : Prop} (h : c = true) (k : p) : IfP c p q := by subst h; exact ifp_t.mpr k
theorem ifp_ff {c : Bool} {p q : Prop} (h : c = false) (k : q) : IfP c p q := by subst h; exact ifp_f.mpr k
section
variable {QP : List (D × D) → Rho → Prop} {r : Rho} {f : M D} {fl : M (List D)} {k : Key} {es : List (Key × EN)}
def DiK2 (k : Key) (d : D) (Q : List (D × D) → Rho → Prop) (t : List (D × D)) (r : Rho) : Prop := Q ((kD k, d) :: t) r
def DiK (k : Key) (es : List (Key × EN)) (Q : List (D × D) → Rho → Prop) (d : D) (r : Rho) : Prop := isL d = false ∧ Wp (evE es r) (DiK2 k d Q)
def DlK (k : Key) (es : List (Key × EN)) (Q : List (D × D) → Rho → Prop) (ds : List D) (r : Rho) : Prop := Wp (evE es r) (DiK2 k (.list ds) Q)
theorem k_ev0 : Wp (evE [] r) QP ↔ QP [] r := Iff.rfl
theorem k_evv : Wp (evE ((k, .val f) :: es) r) QP ↔ Wp (f r) (DiK k es QP) := by
  rw [evE, wp_bind]
  refine Iff.of_eq (congrArg _ (funext fun c => funext fun r1 => ?_))
  unfold DiK
  cases isL c <;> simp [wp_bind, wp_ok, wp_bad]
  rfl
theorem k_evl' : Wp (evE ((k, .lst fl) :: es) r) QP ↔ Wp (fl r) (DlK k es QP) := by
  rw [evE, wp_bind]
  refine Iff.of_eq (congrArg _ (funext fun c => funext fun r1 => ?_))
  unfold DlK
  rw [wp_bind]
  rfl
theorem k_di {d : D} : DiK k es QP d r ↔ isL d = false ∧ Wp (evE es r) (DiK2 k d QP) := Iff.rfl
theorem k_dl {ds : List D} : DlK k es QP ds r ↔ Wp (evE es r) (DiK2 k (.list ds) QP) := Iff.rfl
theorem k_di2 {d : D} {t : List (D × D)} : DiK2 k d QP t r ↔ QP ((kD k, d) :: t) r := Iff.rfl
theorem isL_int (i : Int) : isL (.int i) = false := rfl
end
def list1 : List D → Option (List D)
  | [d] => seqOf d
  | _ => none
theorem k_listF {fl : M (List D)} {QL : List D → Rho → Prop} {r : Rho} : Wp (listF fl r) QL ↔ Wp (fl r) (AppK list1 QL) := by
  unfold listF
  rw [wp_bind]
  refine Iff.of_eq (congrArg _ (funext fun c => funext fun r1 => ?_))
  rcases c with _ | ⟨d, _ | ⟨e, t⟩⟩
  · rfl
  · exact propext (wp_optW _)
  · rfl
theorem list1_l (ds : List D) : list1 [.list ds] = some ds := rfl
theorem list1_t (ds : List D) : list1 [.tuple ds] = some ds := rfl
def LnK (Q : List D → Rho → Prop) (x : List D) (r : Rho) : Prop := x.length ≤ sizeLine ∧ Q x r
theorem k_lnM {fl : M (List D)} {QL : List D → Rho → Prop} {r : Rho} : Wp (lnM fl r) QL ↔ Wp (fl r) (LnK QL) := by
  rw [wp_lnM]
  refine Iff.of_eq (congrArg _ (funext fun c => funext fun r1 => ?_))
  unfold IfP LnK
  by_cases hl : c.length ≤ sizeLine <;> simp [hl]
theorem k_ln {QL : List D → Rho → Prop} {x : List D} {r : Rho} : LnK QL x r ↔ x.length ≤ sizeLine ∧ QL x r := Iff.rfl
theorem wp_mutM {i : Nat} {g : List D → List D → Option (D × List D)} {f : M (List D)} {r : Rho} {Q : D → Rho → Prop} {d0 : List D} (h0 : r[i]? = some (.own (.list d0)))
    (h : Wp (f r) fun es r1 => ∃ ds p, r1[i]? = some (.own (.list ds)) ∧ g ds es = some p ∧ Q p.1 (r1.set i (.own (.list p.2)))) : Wp (mutM i g f r) Q := by
  unfold mutM ownL
  simp only [h0, wp_bind]
  refine h.mono fun es r1 ⟨ds, p, h1, h2, h3⟩ => ?_
  simp only [h1, h2]
  exact h3
theorem lay_lst {xs : List D} (h : ∀ x ∈ xs, x.canLay0 = true) : (PyData.list xs).canLay0 = true := by simpa [PyData.canLay0] using lay_all h
theorem ne_nil_lst {xs : List D} (h : SeqAt.shaped (.list xs) = true) : neG (.list xs) (.list []) = some (.bool (!xs.isEmpty)) := by
  unfold neG
  have : SeqAt.shaped (.list []) = true := by decide
  simp only [h, this, and_self, if_true]
  cases xs <;> simp [PyData.eqv, PyData.eqvAll]
theorem pop_at {ds : List D} {k : Nat} (h : k < ds.length) (h2 : ds.length ≤ sizeLine) : popAtG ds [.int (k : Nat)] = some (ds[k]'h, ds.eraseIdx k) := by
  have hs : sizeLine = 16777216 := by decide
  have hp : (2 : Int) ^ 63 = 9223372036854775808 := by decide
  have e : popAtG ds [.int (k : Nat)] = if -(2 ^ 63) ≤ (k : Int) ∧ (k : Int) < 2 ^ 63 then (seqIndex? (k : Int) ds.length).bind fun k => (ds[k]?).map fun d => (d, ds.eraseIdx k) else none := rfl
  rw [hs] at h2
  have hi : ixN ds.length (k : Int) = some k := by
    unfold ixN
    rw [if_pos (by omega), if_pos (by omega), Int.toNat_natCast]
  rw [e, hp, if_pos ⟨by omega, by omega⟩, (ixN_seq hi).1, Option.bind_some, List.getElem?_eq_getElem h]
  rfl
def mixPre (ds : List D) : Prop := ∃ xs, ds = [.list xs] ∧ xs.length ≤ 100 ∧ ∀ x ∈ xs, SS 20 x
def mixPost (ds : List D) (z : D) : Prop := ∀ xs, ds = [.list xs] → ∃ ys, z = .list ys ∧ ys.Perm xs
theorem erase_perm : ∀ (l : List D) (k : Nat) (hk : k < l.length), ([l[k]'hk] ++ l.eraseIdx k).Perm l
  | x :: l, 0, _ => List.Perm.refl _
  | x :: l, k + 1, hk => by
    have ih := erase_perm l k (by rw [List.length_cons] at hk; omega)
    exact (List.Perm.swap x (l[k]'_) (l.eraseIdx k)).trans (List.Perm.cons x ih)
theorem perm_step {xs found left : List D} {k : Nat} (hk : k < left.length) (h : (found ++ left).Perm xs) : ((found ++ [left[k]'hk]) ++ left.eraseIdx k).Perm xs := by
  refine List.Perm.trans ?_ h
  rw [List.append_assoc]
  exact List.Perm.append_left _ (erase_perm left k hk)
theorem mixed_draws : Draws Urn (bodyF0 4 (m_mixed (bodyF0 4 m_take))) mixPre mixPost := by
  rintro L ds hL ⟨xs, rfl, hn, hx⟩
  have hs : (1000 : Nat) ≤ sizeLine := by decide
  unfold m_mixed
  simp_arith [k_listF, list1_l, k_lnM, k_ln, and_self]
  refine wp_while (fun n r => ∃ U left found, Urn U ∧ left.length = n ∧ (found ++ left).Perm xs ∧ r = [.deep U, .fz (.list xs), .own (.list left), .own (.list found)]) ?_ 200 xs.length _ (by omega) ⟨L, xs, [], hL, rfl, List.Perm.refl _, rfl⟩
  rintro n r ⟨U, left, found, hU, hl, hp, rfl⟩
  have hlen := hp.length_eq
  rw [List.length_append] at hlen
  have hsub : ∀ x ∈ left, SS 20 x := fun x h => hx x (hp.subset (List.mem_append_right _ h))
  have hsh : SeqAt.shaped (.list left) = true := shaped_of (Sm.lst fun x h => (hsub x h).sm) (lay_lst fun x h => (hsub x h).lay) (by decide)
  simp_arith [ne_nil_lst hsh]
  cases left with
  | nil =>
    refine ifp_ff rfl ?_
    try simp_arith []
    refine ⟨hU, fun xs' e => ?_⟩
    cases e
    rw [List.append_nil] at hp
    exact ⟨found, rfl, hp⟩
  | cons y ys =>
    refine ifp_tt rfl ⟨n - 1, by rw [List.length_cons] at hl; omega, ?_⟩
    try simp_arith []
    refine wp_mutM rfl ?_
    simp_arith []
    refine wp_mutM rfl ?_
    simp_arith []
    refine call_d1 take_draws rfl ?_
    simp_arith []
    refine ⟨hU, ⟨_, rfl, by simp only [List.length_cons] at hlen; omega⟩, fun z L2 hL2 hz => ?_⟩
    obtain ⟨k0, rfl, k1, k2⟩ := hz
    obtain ⟨k, rfl⟩ := Int.eq_ofNat_of_zero_le k1
    have hk : k < (y :: ys).length := by
      have := k2 _ rfl (by omega)
      simp only [List.length_cons]
      omega
    try simp_arith []
    refine ⟨_, _, rfl, pop_at hk (by simp only [List.length_cons] at hlen ⊢; omega), ?_⟩
    simp_arith []
    refine ⟨_, _, rfl, (show appendG found [(y :: ys)[k]'hk] = some (.none, found ++ [(y :: ys)[k]'hk]) from if_pos (by simp only [List.length_cons] at hlen; omega)), ?_⟩
    simp_arith []
    exact ⟨_, _, _, hL2, by rw [List.length_eraseIdx]; simp only [if_pos hk]; omega, perm_step hk hp, rfl⟩
theorem wp_loop_cnt {t : D → M Ctl} {b : M Ctl} (I : Nat → Rho → Prop) : ∀ {ds : List D} {r : Rho} {n : Nat}, I n r →
    (∀ d ∈ ds, ∀ r n', n ≤ n' → n' < n + ds.length → I n' r → Wp (t d r) fun _ r1 => Wp (b r1) fun c r2 => c = .nx ∧ I (n' + 1) r2) → Wp (loopM t b ds r) fun c r => c = .nx ∧ I (n + ds.length) r
  | [], r, n, h, _ => ⟨rfl, h⟩
  | d :: ds, r, n, h, k => by
    unfold loopM
    rw [wp_bind]
    refine (k d List.mem_cons_self r n (Nat.le_refl _) (by rw [List.length_cons]; omega) h).mono fun _ r1 h1 => ?_
    rw [wp_bind]
    refine h1.mono fun c r2 ⟨h2, h3⟩ => ?_
    subst h2
    have := wp_loop_cnt I h3 fun x hx r n' h4 h5 h6 => k x (List.mem_cons_of_mem _ hx) r n' (by omega) (by rw [List.length_cons]; omega) h6
    rw [List.length_cons, show n + (ds.length + 1) = n + 1 + ds.length by omega]
    exact this
/-! ### the urn itself -/
theorem deepL_urn {deep : List Int} {s t : Int} {r : Rho} {i : Nat} (hr : r[i]? = some (.deep (urns deep s t))) : deepL r i (.inr "deep") = some ([(PyData.str "deep", PyData.list (deep.map .int)), (.str "state", .int s), (.str "turn", .int t)], deep.map .int) := by
  unfold deepL
  rw [hr]
  rfl
theorem o_pow18 : powG (.int 10) (.int 18) = some (.int 1000000000000000000) := rfl
theorem scal_ints (xs : List Int) : (xs.map PyData.int).all scal = true := by
  induction xs with
  | nil => rfl
  | cons x xs ih => rw [List.map_cons, List.all_cons, ih]; rfl
theorem addF_ok {f g : Rho → Option D} {r : Rho} {xs ys : List Int} (hf : f r = some (.list (xs.map .int))) (hg : g r = some (.list (ys.map .int))) (h : xs.length + ys.length ≤ sizeLine) : addF f g r = .ok ((xs ++ ys).map .int) r := by
  unfold addF
  rw [hf, hg]
  simp only [List.length_map]
  rw [if_pos ⟨h, by rw [← List.map_append]; exact scal_ints _⟩, List.map_append]
theorem urn_wp (c0 : Int) (ns : List Int) (h : ns.length ≤ 63) : Wp (m_urn c0 [.fz (.list (ns.map .int)), .emp, .emp, .emp]) fun kvs _ => Urn (.dict kvs) := by
  have h63 : (63 : Nat) ≤ sizeLine := by decide
  unfold m_urn
  rw [wp_goOn]
  refine wp_mkD ?_
  simp_arith [k_ev0, k_evv, k_evl', k_di, k_dl, k_di2, isL_int, k_lnM, k_ln, cut63 _ (show (ns.map PyData.int).length ≤ 63 by rw [List.length_map]; exact h)]
  refine ⟨rfl, ?_⟩
  rw [wp_goOn]
  simp_arith [cut63 _ (show (ns.map PyData.int).length ≤ 63 by rw [List.length_map]; exact h)]
  refine (wp_loop_cnt (fun n r => ∃ deep s t s2 s3, deep.length ≤ n ∧ light s2 = true ∧ light s3 = true ∧ r = [.fz (.list (ns.map .int)), .deep (urns deep s t), s2, s3]) (n := 0) ⟨[], _, _, .emp, .emp, Nat.le_refl _, rfl, rfl, rfl⟩ ?_).mono ?_
  · rintro d hd r n - hn ⟨deep, s, t, s2, s3, hdp, l2, l3, rfl⟩
    obtain ⟨i, _, rfl⟩ := List.mem_map.mp hd
    rw [List.length_map] at hn
    simp_arith [pt_light l2, o_pow18]
    by_cases hg : (1000000000000000000 : Int) ≤ (if i < 0 then -i else i)
    · simp_arith [hg]
      refine wp_setDL ?_
      have e1 : lnB (consB (appB absG (consB (rdB 2) nilB)) nilB) [.fz (.list (ns.map PyData.int)), .deep (urns deep s t), .fz (.int i), s3] = some (.list ([if i < 0 then -i else i].map PyData.int)) := rfl
      have e2 : bin2B dictG (rdB 1) (fun _ => some (.str "deep")) [.fz (.list (ns.map PyData.int)), .deep (urns deep s t), .fz (.int i), s3] = some (.list (deep.map PyData.int)) := rfl
      rw [addF_ok e1 e2 (by simp only [List.length_cons, List.length_nil]; omega)]
      refine ⟨_, deepL_urn rfl, (show 3 < sizeLine by decide), rfl, ?_⟩
      have e3 : (PyData.dict (dset1 [(PyData.str "deep", PyData.list (deep.map .int)), (.str "state", .int s), (.str "turn", .int t)] (.inr "deep") (.list (([if i < 0 then -i else i] ++ deep).map .int)))) = urns ([if i < 0 then -i else i] ++ deep) s t := rfl
      rw [e3]
      simp_arith [o_mul2, pt_light l3, u_state, v_mulA, v_modA, us_state]
      exact ⟨_, _, t, _, _, (by simp only [List.length_append, List.length_cons, List.length_nil]; omega), rfl, rfl, rfl⟩
    · simp_arith [hg, o_mul2, pt_light l3, u_state, v_mulA, v_modA, us_state]
      exact ⟨deep, _, t, _, _, by omega, rfl, rfl, rfl⟩
  rintro c r ⟨rfl, deep, s, t, s2, s3, hd, l2, l3, rfl⟩
  rw [List.length_map] at hd
  exact ⟨deep, s, t, by omega, rfl⟩
end DL

/-! ### nothing else is written as names within tuples are -/
namespace DL
open PySem PySem.Spec PyProof.Rows L2
def cs (d : D) : List Nat := d.shown.cps.toList
theorem reprChar_one (c : Nat) : (Builtin.Str.reprChar 39 c = [c] ∧ c ≠ 39) ∨ ∃ t, Builtin.Str.reprChar 39 c = 92 :: t := by
  unfold Builtin.Str.reprChar
  simp only
  split
  · exact .inr ⟨_, rfl⟩
  · rename_i h
    have h39 : c ≠ 39 := fun e => by subst e; simp at h
    split
    · exact .inr ⟨_, rfl⟩
    · split
      · exact .inr ⟨_, rfl⟩
      · split
        · exact .inr ⟨_, rfl⟩
        · split
          · exact .inl ⟨rfl, h39⟩
          · split
            · exact .inr ⟨_, rfl⟩
            · split
              · exact .inr ⟨_, rfl⟩
              · exact .inr ⟨_, rfl⟩
theorem foldl_cps (q : Nat) : ∀ (l : List Nat) (acc : Array Nat), (l.foldl (fun out c => out ++ (Builtin.Str.reprChar q c).toArray) acc).toList = acc.toList ++ l.flatMap (Builtin.Str.reprChar q)
  | [], acc => by simp
  | c :: l, acc => by
    rw [List.foldl_cons, foldl_cps q l]
    simp
theorem reprText_cps (x : Str) : (reprText x).cps.toList = reprQuote x :: (x.cps.toList.flatMap (Builtin.Str.reprChar (reprQuote x)) ++ [reprQuote x]) := by
  unfold reprText
  simp only [Array.toList_push]
  rw [← Array.foldl_toList, foldl_cps]
  simp
def Plain (x : Str) : Prop := ∀ c ∈ x.cps.toList, Builtin.Str.reprChar 39 c = [c] ∧ c ≠ 39 ∧ c ≠ 92
theorem Plain.quote {x : Str} (h : Plain x) : reprQuote x = 39 := by
  unfold reprQuote
  have : x.cps.contains 39 = false := by
    rw [Bool.eq_false_iff]
    intro hc
    have := Array.contains_iff_mem.mp hc
    exact (h 39 (Array.mem_toList_iff.mpr this)).2.1 rfl
  rw [this]
  rfl
theorem Plain.cps {x : Str} (h : Plain x) : cs (.str x) = 39 :: (x.cps.toList ++ [39]) := by
  have e : cs (.str x) = (reprText x).cps.toList := by unfold cs; simp only [PyData.shown]
  rw [e, reprText_cps, h.quote]
  congr 2
  have : ∀ l : List Nat, (∀ c ∈ l, Builtin.Str.reprChar 39 c = [c]) → l.flatMap (Builtin.Str.reprChar 39) = l := by
    intro l
    induction l with
    | nil => intro _; rfl
    | cons c l ih =>
      intro h
      rw [List.flatMap_cons, h c List.mem_cons_self, ih fun d hd => h d (List.mem_cons_of_mem _ hd)]
      rfl
  exact this _ fun c hc => (h c hc).1
/-- y's text, and what follows it, is told by no other -/
def Told (y : D) : Prop := ∀ (x : D) (r r' : List Nat), cs x ++ r = cs y ++ r' → x = y ∧ r = r'
theorem digits_pos (b : Nat) : ∀ (fuel n : Nat) (acc : List Char), acc.length < (Nat.toDigitsCore b (fuel + 1) n acc).length
  | 0, n, acc => by
    unfold Nat.toDigitsCore
    simp only
    split <;> simp [Nat.toDigitsCore]
  | fuel + 1, n, acc => by
    unfold Nat.toDigitsCore
    simp only
    split
    · simp
    · have := digits_pos b fuel (n / b) ((Nat.digitChar (n % b)) :: acc)
      rw [List.length_cons] at this
      omega
theorem int_ne (i : Int) : cs (.int i) ≠ [] := by
  intro h
  have h0 : (PyData.shown (.int i)).length = 0 := by
    show (PyData.shown (.int i)).cps.size = 0
    rw [← Array.length_toList]
    show (cs (.int i)).length = 0
    rw [h]
    rfl
  have e : (PyData.shown (.int i)).length = (toString i).length := by
    simp only [PyData.shown]
    exact PySem.ofString_length _
  rw [e] at h0
  cases i with
  | ofNat n =>
    have h1 : (toString (Int.ofNat n)) = Nat.repr n := rfl
    rw [h1] at h0
    have h2 : (Nat.repr n).length = (Nat.toDigits 10 n).length := by
      unfold Nat.repr
      simp
    rw [h2] at h0
    have := digits_pos 10 n n []
    unfold Nat.toDigits at h0
    simp only [List.length_nil] at this
    omega
  | negSucc n =>
    have h1 : (toString (Int.negSucc n)) = "-" ++ Nat.repr (n + 1) := rfl
    rw [h1] at h0
    have h2 : ("-" ++ Nat.repr (n + 1)).length = 1 + (Nat.repr (n + 1)).length := by
      rw [String.length_append]
      rfl
    omega
/-- what begins a value's text -/
theorem first_of {x : D} {k : Nat} {r t : List Nat} (h : cs x ++ r = k :: t) (hk : k = 39 ∨ k = 40) : (k = 39 ∧ ∃ s, x = .str s ∧ reprQuote s = 39) ∨ (k = 40 ∧ ∃ xs, x = .tuple xs) := by
  cases x with
  | none =>
    have e : cs .none = [78, 111, 110, 101] := by decide +kernel
    rw [e] at h
    cases h
    rcases hk with hk | hk <;> cases hk
  | bool b =>
    cases b with
    | true =>
      have e : cs (.bool true) = [84, 114, 117, 101] := by decide +kernel
      rw [e] at h
      cases h
      rcases hk with hk | hk <;> cases hk
    | false =>
      have e : cs (.bool false) = [70, 97, 108, 115, 101] := by decide +kernel
      rw [e] at h
      cases h
      rcases hk with hk | hk <;> cases hk
  | int i =>
    have hne := int_ne i
    cases e : cs (.int i) with
    | nil => exact absurd e hne
    | cons a l =>
      rw [e] at h
      have ha : a = k := by simpa using congrArg List.head? h
      have hm : k ∈ (PyData.shown (.int i)).cps.toList := by
        show k ∈ cs (.int i)
        rw [e, ha]
        exact List.mem_cons_self
      rcases hk with hk | hk
      · exact absurd hm (by rw [hk]; exact shown_int_free (.inl (by decide)) i)
      · exact absurd hm (by rw [hk]; exact shown_int_free (.inl (by decide)) i)
  | str s =>
    have e : cs (.str s) = (reprText s).cps.toList := by unfold cs; simp only [PyData.shown]
    rw [e, reprText_cps] at h
    have hq : reprQuote s = k := by simpa using congrArg List.head? h
    rcases hk with hk | hk
    · exact .inl ⟨hk, s, rfl, hq.trans hk⟩
    · rw [hk] at hq
      unfold reprQuote at hq
      split at hq <;> cases hq
  | list xs =>
    have e : cs (.list xs) = 91 :: ((Str.join ", " (PyData.shownAll xs)).cps.toList ++ [93]) := by
      unfold cs
      simp only [PyData.shown]
      rw [listText_eq_join]
      have e1 : ∀ a b : Str, (a ++ b).cps.toList = a.cps.toList ++ b.cps.toList := fun a b => Array.toList_append
      rw [e1, e1]
      rfl
    rw [e] at h
    cases h
    rcases hk with hk | hk <;> cases hk
  | tuple xs =>
    have e : ∃ t, cs (.tuple xs) = 40 :: t := by
      unfold cs
      simp only [PyData.shown]
      unfold tupleText
      have e1 : ∀ a b : Str, (a ++ b).cps.toList = a.cps.toList ++ b.cps.toList := fun a b => Array.toList_append
      rw [e1, e1]
      exact ⟨_, rfl⟩
    obtain ⟨t', e⟩ := e
    rw [e] at h
    cases h
    exact .inr ⟨rfl, xs, rfl⟩
  | dict kvs =>
    have e : ∃ t, cs (.dict kvs) = 123 :: t := by
      unfold cs
      simp only [PyData.shown]
      unfold dictText
      have e1 : ∀ a b : Str, (a ++ b).cps.toList = a.cps.toList ++ b.cps.toList := fun a b => Array.toList_append
      rw [e1, e1]
      exact ⟨_, rfl⟩
    obtain ⟨t', e⟩ := e
    rw [e] at h
    cases h
    rcases hk with hk | hk <;> cases hk
theorem str_ext {a b : Str} (h : a.cps.toList = b.cps.toList) : a = b := by
  cases a
  cases b
  congr 1
  exact Array.toList_inj.mp h
theorem told_str {y : Str} (hy : Plain y) : Told (.str y) := by
  intro x r r' h
  rw [hy.cps] at h
  have h0 : cs x ++ r = 39 :: (y.cps.toList ++ [39] ++ r') := h
  rcases first_of h0 (.inl rfl) with ⟨_, s, rfl, hq⟩ | ⟨h1, _⟩
  · have e : cs (.str s) = (reprText s).cps.toList := by unfold cs; simp only [PyData.shown]
    rw [e, reprText_cps, hq] at h0
    have h2 : s.cps.toList.flatMap (Builtin.Str.reprChar 39) ++ [39] ++ r = y.cps.toList ++ [39] ++ r' := List.cons.inj h0 |>.2
    have key : ∀ (l m : List Nat), (∀ c ∈ m, Builtin.Str.reprChar 39 c = [c] ∧ c ≠ 39 ∧ c ≠ 92) → l.flatMap (Builtin.Str.reprChar 39) ++ [39] ++ r = m ++ [39] ++ r' → l = m ∧ r = r' := by
      intro l
      induction l with
      | nil =>
        intro m hm h
        cases m with
        | nil => exact ⟨rfl, by simpa using h⟩
        | cons c m =>
          have : (39 : Nat) = c := by simpa using congrArg List.head? h
          exact absurd this.symm (hm c List.mem_cons_self).2.1
      | cons d l ih =>
        intro m hm h
        rw [List.flatMap_cons] at h
        rcases reprChar_one d with ⟨e1, e2⟩ | ⟨t, e1⟩
        · rw [e1] at h
          cases m with
          | nil =>
            have : d = 39 := by simpa using congrArg List.head? h
            exact absurd this e2
          | cons c m =>
            have h3 : d = c ∧ l.flatMap (Builtin.Str.reprChar 39) ++ [39] ++ r = m ++ [39] ++ r' := by simpa using h
            obtain ⟨rfl, h3⟩ := h3
            obtain ⟨rfl, h4⟩ := ih m (fun c hc => hm c (List.mem_cons_of_mem _ hc)) h3
            exact ⟨rfl, h4⟩
        · rw [e1] at h
          cases m with
          | nil =>
            have : (92 : Nat) = 39 := by simpa using congrArg List.head? h
            cases this
          | cons c m =>
            have : (92 : Nat) = c := by simpa using congrArg List.head? h
            exact absurd this.symm (hm c List.mem_cons_self).2.2
    obtain ⟨h3, h4⟩ := key _ _ hy h2
    rw [str_ext h3]
    exact ⟨rfl, h4⟩
  · cases h1
/-! tuples -/
def joins : List D → List Nat
  | [] => []
  | [x] => cs x
  | x :: y :: r => cs x ++ (44 :: 32 :: joins (y :: r))
theorem cs_tuple (xs : List D) : cs (.tuple xs) = 40 :: (joins xs ++ (if xs.length = 1 then [44, 41] else [41])) := by
  unfold cs
  simp only [PyData.shown]
  unfold tupleText
  have e1 : ∀ a b : Str, (a ++ b).cps.toList = a.cps.toList ++ b.cps.toList := fun a b => Array.toList_append
  have hl : ∀ xs : List D, (PyData.shownAll xs).length = xs.length := by
    intro xs
    induction xs with
    | nil => rfl
    | cons x xs ih => rw [PyData.shownAll, List.length_cons, List.length_cons, ih]
  have hj : ∀ xs : List D, (Str.join ", " (PyData.shownAll xs)).cps.toList = joins xs := by
    intro xs
    induction xs with
    | nil => rfl
    | cons x xs ih =>
      cases xs with
      | nil => rfl
      | cons y r =>
        have e2 : Str.join ", " (PyData.shownAll (x :: y :: r)) = x.shown ++ ", " ++ Str.join ", " (PyData.shownAll (y :: r)) := rfl
        rw [e2, e1, e1, ih]
        show cs x ++ [44, 32] ++ joins (y :: r) = cs x ++ (44 :: 32 :: joins (y :: r))
        simp
  rw [e1, e1, hj, hl]
  have e3 : (("(" : Str)).cps.toList = [40] := rfl
  rw [e3]
  by_cases h : xs.length = 1
  · rw [if_pos (beq_iff_eq.mpr h), if_pos h]
    rfl
  · rw [if_neg (fun z => h (beq_iff_eq.mp z)), if_neg h]
    rfl
theorem told_tail {ys : List D} (hy : ∀ y ∈ ys, Told y) : ∀ (xs : List D) (r r' : List Nat), xs ≠ [] → ys ≠ [] → joins xs ++ (41 :: r) = joins ys ++ (41 :: r') → xs = ys ∧ r = r' := by
  induction ys with
  | nil => intro xs r r' _ h; exact absurd rfl h
  | cons y ys ih =>
    intro xs r r' hx _ h
    cases xs with
    | nil => exact absurd rfl hx
    | cons x xs =>
      have hT := hy y List.mem_cons_self
      cases xs with
      | nil =>
        cases ys with
        | nil =>
          obtain ⟨rfl, e⟩ := hT x _ _ h
          exact ⟨rfl, (List.cons.inj e).2⟩
        | cons y2 ys =>
          have h' : cs x ++ (41 :: r) = cs y ++ (44 :: 32 :: (joins (y2 :: ys) ++ (41 :: r'))) := by simpa [joins] using h
          obtain ⟨_, e⟩ := hT x _ _ h'
          cases (List.cons.inj e).1
      | cons x2 xs =>
        cases ys with
        | nil =>
          have h' : cs x ++ (44 :: 32 :: (joins (x2 :: xs) ++ (41 :: r))) = cs y ++ (41 :: r') := by simpa [joins] using h
          obtain ⟨_, e⟩ := hT x _ _ h'
          cases (List.cons.inj e).1
        | cons y2 ys =>
          have h' : cs x ++ (44 :: 32 :: (joins (x2 :: xs) ++ (41 :: r))) = cs y ++ (44 :: 32 :: (joins (y2 :: ys) ++ (41 :: r'))) := by simpa [joins] using h
          obtain ⟨rfl, e⟩ := hT x _ _ h'
          have e2 := (List.cons.inj (List.cons.inj e).2).2
          obtain ⟨e3, e4⟩ := ih (fun z hz => hy z (List.mem_cons_of_mem _ hz)) (x2 :: xs) r r' (by simp) (by simp) e2
          rw [e3]
          exact ⟨rfl, e4⟩
theorem told_tuple {ys : List D} (hn : ys ≠ []) (hy : ∀ y ∈ ys, Told y) (h41 : ∀ y ∈ ys, ∃ k t, cs y = k :: t ∧ k ≠ 41) : Told (.tuple ys) := by
  intro x r r' h
  rw [cs_tuple] at h
  have h0 : cs x ++ r = 40 :: (joins ys ++ (if ys.length = 1 then [44, 41] else [41]) ++ r') := h
  rcases first_of h0 (.inr rfl) with ⟨h1, _⟩ | ⟨_, xs, rfl⟩
  · cases h1
  rw [cs_tuple] at h0
  have h2 : joins xs ++ (if xs.length = 1 then [44, 41] else [41]) ++ r = joins ys ++ (if ys.length = 1 then [44, 41] else [41]) ++ r' := (List.cons.inj h0).2
  cases ys with
  | nil => exact absurd rfl hn
  | cons y ys =>
    obtain ⟨k, t, ek, hk⟩ := h41 y List.mem_cons_self
    have hT := hy y List.mem_cons_self
    cases xs with
    | nil =>
      have : (41 : Nat) = k := by
        have e := congrArg List.head? h2
        cases ys with
        | nil => simpa [joins, ek] using e
        | cons y2 ys => simpa [joins, ek] using e
      exact absurd this.symm hk
    | cons x xs =>
      cases xs with
      | nil =>
        cases ys with
        | nil =>
          have h' : cs x ++ (44 :: 41 :: r) = cs y ++ (44 :: 41 :: r') := by simpa [joins] using h2
          obtain ⟨rfl, e⟩ := hT x _ _ h'
          exact ⟨rfl, (List.cons.inj (List.cons.inj e).2).2⟩
        | cons y2 ys =>
          have h' : cs x ++ (44 :: 41 :: r) = cs y ++ (44 :: 32 :: (joins (y2 :: ys) ++ (41 :: r'))) := by simpa [joins] using h2
          obtain ⟨_, e⟩ := hT x _ _ h'
          cases (List.cons.inj (List.cons.inj e).2).1
      | cons x2 xs =>
        cases ys with
        | nil =>
          have h' : cs x ++ (44 :: 32 :: (joins (x2 :: xs) ++ (41 :: r))) = cs y ++ (44 :: 41 :: r') := by simpa [joins] using h2
          obtain ⟨_, e⟩ := hT x _ _ h'
          cases (List.cons.inj (List.cons.inj e).2).1
        | cons y2 ys =>
          have h' : joins (x :: x2 :: xs) ++ (41 :: r) = joins (y :: y2 :: ys) ++ (41 :: r') := by simpa using h2
          obtain ⟨e1, e2⟩ := told_tail hy _ _ _ (by simp) (by simp) h'
          rw [e1]
          exact ⟨rfl, e2⟩
theorem Told.inj {x y : D} (h : Told y) (e : x.shown = y.shown) : x = y := (h x [] [] (by unfold cs; rw [e])).1
end DL

/-! ### the jar -/
namespace DL
open PySem PySem.Spec PyProof.Rows L2
def m_jdraw  : M Ctl :=
    (seqM (ifM (truM (bin2 ltG (rdV 1) (cV (.int 2)))) (retM (cV (.int 0))) nxM)
    (seqM (ifM (truMB (bin2B neG (bin2B dictG (rdB 0) (fun _ => some (.str "far"))) (fun _ => some (.list [])))) (seqM (setM 2 (deepM 0 (.inr "far") popG nilB))
    (seqM (ifM (truM (bin2 geG (rdV 2) (rdV 1))) (exprM (deepM 0 (.inr "far") appendG (consB (bin2B fdivG (rdB 2) (rdB 1)) nilB))) nxM)
    (retM (bin2 modG (appM toIntG (consM (rdV 2) nilM)) (rdV 1))))) nxM)
    (seqM (setIxM 0 (fun _ => some (.str "turn")) (bin2 addG (ofB (bin2B dictG (rdB 0) (fun _ => some (.str "turn")))) (cV (.int 1))))
    (seqM (setM 3 (bin2 modG (ofB (appB toIntG (consB (bin2B addG (bin2B dictG (rdB 0) (fun _ => some (.str "stirred"))) (bin2B mulG (bin2B dictG (rdB 0) (fun _ => some (.str "turn"))) (fun _ => some (.int 2654435761)))) nilB))) (cV (.int 4294967291))))
    (seqM (setM 4 (bin2 modG (ofB (appB toIntG (consB (bin2B addG (bin2B addG (bin2B mulG (rdB 3) (rdB 3)) (bin2B mulG (bin2B dictG (rdB 0) (fun _ => some (.str "turn"))) (fun _ => some (.int 362437)))) (fun _ => some (.int 5))) nilB))) (cV (.int 4294967279))))
    (retM (bin2 modG (bin2 fdivG (bin2 modG (appM toIntG (consM (bin2 addG (bin2 mulG (rdV 4) (rdV 4)) (rdV 3)) nilM)) (cV (.int 4294967231))) (cV (.int 4096))) (rdV 1))))))))
def m_jar (c0 : Int) : M (List (D × D)) :=
    (goOn (setsM [1, 2] [.val (lstOf (lcM [3] (iterM (slM (rdV 0) .no (.at (cV (.int 63))))) (tgPut 3) yesM (bin2 addG (bin2 mulG (cV (.int 2)) (appM absG (consM (rdV 3) nilM))) (appM toIntG (consM (bin2 ltG (rdV 3) (cV (.int 0))) nilM))))), .val (bin2 addG (cV (.int c0)) (appM lenG (consM (rdV 0) nilM)))])
    (goOn (forM (iterM (rdV 1)) (tgPut 3) (setM 2 (bin2 modG (appM toIntG (consM (bin2 addG (bin2 addG (bin2 mulG (rdV 2) (cV (.int 48271))) (rdV 3)) (cV (.int 11))) nilM)) (cV (.int 4294967291)))))
    (evE [((.inr "far"), .lst (lcM [3] (iterM (rdV 1)) (tgPut 3) (truM (bin2 geG (rdV 3) (bin2 powG (cV (.int 10)) (cV (.int 15))))) (rdV 3))), ((.inr "stirred"), .val (rdV 2)), ((.inr "turn"), .val (cV (.int 0)))])))
def jars (far : List Int) (s t : Int) : D := .dict [(.str "far", .list (far.map .int)), (.str "stirred", .int s), (.str "turn", .int t)]
def Jar (L : D) : Prop := ∃ (far : List Int) (s t : Int), far.length ≤ 63 ∧ L = jars far s t
theorem j_far (far : List Int) (s t : Int) : dictG (jars far s t) (.str "far") = some (.list (far.map .int)) := rfl
theorem j_stirred (far : List Int) (s t : Int) : dictG (jars far s t) (.str "stirred") = some (.int s) := rfl
theorem j_turn (far : List Int) (s t : Int) : dictG (jars far s t) (.str "turn") = some (.int t) := rfl
theorem js_turn (far : List Int) (s t t' : Int) : setIx (.deep (jars far s t)) (.str "turn") (.int t') = some (.deep (jars far s t')) := rfl
theorem pop_jar {far : List Int} {s t : Int} {r : Rho} (h : far ≠ []) {Q : D → Rho → Prop} (hr : r[0]? = some (.deep (jars far s t)))
    (k : ∀ x, Q (.int x) (r.set 0 (.deep (jars far.dropLast s t)))) : Wp (deepM 0 (.inr "far") popG nilB r) Q := by
  unfold deepM deepL
  rw [hr]
  have e : dget [(PyData.str "far", PyData.list (far.map .int)), (.str "stirred", .int s), (.str "turn", .int t)] (.inr "far") = some (.list (far.map .int)) := rfl
  have hl : far.length - 1 < far.length := Nat.sub_lt (List.length_pos_iff.mpr h) Nat.one_pos
  simp only [jars, e, nilB, List.all_nil, if_true, popG, List.length_map, List.getElem?_map, List.getElem?_eq_getElem hl, Option.map_some]
  have := k (far[far.length - 1]'hl)
  unfold jars at this
  rw [List.map_dropLast] at this
  exact this
theorem push_jar {far : List Int} {s t x : Int} {r : Rho} {f : Rho → Option (List D)} {Q : D → Rho → Prop} (hr : r[0]? = some (.deep (jars far s t))) (hl : far.length < 64) (hf : f r = some [.int x])
    (k : Q .none (r.set 0 (.deep (jars (far ++ [x]) s t)))) : Wp (deepM 0 (.inr "far") appendG f r) Q := by
  unfold deepM deepL
  rw [hr]
  have e : dget [(PyData.str "far", PyData.list (far.map .int)), (.str "stirred", .int s), (.str "turn", .int t)] (.inr "far") = some (.list (far.map .int)) := rfl
  have hs : (far.map PyData.int).length < sizeLine := by
    rw [List.length_map]
    exact Nat.lt_trans hl (by decide)
  simp only [jars, e, hf, List.all_cons, List.all_nil, scal, Bool.and_self, if_true, appendG, hs]
  unfold jars at k
  rw [List.map_append] at k
  exact k

theorem q_modA (i : Int) : modG (.int i) (.int 4294967291) = some (.int (i % 4294967291)) := o_mod' (by decide)
theorem q_modB (i : Int) : modG (.int i) (.int 4294967279) = some (.int (i % 4294967279)) := o_mod' (by decide)
theorem q_modC (i : Int) : modG (.int i) (.int 4294967231) = some (.int (i % 4294967231)) := o_mod' (by decide)
theorem q_mulA (i : Int) : mulG (.int i) (.int 2654435761) = some (.int (i * 2654435761)) := o_mul' (.inr (by decide))
theorem q_mulB (i : Int) : mulG (.int i) (.int 362437) = some (.int (i * 362437)) := o_mul' (.inr (by decide))
theorem q_mulC (i : Int) : mulG (.int (i % 4294967291)) (.int (i % 4294967291)) = some (.int ((i % 4294967291) * (i % 4294967291))) := o_mul' (.inl (emod_small _ _ (by decide) (by decide)))
theorem q_mulD (i : Int) : mulG (.int (i % 4294967279)) (.int (i % 4294967279)) = some (.int ((i % 4294967279) * (i % 4294967279))) := o_mul' (.inl (emod_small _ _ (by decide) (by decide)))
theorem q_fdivA (i : Int) : fdivG (.int i) (.int 4096) = some (.int (i / 4096)) := o_fdiv' (by decide) (by decide)
theorem jdraw_draws : Draws Jar (bodyF0 5 m_jdraw) drawPre drawPost := by
  rintro L ds ⟨far, s, t, hf, rfl⟩ ⟨n, rfl, hn⟩
  have fin : ∀ (q : Int) (far : List Int) (t : Int), far.length ≤ 63 → 0 < n → Jar (jars far s t) ∧ drawPost [.int n] (.int (q % n)) := fun q far t h hn =>
        ⟨⟨far, s, t, h, rfl⟩, _, rfl, Int.emod_nonneg _ (by omega), fun m hm h => by
          cases hm
          exact Int.emod_lt_of_pos _ h⟩
  unfold m_jdraw
  simp_arith []
  by_cases h2 : n < 2
  · simp_arith [h2]
    exact ⟨⟨far, s, t, hf, rfl⟩, 0, rfl, by omega, fun n _ h => h⟩
  have hn0 : 0 < n := by omega
  simp_arith [h2, j_far, ne_nil_ints]
  by_cases hx : far = []
  · subst hx
    simp_arith [List.isEmpty_nil, j_turn, j_stirred, js_turn, q_modA, q_modB, q_modC, q_mulA, q_mulB, q_mulC, q_mulD, q_fdivA, o_mod_n hn0]
    exact fin _ [] (t + 1) (by simp) hn0
  · have hx' : far.isEmpty = false := by cases far with | nil => exact absurd rfl hx | cons _ _ => rfl
    simp_arith [hx']
    refine pop_jar hx rfl fun x => ?_
    have hl : far.dropLast.length ≤ 63 := by rw [List.length_dropLast]; omega
    simp_arith []
    by_cases h3 : n ≤ x
    · simp_arith [h3]
      refine push_jar (x := x / n) rfl (by rw [List.length_dropLast]; omega) ?_ ?_
      · simp [consB, bin2B, rdB, nilB, intG, hn0, hn]
      simp_arith [o_mod_n hn0]
      have hl2 : (far.dropLast ++ [x / n]).length ≤ 63 := by
        have := List.length_pos_iff.mpr hx
        simp only [List.length_append, List.length_dropLast, List.length_cons, List.length_nil]; omega
      exact fin x (far.dropLast ++ [x / n]) t hl2 hn0
    · simp_arith [h3, o_mod_n hn0]
      exact fin x far.dropLast t hl hn0
theorem jpick_draws : Draws Jar (bodyF0 2 (m_pick (bodyF0 5 m_jdraw))) pickPre pickPost := by
  rintro L ds hL ⟨d, rfl, h1, h2⟩
  unfold m_pick
  simp_arith []
  refine call_d1 jdraw_draws rfl ?_
  simp_arith [len_parts h1 h2]
  refine ⟨hL, ⟨_, rfl, Int.lt_of_le_of_lt (Int.ofNat_le.mpr h2) (by decide)⟩, fun z L2 hL2 ⟨k, hz, k0, k1⟩ => ?_⟩
  subst hz
  obtain ⟨z, e, m⟩ := ix_parts h2 k0 (k1 _ rfl (by omega))
  simp_arith [e]
  exact ⟨hL2, fun d' h => by cases h; exact m⟩
theorem jar_wp (c0 : Int) (ns : List Int) (h : ns.length ≤ 63) : Wp (m_jar c0 [.fz (.list (ns.map .int)), .emp, .emp, .emp]) fun kvs _ => Jar (.dict kvs) := by
  have h63 : (63 : Nat) ≤ sizeLine := by decide
  unfold m_jar
  rw [wp_goOn]
  simp_arith []
  refine wp_lc (fun r => ∃ s, light s = true ∧ r = [.fz (.list (ns.map .int)), .emp, .emp, s]) (fun y => ∃ i : Int, y = .int i) (fun r ⟨s, hs, e⟩ => by subst e; simp [okW, hs]) ?_
  simp_arith []
  rw [cut63 _ (by rw [List.length_map]; exact h)]
  refine ⟨by rw [List.length_map]; omega, ⟨.emp, rfl, rfl⟩, ?_, ?_⟩
  · rintro d hd r ⟨s, hs, rfl⟩
    obtain ⟨i, _, rfl⟩ := List.mem_map.mp hd
    simp_arith [wR, o_mul2]
    exact ⟨⟨_, rfl⟩, _, rfl, rfl⟩
  rintro ys r1 hl hP ⟨s, hs, rfl⟩
  obtain ⟨is, rfl⟩ := ints_of hP
  rw [List.length_map, List.length_map] at hl
  have h2 : (2 : Nat) ≤ sizeLine := by decide
  simp_arith [wR, bkR, Option.getD, h2, and_self]
  rw [wp_goOn]
  simp_arith []
  refine (wp_loop_inv (fun r => ∃ (i : Int) (s : Sl), light s = true ∧ r = [.fz (.list (ns.map .int)), .fz (.list (is.map .int)), .fz (.int i), s]) ⟨_, .emp, rfl, rfl⟩ ?_).mono ?_
  · rintro d hd r ⟨i, s, hs, rfl⟩
    obtain ⟨j, _, rfl⟩ := List.mem_map.mp hd
    simp_arith [pt_light hs, o_mulM, o_modE]
    exact ⟨_, _, rfl, rfl⟩
  rintro c r ⟨rfl, i, s, hs, rfl⟩
  show Wp (evE _ _) _
  unfold evE
  rw [wp_bind]
  refine wp_lcf (fun r => ∃ s, light s = true ∧ r = [.fz (.list (ns.map .int)), .fz (.list (is.map .int)), .fz (.int i), s]) (fun y => ∃ i : Int, y = .int i) (fun r ⟨s, hs, e⟩ => by subst e; simp [okW, hs]) ?_
  simp_arith []
  refine ⟨by rw [List.length_map]; omega, ⟨s, hs, rfl⟩, ?_, ?_⟩
  · rintro d hd r ⟨s, hs, rfl⟩
    obtain ⟨j, _, rfl⟩ := List.mem_map.mp hd
    simp_arith [wR, o_pow15]
    split
    · exact ⟨⟨_, rfl⟩, _, rfl, rfl⟩
    · exact ⟨_, rfl, rfl⟩
  rintro ys r1 hl2 hP ⟨s, hs, rfl⟩
  obtain ⟨far, rfl⟩ := ints_of hP
  rw [List.length_map, List.length_map] at hl2
  simp_arith [wR, bkR, Option.getD, evE, wp_bind, isL, if_true]
  exact ⟨far, i, 0, by omega, rfl⟩

end DL

namespace DL
open PySem PySem.Spec PyProof.Rows L2
/-- a loop told by what is left to be done -/
theorem wp_loop_rest {t : D → M Ctl} {b : M Ctl} (I : List D → Rho → Prop) (hs : ∀ d ds r, I (d :: ds) r → Wp (t d r) fun _ r1 => Wp (b r1) fun c r2 => c = .nx ∧ I ds r2) : ∀ {ds : List D} {r : Rho}, I ds r → Wp (loopM t b ds r) fun c r => c = .nx ∧ I [] r
  | [], r, h => ⟨rfl, h⟩
  | d :: ds, r, h => by
    unfold loopM
    rw [wp_bind]
    refine (hs d ds r h).mono fun _ r1 h1 => ?_
    rw [wp_bind]
    refine h1.mono fun c r2 ⟨h2, h3⟩ => ?_
    subst h2
    exact wp_loop_rest I hs h3
/-- a list of the items for which p holds, each by itself, whatever is written -/
theorem wp_collx {own : List Nat} {t : D → M Ctl} {c : M Bool} {e : M D} (I : Rho → Prop) (p : D → Bool) (g : D → D) (hI : ∀ r, I r → okW own r = true) : ∀ {ds : List D} {r : Rho}, I r →
    (∀ d ∈ ds, ∀ r, I r → Wp (t d (wR r own)) fun _ r1 => Wp (c r1) fun k r2 => k = p d ∧ I r2 ∧ (p d = true → Wp (e r2) fun y r3 => y = g d ∧ I r3)) →
    Wp (collM own t c e ds r) fun ys r1 => ys = (ds.filter p).map g ∧ I r1
  | [], r, h, _ => ⟨rfl, h⟩
  | d :: ds, r, h, k => by
    unfold collM
    rw [if_pos (hI r h), wp_bind]
    refine (k d List.mem_cons_self r h).mono fun _ r1 h1 => ?_
    obtain ⟨b, r2, e1, hb, h2, h3⟩ := h1.ok
    rw [e1, nE_ok, Res.ok_bind, hb]
    cases hp : p d with
    | true =>
      rw [if_pos rfl]
      obtain ⟨y, r3, e2, hy, h4⟩ := (h3 hp).ok
      rw [e2, nE_ok, Res.ok_bind, wp_bind]
      refine (wp_collx I p g hI h4 fun x hx => k x (List.mem_cons_of_mem _ hx)).mono fun ys r4 ⟨q1, q2⟩ => ⟨?_, q2⟩
      rw [List.filter_cons, if_pos hp, List.map_cons, hy, q1]
    | false =>
      rw [if_neg (by simp)]
      refine (wp_collx I p g hI h2 fun x hx => k x (List.mem_cons_of_mem _ hx)).mono fun ys r4 ⟨q1, q2⟩ => ⟨?_, q2⟩
      rw [List.filter_cons, if_neg (by rw [hp]; simp), q1]
theorem wp_lcx {own : List Nat} {f : M (List D)} {t : D → M Ctl} {c : M Bool} {e : M D} {r : Rho} {Q : List D → Rho → Prop} (I : Rho → Prop) (p : D → Bool) (g : D → D) (hI : ∀ r, I r → okW own r = true)
    (hf : Wp (f r) fun ds r0 => ds.length ≤ sizeLine ∧ I r0 ∧ (∀ d ∈ ds, ∀ r, I r → Wp (t d (wR r own)) fun _ r1 => Wp (c r1) fun k r2 => k = p d ∧ I r2 ∧ (p d = true → Wp (e r2) fun y r3 => y = g d ∧ I r3)) ∧
      ∀ r1, I r1 → Q ((ds.filter p).map g) (bkR r0 (wR r1 own) own)) : Wp (lcM own f t c e r) Q := by
  unfold lcM
  rw [wp_bind]
  refine hf.mono fun ds r0 ⟨h1, h2, h3, k⟩ => ?_
  rw [if_pos ⟨hI _ h2, h1⟩, wp_bind]
  refine (wp_collx I p g hI h2 h3).mono fun ys r1 ⟨q1, q3⟩ => ?_
  rw [if_pos (hI _ q3), q1]
  exact k r1 q3
theorem at_2 {α : Type} (x y z : α) (xs : List α) : atI (x :: y :: z :: xs) 2 = some z := by
  unfold atI ixN
  rw [if_pos (by omega), if_pos (by simp only [List.length_cons]; omega)]
  rfl
theorem k_zipM {fl : M (List D)} {QL : List D → Rho → Prop} {r : Rho} : Wp (zipM fl r) QL ↔ Wp (fl r) (AppK zipG QL) := by
  unfold zipM
  rw [wp_bind]
  refine Iff.of_eq (congrArg _ (funext fun c => funext fun r1 => ?_))
  exact propext (wp_optW _)
theorem zip_t (ds es : List D) : zipG [.tuple ds, .tuple es] = some (List.zipWith (fun x y => .tuple [x, y]) ds es) := rfl
theorem wp_mkM' {i : Nat} {G : FnD} {f : M D} {r : Rho} {Q : Ctl → Rho → Prop} (h : Wp (f r) fun d r1 => Wp (G [.fz d]) fun kvs _ => ∃ s, r1[i]? = some s ∧ light s = true ∧ Q .nx (r1.set i (.deep (.dict kvs)))) : Wp (mkM i G [.val f] r) Q := by
  unfold mkM
  simp only [wp_bind, evA, wp_ok, refs]
  refine h.mono fun d r1 h1 => ?_
  obtain ⟨kvs, r2, e, s, h2, h3, h4⟩ := h1.ok
  simp only [e, h2, h3, if_true]
  exact h4
theorem wp_seq_of {f g : M Ctl} {r : Rho} {Q : Ctl → Rho → Prop} (h : Wp (f r) fun c r1 => c = .nx ∧ Wp (g r1) Q) : Wp (seqM f g r) Q := by
  rw [wp_seqM]
  refine h.mono fun c r1 ⟨hc, h1⟩ => ?_
  subst hc
  exact h1
end DL
namespace K03
open PySem PySem.Spec PyProof.Rows L2 DL
theorem call_eq {G : Fn} {x : List Sl} {d : D} (h : Wp (G x) fun a _ => a = d) : ans (G x) = some d := ans_of_wp h
def within (d : D) (a b : Int) : Bool := match d with
  | .int i => decide (a ≤ i) && decide (i ≤ b)
  | _ => false
def signsIn (x : Str) (signs : Str) : Bool := x.cps.toList.all fun c => decide (c ∈ signs.cps.toList)
def madeOf (d : D) (signs : Str) (a b : Int) : Bool := match d with
  | .str x => decide (a ≤ x.length) && decide ((x.length : Int) ≤ b) && signsIn x signs
  | _ => false
def chr (signs : Str) (d : D) : Bool := match d with
  | .str y => (match y.cps.toList with | [c] => decide (c ∈ signs.cps.toList) | _ => false)
  | _ => false
theorem in_chr {c : Nat} (signs : Str) : inG (sgn c) (.str signs) = some (.bool (chr signs (sgn c))) := rfl
theorem bools_map {α : Type} (f : α → Bool) : ∀ xs : List α, bools (xs.map fun x => PyData.bool (f x)) = some (xs.map f)
  | [] => rfl
  | x :: xs => by
    simp only [List.map_cons, bools, bools_map f xs]
    rfl
def Sma (d : D) : Prop := d.weight ≤ sizeLine
theorem Sma.str {x : Str} (h : Sma (.str x)) : x.length ≤ sizeLine := by
  have : PyData.weight (.str x) ≤ sizeLine := h
  simp only [PyData.weight] at this
  exact this
theorem len_str {x : Str} (h : x.length ≤ sizeLine) : lenG [.str x] = some (.int x.length) := by
  show (if x.length ≤ sizeLine then some (PyData.int x.length) else none) = _
  rw [if_pos h]
theorem in_strs (d : D) {ks : List D} (h : isStrs ks = true) : inG d (.tuple ks) = some (.bool (inS d ks)) := by
  show (inB d ks).map PyData.bool = _
  unfold inB
  rw [if_pos h]
  rfl
theorem in_strsL (d : D) {ks : List D} (h : isStrs ks = true) : inG d (.list ks) = some (.bool (inS d ks)) := in_strs d h
def valB (k d : D) : Bool := bif eqS "number" k then within d (-1000000000000) 1000000000000 else madeOf d "abcdefghijklmnopqrstuvwxyz0123456789 " 0 12
theorem weight_mem {x : D} : ∀ {xs : List D}, x ∈ xs → x.weight ≤ PyData.weightAll xs
  | y :: ys, h => by
    rw [PyData.weightAll]
    rcases List.mem_cons.mp h with rfl | h
    · omega
    · have := weight_mem h
      omega
theorem Sma.mem {x : D} {xs : List D} (h : Sma (.tuple xs)) (m : x ∈ xs) : Sma x := by
  have h' : PyData.weightAll xs ≤ sizeLine := by
    have : PyData.weight (.tuple xs) ≤ sizeLine := h
    simp only [PyData.weight] at this
    exact this
  exact Nat.le_trans (weight_mem m) h'
theorem enum_mem {ds : List D} {e : D} (h : e ∈ enumL ds) : ∃ (k : Nat) (x : D), e = .tuple [.int k, x] ∧ ds[k]? = some x := by
  obtain ⟨⟨x, k⟩, hp, rfl⟩ := List.mem_map.mp h
  refine ⟨k, x, rfl, ?_⟩
  have := List.mem_zipIdx_iff_getElem?.mp hp
  simpa using this
theorem isStrs_of : ∀ {xs : List D}, (∀ x ∈ xs, ∃ s, x = .str s) → isStrs xs = true
  | [], _ => rfl
  | x :: xs, h => by
    obtain ⟨s, rfl⟩ := h _ List.mem_cons_self
    exact isStrs_of (xs := xs) fun x hx => h x (List.mem_cons_of_mem _ hx)
def Strs (xs : List D) : Prop := ∀ x ∈ xs, ∃ s, x = PyData.str s
theorem len_le_weight : ∀ xs : List D, xs.length ≤ PyData.weightAll xs
  | [] => Nat.zero_le _
  | x :: xs => by
    have := len_le_weight xs
    rw [PyData.weightAll, List.length_cons]
    omega
theorem Sma.len {xs : List D} (h : Sma (.tuple xs)) : xs.length ≤ sizeLine := by
  have : PyData.weight (.tuple xs) ≤ sizeLine := h
  simp only [PyData.weight] at this
  exact Nat.le_trans (len_le_weight xs) this
theorem mem_of_get {ds : List D} {k : Nat} {x : D} (h : ds[k]? = some x) : x ∈ ds := List.mem_of_getElem? h
theorem two_line : (2 : Nat) ≤ sizeLine := by decide
def kw3 : Str := (("and append as ask back by change count distinct down drop else first from greatest group having if into" : Str) ++ (" join keep least less make mark meet not number numbered on or order pairs put room running select" : Str)) ++ (" strike sum text then to up values where with within without" : Str)
def kws : List Str := List.map Str.ofString ["and", "append", "as", "ask", "back", "by", "change", "count", "distinct", "down", "drop", "else", "first", "from", "greatest", "group", "having", "if", "into", "join", "keep", "least", "less", "make", "mark", "meet", "not", "number", "numbered", "on", "or", "order", "pairs", "put", "room", "running", "select", "strike", "sum", "text", "then", "to", "up", "values", "where", "with", "within", "without"]
theorem kw_split : Txt.split kw3 " " = kws := by decide +kernel
theorem add_str {x y : Str} (h : x.length + y.length ≤ sizeLine) : addG (.str x) (.str y) = some (.str (x ++ y)) := by rw [o_addS, if_pos h]
theorem e__law_keys : ans (G__law_keys []) = some (.tuple (kws.map .str)) := by
  refine call_eq ?_
  unfold G__law_keys m__law_keys
  simp_arith []
  rw [add_str (by decide +kernel)]
  simp_arith []
  rw [add_str (by decide +kernel)]
  simp_arith []
  refine ⟨by decide +kernel, ?_⟩
  rw [← kw_split]
  rfl
theorem eq_nil_ints (is : List Int) : eqG (.list (is.map PyData.int)) (.list []) = some (.bool is.isEmpty) := by
  unfold eqG
  have : SeqAt.shaped (.list []) = true := by decide
  simp only [shaped_ints, this, and_self, if_true]
  cases is <;> simp [PyData.eqv, PyData.eqvAll]
/-- the ones of the signs that are not told -/
theorem ones_map {ds : List D} (p : D → Bool) : (ds.filter p).map (fun _ => PyData.int 1) = ((ds.filter p).map fun _ => (1 : Int)).map PyData.int := by
  rw [List.map_map]
  rfl
theorem not_signs (x signs : Str) : (((x.cps.toList.map sgn).filter fun d => !chr signs d).map fun _ => (1 : Int)).isEmpty = signsIn x signs := by
  unfold signsIn
  induction x.cps.toList with
  | nil => rfl
  | cons c cs ih =>
    rw [List.map_cons, List.filter_cons, List.all_cons, ← ih]
    have e : chr signs (sgn c) = decide (c ∈ signs.cps.toList) := rfl
    rw [e]
    cases decide (c ∈ signs.cps.toList) <;> simp
theorem o_pow12 : powG (.int 10) (.int 12) = some (.int 1000000000000) := rfl
theorem abs_in (i : Int) : decide ((if i < 0 then -i else i) ≤ 1000000000000) = (decide (-1000000000000 ≤ i) && decide (i ≤ 1000000000000)) := by
  rw [Bool.eq_iff_iff]
  simp only [Bool.and_eq_true, decide_eq_true_eq]
  split <;> omega
theorem getD_mem {xs : List D} {i : Nat} (h : i < xs.length) : xs.getD i .none ∈ xs := by
  rw [List.getD_eq_getElem?_getD, List.getElem?_eq_getElem h]
  exact List.getElem_mem h
theorem at_getD {xs : List D} {i : Nat} (h : i < xs.length) : atI xs ((0 : Int) + (i : Nat)) = some (xs.getD i .none) := by
  rw [Int.zero_add, List.getD_eq_getElem?_getD, List.getElem?_eq_getElem h]
  exact atI_nat (List.getElem?_eq_getElem h)
theorem mem_range0 {n : Nat} {d : D} (h : d ∈ rangeL 0 n) : ∃ i : Nat, i < n ∧ d = .int (0 + (i : Nat)) := by
  obtain ⟨i, hi, rfl⟩ := List.mem_map.mp h
  exact ⟨i, List.mem_range.mp hi, rfl⟩
theorem range1_ok {n : Nat} (h : n ≤ sizeLine) : rng [.int (n : Nat)] = some (rangeL 0 n) := by
  rw [← rng_eq]
  have hs : sizeLine = 16777216 := by decide
  have h2 : (2 : Int) ^ 62 = 4611686018427387904 := by decide
  rw [hs] at h
  have e : range1 [.int (n : Nat)] = if -(2 ^ 62) ≤ (n : Int) ∧ (n : Int) < 2 ^ 62 then some (rangeL 0 (n : Int).toNat) else none := rfl
  rw [e, h2, if_pos ⟨by omega, by omega⟩, Int.toNat_natCast]
theorem ne_int (i j : Int) : neG (.int i) (.int j) = some (.bool (!(i == j))) := o_neI i j
end K03

namespace K03
open PySem PySem.Spec PyProof.Rows L2 DL
inductive Kd where | n | t | b
deriving DecidableEq
def kdD : Kd → D
  | .n => .str "number"
  | .t => .str "text"
  | .b => .str "truth"
theorem kd_str (k : Kd) : ∃ s, kdD k = .str s ∧ s = (match k with | .n => ("number" : Str) | .t => "text" | .b => "truth") := by cases k <;> exact ⟨_, rfl, rfl⟩
theorem kd_eqv (a b : Kd) : PyData.eqv (kdD a) (kdD b) = decide (a = b) := by cases a <;> cases b <;> decide +kernel
theorem beq_c (a b : Str) : (a == b) = (b == a) := by
  rw [Bool.eq_iff_iff, beq_iff_eq, beq_iff_eq]
  exact eq_comm
theorem b_kd : PyData.str "truth" = kdD .b := rfl
theorem eq_kd (a b : Kd) : eqG (kdD a) (kdD b) = some (.bool (decide (a = b))) := by
  cases a <;> cases b <;> exact (o_eqS _ _).trans (congrArg (fun q => some (PyData.bool q)) (by decide +kernel))
theorem eqS_w (a w : Str) : eqS a (.str w) = (w == a) := beq_c a w
abbrev Cl := List (Str × Kd)
def cD (c : Str × Kd) : D := .tuple [.str c.1, kdD c.2]
def colsD (cl : Cl) : D := .tuple (cl.map cD)
def txtB (x : D) : Bool := madeOf x "abcdefghijklmnopqrstuvwxyz0123456789 " 0 12
def numB (x : D) : Bool := within x (-1000000000000) 1000000000000
def colR (cl : Cl) : D → Except Str Kd
  | .str s => match cl.find? fun c => c.1 == s with
    | some c => .ok c.2
    | none => .error "name"
  | _ => .error "name"
theorem add_tup {x y : List D} (h : x.length + y.length ≤ sizeLine) : addG (.tuple x) (.tuple y) = some (.tuple (x ++ y)) := by rw [o_addT, if_pos h]
theorem add_lst {x y : List D} (h : x.length + y.length ≤ sizeLine) : addG (.list x) (.list y) = some (.list (x ++ y)) := by rw [o_addL, if_pos h]
def smB (j w : Nat) (d : D) : Bool := d.showable && d.leavesShort 40 && decide (d.depth ≤ j) && decide (d.weight ≤ w)
theorem sm_ofB {j w : Nat} {d : D} (h : smB j w d = true) : Sm j w d := by
  unfold smB at h
  simp only [Bool.and_eq_true, decide_eq_true_eq] at h
  exact ⟨h.1.1.1, h.1.1.2, h.1.2, h.2⟩
theorem pair_sm {j w : Nat} {a b : D} (ha : Sm j w a) (hb : Sm j w b) : Sm (j + 1) (2 * (w + 1)) (.tuple [a, b]) := Sm.tupn (fun x hx => by
  simp only [List.mem_cons, List.not_mem_nil, or_false] at hx
  rcases hx with rfl | rfl
  · exact ha
  · exact hb) (Nat.le_refl _)
end K03

namespace DL
open PySem PySem.Spec PyProof.Rows L2
/-- a list made turn by turn, each item told by its own -/
theorem wp_collr {own : List Nat} {t : D → M Ctl} {c : M Bool} {e : M D} (I : Rho → Prop) (R : D → D → Prop) (hI : ∀ r, I r → okW own r = true) : ∀ {ds : List D} {r : Rho}, I r →
    (∀ d ∈ ds, ∀ r, I r → Wp (t d (wR r own)) fun _ r1 => Wp (c r1) fun k r2 => k = true ∧ Wp (e r2) fun y r3 => R d y ∧ I r3) →
    Wp (collM own t c e ds r) fun ys r1 => ys.length = ds.length ∧ (∀ (i : Nat) (y : D), ys[i]? = some y → ∃ d, ds[i]? = some d ∧ R d y) ∧ I r1
  | [], r, h, _ => ⟨rfl, (fun i y h => by simp at h), h⟩
  | d :: ds, r, h, k => by
    unfold collM
    rw [if_pos (hI r h), wp_bind]
    refine (k d List.mem_cons_self r h).mono fun _ r1 h1 => ?_
    obtain ⟨b, r2, e1, rfl, h2⟩ := h1.ok
    rw [e1, nE_ok, Res.ok_bind, if_pos rfl]
    obtain ⟨y, r3, e2, h3, h4⟩ := h2.ok
    rw [e2, nE_ok, Res.ok_bind, wp_bind]
    refine (wp_collr I R hI h4 fun x hx => k x (List.mem_cons_of_mem _ hx)).mono fun ys r4 ⟨q1, q2, q3⟩ => ?_
    refine ⟨by rw [List.length_cons, List.length_cons, q1], fun i z hz => ?_, q3⟩
    cases i with
    | zero =>
      cases hz
      exact ⟨d, rfl, h3⟩
    | succ i =>
      rw [List.getElem?_cons_succ] at hz ⊢
      exact q2 i z hz
theorem wp_lcr {own : List Nat} {f : M (List D)} {t : D → M Ctl} {c : M Bool} {e : M D} {r : Rho} {Q : List D → Rho → Prop} (I : Rho → Prop) (R : D → D → Prop) (hI : ∀ r, I r → okW own r = true)
    (hf : Wp (f r) fun ds r0 => ds.length ≤ sizeLine ∧ I r0 ∧ (∀ d ∈ ds, ∀ r, I r → Wp (t d (wR r own)) fun _ r1 => Wp (c r1) fun k r2 => k = true ∧ Wp (e r2) fun y r3 => R d y ∧ I r3) ∧
      ∀ ys r1, ys.length = ds.length → (∀ (i : Nat) (y : D), ys[i]? = some y → ∃ d, ds[i]? = some d ∧ R d y) → I r1 → Q ys (bkR r0 (wR r1 own) own)) : Wp (lcM own f t c e r) Q := by
  unfold lcM
  rw [wp_bind]
  refine hf.mono fun ds r0 ⟨h1, h2, h3, k⟩ => ?_
  rw [if_pos ⟨hI _ h2, h1⟩, wp_bind]
  refine (wp_collr I R hI h2 h3).mono fun ys r1 ⟨q1, q2, q3⟩ => ?_
  rw [if_pos (hI _ q3)]
  exact k ys r1 q1 q2 q3
end DL
namespace K03
open PySem PySem.Spec PyProof.Rows L2 DL
/-! ### what is drawn -/
theorem g_draw : Draws Loom G__law_draw drawPre drawPost := draw_draws
theorem g_pick : Draws Loom G__law_pick pickPre pickPost := pick_draws
theorem pre_draw {n : Int} (h : n < 1073741824) : drawPre [.int n] := ⟨n, rfl, h⟩
/-- a draw's answer -/
theorem post_draw {n : Int} {z : D} (h : drawPost [.int n] z) : ∃ k : Nat, z = .int (k : Nat) ∧ (0 < n → (k : Int) < n) := by
  obtain ⟨k, rfl, h0, h1⟩ := h
  obtain ⟨j, rfl⟩ := Int.eq_ofNat_of_zero_le h0
  exact ⟨j, rfl, fun h => h1 n rfl h⟩
theorem pre_list {ds : List D} (h : 0 < ds.length) (h2 : ds.length ≤ sizeLine) : pickPre [.list ds] := ⟨_, rfl, h, h2⟩
theorem abc_ok : ∀ c ∈ (("abcdefghijklmnopqrstuvwxyz" : Str)).cps.toList, c < 1000 := by decide +kernel
theorem pick_abc {z : D} (h : pickPost [.str "abcdefghijklmnopqrstuvwxyz"] z) : SS 1 z := ss_sgn abc_ok (h _ rfl)
theorem rangeL_len (n : Nat) : (rangeL 0 n).length = n := by unfold rangeL; rw [List.length_map, List.length_range]
def lastC (x : Str) : Option Nat := x.cps.toList.getLast?
def namePre (ds : List D) : Prop := ∃ c, ds = [sgn c] ∧ c < 1000 ∧ c ≠ 10
def namePost (ds : List D) (z : D) : Prop := ∃ c x, ds = [sgn c] ∧ z = .str x ∧ SS 8 z ∧ lastC x = some c ∧ 10 ∉ x.cps.toList
theorem last_add (y : Str) (c : Nat) : lastC (y ++ ⟨#[c]⟩) = some c := by
  have e : (y ++ (⟨#[c]⟩ : Str)).cps.toList = y.cps.toList ++ [c] := by
    have : (y ++ (⟨#[c]⟩ : Str)).cps = y.cps ++ #[c] := rfl
    rw [this, Array.toList_append]
  unfold lastC
  rw [e, List.getLast?_concat]
theorem last_q {y : Str} {c : Nat} (h : lastC y = some c) : lastC (("q" : Str) ++ y) = some c := by
  have e : (("q" : Str) ++ y).cps.toList = ("q" : Str).cps.toList ++ y.cps.toList := by
    have : (("q" : Str) ++ y).cps = ("q" : Str).cps ++ y.cps := rfl
    rw [this, Array.toList_append]
  unfold lastC at h ⊢
  rw [e, List.getLast?_append, h]
  rfl
theorem last_cut {x : Str} {c : Nat} (h : lastC x = some c) : lastC (L2.cutS x (some (-7)) none) = some c := by
  obtain ⟨⟨xs⟩⟩ := x
  unfold lastC at h ⊢
  unfold L2.cutS
  have e : HT.sIx (Str.length ⟨⟨xs⟩⟩) 0 (some (-7)) = ((-7 : Int) + ((Str.length ⟨⟨xs⟩⟩ : Nat) : Int)).toNat := rfl
  have e2 : HT.sIx (Str.length ⟨⟨xs⟩⟩) (Str.length ⟨⟨xs⟩⟩) none = Str.length ⟨⟨xs⟩⟩ := rfl
  have el : Str.length ⟨⟨xs⟩⟩ = xs.length := rfl
  rw [e, e2, el]
  show (List.take _ (List.drop _ xs)).getLast? = _
  have h' : xs.getLast? = some c := h
  have hpos : 0 < xs.length := by
    cases xs with
    | nil => cases h'
    | cons _ _ => rw [List.length_cons]; omega
  rw [List.take_of_length_le (by rw [List.length_drop]; omega), List.getLast?_drop, if_neg (by omega), h']
theorem txtsIn_l (ds : List D) : txtsIn (.list ds) = txts ds := rfl
theorem ss_add {n m : Nat} {a b : D} (h : SS n a) (h' : SS m b) (hl : n + m ≤ 1000) : ∃ z, addG a b = some z ∧ SS (n + m) z := by
  obtain ⟨x, rfl, hx⟩ := h
  obtain ⟨y, rfl, hy⟩ := h'
  have : (1000 : Nat) ≤ sizeLine := by decide
  exact ⟨_, add_str (by omega), SS.append ⟨x, rfl, hx⟩ ⟨y, rfl, hy⟩⟩
theorem ss_cut {n : Nat} {a : D} (h : SS n a) (hn : n ≤ 1000) (lo hi : Option Int) : ∃ z, slD a lo hi = some z ∧ SS n z := by
  obtain ⟨x, rfl, hx⟩ := h
  have : (1000 : Nat) ≤ sizeLine := by decide
  refine ⟨.str (L2.cutS x lo hi), ?_, SS.cut ⟨x, rfl, hx⟩ lo hi⟩
  show (if x.length ≤ sizeLine then some (PyData.str (L2.cutS x lo hi)) else none) = _
  rw [if_pos (by omega)]
theorem cut_len7 (xs : List Nat) : (L2.cutS ⟨xs.toArray⟩ none (some 7)).length ≤ 7 := by
  unfold L2.cutS
  show ((List.take _ _).toArray).size ≤ 7
  rw [List.size_toArray, List.length_take]
  have : HT.sIx (Str.length ⟨xs.toArray⟩) (Str.length ⟨xs.toArray⟩) (some 7) ≤ 7 := by
    show min (7 : Int).toNat _ ≤ 7
    exact Nat.min_le_left _ _
  omega
theorem ss_cut7 {n : Nat} {a : D} (h : SS n a) (hn : n ≤ 1000) : ∃ z, slD a none (some 7) = some z ∧ SS 7 z := by
  obtain ⟨z, e, hz⟩ := ss_cut h hn none (some 7)
  obtain ⟨x, rfl, hx⟩ := h
  have e1 : slD (.str x) none (some 7) = some (.str (L2.cutS x none (some 7))) := by
    have : (1000 : Nat) ≤ sizeLine := by decide
    show (if x.length ≤ sizeLine then some (PyData.str (L2.cutS x none (some 7))) else none) = _
    rw [if_pos (by omega)]
  rw [e1] at e
  cases e
  obtain ⟨_, e2, _, hc⟩ := hz
  cases e2
  exact ⟨_, e1, _, rfl, cut_len7 x.cps.toList, hc⟩
theorem cut_lenm7 (xs : List Nat) : (L2.cutS ⟨xs.toArray⟩ (some (-7)) none).length ≤ 7 := by
  unfold L2.cutS
  show ((List.take _ _).toArray).size ≤ 7
  rw [List.size_toArray, List.length_take]
  have e : HT.sIx (Str.length ⟨xs.toArray⟩) 0 (some (-7)) = ((-7 : Int) + ((Str.length ⟨xs.toArray⟩ : Nat) : Int)).toNat := rfl
  have e2 : HT.sIx (Str.length ⟨xs.toArray⟩) (Str.length ⟨xs.toArray⟩) none = Str.length ⟨xs.toArray⟩ := rfl
  rw [e, e2]
  omega
theorem ss_cutm7 {n : Nat} {a : D} (h : SS n a) (hn : n ≤ 1000) : ∃ z, slD a (some (-7)) none = some z ∧ SS 7 z := by
  obtain ⟨z, e, hz⟩ := ss_cut h hn (some (-7)) none
  obtain ⟨x, rfl, hx⟩ := h
  have e1 : slD (.str x) (some (-7)) none = some (.str (L2.cutS x (some (-7)) none)) := by
    have : (1000 : Nat) ≤ sizeLine := by decide
    show (if x.length ≤ sizeLine then some (PyData.str (L2.cutS x (some (-7)) none)) else none) = _
    rw [if_pos (by omega)]
  rw [e1] at e
  cases e
  obtain ⟨_, e2, _, hc⟩ := hz
  cases e2
  exact ⟨_, e1, _, rfl, cut_lenm7 x.cps.toList, hc⟩
theorem ss_q : SS 1 (.str "q") := ⟨_, rfl, by decide +kernel, by decide +kernel⟩
/-- the slots of a function while a list is made: the loom, what stays, one that is written -/
theorem join_step {n : Nat} {ys : List D} (h : ∀ y ∈ ys, SS 1 y) (hl : ys.length ≤ n) (hn : n ≤ 1000) : ∃ ts, txts ys = some ts ∧ joinOk "" ts = true ∧ SS n (.str (Txt.join "" ts)) := by
  obtain ⟨ts, e, l, hs⟩ := txts_ss h
  obtain ⟨a, b⟩ := join_ss hs (l ▸ hl) hn
  exact ⟨ts, e, a, b⟩
theorem int_toNat (k : Nat) : ((k : Int)).toNat = k := Int.toNat_natCast k
theorem kw_in (d : D) : inG d (.tuple (kws.map .str)) = some (.bool (inS d (kws.map .str))) := in_strs d rfl
theorem join_in {S : List Nat} : ∀ (ts : List Str), (∀ t ∈ ts, ∀ c ∈ t.cps.toList, c ∈ S) → ∀ c ∈ (Str.join "" ts).cps.toList, c ∈ S
  | [], h, c, hc => by cases hc
  | [x], h, c, hc => h x List.mem_cons_self c hc
  | x :: y :: r, h, c, hc => by
    have hc' : c ∈ (x ++ ("" : Str) ++ Str.join "" (y :: r)).cps.toList := hc
    have e : (x ++ ("" : Str) ++ Str.join "" (y :: r)).cps = x.cps ++ ("" : Str).cps ++ (Str.join "" (y :: r)).cps := rfl
    rw [e, Array.toList_append, Array.toList_append] at hc'
    rcases List.mem_append.mp hc' with h1 | h1
    · rcases List.mem_append.mp h1 with h2 | h2
      · exact h x List.mem_cons_self c h2
      · cases h2
    · exact join_in (y :: r) (fun t ht => h t (List.mem_cons_of_mem _ ht)) c h1
theorem txts_in {S : List Nat} : ∀ {ys : List D} {ts : List Str}, (∀ y ∈ ys, y ∈ S.map sgn) → txts ys = some ts → ∀ t ∈ ts, ∀ c ∈ t.cps.toList, c ∈ S
  | [], ts, _, e, t, ht, _, _ => by cases e; cases ht
  | y :: ys, ts, h, e, t, ht, c, hc => by
    obtain ⟨s, hs, rfl⟩ := List.mem_map.mp (h y List.mem_cons_self)
    have e' : (txts ys).map (⟨#[s]⟩ :: ·) = some ts := e
    cases h2 : txts ys with
    | none => rw [h2] at e'; cases e'
    | some us =>
      rw [h2] at e'
      cases e'
      rcases List.mem_cons.mp ht with rfl | ht
      · have : c ∈ [s] := hc
        rw [List.mem_singleton.mp this]
        exact hs
      · exact txts_in (fun z hz => h z (List.mem_cons_of_mem _ hz)) h2 t ht c hc
theorem cut_in {x : Str} {lo hi : Option Int} {c : Nat} (h : c ∈ (_root_.L2.cutS x lo hi).cps.toList) : c ∈ x.cps.toList := List.mem_of_mem_drop (List.mem_of_mem_take h)
theorem abc_10 : 10 ∉ ("abcdefghijklmnopqrstuvwxyz" : Str).cps.toList := by decide +kernel
theorem g_name : Draws Loom G__law_name namePre namePost := by
  rintro L ds hL ⟨sg, rfl, hsg, h10⟩
  have hd : SS 1 (sgn sg) := SS.one hsg
  generalize ed : sgn sg = d at hd
  unfold G__law_name m__law_name
  rw [rng_eq]
  simp_arith []
  refine call_d1 g_draw rfl ?_
  refine call_d1 g_pick rfl ?_
  simp_arith []
  refine ⟨hL, pre_list (by decide) (by decide), fun z L2 hL2 hz => ?_⟩
  have hz' : z ∈ [PyData.int 1, .int 2, .int 4, .int 8] := hz _ rfl
  have hi : ∃ n : Int, z = .int n ∧ 0 < n ∧ n ≤ 8 := by
    simp only [List.mem_cons, List.not_mem_nil, or_false] at hz'
    rcases hz' with rfl | rfl | rfl | rfl <;> exact ⟨_, rfl, by decide, by decide⟩
  obtain ⟨n, rfl, h0, h8⟩ := hi
  refine ⟨hL2, pre_draw (by omega), fun z L3 hL3 hz => ?_⟩
  obtain ⟨k, rfl, hk⟩ := post_draw hz
  have hk8 : k < 8 := by have := hk h0; omega
  refine wp_lc (fun r => ∃ L s, Loom L ∧ light s = true ∧ r = [.deep L, .fz d, .fz (.int (k : Nat)), .emp, s]) (fun y => y ∈ ("abcdefghijklmnopqrstuvwxyz" : Str).cps.toList.map sgn) (fun r ⟨L, s, _, hs, e⟩ => by subst e; simp [okW, hs]) ?_
  simp_arith [range1_ok (show k ≤ sizeLine from Nat.le_trans (Nat.le_of_lt hk8) (by decide)), rangeL_len]
  refine ⟨Nat.le_trans (Nat.le_of_lt hk8) (by decide), ⟨L3, .emp, hL3, rfl, rfl⟩, ?_, ?_⟩
  · rintro e he r ⟨L, s, hL, hs, rfl⟩
    simp_arith [wR]
    refine call_d1 g_pick rfl ?_
    simp_arith []
    refine ⟨hL, ⟨_, rfl, by decide +kernel, by decide +kernel⟩, fun z L2 hL2 hz => ⟨hz _ rfl, L2, _, hL2, rfl, rfl⟩⟩
  rintro ys r1 hl hP ⟨L4, s, hL4, hs, rfl⟩
  obtain ⟨ts, e1, e2, e3⟩ := join_step (fun y hy => ss_sgn abc_ok (hP y hy)) (Nat.le_of_eq hl) (by omega)
  obtain ⟨z, e4, h4⟩ := ss_cut7 e3 (by omega)
  obtain ⟨y4, rfl, hy4⟩ := id h4
  have n4 : 10 ∉ y4.cps.toList := fun m => by
    have j5 := join_in ts (txts_in hP e1)
    rw [← show Txt.join "" ts = Str.join "" ts from StrLaws.glued_eq_join _ _] at j5
    obtain ⟨_, ee, hl3, _⟩ := id e3
    cases ee
    have hs : (1000 : Nat) ≤ sizeLine := by decide
    have h : slD (.str (Txt.join "" ts)) none (some 7) = some (.str (_root_.L2.cutS (Txt.join "" ts) none (some 7))) := if_pos (by omega)
    rw [h] at e4
    cases e4
    exact abc_10 (j5 10 (cut_in m))
  have n5 : 10 ∉ (y4 ++ ⟨#[sg]⟩ : Str).cps.toList := fun m => by
    have e : (y4 ++ (⟨#[sg]⟩ : Str)).cps.toList = y4.cps.toList ++ [sg] := by
      have : (y4 ++ (⟨#[sg]⟩ : Str)).cps = y4.cps ++ #[sg] := rfl
      rw [this, Array.toList_append]
    rw [e] at m
    rcases List.mem_append.mp m with m | m
    · exact n4 m
    · exact h10 (List.mem_singleton.mp m).symm
  obtain ⟨z5, e5, h5⟩ := ss_add h4 hd (by omega)
  have ez : z5 = .str (y4 ++ ⟨#[sg]⟩) := by
    have hz : addG (.str y4) (sgn sg) = some (.str (y4 ++ ⟨#[sg]⟩)) := add_str (by
      have : (1000 : Nat) ≤ sizeLine := by decide
      have h1 : (⟨#[sg]⟩ : Str).length = 1 := rfl
      have := hy4.1
      omega)
    rw [ed, e5] at hz
    exact Option.some.inj hz
  simp_arith [wR, bkR, Option.getD, txtsIn_l, e1, e2, e4, e5, e__law_keys, kw_in]
  cases inS z5 (kws.map .str)
  · simp_arith []
    subst ez
    exact ⟨hL4, sg, _, by rw [ed], rfl, h5.mono (by omega), last_add _ _, n5⟩
  · simp_arith []
    subst ez
    obtain ⟨z6, e6, h6⟩ := ss_cutm7 h5 (by omega)
    have ez6 : z6 = .str (_root_.L2.cutS (y4 ++ ⟨#[sg]⟩) (some (-7)) none) := by
      obtain ⟨x, e, hx⟩ := h5
      cases e
      have : (1000 : Nat) ≤ sizeLine := by decide
      have h : slD (.str (y4 ++ ⟨#[sg]⟩)) (some (-7)) none = some (.str (_root_.L2.cutS (y4 ++ ⟨#[sg]⟩) (some (-7)) none)) := if_pos (by omega)
      rw [h] at e6
      exact (Option.some.inj e6).symm
    obtain ⟨z7, e7, h7⟩ := ss_add ss_q h6 (by omega)
    simp_arith [e6, e7]
    have h6' := h6
    subst ez6
    have ez7 : z7 = .str (("q" : Str) ++ _root_.L2.cutS (y4 ++ ⟨#[sg]⟩) (some (-7)) none) := by
      obtain ⟨x, e, hx⟩ := h6
      cases e
      have : (1000 : Nat) ≤ sizeLine := by decide
      have hz : addG (.str "q") (.str (_root_.L2.cutS (y4 ++ ⟨#[sg]⟩) (some (-7)) none)) = some (.str (("q" : Str) ++ _root_.L2.cutS (y4 ++ ⟨#[sg]⟩) (some (-7)) none)) := add_str (by
        have h1 : ("q" : Str).length = 1 := by decide +kernel
        omega)
      rw [hz] at e7
      exact (Option.some.inj e7).symm
    refine ⟨hL4, sg, _, by rw [ed], ez7, h7.mono (by omega), last_q (last_cut (last_add _ _)), fun m => ?_⟩
    have e : ∀ y : Str, (("q" : Str) ++ y).cps.toList = ("q" : Str).cps.toList ++ y.cps.toList := fun y => by
      have : (("q" : Str) ++ y).cps = ("q" : Str).cps ++ y.cps := rfl
      rw [this, Array.toList_append]
    rw [e] at m
    rcases List.mem_append.mp m with m | m
    · exact (show 10 ∉ ("q" : Str).cps.toList by decide +kernel) m
    · exact n5 (cut_in m)
theorem pick_kinds {z : D} (h : pickPost [.list [.str "number", .str "text"]] z) : ∃ k : Kd, z = kdD k ∧ k ≠ .b := by
  have hz' : z ∈ [PyData.str "number", .str "text"] := h _ rfl
  simp only [List.mem_cons, List.not_mem_nil, or_false] at hz'
  rcases hz' with rfl | rfl
  · exact ⟨.n, rfl, by decide⟩
  · exact ⟨.t, rfl, by decide⟩
def Cp (d c : D) : Prop := ∃ (i : Nat) (a : Str) (k : Kd), d = .int (0 + (i : Nat)) ∧ c = cD (a, k) ∧ SS 8 (.str a) ∧ (k ≠ .b ∧ 10 ∉ a.cps.toList) ∧ lastC a = some (97 + i)
def columnsPre (ds : List D) : Prop := ∃ n : Nat, ds = [.int (n : Nat)] ∧ n ≤ 8
def colsOk (cl : Cl) : Prop := cl.length ≤ 8 ∧ ∀ c ∈ cl, SS 8 (.str c.1) ∧ c.2 ≠ .b ∧ 10 ∉ c.1.cps.toList ∧ 1 ≤ c.1.length
def columnsPost (ds : List D) (z : D) : Prop := ∃ (n : Nat) (cl : Cl), ds = [.int (n : Nat)] ∧ z = colsD cl ∧ cl.length = n ∧ colsOk cl
theorem abc8 : ∀ i : Nat, i < 8 → ixG (.str "abcdefgh") (.int (0 + (i : Nat))) = some (sgn (97 + i))
  | 0, _ => rfl
  | 1, _ => rfl
  | 2, _ => rfl
  | 3, _ => rfl
  | 4, _ => rfl
  | 5, _ => rfl
  | 6, _ => rfl
  | 7, _ => rfl
  | n + 8, h => absurd h (by omega)
theorem uq_of : ∀ (cl : Cl) (o : Nat), (∀ (i : Nat) (c : Str × Kd), cl[i]? = some c → lastC c.1 = some (o + i)) → ∀ c ∈ cl, cl.find? (fun x => x.1 == c.1) = some c
  | [], _, _, _, h => nomatch h
  | x :: cl, o, hl, c, h => by
    have hx : lastC x.1 = some o := hl 0 x rfl
    have ht : ∀ (i : Nat) (c : Str × Kd), cl[i]? = some c → lastC c.1 = some (o + 1 + i) := fun i c hc => by
      have := hl (i + 1) c (by rw [List.getElem?_cons_succ]; exact hc)
      rw [this, show o + (i + 1) = o + 1 + i by omega]
    rcases List.mem_cons.mp h with rfl | h
    · rw [List.find?_cons, beq_self_eq_true]
    · obtain ⟨j, hj⟩ := List.mem_iff_getElem?.mp h
      have hc := ht j c hj
      have hne : (x.1 == c.1) = false := by
        rw [beq_eq_false_iff_ne]
        intro e
        rw [e, hc] at hx
        have := Option.some.inj hx
        omega
      rw [List.find?_cons, hne]
      exact uq_of cl (o + 1) ht c h
theorem cps_of {n : Nat} : ∀ {ys : List D} (o : Nat), (∀ (i : Nat) (y : D), ys[i]? = some y → ∃ d, (rangeL (0 + (o : Nat)) n)[i]? = some d ∧ Cp d y) → ∃ cl : Cl, ys = cl.map cD ∧ (∀ c ∈ cl, SS 8 (.str c.1) ∧ (c.2 ≠ .b ∧ 10 ∉ c.1.cps.toList)) ∧ ∀ (i : Nat) (c : Str × Kd), cl[i]? = some c → lastC c.1 = some (97 + (o + i)) := by
  intro ys o h
  have h1 : ∀ (i : Nat) (y : D), ys[i]? = some y → ∃ (a : Str) (k : Kd), y = cD (a, k) ∧ SS 8 (.str a) ∧ (k ≠ .b ∧ 10 ∉ a.cps.toList) ∧ lastC a = some (97 + (o + i)) := fun i y hy => by
    obtain ⟨d, hd, j, a, k, e1, e2, e3, e4, e5⟩ := h i y hy
    refine ⟨a, k, e2, e3, e4, ?_⟩
    subst e1
    unfold rangeL at hd
    rw [List.getElem?_map, Option.map_eq_some_iff] at hd
    obtain ⟨m, hm, e⟩ := hd
    have hm2 := List.getElem?_eq_some_iff.mp hm
    obtain ⟨_, hm3⟩ := hm2
    rw [List.getElem_range] at hm3
    have e' : (0 + (o : Nat) + (m : Nat) : Int) = 0 + (j : Nat) := by injection e
    rw [e5, show 97 + j = 97 + (o + i) by omega]
  clear h
  induction ys generalizing o with
  | nil => exact ⟨[], rfl, (fun _ h => nomatch h), fun i c h => by simp at h⟩
  | cons y ys ih =>
    obtain ⟨a, k, e, hs, hk, hl⟩ := h1 0 y rfl
    obtain ⟨cl, e2, hc, hcl⟩ := ih (o + 1) fun i z hz => by
      obtain ⟨a, k, e, hs, hk, hl⟩ := h1 (i + 1) z (by rw [List.getElem?_cons_succ]; exact hz)
      exact ⟨a, k, e, hs, hk, by rw [hl, show o + (i + 1) = o + 1 + i by omega]⟩
    refine ⟨(a, k) :: cl, by rw [e, e2]; rfl, fun c hm => ?_, fun i c hi => ?_⟩
    · rcases List.mem_cons.mp hm with rfl | hm
      · exact ⟨hs, hk⟩
      · exact hc c hm
    · cases i with
      | zero => cases hi; exact hl
      | succ i =>
        rw [List.getElem?_cons_succ] at hi
        rw [hcl i c hi, show o + 1 + i = o + (i + 1) by omega]
theorem g_columns : Draws Loom G__law_columns columnsPre columnsPost := by
  rintro L ds hL ⟨n, rfl, hn⟩
  unfold G__law_columns m__law_columns
  rw [rng_eq]
  simp_arith []
  refine wp_lcr (fun r => ∃ L s, Loom L ∧ light s = true ∧ r = [.deep L, .fz (.int (n : Nat)), s]) Cp (fun r ⟨L, s, _, hs, e⟩ => by subst e; simp [okW, hs]) ?_
  have hns : n ≤ sizeLine := Nat.le_trans hn (by decide)
  simp_arith [range1_ok hns, rangeL_len]
  refine ⟨hns, ⟨L, .emp, hL, rfl, rfl⟩, ?_, ?_⟩
  · rintro e he r ⟨L, s, hL, hs, rfl⟩
    obtain ⟨i, hi, rfl⟩ := mem_range0 he
    simp_arith [wR]
    refine call_d1 g_name rfl ?_
    simp_arith [abc8 i (by omega)]
    refine ⟨hL, ⟨_, rfl, by omega, by omega⟩, fun a L2 hL2 ha => ?_⟩
    refine call_d1 g_pick rfl ?_
    simp_arith []
    refine ⟨hL2, pre_list (by decide) (by decide), fun b L3 hL3 hb => ?_⟩
    obtain ⟨k, rfl, hk⟩ := pick_kinds hb
    obtain ⟨c, x, ec, rfl, h8, hlast, hn10⟩ := ha
    have ec' : 97 + i = c := by
      have : sgn (97 + i) = sgn c := by injection ec
      unfold sgn at this
      injection this with h1
      injection h1 with h2
      have := congrArg Array.toList h2
      simpa using this
    exact ⟨⟨i, x, k, rfl, rfl, h8, ⟨hk, hn10⟩, by rw [hlast, ec']⟩, L3, _, hL3, rfl, rfl⟩
  rintro ys r1 hl hP ⟨L4, s, hL4, hs, rfl⟩
  simp_arith [wR, bkR, Option.getD]
  obtain ⟨cl, rfl, hc, hlast⟩ := cps_of (n := n) 0 hP
  rw [List.length_map] at hl
  refine ⟨hL4, n, cl, rfl, rfl, by omega, by omega, fun c hm => ⟨(hc c hm).1, (hc c hm).2.1, (hc c hm).2.2, ?_⟩⟩
  obtain ⟨i, hi⟩ := List.getElem?_of_mem hm
  have hla := hlast i c hi
  have hl : c.1.length = c.1.cps.toList.length := by simp [Str.length]
  rw [hl]
  cases he : c.1.cps.toList with
  | nil => unfold lastC at hla; rw [he] at hla; cases hla
  | cons _ _ => simp
/-! ### values -/
def Vk : Kd → D → Prop
  | .n, z => ∃ i : Int, z = .int i ∧ i.natAbs ≤ 1000000000000
  | .t, z => ∃ x : Str, z = .str x ∧ txtB z = true ∧ SS 12 z
  | .b, _ => False
def valuePre (ds : List D) : Prop := ∃ k, ds = [kdD k] ∧ k ≠ .b
def valuePost (ds : List D) (z : D) : Prop := ∃ k, ds = [kdD k] ∧ Vk k z
theorem eqS_num (k : Kd) : eqS ("number" : Str) (kdD k) = decide (k = .n) := by cases k <;> decide +kernel
theorem o_pow6 : powG (.int 10) (.int 6) = some (.int 1000000) := rfl
theorem o_mul2M : mulG (.int 2) (.int 1000000) = some (.int 2000000) := rfl
theorem rep8 (x : D) : mulG (.list [x]) (.int 8) = some (.list [x, x, x, x, x, x, x, x]) := rfl
/-- signs of one kind, joined -/
theorem abz_txt {x : Str} (h : ∀ c ∈ x.cps.toList, c ∈ ("abz09 " : Str).cps.toList) (hl : x.length ≤ 12) : txtB (.str x) = true := by
  unfold txtB madeOf
  simp only [Bool.and_eq_true, decide_eq_true_eq]
  refine ⟨⟨by omega, by omega⟩, ?_⟩
  unfold signsIn
  rw [List.all_eq_true]
  intro c hc
  have h1 : ∀ c ∈ ("abz09 " : Str).cps.toList, decide (c ∈ ("abcdefghijklmnopqrstuvwxyz0123456789 " : Str).cps.toList) = true := by decide +kernel
  exact h1 c (h c hc)
theorem vk_int {i : Int} (h : i.natAbs ≤ 1000000000000) : Vk .n (.int i) := ⟨i, rfl, h⟩
theorem g_value : Draws Loom G__law_value valuePre valuePost := by
  rintro L ds hL ⟨k, rfl, hkb⟩
  unfold G__law_value m__law_value
  rw [rng_eq]
  simp_arith [eqS_num]
  by_cases hkn : k = .n
  · subst hkn
    simp_arith [o_pow12, o_pow6, o_mul2M]
    refine call_d1 g_draw rfl ?_
    simp_arith [o_pow6, o_mul2M]
    refine ⟨hL, pre_draw (by decide), fun z L2 hL2 hz => ?_⟩
    obtain ⟨k, rfl, hk⟩ := post_draw hz
    have hk' := hk (by decide)
    simp_arith [o_pow6]
    refine call_d1 g_pick rfl ?_
    simp_arith []
    refine call_d1 g_draw rfl ?_
    simp_arith []
    refine ⟨hL2, pre_draw (by decide), fun z L3 hL3 hz => ?_⟩
    obtain ⟨j, rfl, hj⟩ := post_draw hz
    have hj' := hj (by decide)
    simp_arith [rep8, o_addL]
    rw [if_pos (by decide)]
    simp_arith []
    refine ⟨hL3, pre_list (by simp) (by simp only [List.length_append, List.length_cons, List.length_nil]; decide), fun z L4 hL4 hz => ⟨hL4, .n, rfl, ?_⟩⟩
    have hz' := hz _ rfl
    simp only [parts, List.cons_append, List.nil_append, List.mem_cons, List.not_mem_nil, or_false, or_self] at hz'
    rcases hz' with rfl | rfl | rfl | rfl | rfl | rfl | rfl | rfl | rfl | rfl | rfl
    · exact vk_int (by decide)
    · exact vk_int (by decide)
    · exact vk_int (by decide)
    · exact vk_int (by decide)
    · exact vk_int (by decide)
    · exact vk_int (by decide)
    · exact vk_int (by decide)
    · exact vk_int (by decide)
    · exact vk_int (by decide)
    · exact vk_int (by omega)
    · exact vk_int (by omega)
  · have hkt : k = .t := by cases k <;> first | exact absurd rfl hkb | exact absurd rfl hkn | rfl
    subst hkt
    simp_arith [hkn]
    refine call_d1 g_pick rfl ?_
    simp_arith []
    refine ⟨hL, pre_list (by decide) (by decide), fun z L2 hL2 hz => ?_⟩
    have hz' : z ∈ [PyData.int 0, .int 1, .int 1, .int 2, .int 3, .int 5, .int 12] := hz _ rfl
    have hi : ∃ k : Nat, z = .int (k : Nat) ∧ k ≤ 12 := by
      simp only [List.mem_cons, List.not_mem_nil, or_false] at hz'
      rcases hz' with rfl | rfl | rfl | rfl | rfl | rfl | rfl
      · exact ⟨0, rfl, by decide⟩
      · exact ⟨1, rfl, by decide⟩
      · exact ⟨1, rfl, by decide⟩
      · exact ⟨2, rfl, by decide⟩
      · exact ⟨3, rfl, by decide⟩
      · exact ⟨5, rfl, by decide⟩
      · exact ⟨12, rfl, by decide⟩
    obtain ⟨k, rfl, hk⟩ := hi
    have hks : k ≤ sizeLine := Nat.le_trans hk (by decide)
    refine wp_lc (fun r => ∃ L s, Loom L ∧ light s = true ∧ r = [.deep L, .fz (kdD .t), .emp, .fz (.int (k : Nat)), s]) (fun y => y ∈ ("abz09 " : Str).cps.toList.map sgn) (fun r ⟨L, s, _, hs, e⟩ => by subst e; simp [okW, hs]) ?_
    simp_arith [range1_ok hks, rangeL_len]
    refine ⟨hks, ⟨L2, .emp, hL2, rfl, rfl⟩, ?_, ?_⟩
    · rintro e he r ⟨L, s, hL, hs, rfl⟩
      simp_arith [wR]
      refine call_d1 g_pick rfl ?_
      simp_arith []
      exact ⟨hL, ⟨_, rfl, by decide +kernel, by decide +kernel⟩, fun z L2 hL2 hz => ⟨hz _ rfl, L2, _, hL2, rfl, rfl⟩⟩
    rintro ys r1 hl hP ⟨L4, s, hL4, hs, rfl⟩
    obtain ⟨ts, e1, e2, e3⟩ := join_step (fun y hy => ss_sgn (x := "abz09 ") (by decide +kernel) (hP y hy)) (Nat.le_of_eq hl) (by omega)
    have e4 := txts_in hP e1
    have e5 := join_in ts e4
    rw [← show Txt.join "" ts = Str.join "" ts from StrLaws.glued_eq_join _ _] at e5
    simp_arith [wR, bkR, Option.getD, txtsIn_l, e1, e2]
    obtain ⟨_, ee, hlen, hcc⟩ := id e3
    cases ee
    exact ⟨hL4, .t, rfl, _, rfl, abz_txt e5 (by omega), e3.mono hk⟩
end K03

namespace DL
open PySem PySem.Spec PyProof.Rows L2
theorem wp_loop_range {t : D → M Ctl} {b : M Ctl} {n : Nat} (I : Nat → Rho → Prop) (hs : ∀ i r, i < n → I i r → Wp (t (.int (i : Nat)) r) fun _ r1 => Wp (b r1) fun c r2 => c = .nx ∧ I (i + 1) r2) {r : Rho} (h : I 0 r) : Wp (loopM t b (rangeL 0 n) r) fun c r => c = .nx ∧ I n r := by
  have e : rangeL 0 n = (List.range n).map fun i => PyData.int (i : Nat) := by
    unfold rangeL
    exact List.map_congr_left fun i _ => by rw [Int.zero_add]
  rw [e]
  refine (wp_loop_rest (fun rest r => ∃ i, i ≤ n ∧ rest = ((List.range n).drop i).map (fun i => PyData.int (i : Nat)) ∧ I i r) ?_ ⟨0, Nat.zero_le _, by rw [List.drop_zero], h⟩).mono ?_
  · rintro d ds r ⟨i, hi, e, hI⟩
    by_cases hlt : i < n
    · rw [List.drop_eq_getElem_cons (by rw [List.length_range]; exact hlt), List.getElem_range, List.map_cons, List.cons.injEq] at e
      obtain ⟨rfl, rfl⟩ := e
      exact (hs i r hlt hI).mono fun _ r1 h1 => h1.mono fun c r2 ⟨h2, h3⟩ => ⟨h2, i + 1, hlt, rfl, h3⟩
    · rw [List.drop_eq_nil_of_le (by rw [List.length_range]; omega)] at e
      cases e
  · rintro c r ⟨rfl, i, hi, e, hI⟩
    have : i = n := by
      have := congrArg List.length e
      simp at this
      omega
    subst this
    exact ⟨rfl, hI⟩
end DL
namespace K03
open PySem PySem.Spec PyProof.Rows L2 DL
/-! ### texts -/
def fill (c n : Nat) : Str := ⟨Array.replicate n c⟩
theorem fill_len (c n : Nat) : (fill c n).length = n := Array.size_replicate
theorem fill_list (c n : Nat) : (fill c n).cps.toList = List.replicate n c := Array.toList_replicate
theorem app_list (x y : Str) : (x ++ y).cps.toList = x.cps.toList ++ y.cps.toList := by
  have : (x ++ y).cps = x.cps ++ y.cps := rfl
  rw [this, Array.toList_append]
theorem str_ext {x y : Str} (h : x.cps.toList = y.cps.toList) : x = y := by
  obtain ⟨⟨a⟩⟩ := x
  obtain ⟨⟨b⟩⟩ := y
  have : a = b := h
  rw [this]
theorem len_list (x : Str) : x.length = x.cps.toList.length := by simp [Str.length]
def padR (k : Kd) (w : Nat) (x : Str) : Str := match k with
  | .n => fill 32 (w - x.length) ++ x
  | _ => x ++ fill 32 (w - x.length)
theorem rj_eq (x : Str) (w : Nat) : Txt.rjust x (w : Nat) = padR .n w x := by
  unfold Txt.rjust
  apply str_ext
  show _ = (fill 32 (w - x.length) ++ x).cps.toList
  rw [app_list, fill_list]
  split
  · have : w - x.length = 0 := by omega
    rw [this]
    rfl
  · show (Array.replicate _ 32 ++ x.cps ++ Array.replicate 0 32).toList = _
    rw [Array.toList_append, Array.toList_append, Array.toList_replicate, Array.toList_replicate, Int.toNat_natCast]
    simp
theorem lj_eq (x : Str) (w : Nat) (k : Kd) (hk : k ≠ .n) : Txt.ljust x (w : Nat) = padR k w x := by
  have e : padR k w x = x ++ fill 32 (w - x.length) := by cases k <;> first | exact absurd rfl hk | rfl
  rw [e]
  unfold Txt.ljust
  apply str_ext
  rw [app_list, fill_list]
  split
  · have : w - x.length = 0 := by omega
    rw [this]
    simp
  · show (Array.replicate 0 32 ++ x.cps ++ Array.replicate _ 32).toList = _
    rw [Array.toList_append, Array.toList_append, Array.toList_replicate, Array.toList_replicate, Int.toNat_natCast]
    simp
theorem foldl_rep (c : Nat) : ∀ (n : Nat) (a : Array Nat), ((List.replicate n (#[c] : Array Nat)).foldl (· ++ ·) a).toList = a.toList ++ List.replicate n c
  | 0, a => by simp
  | n + 1, a => by
    rw [List.replicate_succ, List.foldl_cons, foldl_rep c n, Array.toList_append, List.append_assoc]
    congr 1
theorem mul_one (c n : Nat) (hn : n ≤ 100000) : mulG (.str ⟨#[c]⟩) (.int (n : Nat)) = some (.str (fill c n)) := by
  have h1 : (⟨#[c]⟩ : Str).length = 1 := rfl
  have e : mulG (.str ⟨#[c]⟩) (.int (n : Nat)) = some (.str (repS ⟨#[c]⟩ (n : Nat))) := if_pos ⟨by omega, by omega, by rw [h1]; decide⟩
  rw [e]
  congr 2
  apply str_ext
  rw [fill_list]
  unfold repS
  by_cases h0 : n = 0
  · subst h0
    rfl
  · rw [if_neg (by omega)]
    by_cases h1 : n = 1
    · subst h1
      rfl
    · have hb : (((n : Nat) : Int) == 1 || (⟨#[c]⟩ : Str).length == 0) = false := by
        rw [Bool.or_eq_false_iff]
        refine ⟨by rw [beq_eq_false_iff_ne]; omega, by rw [‹(⟨#[c]⟩ : Str).length = 1›]; rfl⟩
      rw [hb, if_neg (by simp), Int.toNat_natCast]
      show ((List.replicate n (#[c] : Array Nat)).foldl (· ++ ·) #[]).toList = _
      rw [foldl_rep]
      rfl
/-- without the blanks at its end -/
def trail (x : Str) : Nat := (x.cps.toList.reverse.takeWhile (· == 32)).length
def bare (x : Str) : Str := ⟨(x.cps.toList.take (x.length - trail x)).toArray⟩
theorem trail_le (x : Str) : trail x ≤ x.length := by
  have h := (List.takeWhile_prefix (l := x.cps.toList.reverse) (fun c => c == 32)).length_le
  rw [List.length_reverse] at h
  rw [len_list]
  exact h
theorem contains_blank : ((" " : Str).cps.contains : Nat → Bool) = fun c => c == 32 := by
  funext c
  have h : (" " : Str).cps = #[32] := by decide +kernel
  rw [h]
  simp [Array.contains]
theorem rs_eq (x : Str) : Txt.rstripChars x " " = bare x := by
  unfold Txt.rstripChars
  rw [contains_blank]
  have hlo : stripLo (fun c => c == 32) false x = 0 := rfl
  have hhi : stripHi (fun c => c == 32) true x 0 = x.length - trail x := by
    unfold stripHi trail
    rw [if_pos rfl, List.drop_zero]
  have hb : (bare x).cps.toList = x.cps.toList.take (x.length - trail x) := rfl
  unfold Txt.stripBy stripSame
  rw [hlo, hhi]
  split
  · rename_i h
    simp only [Bool.and_eq_true, beq_iff_eq] at h
    apply str_ext
    rw [hb, h.2, len_list, List.take_length]
  · unfold stripped
    rw [hlo, hhi]
    apply str_ext
    rw [hb]
    unfold Builtin.Str.strSub
    simp
theorem trail_at {x : Str} {t : Nat} (ht : t < x.length) (htt : t ≤ trail x) : (x.cps.toList[x.length - t - 1]? = some 32 ↔ t < trail x) := by
  have hl := len_list x
  have hr : x.cps.toList[x.length - t - 1]? = x.cps.toList.reverse[t]? := by
    rw [List.getElem?_reverse (by omega), hl]
    congr 1
    omega
  rw [hr]
  have hspl := List.takeWhile_append_dropWhile (p := fun c : Nat => c == 32) (l := x.cps.toList.reverse)
  by_cases h : t < trail x
  · simp only [h, iff_true]
    have h1 : x.cps.toList.reverse[t]? = (x.cps.toList.reverse.takeWhile (fun c => c == 32))[t]? := by
      conv => lhs; rw [← hspl]
      exact List.getElem?_append_left h
    rw [h1, List.getElem?_eq_getElem h]
    have h2 := List.all_eq_true.mp (List.all_takeWhile (p := fun c : Nat => c == 32) (l := x.cps.toList.reverse)) _ (List.getElem_mem h)
    simp only [beq_iff_eq] at h2
    rw [h2]
  · simp only [h, iff_false]
    have ht' : t = trail x := by omega
    have h1 : x.cps.toList.reverse[t]? = (x.cps.toList.reverse.dropWhile (fun c => c == 32))[0]? := by
      conv => lhs; rw [← hspl]
      rw [List.getElem?_append_right (by unfold trail at ht'; omega)]
      congr 1
      unfold trail at ht'
      omega
    rw [h1]
    intro h2
    cases hd : x.cps.toList.reverse.dropWhile (fun c => c == 32) with
    | nil => rw [hd] at h2; cases h2
    | cons c cs =>
      rw [hd] at h2
      have h3 : c = 32 := by simpa using h2
      have h4 := List.head_dropWhile_not (fun c : Nat => c == 32) (l := x.cps.toList.reverse) (by rw [hd]; simp)
      simp only [hd, List.head_cons] at h4
      rw [h3] at h4
      simp at h4
theorem ix_str {x : Str} {i c : Nat} (hl : x.length ≤ sizeLine) (h : x.cps.toList[i]? = some c) : ixG (.str x) (.int (i : Nat)) = some (sgn c) := by
  show (if x.length ≤ sizeLine then (atI x.cps.toList (i : Nat)).map sgn else none) = _
  rw [if_pos hl, atI_nat h]
  rfl
theorem eqS_blank (c : Nat) : eqS (" " : Str) (sgn c) = (c == 32) := by
  show ((" " : Str) == (⟨#[c]⟩ : Str)) = _
  rw [Bool.eq_iff_iff, beq_iff_eq, beq_iff_eq]
  have hb : (" " : Str) = ⟨#[32]⟩ := by decide +kernel
  rw [hb]
  constructor
  · intro e
    injection e with e1
    have := congrArg Array.toList e1
    simpa using this.symm
  · intro e
    rw [e]
theorem e__law_filled {x : Str} {k : Kd} {w : Nat} (hx : x.length ≤ w) (hw : w ≤ 1000) : ans (G__law_filled [.fz (.str x), .fz (kdD k), .fz (.int (w : Nat))]) = some (.str (padR k w x)) := by
  have hs : (10000 : Nat) ≤ sizeLine := by decide
  refine call_eq ?_
  unfold G__law_filled m__law_filled
  have h1 := len_str (x := x) (by omega)
  have h2 : subG (.int (w : Nat)) (.int (x.length : Nat)) = some (.int ((w - x.length : Nat) : Int)) := by
    show some (PyData.int _) = _
    congr 2
    omega
  have h3 := mul_one 32 (w - x.length) (by omega)
  have hb : (" " : Str) = ⟨#[32]⟩ := by decide +kernel
  rw [← hb] at h3
  have hf := fill_len 32 (w - x.length)
  have h4 : addG (.str (fill 32 (w - x.length))) (.str x) = some (.str (fill 32 (w - x.length) ++ x)) := add_str (by rw [hf]; omega)
  have h5 : addG (.str x) (.str (fill 32 (w - x.length))) = some (.str (x ++ fill 32 (w - x.length))) := add_str (by rw [hf]; omega)
  cases k with
  | n =>
    have eN : eqS ("number" : Str) (kdD .n) = true := by decide +kernel
    simp_arith [h1, h2, h3, eN, h4]
    rfl
  | t =>
    have eN : eqS ("number" : Str) (kdD .t) = false := by decide +kernel
    simp_arith [h1, h2, h3, eN, h5]
    rfl
  | b =>
    have eN : eqS ("number" : Str) (kdD .b) = false := by decide +kernel
    simp_arith [h1, h2, h3, eN, h5]
    rfl
theorem e__law_bare {x : Str} (hx : x.length ≤ 10000) : ans (G__law_bare [.fz (.str x)]) = some (.str (bare x)) := by
  have hs : (100000 : Nat) ≤ sizeLine := by decide
  refine call_eq ?_
  unfold G__law_bare m__law_bare
  rw [rng_eq]
  have h1 := len_str (x := x) (by omega)
  have hT := trail_le x
  simp_arith [h1, range1_ok (show x.length ≤ sizeLine by omega)]
  refine (wp_loop_range (fun t r => ∃ s2, light s2 = true ∧ r = [.fz (.str x), .fz (.int ((x.length - min t (trail x) : Nat) : Int)), s2]) ?_ ⟨.emp, rfl, by rw [Nat.min_eq_left (Nat.zero_le _)]; rfl⟩).mono ?_
  · rintro t r ht ⟨s2, l2, rfl⟩
    have hm : min t (trail x) ≤ t := Nat.min_le_left _ _
    have hm2 : min t (trail x) ≤ trail x := Nat.min_le_right _ _
    have hpos : (0 : Int) < ((x.length - min t (trail x) : Nat) : Int) := by omega
    have hidx : x.length - min t (trail x) - 1 < x.cps.toList.length := by rw [← len_list]; omega
    obtain ⟨c, hc⟩ : ∃ c, x.cps.toList[x.length - min t (trail x) - 1]? = some c := ⟨_, List.getElem?_eq_getElem hidx⟩
    have hix := ix_str (x := x) (by omega) hc
    have hsub : subG (.int ((x.length - min t (trail x) : Nat) : Int)) (.int 1) = some (.int ((x.length - min t (trail x) - 1 : Nat) : Int)) := by
      show some (PyData.int _) = _
      congr 2
      omega
    have hiff := trail_at (x := x) (t := min t (trail x)) (by omega) hm2
    rw [hc] at hiff
    have hq := eqS_blank c
    generalize hd : sgn c = d at hix hq
    have hint : (((x.length - min t (trail x) : Nat) : Int) - 1) = ((x.length - min t (trail x) - 1 : Nat) : Int) := by omega
    simp_arith [pt_light l2, hpos, hint, hix, hq]
    cases h32 : c == 32 with
    | true =>
      have hlt : min t (trail x) < trail x := hiff.mp (by rw [beq_iff_eq.mp h32])
      have hmt : min t (trail x) = t := by omega
      have hm1 : min (t + 1) (trail x) = t + 1 := by omega
      simp_arith [hint]
      refine ⟨.fz (.int (t : Nat)), rfl, ?_⟩
      rw [hm1, hmt, show x.length - t - 1 = x.length - (t + 1) by omega]
    | false =>
      have hnl : ¬ min t (trail x) < trail x := fun h => by
        have := hiff.mpr h
        have e : c = 32 := by simpa using this
        rw [e] at h32
        simp at h32
      have hmt : min t (trail x) = trail x := by omega
      have hm1 : min (t + 1) (trail x) = trail x := by omega
      simp_arith []
      refine ⟨.fz (.int (t : Nat)), rfl, ?_⟩
      rw [hm1, hmt]
  · rintro c r ⟨rfl, s2, l2, rfl⟩
    rw [Nat.min_eq_right hT]
    have hsl : slD (.str x) none (some ((x.length - trail x : Nat) : Int)) = some (.str (bare x)) := by
      have e : slD (.str x) none (some ((x.length - trail x : Nat) : Int)) = some (.str (_root_.L2.cutS x none (some ((x.length - trail x : Nat) : Int)))) := if_pos (by omega)
      rw [e]
      congr 2
      apply str_ext
      unfold _root_.L2.cutS
      rw [HT.sIx_none, HT.sIx_nat, List.drop_zero, Nat.sub_zero, Nat.min_eq_left (Nat.sub_le _ _)]
      rfl
    simp_arith [hsl]
end K03

namespace DL
open PySem PySem.Spec PyProof.Rows L2
theorem wp_m1M {g : Str → D → Option D} {f1 f2 : M D} {r : Rho} {Q : D → Rho → Prop} (h : Wp (f1 r) fun x r1 => ∃ s, x = .str s ∧ Wp (f2 r1) fun y r2 => ∃ z, g s y = some z ∧ Q z r2) : Wp (m1M g f1 f2 r) Q := by
  unfold m1M
  rw [wp_bind]
  refine h.mono fun x r1 ⟨s, e, h1⟩ => ?_
  subst e
  rw [wp_bind]
  refine h1.mono fun y r2 ⟨z, e, h2⟩ => ?_
  rw [wp_opt]
  exact ⟨z, e, h2⟩
theorem wp_zip3 {f : M (List D)} {r : Rho} {Q : List D → Rho → Prop} (h : Wp (f r) fun ds r1 => ∃ a b c p q s, ds = [a, b, c] ∧ seqB a = some p ∧ seqB b = some q ∧ seqB c = some s ∧ Q (zip3L p.2 q.2 s.2) r1) : Wp (zip3M f r) Q := by
  unfold zip3M
  rw [wp_bind]
  refine h.mono fun ds r1 ⟨a, b, c, p, q, s, e, h1, h2, h3, h4⟩ => ?_
  subst e
  rw [wp_opt]
  refine ⟨_, ?_, h4⟩
  simp only [zip3G, h1, h2, h3, Option.bind_some]
end DL
namespace K03
open PySem PySem.Spec PyProof.Rows L2 DL
theorem padR_len {k : Kd} {w : Nat} {x : Str} (h : x.length ≤ w) : (padR k w x).length = w := by
  have e : ∀ a b : Str, (a ++ b).length = a.length + b.length := fun a b => strLen_append a b
  cases k <;> (simp only [padR]; rw [e, fill_len]; omega)
def padL : Cl → List Nat → List Str → List Str
  | c :: cl, w :: ws, x :: xs => padR c.2 w x :: padL cl ws xs
  | _, _, _ => []
def lineR (cl : Cl) (ws : List Nat) (xs : List Str) : Str := bare (Txt.join "  " (padL cl ws xs))
def natD (n : Nat) : D := .int (n : Nat)
def Fits : List Nat → List Str → Prop
  | w :: ws, x :: xs => x.length ≤ w ∧ w ≤ 100 ∧ Fits ws xs
  | [], [] => True
  | _, _ => False
theorem fits_len : ∀ {ws : List Nat} {xs : List Str}, Fits ws xs → xs.length = ws.length
  | [], [], _ => rfl
  | _ :: ws, _ :: xs, h => by rw [List.length_cons, List.length_cons, fits_len h.2.2]
  | [], _ :: _, h => h.elim
  | _ :: _, [], h => h.elim
theorem padL_len : ∀ {cl : Cl} {ws : List Nat} {xs : List Str}, Fits ws xs → cl.length = ws.length → (padL cl ws xs).length = ws.length ∧ ∀ t ∈ padL cl ws xs, t.length ≤ 100
  | [], [], [], _, _ => ⟨rfl, fun _ h => nomatch h⟩
  | c :: cl, w :: ws, x :: xs, h, hl => by
    obtain ⟨h1, h2⟩ := padL_len (cl := cl) h.2.2 (by simpa using hl)
    refine ⟨by simp only [padL, List.length_cons, h1], fun t ht => ?_⟩
    rcases List.mem_cons.mp ht with rfl | ht
    · rw [padR_len h.1]; exact h.2.1
    · exact h2 t ht
  | [], _ :: _, _, _, h => by simp at h
  | _ :: _, [], _, _, h => by simp at h
  | [], [], _ :: _, h, _ => h.elim
  | _ :: _, _ :: _, [], h, _ => h.elim
theorem sum_100 : ∀ {ts : List Str}, (∀ t ∈ ts, t.length ≤ 100) → (ts.map (·.length)).sum ≤ ts.length * 100 := fun h => sum_le h
theorem join_ok {ts : List Str} (h : ∀ t ∈ ts, t.length ≤ 100) (hl : ts.length ≤ 8) : joinOk "  " ts = true ∧ (Txt.join "  " ts).length ≤ 1000 := by
  have h1 := sum_100 h
  have h2 : ("  " : Str).length = 2 := by decide +kernel
  refine ⟨decide_eq_true (by rw [h2]; omega), ?_⟩
  have h3 := StrLaws.join_length_le "  " ts
  rw [h2] at h3
  rw [show Txt.join "  " ts = Str.join "  " ts from StrLaws.glued_eq_join _ _]
  omega
theorem pad_ok {w : Nat} (h : w ≤ 1000) : PadOk (w : Nat) = true := by
  have hs : (1000 : Nat) ≤ sizeLine := by decide
  unfold PadOk
  rw [Bool.and_eq_true]
  constructor
  · unfold fitsSsize
    simp only [Bool.not_eq_true', Bool.or_eq_false_iff, decide_eq_false_iff_not, ge_iff_le]
    omega
  · unfold Builtin.Str.tooLong
    rw [Int.toNat_natCast]
    simp only [Bool.not_eq_true', decide_eq_false_iff_not]
    omega
theorem txts_str : ∀ ts : List Str, txts (ts.map .str) = some ts
  | [] => rfl
  | t :: ts => by
    show (txts (ts.map .str)).map (t :: ·) = _
    rw [txts_str ts]
    rfl
theorem zip3_natD {cl : Cl} {ws : List Nat} {xs : List Str} {d : D} {rest : List D} (h : d :: rest = zip3L (cl.map cD) (ws.map natD) (xs.map .str)) : ∃ c cl' w ws' x xs', cl = c :: cl' ∧ ws = w :: ws' ∧ xs = x :: xs' ∧ d = .tuple [cD c, natD w, .str x] ∧ rest = zip3L (cl'.map cD) (ws'.map natD) (xs'.map .str) := by
  match cl, ws, xs, h with
  | c :: cl', w :: ws', x :: xs', h =>
    simp only [List.map_cons, zip3L, List.cons.injEq] at h
    exact ⟨c, cl', w, ws', x, xs', rfl, rfl, rfl, h.1, h.2⟩
  | [], _, _, h => simp [zip3L] at h
  | _ :: _, [], _, h => simp [zip3L] at h
  | _ :: _, _ :: _, [], h => simp [zip3L] at h
theorem e__grid_line {cl : Cl} {ws : List Nat} {xs : List Str} (hf : Fits ws xs) (hl : cl.length = ws.length) (h8 : cl.length ≤ 8) : ans (G__grid_line [.fz (colsD cl), .fz (.list (ws.map natD)), .fz (.list (xs.map .str))]) = some (.str (lineR cl ws xs)) := by
  have hs : (100000 : Nat) ≤ sizeLine := by decide
  obtain ⟨hp1, hp2⟩ := padL_len hf hl
  obtain ⟨hj1, hj2⟩ := join_ok hp2 (by omega)
  refine call_eq ?_
  unfold G__grid_line m__grid_line
  simp_arith [k_lnM, k_ln]
  refine wp_zip3 ?_
  simp_arith []
  refine ⟨_, _, _, (false, cl.map cD), (true, ws.map natD), (true, xs.map .str), rfl, rfl, rfl, rfl, ?_⟩
  refine (wp_loop_rest (fun rest r => ∃ (cl' : Cl) (ws' : List Nat) (xs' acc : List Str) (s4 s5 s6 : Sl), rest = zip3L (cl'.map cD) (ws'.map natD) (xs'.map .str) ∧ Fits ws' xs' ∧ acc ++ padL cl' ws' xs' = padL cl ws xs ∧ light s4 = true ∧ light s5 = true ∧ light s6 = true ∧ r = [.fz (colsD cl), .fz (.list (ws.map natD)), .fz (.list (xs.map .str)), .own (.list (acc.map .str)), s4, s5, s6]) ?_
    ⟨cl, ws, xs, [], .emp, .emp, .emp, rfl, hf, rfl, rfl, rfl, rfl, rfl⟩).mono ?_
  · rintro d rest r ⟨cl', ws', xs', acc, s4, s5, s6, e, hf', hacc, l4, l5, l6, rfl⟩
    obtain ⟨c, cl2, w, ws2, x, xs2, rfl, rfl, rfl, rfl, rfl⟩ := zip3_natD e
    obtain ⟨a, k⟩ := c
    have hlen := congrArg List.length hacc
    rw [List.length_append, hp1] at hlen
    have hacl : acc.length ≤ 8 := by omega
    have hw : w ≤ 1000 := by have := hf'.2.1; omega
    have hpo := pad_ok hw
    have hrj : rjG x (.int (w : Nat)) = some (.str (padR .n w x)) := by
      show (if PadOk (w : Nat) = true then some (PyData.str (Txt.rjust x (w : Nat))) else none) = _
      rw [if_pos hpo, rj_eq]
    have hlj : ∀ k, k ≠ Kd.n → ljG x (.int (w : Nat)) = some (.str (padR k w x)) := fun k hk => by
      show (if PadOk (w : Nat) = true then some (PyData.str (Txt.ljust x (w : Nat))) else none) = _
      rw [if_pos hpo, lj_eq x w k hk]
    have hap : ∀ y, appendG (acc.map PyData.str) [.str y] = some (.none, (acc ++ [y]).map .str) := fun y => by
      show (if (acc.map PyData.str).length < sizeLine then some (PyData.none, acc.map PyData.str ++ [.str y]) else none) = _
      rw [if_pos (by rw [List.length_map]; omega), List.map_append]
      rfl
    simp_arith [cD, natD, pt_light l4, pt_light l5, pt_light l6]
    refine wp_mutM rfl ?_
    simp_arith []
    have next : ∀ y, y = padR k w x → ∃ (cl' : Cl) (ws' : List Nat) (xs' acc_1 : List Str) (s4 s5 s6 : Sl), zip3L (cl2.map cD) (ws2.map natD) (xs2.map .str) = zip3L (cl'.map cD) (ws'.map natD) (xs'.map .str) ∧ Fits ws' xs' ∧ acc_1 ++ padL cl' ws' xs' = padL cl ws xs ∧ light s4 = true ∧ light s5 = true ∧ light s6 = true ∧ [Sl.fz (colsD cl), .fz (.list (ws.map natD)), .fz (.list (xs.map .str)), .own (.list ((acc ++ [y]).map .str)), .fz (.tuple [.str a, kdD k]), .fz (.int (w : Nat)), .fz (.str x)] = [.fz (colsD cl), .fz (.list (ws.map natD)), .fz (.list (xs.map .str)), .own (.list (acc_1.map .str)), s4, s5, s6] := fun y hy => by
      subst hy
      exact ⟨cl2, ws2, xs2, acc ++ [padR k w x], _, _, _, rfl, hf'.2.2, by rw [← hacc, List.append_assoc]; rfl, rfl, rfl, rfl, rfl⟩
    cases k with
    | n =>
      have eN : eqS ("number" : Str) (kdD .n) = true := by decide +kernel
      simp_arith [eN]
      refine wp_m1M ?_
      simp_arith [hrj]
      exact ⟨_, _, rfl, hap _, next _ rfl⟩
    | t =>
      have eN : eqS ("number" : Str) (kdD .t) = false := by decide +kernel
      simp_arith [eN]
      refine wp_m1M ?_
      simp_arith [hlj .t (by decide)]
      exact ⟨_, _, rfl, hap _, next _ rfl⟩
    | b =>
      have eN : eqS ("number" : Str) (kdD .b) = false := by decide +kernel
      simp_arith [eN]
      refine wp_m1M ?_
      simp_arith [hlj .b (by decide)]
      exact ⟨_, _, rfl, hap _, next _ rfl⟩
  · rintro c r ⟨rfl, cl', ws', xs', acc, s4, s5, s6, e, hf', hacc, l4, l5, l6, rfl⟩
    have hnil : padL cl' ws' xs' = [] := by
      match cl', ws', xs', e with
      | _ :: _, _ :: _, _ :: _, e => simp [zip3L] at e
      | [], _, _, _ => rfl
      | _ :: _, [], _, _ => rfl
      | _ :: _, _ :: _, [], _ => rfl
    rw [hnil, List.append_nil] at hacc
    subst hacc
    simp_arith []
    refine wp_m1M ?_
    simp_arith [txtsIn_l, txts_str, hj1]
    have hrs : rsG (Txt.join "  " (padL cl ws xs)) (.str " ") = some (.str (bare (Txt.join "  " (padL cl ws xs)))) := by
      show (if (Txt.join "  " (padL cl ws xs)).length ≤ sizeLine then some (PyData.str (Txt.rstripChars (Txt.join "  " (padL cl ws xs)) " ")) else none) = _
      rw [if_pos (by omega), rs_eq]
    rw [hrs]
    exact ⟨_, rfl, rfl⟩
end K03

namespace DL
open PySem PySem.Spec PyProof.Rows L2
theorem wp_lcO {own : List Nat} {i : Nat} {t : D → M Ctl} {c : M Bool} {e : M D} {r : Rho} {Q : List D → Rho → Prop} {ds : List D} (hi : r[i]? = some (.own (.list ds)))
    (h : Wp (lcM own (fun r0 => .ok ds r0) t c e (r.set i .emp)) fun ys r1 => r1[i]? = some .emp ∧ Q ys (r1.set i (.own (.list ds)))) : Wp (lcO own i t c e r) Q := by
  unfold lcO
  simp only [hi]
  rw [wp_bind]
  refine h.mono fun ys r1 ⟨h1, h2⟩ => ?_
  simp only [h1]
  exact h2
theorem wp_js {f : M D} {fs : List (M D)} {acc : Str} {r : Rho} {Q : D → Rho → Prop} (h : Wp (f r) fun d r1 => ∃ y, d = .str y ∧ (acc ++ y).length ≤ sizeLine ∧ Wp (jsM fs (acc ++ y) r1) Q) : Wp (jsM (f :: fs) acc r) Q := by
  rw [show jsM (f :: fs) acc r = (f r).bind _ from rfl, wp_bind]
  refine h.mono fun d r1 ⟨y, e, h1, h2⟩ => ?_
  subst e
  show Wp (if _ then _ else _) Q
  rw [if_pos h1]
  exact h2
theorem wp_js0 {acc : Str} {r : Rho} {Q : D → Rho → Prop} (h : Q (.str acc) r) : Wp (jsM [] acc r) Q := h
end DL
namespace K03
open PySem PySem.Spec PyProof.Rows L2 DL
/-! ### the program's grid -/
def tell : D → Str
  | .int i => toString i
  | .str x => x
  | _ => ""
def Cell (d : D) : Prop := (∃ i : Int, d = .int i ∧ i.natAbs < 10 ^ 42) ∨ ∃ x : Str, d = .str x ∧ SS 12 d ∧ ∀ c ∈ x.cps.toList, c ≠ 10
def RowC (n : Nat) (es : List D) : Prop := es.length = n ∧ ∀ d ∈ es, Cell d
theorem str_cell {d : D} (h : Cell d) : strG [d] = some (.str (tell d)) := by
  rcases h with ⟨i, rfl, hi⟩ | ⟨x, rfl, _⟩
  · have h1 : (10 : Nat) ^ 42 < 2 ^ 200 := by decide +kernel
    have hl : i.natAbs.log2 < 1920 := by
      by_cases hz : i.natAbs = 0
      · rw [hz]; decide
      · have := (Nat.log2_lt hz).mpr (show i.natAbs < 2 ^ 200 by omega)
        omega
    exact if_pos hl
  · rfl
def namesS (cl : Cl) : List Str := cl.map (·.1)
def rowS (es : List D) : List Str := es.map tell
def strsD (xs : List Str) : D := .list (xs.map .str)
def tbl (cl : Cl) (rows : List (List D)) : List (List Str) := namesS cl :: rows.map rowS
def wN (T : List (List Str)) (p : Nat) : Nat := (T.map fun l => (l.getD p "").length).foldr max 0
def wsN (cl : Cl) (T : List (List Str)) : List Nat := (List.range cl.length).map (wN T)
def manyS (n : Nat) : Str := if n = 1 then "(1 row)" else "(" ++ (toString (n : Int) : Str) ++ " rows)"
theorem maxI_nat : ∀ (xs : List Nat), xs ≠ [] → maxI (xs.map fun n : Nat => (n : Int)) = ((xs.foldr max 0 : Nat) : Int)
  | [], h => absurd rfl h
  | [x], _ => by
    show ((x : Nat) : Int) = _
    simp
  | x :: y :: xs, _ => by
    have ih := maxI_nat (y :: xs) (by simp)
    show (if maxI ((y :: xs).map fun n : Nat => (n : Int)) ≤ ((x : Nat) : Int) then ((x : Nat) : Int) else maxI ((y :: xs).map fun n : Nat => (n : Int))) = _
    have e2 : (x :: y :: xs).foldr max 0 = max x ((y :: xs).foldr max 0) := rfl
    rw [ih, e2]
    generalize (y :: xs).foldr max 0 = m
    split <;> omega
theorem le_max : ∀ {ns : List Nat} {n : Nat}, n ∈ ns → n ≤ ns.foldr max 0
  | m :: ns, n, h => by
    rw [List.foldr_cons]
    rcases List.mem_cons.mp h with rfl | h
    · omega
    · have := le_max h
      omega
theorem max_le : ∀ {ns : List Nat} {b : Nat}, (∀ n ∈ ns, n ≤ b) → ns.foldr max 0 ≤ b
  | [], _, _ => Nat.zero_le _
  | m :: ns, b, h => by
    rw [List.foldr_cons]
    have h1 := h m List.mem_cons_self
    have h2 := max_le (ns := ns) fun n hn => h n (List.mem_cons_of_mem _ hn)
    omega
theorem w_ge {T : List (List Str)} {l : List Str} (h : l ∈ T) (p : Nat) : (l.getD p "").length ≤ wN T p := le_max (List.mem_map_of_mem (f := fun l : List Str => (l.getD p "").length) h)
theorem w_le {T : List (List Str)} {b : Nat} (h : ∀ l ∈ T, ∀ p, (l.getD p "").length ≤ b) (p : Nat) : wN T p ≤ b := max_le fun n hn => by
  obtain ⟨l, hl, rfl⟩ := List.mem_map.mp hn
  exact h l hl p
def appL {ds : List D} {z : D} (h : ds.length < 1000) : appendG ds [z] = some (.none, ds ++ [z]) := if_pos (Nat.lt_of_lt_of_le h (by decide))
theorem rowC_len {n : Nat} {es : List D} (h : RowC n es) : (rowS es).length = n := by unfold rowS; rw [List.length_map, h.1]
def fstD : D → D
  | .tuple (x :: _) => x
  | _ => .none
theorem fst_map (cl : Cl) : (cl.map cD).map fstD = (namesS cl).map .str := by
  unfold namesS
  rw [List.map_map, List.map_map]
  rfl
def strD (d : D) : D := .str (tell d)
theorem str_map (es : List D) : es.map strD = (rowS es).map .str := by
  unfold rowS
  rw [List.map_map]
  rfl
def lenAt (p : Nat) : D → D
  | .list ds => match ds[p]? with
    | some (.str x) => .int (x.length : Nat)
    | _ => .none
  | _ => .none
theorem tell_len {d : D} (h : Cell d) : (tell d).length ≤ 45 := by
  rcases h with ⟨i, rfl, hi⟩ | ⟨x, rfl, ⟨_, e, hx, _⟩, _⟩
  · have h1 := int_text_length_le10 (a := i) (k := 42) (by decide) hi
    have h2 : (tell (.int i)).length = (toString i).length := PySem.ofString_length _
    omega
  · cases e
    exact Nat.le_trans hx (by decide)
/-- all of one length, short -/
def Tb (n : Nat) (T : List (List Str)) : Prop := ∀ l ∈ T, l.length = n ∧ ∀ x ∈ l, x.length ≤ 45
theorem tbl_tb {cl : Cl} {rows : List (List D)} (hn : ∀ c ∈ cl, SS 8 (.str c.1)) (hr : ∀ es ∈ rows, RowC cl.length es) : Tb cl.length (tbl cl rows) := by
  intro l hl
  rcases List.mem_cons.mp hl with rfl | hl
  · refine ⟨by unfold namesS; rw [List.length_map], fun x hx => ?_⟩
    obtain ⟨c, hc, rfl⟩ := List.mem_map.mp hx
    obtain ⟨_, e, h, _⟩ := hn c hc
    cases e
    exact Nat.le_trans h (by decide)
  · obtain ⟨es, hes, rfl⟩ := List.mem_map.mp hl
    refine ⟨rowC_len (hr es hes), fun x hx => ?_⟩
    obtain ⟨d, hd, rfl⟩ := List.mem_map.mp hx
    exact tell_len ((hr es hes).2 d hd)
theorem getD_le {n : Nat} {T : List (List Str)} (h : Tb n T) {l : List Str} (hl : l ∈ T) (p : Nat) : (l.getD p "").length ≤ 45 := by
  rw [List.getD_eq_getElem?_getD]
  cases e : l[p]? with
  | none => exact Nat.zero_le _
  | some x => exact (h l hl).2 x (List.mem_of_getElem? e)
def lenD (p : Nat) (l : List Str) : D := .int ((l.getD p "").length : Nat)
theorem ix_strs {l : List Str} {p : Nat} (h : p < l.length) : ixG (strsD l) (.int (p : Nat)) = some (.str (l.getD p "")) := by
  have e : l[p]? = some (l.getD p "") := by rw [List.getD_eq_getElem?_getD, List.getElem?_eq_getElem h]; rfl
  exact atI_nat (by rw [List.getElem?_map, e]; rfl)
theorem len_map (T : List (List Str)) (p : Nat) : (T.map strsD).map (lenAt p) = T.map (fun l => match l[p]? with | some x => PyData.int (x.length : Nat) | none => .none) := by
  rw [List.map_map]
  refine List.map_congr_left fun l _ => ?_
  show lenAt p (.list (l.map .str)) = _
  unfold lenAt
  simp only [List.getElem?_map]
  cases l[p]? <;> rfl
theorem lenAt_of {n p : Nat} {T : List (List Str)} (h : Tb n T) (hp : p < n) : (T.map strsD).map (lenAt p) = (T.map fun l => (l.getD p "").length).map fun m : Nat => PyData.int (m : Nat) := by
  rw [len_map, List.map_map]
  refine List.map_congr_left fun l hl => ?_
  have e : l[p]? = some (l.getD p "") := by rw [List.getD_eq_getElem?_getD, List.getElem?_eq_getElem (by rw [(h l hl).1]; exact hp)]; rfl
  rw [e]
  rfl
theorem max_of {n p : Nat} {T : List (List Str)} (h : Tb n T) (hp : p < n) (hT : T ≠ []) : maxLG [.list ((T.map strsD).map (lenAt p))] = some (.int (wN T p : Nat)) := by
  rw [lenAt_of h hp]
  have e : seqInts [.list ((T.map fun l => (l.getD p "").length).map fun m : Nat => PyData.int (m : Nat))] = some ((T.map fun l => (l.getD p "").length).map fun m : Nat => (m : Int)) := by
    show intsD _ = _
    generalize (T.map fun l => (l.getD p "").length) = ns
    induction ns with
    | nil => rfl
    | cons m ns ih =>
      show (intsD (ns.map fun m : Nat => PyData.int (m : Nat))).map ((m : Int) :: ·) = _
      rw [ih]
      rfl
  unfold maxLG
  rw [e]
  have hne : (T.map fun l => (l.getD p "").length) ≠ [] := by simpa using hT
  have hm := maxI_nat _ hne
  cases hx : (T.map fun l => (l.getD p "").length) with
  | nil => exact absurd hx hne
  | cons m ns =>
    rw [hx] at hm
    simp only [List.map_cons] at hm ⊢
    rw [hm]
    unfold wN
    rw [hx]
def dashD : D → D
  | .int i => .str (fill 45 i.toNat)
  | _ => .none
theorem dash_map (ws : List Nat) : (ws.map natD).map dashD = (ws.map (fill 45)).map .str := by
  rw [List.map_map, List.map_map]
  refine List.map_congr_left fun w _ => ?_
  show PyData.str (fill 45 (Int.toNat (w : Nat))) = _
  rw [Int.toNat_natCast]
  rfl
theorem fits_dash : ∀ {ws : List Nat}, (∀ w ∈ ws, w ≤ 45) → Fits ws (ws.map (fill 45))
  | [], _ => trivial
  | w :: ws, h => ⟨by rw [fill_len]; exact Nat.le_refl _, Nat.le_trans (h w List.mem_cons_self) (by decide), fits_dash fun w hw => h w (List.mem_cons_of_mem _ hw)⟩
theorem fits_gen : ∀ {ws : List Nat} {xs : List Str}, ws.length = xs.length → (∀ (p : Nat) (w : Nat), ws[p]? = some w → (xs.getD p "").length ≤ w ∧ w ≤ 100) → Fits ws xs
  | [], [], _, _ => trivial
  | w :: ws, x :: xs, hl, h => by
    obtain ⟨h1, h2⟩ := h 0 w rfl
    exact ⟨h1, h2, fits_gen (by simpa using hl) fun p w hw => by simpa using h (p + 1) w (by simpa using hw)⟩
  | [], _ :: _, hl, _ => by simp at hl
  | _ :: _, [], hl, _ => by simp at hl
theorem fits_of {cl : Cl} {T : List (List Str)} (h : Tb cl.length T) {l : List Str} (hl : l ∈ T) : Fits (wsN cl T) l := by
  refine fits_gen (by unfold wsN; rw [List.length_map, List.length_range, (h l hl).1]) fun p w hw => ?_
  unfold wsN at hw
  rw [List.getElem?_map] at hw
  cases e : (List.range cl.length)[p]? with
  | none => rw [e] at hw; cases hw
  | some q =>
    rw [e] at hw
    have hq : q = p := by
      rw [List.getElem?_range (by have := (List.getElem?_eq_some_iff.mp e).1; simpa using this)] at e
      exact (Option.some.inj e).symm
    subst hq
    have : w = wN T q := (Option.some.inj hw).symm
    subst this
    exact ⟨w_ge hl q, Nat.le_trans (w_le (fun l hl p => getD_le h hl p) q) (by decide)⟩
def lnD (cl : Cl) (ws : List Nat) : D → D
  | .list ds => .str (lineR cl ws (ds.map tell))
  | _ => .none
theorem tell_str (l : List Str) : (l.map PyData.str).map tell = l := by
  rw [List.map_map]
  exact (List.map_congr_left fun _ _ => rfl).trans (List.map_id l)
theorem lnD_of (cl : Cl) (ws : List Nat) (l : List Str) : lnD cl ws (strsD l) = .str (lineR cl ws l) := by
  show PyData.str (lineR cl ws ((l.map PyData.str).map tell)) = _
  rw [tell_str]
theorem lnD_map (cl : Cl) (ws : List Nat) (T : List (List Str)) : (T.map strsD).map (lnD cl ws) = (T.map (lineR cl ws)).map .str := by
  rw [List.map_map, List.map_map]
  exact List.map_congr_left fun l _ => lnD_of cl ws l
theorem bare_le (x : Str) : (bare x).length ≤ x.length := by
  rw [len_list, len_list x]
  show (x.cps.toList.take _).length ≤ _
  rw [List.length_take]
  exact Nat.min_le_right _ _
theorem lineR_le {cl : Cl} {ws : List Nat} {xs : List Str} (hf : Fits ws xs) (hl : cl.length = ws.length) (h8 : cl.length ≤ 8) : (lineR cl ws xs).length ≤ 1000 := by
  obtain ⟨hp1, hp2⟩ := padL_len hf hl
  obtain ⟨hj1, hj2⟩ := join_ok hp2 (by omega)
  exact Nat.le_trans (bare_le _) hj2
theorem manyS_le {n : Nat} (h : n ≤ 1000) : (manyS n).length ≤ 1000 := by
  unfold manyS
  split
  · decide +kernel
  · have h1 := int_text_length_le10 (a := (n : Int)) (k := 42) (by decide) (by
      have : (1000 : Nat) < 10 ^ 42 := by decide +kernel
      omega)
    have h2 : (tell (.int (n : Int))).length = (toString (n : Int)).length := PySem.ofString_length _
    have h3 : ("(" : Str).length = 1 := by decide +kernel
    have h4 : (" rows)" : Str).length = 6 := by decide +kernel
    have e : ∀ a b : Str, (a ++ b).length = a.length + b.length := fun a b => strLen_append a b
    rw [e, e, h3, h4]
    show 1 + (tell (.int (n : Int))).length + 6 ≤ 1000
    omega
theorem many_eq {n : Nat} (h : n ≠ 1) : manyS n = ((Str.empty ++ "(" : Str) ++ (toString (n : Int) : Str)) ++ " rows)" := by
  unfold manyS
  rw [if_neg h]
  apply str_ext
  rw [app_list, app_list, app_list, app_list, app_list]
  rfl
theorem e_grid {cl : Cl} {rows : List (List D)} (h8 : cl.length ≤ 8) (h1 : 1 ≤ cl.length) (hn : ∀ c ∈ cl, SS 8 (.str c.1)) (hr : ∀ es ∈ rows, RowC cl.length es) (hm : rows.length ≤ 40) :
    ∃ z, ans (G_grid [.fz (colsD cl), .fz (.tuple (rows.map .tuple))]) = some (.str z) ∧ z = Txt.join "\n" ((lineR cl (wsN cl (tbl cl rows)) (namesS cl) :: lineR cl (wsN cl (tbl cl rows)) ((wsN cl (tbl cl rows)).map (fill 45)) :: rows.map fun es => lineR cl (wsN cl (tbl cl rows)) (rowS es)) ++ [manyS rows.length]) := by
  have hs : (100000 : Nat) ≤ sizeLine := by decide
  refine ⟨_, call_eq ?_, rfl⟩
  unfold G_grid m_grid
  have hG := fun {ws : List Nat} {xs : List Str} (hf : Fits ws xs) (hl : cl.length = ws.length) => e__grid_line (cl := cl) hf hl h8
  rw [rng_eq]
  generalize G__grid_line = GG at hG ⊢
  have ec : colsD cl = .tuple (cl.map cD) := rfl
  simp_arith [k_lnM, k_ln]
  refine wp_lcx (fun r => ∃ s8, light s8 = true ∧ r = [.fz (colsD cl), .fz (.tuple (rows.map .tuple)), .emp, .emp, .emp, .emp, .emp, .emp, s8, .emp, .emp, .emp]) (fun _ => true) fstD (fun r ⟨s8, l8, e⟩ => by subst e; simp [okW, l8]) ?_
  rw [ec]
  simp_arith []
  refine ⟨by rw [List.length_map]; omega, ⟨.emp, rfl, rfl⟩, ?_, ?_⟩
  · rintro d hd r ⟨s8, l8, rfl⟩
    obtain ⟨c, hc, rfl⟩ := List.mem_map.mp hd
    simp_arith [wR, cD]
    exact ⟨⟨_, rfl, rfl⟩, fun _ => ⟨rfl, _, rfl, rfl⟩⟩
  rintro r1 ⟨s8, l8, rfl⟩
  rw [List.filter_eq_self.mpr (fun _ _ => rfl), fst_map]
  simp_arith [wR, bkR, Option.getD, k_ln]
  refine (wp_loop_rest (fun rest r => ∃ (dn td : List (List D)) (s3 s9 : Sl), rest = td.map .tuple ∧ rows = dn ++ td ∧ light s3 = true ∧ light s9 = true ∧ r = [.fz (.tuple (cl.map cD)), .fz (.tuple (rows.map .tuple)), .own (.list ((tbl cl dn).map strsD)), s3, .emp, .emp, .emp, .emp, .emp, s9, .emp, .emp]) ?_
    ⟨[], rows, .emp, .emp, rfl, rfl, rfl, rfl, rfl⟩).mono ?_
  · rintro d rest r ⟨dn, td, s3, s9, e, er, l3, l9, rfl⟩
    match td, e with
    | es :: td', e =>
      rw [List.map_cons, List.cons.injEq] at e
      obtain ⟨rfl, rfl⟩ := e
      have hes := hr es (by rw [er]; exact List.mem_append_right _ List.mem_cons_self)
      have hdn : dn.length ≤ 40 := by have := congrArg List.length er; rw [List.length_append] at this; omega
      simp_arith [pt_light l3]
      refine wp_mutM rfl ?_
      simp_arith []
      refine wp_lcx (fun r => ∃ s9, light s9 = true ∧ r = [.fz (.tuple (cl.map cD)), .fz (.tuple (rows.map .tuple)), .own (.list ((tbl cl dn).map strsD)), .fz (.tuple es), .emp, .emp, .emp, .emp, .emp, s9, .emp, .emp]) (fun _ => true) strD (fun r ⟨s9, l9, e⟩ => by subst e; simp [okW, l9]) ?_
      simp_arith []
      refine ⟨by rw [hes.1]; omega, ⟨s9, l9, rfl⟩, ?_, ?_⟩
      · rintro v hv r ⟨s9, l9, rfl⟩
        have hsv := str_cell (hes.2 v hv)
        simp_arith [wR, hsv]
        exact ⟨⟨_, rfl, rfl⟩, fun _ => ⟨rfl, _, rfl, rfl⟩⟩
      rintro r1 ⟨s9', l9', rfl⟩
      rw [List.filter_eq_self.mpr (fun _ _ => rfl), str_map]
      refine ⟨_, _, rfl, appL (by rw [List.length_map]; unfold tbl; rw [List.length_cons, List.length_map]; omega), ?_⟩
      simp_arith []
      exact ⟨dn ++ [es], td', .fz (.tuple es), s9, rfl, by rw [er, List.append_assoc]; rfl, rfl, l9, by unfold tbl; simp [strsD, bkR, wR]⟩
    | [], e => cases e
  rintro c r ⟨rfl, dn, td, s3, s9, e, er, l3, l9, rfl⟩
  have etd : td = [] := by cases td with | nil => rfl | cons _ _ => cases e
  subst etd
  rw [List.append_nil] at er
  subst er
  have hTb := tbl_tb hn hr
  have hTl : (tbl cl rows).length ≤ 41 := by unfold tbl; rw [List.length_cons, List.length_map]; omega
  have hTn : tbl cl rows ≠ [] := by unfold tbl; simp
  simp_arith [k_lnM, k_ln, List.length_map, range1_ok (show cl.length ≤ sizeLine by omega)]
  generalize hT : tbl cl rows = T at hTb hTl hTn
  refine (wp_loop_range (fun p r => ∃ s5 s10, light s5 = true ∧ light s10 = true ∧ r = [.fz (.tuple (cl.map cD)), .fz (.tuple (rows.map .tuple)), .own (.list (T.map strsD)), s3, .own (.list (((List.range p).map (wN T)).map natD)), s5, .emp, .emp, .emp, s9, s10, .emp]) ?_ ⟨.emp, .emp, rfl, rfl, rfl⟩).mono ?_
  · rintro p r hp ⟨s5, s10, l5, l10, rfl⟩
    simp_arith [pt_light l5]
    refine wp_mutM rfl ?_
    simp_arith []
    refine wp_lcO rfl ?_
    refine wp_lcx (fun r => ∃ s10, light s10 = true ∧ r = [.fz (.tuple (cl.map cD)), .fz (.tuple (rows.map .tuple)), .emp, s3, .own (.list (((List.range p).map (wN T)).map natD)), .fz (.int (p : Nat)), .emp, .emp, .emp, s9, s10, .emp]) (fun _ => true) (lenAt p) (fun r ⟨s10, l10, e⟩ => by subst e; simp [okW, l10]) ?_
    simp_arith []
    refine ⟨by rw [List.length_map]; omega, ⟨s10, l10, rfl⟩, ?_, ?_⟩
    · rintro v hv r ⟨s10, l10, rfl⟩
      obtain ⟨l, hl, rfl⟩ := List.mem_map.mp hv
      have hix := ix_strs (l := l) (p := p) (by rw [(hTb l hl).1]; exact hp)
      have hln := len_str (x := l.getD p "") (by have := getD_le hTb hl p; omega)
      have hla : lenAt p (strsD l) = .int ((l.getD p "").length : Nat) := by
        have e : l[p]? = some (l.getD p "") := by rw [List.getD_eq_getElem?_getD, List.getElem?_eq_getElem (by rw [(hTb l hl).1]; exact hp)]; rfl
        show (match (l.map PyData.str)[p]? with | some (.str x) => PyData.int (x.length : Nat) | _ => .none) = _
        rw [List.getElem?_map, e]
        rfl
      simp_arith [wR, hix, hln, hla]
      exact ⟨⟨_, rfl, rfl⟩, fun _ => ⟨_, rfl, rfl⟩⟩
    rintro r1 ⟨s10', l10', rfl⟩
    rw [List.filter_eq_self.mpr (fun _ _ => rfl)]
    have hmx := max_of hTb hp hTn
    refine ⟨rfl, ?_⟩
    simp_arith [wR, bkR, Option.getD, hmx]
    refine ⟨_, _, rfl, appL (by rw [List.length_map, List.length_map, List.length_range]; omega), .fz (.int (p : Nat)), s10, rfl, l10, ?_⟩
    rw [List.range_succ, List.map_append, List.map_append]
    rfl
  rintro c r ⟨rfl, s5, s10, l5, l10, rfl⟩
  have hws : (List.range cl.length).map (wN T) = wsN cl T := rfl
  rw [hws]
  have hwl : (wsN cl T).length = cl.length := by unfold wsN; rw [List.length_map, List.length_range]
  have hwb : ∀ w ∈ wsN cl T, w ≤ 45 := fun w hw => by
    obtain ⟨p, _, rfl⟩ := List.mem_map.mp hw
    exact w_le (fun l hl p => getD_le hTb hl p) p
  have hfit : ∀ l ∈ T, Fits (wsN cl T) l := fun l hl => fits_of hTb hl
  have hfitD : Fits (wsN cl T) ((wsN cl T).map (fill 45)) := fits_dash hwb
  generalize hW : wsN cl T = ws at hwl hwb hfit hfitD ⊢
  simp_arith []
  refine wp_mutM rfl ?_
  simp_arith []
  refine wp_lcx (fun r => ∃ s11, light s11 = true ∧ r = [.fz (.tuple (cl.map cD)), .fz (.tuple (rows.map .tuple)), .own (.list (T.map strsD)), s3, .fz (.list (ws.map natD)), s5, .emp, .emp, .emp, s9, s10, s11]) (fun _ => true) dashD (fun r ⟨s11, l11, e⟩ => by subst e; simp [okW, l11]) ?_
  simp_arith []
  refine ⟨by rw [List.length_map]; omega, ⟨.emp, rfl, rfl⟩, ?_, ?_⟩
  · rintro v hv r ⟨s11, l11, rfl⟩
    obtain ⟨w, hw, rfl⟩ := List.mem_map.mp hv
    have hml := mul_one 45 w (by have := hwb w hw; omega)
    have hdd : dashD (natD w) = .str (fill 45 w) := by show PyData.str (fill 45 (Int.toNat (w : Nat))) = _; rw [Int.toNat_natCast]
    have hb : ("-" : Str) = ⟨#[45]⟩ := by decide +kernel
    rw [← hb] at hml
    simp_arith [wR, hdd, natD, hml]
    exact ⟨⟨_, rfl, rfl⟩, fun _ => ⟨rfl, _, rfl, rfl⟩⟩
  rintro r1 ⟨s11, l11, rfl⟩
  rw [List.filter_eq_self.mpr (fun _ _ => rfl), dash_map]
  simp_arith [wR, bkR, Option.getD]
  have hTe : T = namesS cl :: rows.map rowS := hT.symm
  refine ⟨_, (.none, (namesS cl :: ws.map (fill 45) :: rows.map rowS).map strsD), rfl, ?_, ?_⟩
  · rw [hTe]
    exact if_pos ⟨by rw [List.length_map, List.length_cons, List.length_map]; omega, by decide, by decide⟩
  generalize hT2 : namesS cl :: ws.map (fill 45) :: rows.map rowS = T2
  have hfit2 : ∀ l ∈ T2, Fits ws l := fun l hl => by
    rw [← hT2] at hl
    rcases List.mem_cons.mp hl with rfl | hl
    · exact hfit _ (by rw [hTe]; exact List.mem_cons_self)
    · rcases List.mem_cons.mp hl with rfl | hl
      · exact hfitD
      · exact hfit _ (by rw [hTe]; exact List.mem_cons_of_mem _ hl)
  have hT2l : T2.length ≤ 42 := by rw [← hT2, List.length_cons, List.length_cons, List.length_map]; omega
  refine wp_lcx (fun r => ∃ s10, light s10 = true ∧ r = [.fz (.tuple (cl.map cD)), .fz (.tuple (rows.map .tuple)), .fz (.list (T2.map strsD)), s3, .fz (.list (ws.map natD)), s5, .emp, .emp, .emp, s9, s10, .emp]) (fun _ => true) (lnD cl ws) (fun r ⟨s10, l10, e⟩ => by subst e; simp [okW, l10]) ?_
  simp_arith []
  refine ⟨by rw [List.length_map]; omega, ⟨s10, l10, rfl⟩, ?_, ?_⟩
  · rintro v hv r ⟨s10, l10, rfl⟩
    obtain ⟨l, hl, rfl⟩ := List.mem_map.mp hv
    have hg := hG (hfit2 l hl) hwl.symm
    have hln : lnD cl ws (strsD l) = .str (lineR cl ws l) := lnD_of cl ws l
    rw [ec] at hg
    have e2 : strsD l = .list (l.map .str) := rfl
    rw [hln, e2]
    simp_arith [wR, hg]
    exact ⟨⟨_, rfl, rfl⟩, fun _ => ⟨_, rfl, rfl⟩⟩
  rintro r1 ⟨s10', l10', rfl⟩
  rw [List.filter_eq_self.mpr (fun _ _ => rfl), lnD_map]
  simp_arith [wR, bkR, Option.getD]
  have hlb : ∀ t ∈ T2.map (lineR cl ws), t.length ≤ 1000 := fun t ht => by
    obtain ⟨l, hl, rfl⟩ := List.mem_map.mp ht
    exact lineR_le (hfit2 l hl) hwl.symm h8
  have hL : T2.map (lineR cl ws) = lineR cl ws (namesS cl) :: lineR cl ws (ws.map (fill 45)) :: rows.map (fun es => lineR cl ws (rowS es)) := by
    rw [← hT2, List.map_cons, List.map_cons, List.map_map]
    rfl
  have hlr : (rows.map PyData.tuple).length = rows.length := List.length_map _
  have hLl : (T2.map (lineR cl ws)).length ≤ 42 := by rw [List.length_map]; exact hT2l
  rw [hlr]
  rw [← List.cons_append, ← List.cons_append, ← hL]
  generalize T2.map (lineR cl ws) = LS at hlb hLl ⊢
  have hml := manyS_le (n := rows.length) (by omega)
  have hj : joinOk "\n" (LS ++ [manyS rows.length]) = true := by
    have h3 := sum_le (n := 1000) (ts := LS ++ [manyS rows.length]) fun t ht => by
      rcases List.mem_append.mp ht with ht | ht
      · exact hlb t ht
      · rw [List.mem_singleton.mp ht]; omega
    have h4 : ("\n" : Str).length = 1 := by decide +kernel
    rw [List.length_append, List.length_singleton] at h3
    refine decide_eq_true ?_
    rw [h4, List.length_append, List.length_singleton]
    omega
  have hle : ∀ m : Str, (LS.map PyData.str).length + [PyData.str m].length ≤ sizeLine := fun m => by rw [List.length_map, List.length_singleton]; omega
  have htx : ∀ m : Str, txts (LS.map PyData.str ++ [PyData.str m]) = some (LS ++ [m]) := fun m => by
    have := txts_str (LS ++ [m])
    rw [List.map_append] at this
    exact this
  have had : ∀ m : Str, addG (.list (LS.map PyData.str)) (.list [.str m]) = some (.list (LS.map PyData.str ++ [PyData.str m])) := fun m => add_lst (hle m)
  by_cases h1r : rows.length = 1
  · have hb : (((rows.length : Nat) : Int) == 1) = true := by rw [h1r]; rfl
    have hmy : manyS rows.length = "(1 row)" := by rw [h1r]; rfl
    rw [hb]
    rw [hmy] at hj ⊢
    simp_arith [had, txtsIn_l, htx, hj]
  · have hb : (((rows.length : Nat) : Int) == 1) = false := by rw [beq_eq_false_iff_ne]; omega
    rw [hb]
    simp_arith []
    have hln : lenG [.tuple (rows.map PyData.tuple)] = some (.int (rows.length : Nat)) := by
      show some (PyData.int ((rows.map PyData.tuple).length : Nat)) = _
      rw [hlr]
    have hfm : fmtG (.int (rows.length : Nat)) = some (.str (toString ((rows.length : Nat) : Int))) := by
      have hl : ((rows.length : Nat) : Int).natAbs.log2 < 1920 := by
        rw [Int.natAbs_natCast]
        exact Nat.lt_of_le_of_lt (Nat.log2_le_self _) (by omega)
      exact if_pos hl
    have hme := many_eq h1r
    have e : ∀ a b : Str, (a ++ b).length = a.length + b.length := fun a b => strLen_append a b
    rw [hme, e, e] at hml
    have hme2 := e (Str.empty ++ "(") (toString ((rows.length : Nat) : Int))
    refine wp_js ?_
    simp_arith []
    have b1 : (Str.empty ++ Str.ofString "(").length ≤ 1000 := by decide +kernel
    refine ⟨by omega, ?_⟩
    refine wp_js ?_
    simp_arith [hln, hfm]
    refine ⟨by rw [e]; exact Nat.le_trans (Nat.le_trans (Nat.le_add_right _ _) hml) (by omega), ?_⟩
    refine wp_js ?_
    simp_arith []
    refine ⟨by rw [e, e]; exact Nat.le_trans hml (by omega), ?_⟩
    refine wp_js0 ?_
    rw [← hme]
    simp_arith [had, txtsIn_l, htx, hj]
end K03

namespace K03
open PySem PySem.Spec PyProof.Rows L2 DL
/-! ### the law's lines -/
def rowD : D → D
  | .tuple es => .list (es.map strD)
  | _ => .none
theorem rowD_map (rows : List (List D)) : (rows.map PyData.tuple).map rowD = (rows.map rowS).map strsD := by
  rw [List.map_map, List.map_map]
  exact List.map_congr_left fun es _ => by show PyData.list (es.map strD) = _; rw [str_map]; rfl
theorem isi_cell {d : D} (h : Cell d) : (∃ i : Int, d = .int i ∧ isiD "int" d = true) ∨ ∃ x, d = .str x ∧ isiD "int" d = false ∧ tell d = x := by
  rcases h with ⟨i, rfl, _⟩ | ⟨x, rfl, _⟩
  · exact .inl ⟨i, rfl, rfl⟩
  · exact .inr ⟨x, rfl, rfl, rfl⟩
def padD (cl : Cl) (ws : List Nat) : D → D
  | .tuple [.int p, .str x] => .str (padR (cl.getD p.toNat ("", .b)).2 (ws.getD p.toNat 0) x)
  | _ => .none
theorem pad_enum (cl : Cl) (ws : List Nat) : ∀ (xs : List Str) (cl' : Cl) (ws' : List Nat) (k : Nat), xs.length = cl'.length → xs.length = ws'.length → (∀ i, cl'[i]? = cl[k + i]?) → (∀ i, ws'[i]? = ws[k + i]?) →
    (((xs.map PyData.str).zipIdx k).map fun p => padD cl ws (.tuple [.int (p.2 : Nat), p.1])) = (padL cl' ws' xs).map .str
  | [], [], [], _, _, _, _, _ => rfl
  | x :: xs, c :: cl', w :: ws', k, h1, h2, h3, h4 => by
    have ih := pad_enum cl ws xs cl' ws' (k + 1) (by simpa using h1) (by simpa using h2) (fun i => by have := h3 (i + 1); rw [List.getElem?_cons_succ] at this; rw [this]; congr 1; omega) (fun i => by have := h4 (i + 1); rw [List.getElem?_cons_succ] at this; rw [this]; congr 1; omega)
    have e3 := h3 0
    have e4 := h4 0
    rw [List.map_cons, List.zipIdx_cons, List.map_cons, ih]
    show PyData.str (padR (cl.getD (Int.toNat (k : Nat)) ("", .b)).2 (ws.getD (Int.toNat (k : Nat)) 0) x) :: _ = _
    rw [Int.toNat_natCast, List.getD_eq_getElem?_getD, List.getD_eq_getElem?_getD, show cl[k]? = some c by simpa using e3.symm, show ws[k]? = some w by simpa using e4.symm]
    rfl
  | [], _ :: _, _, _, h, _, _, _ => by simp at h
  | [], [], _ :: _, _, _, h, _, _ => by simp at h
  | _ :: _, [], _, _, h, _, _, _ => by simp at h
  | _ :: _, _ :: _, [], _, _, h, _, _ => by simp at h
theorem pad_map {cl : Cl} {ws : List Nat} {xs : List Str} (h1 : xs.length = cl.length) (h2 : xs.length = ws.length) : (enumL (xs.map .str)).map (padD cl ws) = (padL cl ws xs).map .str := by
  unfold enumL
  rw [List.map_map]
  exact pad_enum cl ws xs cl ws 0 h1 h2 (fun i => by rw [Nat.zero_add]) (fun i => by rw [Nat.zero_add])
theorem enumL_len (ds : List D) : (enumL ds).length = ds.length := by unfold enumL; rw [List.length_map, List.length_zipIdx]
theorem enum_drop {ds rest : List D} {p : Nat} {d x : D} (hx : ds[p]? = some x) (e : d :: rest = (enumL ds).drop p) : d = .tuple [.int (p : Nat), x] ∧ rest = (enumL ds).drop (p + 1) := by
  have hp : p < (enumL ds).length := by
    rw [enumL_len]
    exact (List.getElem?_eq_some_iff.mp hx).1
  rw [List.drop_eq_getElem_cons hp, List.cons.injEq] at e
  refine ⟨e.1.trans ?_, e.2⟩
  have h : (enumL ds)[p]? = some (.tuple [.int (p : Nat), x]) := by
    unfold enumL
    rw [List.getElem?_map, List.getElem?_zipIdx, hx]
    show some (PyData.tuple [.int ((0 + p : Nat) : Int), x]) = _
    rw [Nat.zero_add]
  rw [List.getElem?_eq_getElem hp] at h
  exact Option.some.inj h
theorem fits_at : ∀ {ws : List Nat} {xs : List Str} {p : Nat} {x : Str}, Fits ws xs → xs[p]? = some x → ∃ w, ws[p]? = some w ∧ x.length ≤ w ∧ w ≤ 100
  | w :: ws, y :: xs, 0, x, h, e => by cases e; exact ⟨w, rfl, h.1, h.2.1⟩
  | w :: ws, y :: xs, p + 1, x, h, e => by
    rw [List.getElem?_cons_succ] at e ⊢
    exact fits_at h.2.2 e
  | [], [], _, _, _, e => by simp at e
  | [], _ :: _, _, _, h, _ => h.elim
  | _ :: _, [], _, _, h, _ => h.elim
theorem rdk_lst {s : Sl} {i : Nat} {r : Rho} {Q : D → Rho → Prop} {ds : List D} (h2 : s = .own (.list ds) ∨ s = .fz (.list ds)) (hr : r[i]? = some s) (h : Q (.list ds) (r.set i (.fz (.list ds)))) : RdK (some s) i r Q := by
  rcases h2 with rfl | rfl
  · exact h
  · have e : r.set i (.fz (.list ds)) = r := by
      apply List.ext_getElem?
      intro j
      by_cases hj : i = j
      · subst hj
        rw [hr, List.getElem?_set_self (List.getElem?_eq_some_iff.mp hr).1]
      · rw [List.getElem?_set_ne hj]
    rw [e] at h
    exact h
theorem cut_1 (A : D) (Bs : List D) : DL.cutD (A :: Bs) none (some 1) = [A] := by
  unfold DL.cutD
  have e1 : HT.sIx (A :: Bs).length 0 none = 0 := rfl
  have e2 : HT.sIx (A :: Bs).length (A :: Bs).length (some 1) = 1 := by
    rw [show (some (1 : Int)) = some ((1 : Nat) : Int) from rfl, HT.sIx_nat, List.length_cons]
    omega
  rw [e1, e2]
  rfl
theorem cut_r (A : D) (Bs : List D) : DL.cutD (A :: Bs) (some 1) none = Bs := by
  unfold DL.cutD
  have e1 : HT.sIx (A :: Bs).length 0 (some 1) = 1 := by
    rw [show (some (1 : Int)) = some ((1 : Nat) : Int) from rfl, HT.sIx_nat, List.length_cons]
    omega
  have e2 : HT.sIx (A :: Bs).length (A :: Bs).length none = (A :: Bs).length := rfl
  rw [e1, e2]
  simp
def lawLs (cl : Cl) (rows : List (List D)) : List Str := lineR cl (wsN cl (tbl cl rows)) (namesS cl) :: Txt.join "  " ((wsN cl (tbl cl rows)).map (fill 45)) :: ((rows.map fun es => lineR cl (wsN cl (tbl cl rows)) (rowS es)) ++ [manyS rows.length])
theorem e__law_lines {cl : Cl} {rows : List (List D)} (h8 : cl.length ≤ 8) (h1 : 1 ≤ cl.length) (hn : ∀ c ∈ cl, SS 8 (.str c.1)) (hr : ∀ es ∈ rows, RowC cl.length es) (hm : rows.length ≤ 40) :
    ans (G__law_lines [.fz (colsD cl), .fz (.tuple (rows.map .tuple))]) = some (.list ((lawLs cl rows).map .str)) := by
  have hs : (100000 : Nat) ≤ sizeLine := by decide
  refine call_eq ?_
  have hF := fun {x : Str} {k : Kd} {w : Nat} (hx : x.length ≤ w) (hw : w ≤ 1000) => e__law_filled (k := k) hx hw
  have hB := fun {x : Str} (hx : x.length ≤ 10000) => e__law_bare hx
  unfold G__law_lines m__law_lines
  generalize G__law_filled = GF at hF ⊢
  generalize G__law_bare = GB at hB ⊢
  have ec : colsD cl = .tuple (cl.map cD) := rfl
  simp_arith [ec]
  refine wp_lcx (fun r => ∃ s8 s12, light s8 = true ∧ light s12 = true ∧ r = [.fz (.tuple (cl.map cD)), .fz (.tuple (rows.map .tuple)), .emp, .emp, .emp, .emp, .emp, .emp, s8, .emp, .emp, .emp, s12, .emp, .emp]) (fun _ => true) rowD (fun r ⟨s8, s12, l8, l12, e⟩ => by subst e; simp [okW, l8]) ?_
  simp_arith []
  refine ⟨by rw [List.length_map]; omega, ⟨.emp, .emp, rfl, rfl, rfl⟩, ?_, ?_⟩
  · rintro d hd r ⟨s8, s12, l8, l12, rfl⟩
    obtain ⟨es, hes, rfl⟩ := List.mem_map.mp hd
    have hrc := hr es hes
    simp_arith [wR]
    refine ⟨⟨_, _, rfl, l12, rfl⟩, fun _ => ?_⟩
    refine wp_lcx (fun r => ∃ s12, light s12 = true ∧ r = [.fz (.tuple (cl.map cD)), .fz (.tuple (rows.map .tuple)), .emp, .emp, .emp, .emp, .emp, .emp, .fz (.tuple es), .emp, .emp, .emp, s12, .emp, .emp]) (fun _ => true) strD (fun r ⟨s12, l12, e⟩ => by subst e; simp [okW, l12]) ?_
    simp_arith []
    refine ⟨by rw [hrc.1]; omega, ⟨s12, l12, rfl⟩, ?_, ?_⟩
    · rintro v hv r ⟨s12, l12, rfl⟩
      have hcv := hrc.2 v hv
      have hsv := str_cell hcv
      rcases isi_cell hcv with ⟨i, rfl, hi⟩ | ⟨x, rfl, hi, hx⟩
      · simp_arith [wR, hi, hsv]
        exact ⟨⟨_, rfl, rfl⟩, fun _ => ⟨rfl, _, rfl, rfl⟩⟩
      · simp_arith [wR, hi]
        exact ⟨⟨_, rfl, rfl⟩, fun _ => ⟨rfl, _, rfl, rfl⟩⟩
    rintro r1 ⟨s12', l12', rfl⟩
    rw [List.filter_eq_self.mpr (fun _ _ => rfl)]
    exact ⟨rfl, _, _, rfl, l12, rfl⟩
  rintro r1 ⟨s8, s12, l8, l12, rfl⟩
  rw [List.filter_eq_self.mpr (fun _ _ => rfl), rowD_map]
  have hTb := tbl_tb hn hr
  have hTl : (tbl cl rows).length ≤ 41 := by unfold tbl; rw [List.length_cons, List.length_map]; omega
  have hTn : tbl cl rows ≠ [] := by unfold tbl; simp
  obtain ⟨Z, hZ⟩ : ∃ Z, Z = lawLs cl rows := ⟨_, rfl⟩
  rw [← hZ]
  unfold lawLs at hZ
  rw [show (rows.map fun es => lineR cl (wsN cl (tbl cl rows)) (rowS es)) = (rows.map rowS).map (lineR cl (wsN cl (tbl cl rows))) by rw [List.map_map]; rfl] at hZ
  have hRl : (rows.map rowS).length = rows.length := List.length_map _
  have hT : tbl cl rows = namesS cl :: rows.map rowS := rfl
  generalize hTR : rows.map rowS = TR at hRl hT hZ ⊢
  generalize tbl cl rows = T at hT hTb hTl hTn hZ
  simp_arith [wR, bkR, Option.getD, k_lnM, k_ln]
  refine (wp_loop_rest (fun rest r => ∃ (p : Nat) (s2 s4 s5 s6 s8 : Sl), p ≤ cl.length ∧ rest = (enumL (cl.map cD)).drop p ∧ (s2 = .own (.list (TR.map strsD)) ∨ s2 = .fz (.list (TR.map strsD))) ∧ light s4 = true ∧ light s5 = true ∧ light s6 = true ∧ light s8 = true ∧ r = [.fz (.tuple (cl.map cD)), .fz (.tuple (rows.map .tuple)), s2, .own (.list (((List.range p).map (wN T)).map natD)), s4, s5, s6, .emp, s8, .emp, .emp, .emp, s12, .emp, .emp]) ?_
    ⟨0, _, .emp, .emp, .emp, .emp, Nat.zero_le _, rfl, .inl rfl, rfl, rfl, rfl, rfl, rfl⟩).mono ?_
  · rintro d rest r ⟨p, s2, s4, s5, s6, s8, hp, er, h2, l4, l5, l6, l8, rfl⟩
    have hp' : p < cl.length := by
      have := congrArg List.length er
      rw [List.length_cons, List.length_drop, enumL_len, List.length_map] at this
      omega
    obtain ⟨c, hc⟩ : ∃ c, cl[p]? = some c := ⟨_, List.getElem?_eq_getElem hp'⟩
    obtain ⟨e1, e2⟩ := enum_drop (ds := cl.map cD) (by rw [List.getElem?_map, hc]; rfl) er
    subst e1 e2
    have hix : ∀ l ∈ TR, ixG (strsD l) (.int (p : Nat)) = some (.str (l.getD p "")) := fun l hl => ix_strs (by rw [(hTb l (by rw [hT]; exact List.mem_cons_of_mem _ hl)).1]; exact hp')
    have hln : ∀ l ∈ TR, lenG [.str (l.getD p "")] = some (lenAt p (strsD l)) := fun l hl => by
      have hlT : l ∈ T := by rw [hT]; exact List.mem_cons_of_mem _ hl
      have e : l[p]? = some (l.getD p "") := by rw [List.getD_eq_getElem?_getD, List.getElem?_eq_getElem (by rw [(hTb l hlT).1]; exact hp')]; rfl
      have e1 := len_str (x := l.getD p "") (by have := getD_le hTb hlT p; omega)
      rw [e1]
      show _ = some (match (l.map PyData.str)[p]? with | some (.str x) => PyData.int (x.length : Nat) | _ => .none)
      rw [List.getElem?_map, e]
      rfl
    have hmx := max_of hTb hp' hTn
    have hcl : lenG [.str c.1] = some (.int (c.1.length : Nat)) := len_str (by obtain ⟨_, e, h, _⟩ := hn c (List.mem_of_getElem? hc); cases e; omega)
    have hsum : addG (.list [.int (c.1.length : Nat)]) (.list ((TR.map strsD).map (lenAt p))) = some (.list ((T.map strsD).map (lenAt p))) := by
      rw [add_lst (by rw [List.length_map, List.length_map, hRl, List.length_singleton]; omega), hT, List.map_cons, List.map_cons]
      have e : (namesS cl)[p]? = some c.1 := by unfold namesS; rw [List.getElem?_map, hc]; rfl
      have e2 : lenAt p (strsD (namesS cl)) = .int (c.1.length : Nat) := by
        show (match ((namesS cl).map PyData.str)[p]? with | some (.str x) => PyData.int (x.length : Nat) | _ => .none) = _
        rw [List.getElem?_map, e]
        rfl
      rw [e2]
      rfl
    simp_arith [cD, pt_light l4, pt_light l5, pt_light l6]
    refine wp_mutM rfl ?_
    simp_arith [hcl]
    refine wp_lcx (fun r => ∃ s8, light s8 = true ∧ r = [.fz (.tuple (cl.map cD)), .fz (.tuple (rows.map .tuple)), .fz (.list (TR.map strsD)), .own (.list (((List.range p).map (wN T)).map natD)), .fz (.int (p : Nat)), .fz (.str c.1), .fz (kdD c.2), .emp, s8, .emp, .emp, .emp, s12, .emp, .emp]) (fun _ => true) (lenAt p) (fun r ⟨s8, l8, e⟩ => by subst e; simp [okW, l8]) ?_
    have hit : Wp (iterM (rdV 2) [Sl.fz (PyData.tuple (List.map cD cl)), Sl.fz (PyData.tuple (List.map PyData.tuple rows)), s2, Sl.own (PyData.list (List.map natD (List.map (wN T) (List.range p)))), Sl.fz (PyData.int (p : Nat)), Sl.fz (PyData.str c.fst), Sl.fz (kdD c.snd), Sl.emp, s8, Sl.emp, Sl.emp, Sl.emp, s12, Sl.emp, Sl.emp]) fun ds r1 => ds = TR.map strsD ∧ r1 = [Sl.fz (PyData.tuple (List.map cD cl)), Sl.fz (PyData.tuple (List.map PyData.tuple rows)), Sl.fz (.list (TR.map strsD)), Sl.own (PyData.list (List.map natD (List.map (wN T) (List.range p)))), Sl.fz (PyData.int (p : Nat)), Sl.fz (PyData.str c.fst), Sl.fz (kdD c.snd), Sl.emp, s8, Sl.emp, Sl.emp, Sl.emp, s12, Sl.emp, Sl.emp] := by
      rcases h2 with rfl | rfl
      · simp_arith []
      · simp_arith []
    refine hit.mono ?_
    rintro ds r1 ⟨rfl, rfl⟩
    refine ⟨by rw [List.length_map]; omega, ⟨s8, l8, rfl⟩, ?_, ?_⟩
    · rintro v hv r ⟨s8, l8, rfl⟩
      obtain ⟨l, hl, rfl⟩ := List.mem_map.mp hv
      have q1 := hix l hl
      have q2 := hln l hl
      simp_arith [wR, q1, q2]
      exact ⟨⟨_, rfl, rfl⟩, fun _ => ⟨_, rfl, rfl⟩⟩
    rintro r1 ⟨s8', l8', rfl⟩
    rw [List.filter_eq_self.mpr (fun _ _ => rfl)]
    simp_arith [wR, bkR, Option.getD, hsum, hmx]
    refine ⟨_, _, rfl, appL (by rw [List.length_map, List.length_map, List.length_range]; omega), p + 1, _, .fz (.int (p : Nat)), .fz (.str c.1), .fz (kdD c.2), s8, hp', rfl, .inr rfl, rfl, rfl, rfl, l8, ?_⟩
    rw [List.range_succ, List.map_append, List.map_append]
    rfl
  rintro c r ⟨rfl, p, s2, s4, s5, s6, s8, hp, er, h2, l4, l5, l6, l8, rfl⟩
  have hpe : p = cl.length := by
    have := congrArg List.length er
    rw [List.length_nil, List.length_drop, enumL_len, List.length_map] at this
    omega
  subst hpe
  have hws : (List.range cl.length).map (wN T) = wsN cl T := rfl
  rw [hws]
  have hwl : (wsN cl T).length = cl.length := by unfold wsN; rw [List.length_map, List.length_range]
  have hwb : ∀ w ∈ wsN cl T, w ≤ 45 := fun w hw => by
    obtain ⟨p, _, rfl⟩ := List.mem_map.mp hw
    exact w_le (fun l hl p => getD_le hTb hl p) p
  have hfit : ∀ l ∈ T, Fits (wsN cl T) l := fun l hl => fits_of hTb hl
  generalize wsN cl T = ws at hwl hwb hfit hZ ⊢
  simp_arith [k_lnM, k_ln]
  refine wp_lcx (fun r => ∃ s5 s6, light s5 = true ∧ light s6 = true ∧ r = [.fz (.tuple (cl.map cD)), .fz (.tuple (rows.map .tuple)), s2, .own (.list (ws.map natD)), s4, s5, s6, .own (.list []), s8, .emp, .emp, .emp, s12, .emp, .emp]) (fun _ => true) fstD (fun r ⟨s5, s6, l5, l6, e⟩ => by subst e; simp [okW, l5, l6]) ?_
  simp_arith []
  refine ⟨by rw [List.length_map]; omega, ⟨s5, s6, l5, l6, rfl⟩, ?_, ?_⟩
  · rintro d hd r ⟨s5, s6, l5, l6, rfl⟩
    obtain ⟨c, hc, rfl⟩ := List.mem_map.mp hd
    simp_arith [wR, cD]
    exact ⟨⟨_, _, rfl, rfl, rfl⟩, fun _ => ⟨rfl, _, _, rfl, rfl, rfl⟩⟩
  rintro r1 ⟨s5', s6', l5', l6', rfl⟩
  rw [List.filter_eq_self.mpr (fun _ _ => rfl), fst_map]
  have hTT : addG (.list [strsD (namesS cl)]) (.list (TR.map strsD)) = some (.list (T.map strsD)) := by
    rw [add_lst (by rw [List.length_map, hRl, List.length_singleton]; omega), hT]
    rfl
  have e2 : strsD (namesS cl) = .list ((namesS cl).map .str) := rfl
  rw [e2] at hTT
  simp_arith [wR, bkR, Option.getD]
  refine rdk_lst h2 rfl ?_
  simp_arith [hTT]
  refine (wp_loop_rest (fun rest r => ∃ (dn td : List (List Str)) (s4 s8 s9 s13 : Sl), rest = td.map strsD ∧ T = dn ++ td ∧ light s4 = true ∧ light s8 = true ∧ light s9 = true ∧ light s13 = true ∧ r = [.fz (.tuple (cl.map cD)), .fz (.tuple (rows.map .tuple)), .fz (.list (TR.map strsD)), .own (.list (ws.map natD)), s4, s5, s6, .own (.list ((dn.map (lineR cl ws)).map .str)), s8, s9, .emp, .emp, s12, s13, .emp]) ?_
    ⟨[], T, s4, s8, .emp, .emp, rfl, rfl, l4, l8, rfl, rfl, rfl⟩).mono ?_
  · rintro d rest r ⟨dn, td, s4, s8, s9, s13, er, eT, l4, l8, l9, l13, rfl⟩
    match td, er with
    | [], er => cases er
    | l :: td', er =>
    rw [List.map_cons, List.cons.injEq] at er
    obtain ⟨rfl, rfl⟩ := er
    have hlT : l ∈ T := by rw [eT]; exact List.mem_append_right _ List.mem_cons_self
    have hfl := hfit l hlT
    have hll := (hTb l hlT).1
    have e2 : strsD l = .list (l.map .str) := rfl
    simp_arith [pt_light l8, e2]
    refine wp_lcx (fun r => ∃ s4 s13, light s4 = true ∧ light s13 = true ∧ r = [.fz (.tuple (cl.map cD)), .fz (.tuple (rows.map .tuple)), .fz (.list (TR.map strsD)), .own (.list (ws.map natD)), s4, s5, s6, .own (.list ((dn.map (lineR cl ws)).map .str)), .fz (.list (l.map .str)), s9, .emp, .emp, s12, s13, .emp]) (fun _ => true) (padD cl ws) (fun r ⟨s4, s13, l4, l13, e⟩ => by subst e; simp [okW, l4, l13]) ?_
    simp_arith []
    refine ⟨by rw [enumL_len, List.length_map]; omega, ⟨s4, s13, l4, l13, rfl⟩, ?_, ?_⟩
    · rintro v hv r ⟨s4, s13, l4, l13, rfl⟩
      obtain ⟨p, y, rfl, hy⟩ := enum_mem hv
      rw [List.getElem?_map] at hy
      obtain ⟨x, hx, rfl⟩ := Option.map_eq_some_iff.mp hy
      obtain ⟨w, hw, hxw, hw1⟩ := fits_at hfl hx
      have hp : p < cl.length := by rw [← hll]; exact (List.getElem?_eq_some_iff.mp hx).1
      obtain ⟨c, hc⟩ : ∃ c, cl[p]? = some c := ⟨_, List.getElem?_eq_getElem hp⟩
      have hcx : ixG (.tuple (cl.map cD)) (.int (p : Nat)) = some (.tuple [.str c.1, kdD c.2]) := atI_nat (by rw [List.getElem?_map, hc]; rfl)
      have hpd : padD cl ws (.tuple [.int (p : Nat), .str x]) = .str (padR c.2 w x) := by
        show PyData.str (padR (cl.getD (Int.toNat (p : Nat)) ("", .b)).2 (ws.getD (Int.toNat (p : Nat)) 0) x) = _
        rw [Int.toNat_natCast, List.getD_eq_getElem?_getD, List.getD_eq_getElem?_getD, hc, hw]
        rfl
      have hfx := hF (k := c.2) hxw (show w ≤ 1000 by omega)
      have how : ∀ (a b d e f g h i j k m n o : Sl), ownIxO 3 (rdB 4) [a, b, d, .own (.list (ws.map natD)), .fz (.int (p : Nat)), e, f, g, h, i, j, k, m, n, o] = some (.int (w : Nat)) := fun a b d e f g h i j k m n o => by
        show ((ixN (ws.map natD).length (p : Nat)).bind fun j => (ws.map natD)[j]?) = _
        exact atI_nat (by rw [List.getElem?_map, hw]; rfl)
      simp_arith [wR, hcx, hpd, how, hfx]
      exact ⟨⟨_, _, rfl, rfl, rfl⟩, fun _ => ⟨_, _, rfl, rfl, rfl⟩⟩
    rintro r1 ⟨s4', s13', l4', l13', rfl⟩
    rw [List.filter_eq_self.mpr (fun _ _ => rfl), pad_map hll (by rw [hll, hwl])]
    obtain ⟨hp1, hp2⟩ := padL_len hfl hwl.symm
    obtain ⟨hj1, hj2⟩ := join_ok hp2 (by omega)
    have hbx := hB (x := Txt.join "  " (padL cl ws l)) (by omega)
    have hdn : dn.length ≤ 41 := by have := congrArg List.length eT; rw [List.length_append] at this; omega
    simp_arith [wR, bkR, Option.getD, pt_light l9]
    refine wp_mutM rfl ?_
    simp_arith [txtsIn_l, txts_str, hj1, hbx]
    refine ⟨_, _, rfl, appL (by rw [List.length_map, List.length_map]; omega), dn ++ [l], td', s4, .fz (.list (l.map .str)), .fz (.list ((padL cl ws l).map .str)), s13, rfl, by rw [eT, List.append_assoc]; rfl, l4, rfl, rfl, l13, ?_⟩
    rw [List.map_append, List.map_append]
    rfl
  rintro c r ⟨rfl, dn, td, s4', s8', s9', s13', er, eT, l4', l8', l9', l13', rfl⟩
  have etd : td = [] := by cases td with | nil => rfl | cons _ _ => cases er
  subst etd
  rw [List.append_nil] at eT
  subst eT
  simp_arith []
  refine wp_lcx (fun r => ∃ s14, light s14 = true ∧ r = [.fz (.tuple (cl.map cD)), .fz (.tuple (rows.map .tuple)), .fz (.list (TR.map strsD)), .fz (.list (ws.map natD)), s4', s5, s6, .own (.list ((T.map (lineR cl ws)).map .str)), s8', s9', .emp, .emp, s12, s13', s14]) (fun _ => true) dashD (fun r ⟨s14, l14, e⟩ => by subst e; simp [okW, l14]) ?_
  simp_arith []
  refine ⟨by rw [List.length_map]; omega, ⟨.emp, rfl, rfl⟩, ?_, ?_⟩
  · rintro v hv r ⟨s14, l14, rfl⟩
    obtain ⟨w, hw, rfl⟩ := List.mem_map.mp hv
    have hml := mul_one 45 w (by have := hwb w hw; omega)
    have hdd : dashD (natD w) = .str (fill 45 w) := by show PyData.str (fill 45 (Int.toNat (w : Nat))) = _; rw [Int.toNat_natCast]
    have hb : ("-" : Str) = ⟨#[45]⟩ := by decide +kernel
    rw [← hb] at hml
    simp_arith [wR, hdd, natD, hml]
    exact ⟨⟨_, rfl, rfl⟩, fun _ => ⟨rfl, _, rfl, rfl⟩⟩
  rintro r1 ⟨s14, l14, rfl⟩
  rw [List.filter_eq_self.mpr (fun _ _ => rfl), dash_map]
  have hdl : ∀ t ∈ ws.map (fill 45), t.length ≤ 100 := fun t ht => by
    obtain ⟨w, hw, rfl⟩ := List.mem_map.mp ht
    rw [fill_len]
    exact Nat.le_trans (hwb w hw) (by decide)
  obtain ⟨hj1, hj2⟩ := join_ok hdl (by rw [List.length_map]; omega)
  simp_arith [wR, bkR, Option.getD, txtsIn_l, txts_str, hj1]
  have hTRl : (TR.map strsD).length = rows.length := by rw [List.length_map]; exact hRl
  have hLT : (T.map (lineR cl ws)).map PyData.str = .str (lineR cl ws (namesS cl)) :: (TR.map (lineR cl ws)).map .str := by rw [hT]; rfl
  have hBl : ((TR.map (lineR cl ws)).map PyData.str).length ≤ 40 := by rw [List.length_map, List.length_map]; omega
  rw [hLT, hTRl]
  subst hZ
  simp only [List.map_cons, List.map_append, List.map_nil]
  generalize (TR.map (lineR cl ws)).map PyData.str = Bs at hBl ⊢
  generalize PyData.str (lineR cl ws (namesS cl)) = A
  generalize PyData.str (Txt.join (Str.ofString "  ") (ws.map (fill 45))) = Dd
  have hc1 : DL.cutD (A :: Bs) none (some 1) = [A] := cut_1 A Bs
  have hc2 : DL.cutD (A :: Bs) (some 1) none = Bs := cut_r A Bs
  have ha1 : addG (.list [A]) (.list [Dd]) = some (.list [A, Dd]) := add_lst (by simp only [List.length_singleton]; omega)
  have ha2 : addG (.list [A, Dd]) (.list Bs) = some (.list (A :: Dd :: Bs)) := add_lst (by simp only [List.length_cons, List.length_nil]; omega)
  have ha3 : ∀ M, addG (.list (A :: Dd :: Bs)) (.list [M]) = some (.list (A :: Dd :: (Bs ++ [M]))) := fun M => add_lst (by simp only [List.length_cons, List.length_nil]; omega)
  by_cases h1r : rows.length = 1
  · have hb : (((rows.length : Nat) : Int) == 1) = true := by rw [h1r]; rfl
    have hmy : manyS rows.length = "(1 row)" := by rw [h1r]; rfl
    rw [hb, hmy]
    simp_arith [sl_l, hc1, hc2, ha1, ha2, ha3]
  · have hb : (((rows.length : Nat) : Int) == 1) = false := by rw [beq_eq_false_iff_ne]; omega
    have hln : lenG [.list (TR.map strsD)] = some (.int (rows.length : Nat)) := by
      show some (PyData.int ((TR.map strsD).length : Nat)) = _
      rw [hTRl]
    have hst : strG [.int (rows.length : Nat)] = some (.str (toString ((rows.length : Nat) : Int))) := by
      have hl : ((rows.length : Nat) : Int).natAbs.log2 < 1920 := by
        rw [Int.natAbs_natCast]
        exact Nat.lt_of_le_of_lt (Nat.log2_le_self _) (by omega)
      exact if_pos hl
    have hml := manyS_le (n := rows.length) (by omega)
    have hme : manyS rows.length = ("(" ++ (toString ((rows.length : Nat) : Int) : Str)) ++ " rows)" := if_neg h1r
    have e : ∀ a b : Str, (a ++ b).length = a.length + b.length := fun a b => strLen_append a b
    have had1 : addG (.str "(") (.str (toString ((rows.length : Nat) : Int))) = some (.str ("(" ++ (toString ((rows.length : Nat) : Int) : Str))) := add_str (by rw [hme, e, e] at hml; omega)
    have had2 : addG (.str ("(" ++ (toString ((rows.length : Nat) : Int) : Str))) (.str " rows)") = some (.str (("(" ++ (toString ((rows.length : Nat) : Int) : Str)) ++ " rows)")) := add_str (by rw [hme, e] at hml; omega)
    rw [hb, hme]
    simp_arith [hln, hst, had1, had2, sl_l, hc1, hc2, ha1, ha2, ha3]
end K03

namespace DL
open PySem PySem.Spec PyProof.Rows L2
/-! ### how many parts a text has -/
theorem occ_cnt (x : Str) (c : Nat) : ∀ (n i : Nat) (found : Array Nat) (free : Nat), free ≤ i → found.size ≤ i → i + n = x.length + 1 →
    (forIn (List.range' i n) (found, free) (StrLaws.occBody x ⟨#[c]⟩ x.length (x.length + 1))).run.fst.size = found.size + (x.cps.toList.drop i).count c
  | 0, i, found, free, _, _, hn => by
    have hl : x.length = x.cps.toList.length := by simp [Str.length]
    rw [List.drop_eq_nil_of_le (by omega)]
    rfl
  | n + 1, i, found, free, hf, hs, hn => by
    have hl : x.length = x.cps.toList.length := by simp [Str.length]
    rw [List.range'_succ, List.forIn_cons]
    unfold StrLaws.occBody
    have key := StrLaws.subAt_one x c i
    by_cases hc : x.cps.toList[i]? = some c
    · obtain ⟨h1, h2⟩ := key.mpr hc
      have hi : i < x.cps.toList.length := (List.getElem?_eq_some_iff.mp hc).1
      rw [if_pos ⟨⟨⟨by show found.size < _; omega, hf⟩, h1⟩, h2⟩]
      have ih := occ_cnt x c n (i + 1) (found.push i) (i + (⟨#[c]⟩ : Str).length) (Nat.le_refl _) (by rw [Array.size_push]; omega) (by omega)
      refine ih.trans ?_
      have he : x.cps.toList[i] = c := by rw [List.getElem?_eq_getElem hi] at hc; exact Option.some.inj hc
      rw [Array.size_push, List.drop_eq_getElem_cons hi, he, List.count_cons_self]
      omega
    · rw [if_neg fun h => hc (key.mp ⟨h.1.2, h.2⟩)]
      have ih := occ_cnt x c n (i + 1) found free (by omega) (by omega) (by omega)
      refine ih.trans ?_
      by_cases hi : i < x.cps.toList.length
      · have he : x.cps.toList[i] ≠ c := fun e => hc (by rw [List.getElem?_eq_getElem hi, e])
        rw [List.drop_eq_getElem_cons hi, List.count_cons_of_ne he]
      · rw [List.drop_eq_nil_of_le (by omega), List.drop_eq_nil_of_le (by omega)]
theorem split_len {x : Str} {c : Nat} (hc : c < 256) (hx : 0 < x.length) : (Txt.split x ⟨#[c]⟩).length = x.cps.toList.count c + 1 := by
  have ho : (Builtin.Str.occurrences x ⟨#[c]⟩ 0 x.length (x.length + 1)).length = x.cps.toList.count c := by
    rw [StrLaws.occ_eq, Array.length_toList]
    have := occ_cnt x c (x.length + 1 - 0) 0 #[] 0 (Nat.le_refl _) (Nat.le_refl _) (by omega)
    rw [this]
    simp
  unfold Txt.split
  have hk : (decide (x.length < (⟨#[c]⟩ : Str).length) || decide (Builtin.Str.strKind x < Builtin.Str.strKind ⟨#[c]⟩)) = false := by
    have h1 : (⟨#[c]⟩ : Str).length = 1 := rfl
    have h2 : Builtin.Str.strKind ⟨#[c]⟩ = 1 := by
      unfold Builtin.Str.strKind
      rw [if_pos (by simp [hc])]
    have h3 : 1 ≤ Builtin.Str.strKind x := by
      unfold Builtin.Str.strKind
      split
      · exact Nat.le_refl _
      · split <;> decide
    rw [h1, h2, Bool.or_eq_false_iff, decide_eq_false_iff_not, decide_eq_false_iff_not]
    omega
  rw [hk, if_neg (by decide)]
  split
  · rename_i h
    have : (Builtin.Str.occurrences x ⟨#[c]⟩ 0 x.length (x.length + 1)).length = 0 := by rw [List.isEmpty_iff.mp h]; rfl
    rw [ho] at this
    rw [this]
    rfl
  · rw [length_partsBetween, ho]
theorem join_count (c : Nat) : ∀ {ts : List Str}, ts ≠ [] → (∀ t ∈ ts, c ∉ t.cps.toList) → (Str.join ⟨#[c]⟩ ts).cps.toList.count c + 1 = ts.length
  | [], h, _ => absurd rfl h
  | [x], _, h => by
    show x.cps.toList.count c + 1 = 1
    rw [List.count_eq_zero_of_not_mem (h x List.mem_cons_self)]
  | x :: y :: r, _, h => by
    have ih := join_count c (ts := y :: r) (by simp) fun t ht => h t (List.mem_cons_of_mem _ ht)
    have e : (Str.join ⟨#[c]⟩ (x :: y :: r)).cps.toList = x.cps.toList ++ [c] ++ (Str.join ⟨#[c]⟩ (y :: r)).cps.toList := by
      show (x.cps ++ #[c] ++ (Str.join ⟨#[c]⟩ (y :: r)).cps).toList = _
      rw [Array.toList_append, Array.toList_append]
    rw [e, List.count_append, List.count_append, List.count_eq_zero_of_not_mem (h x List.mem_cons_self)]
    simp only [List.count_cons_self, List.count_nil, List.length_cons] at ih ⊢
    omega
end DL
namespace K03
open PySem PySem.Spec PyProof.Rows L2 DL
/-! ### no line holds a break; the dashes end in a dash -/
def OkC (c : Nat) : Prop := c ≠ 10 ∧ c < 1000
def NL (x : Str) : Prop := ∀ c ∈ x.cps.toList, OkC c
theorem NL.n10 {x : Str} (h : NL x) : 10 ∉ x.cps.toList := fun m => (h 10 m).1 rfl
theorem nl_fill {c n : Nat} (h : OkC c) : NL (fill c n) := fun d m => by
  rw [fill_list] at m
  rw [List.eq_of_mem_replicate m]
  exact h
theorem nl_app {x y : Str} (h : NL x) (h' : NL y) : NL (x ++ y) := fun c m => by
  rw [app_list] at m
  exact (List.mem_append.mp m).elim (h c) (h' c)
theorem nl_bare {x : Str} (h : NL x) : NL (bare x) := fun c m => h c (List.mem_of_mem_take m)
theorem ok32 : OkC 32 := ⟨by decide, by decide⟩
theorem ok45 : OkC 45 := ⟨by decide, by decide⟩
theorem nl_pad {k : Kd} {w : Nat} {x : Str} (h : NL x) : NL (padR k w x) := by
  cases k <;> simp only [padR]
  · exact nl_app (nl_fill ok32) h
  · exact nl_app h (nl_fill ok32)
  · exact nl_app h (nl_fill ok32)
theorem nl_padL : ∀ {cl : Cl} {ws : List Nat} {xs : List Str}, (∀ x ∈ xs, NL x) → ∀ t ∈ padL cl ws xs, NL t
  | c :: cl, w :: ws, x :: xs, h, t, m => by
    rcases List.mem_cons.mp m with rfl | m
    · exact nl_pad (h x List.mem_cons_self)
    · exact nl_padL (fun y hy => h y (List.mem_cons_of_mem _ hy)) t m
  | [], _, _, _, _, m => by simp [padL] at m
  | _ :: _, [], _, _, _, m => by simp [padL] at m
  | _ :: _, _ :: _, [], _, _, m => by simp [padL] at m
theorem nl_join {s : Str} (hs : NL s) : ∀ {ts : List Str}, (∀ t ∈ ts, NL t) → NL (Str.join s ts)
  | [], _ => fun c m => by cases m
  | [x], h => h x List.mem_cons_self
  | x :: y :: r, h => nl_app (nl_app (h x List.mem_cons_self) hs) (nl_join hs fun t ht => h t (List.mem_cons_of_mem _ ht))
theorem nl_sp : NL "  " := fun c m => by
  have h : ∀ c ∈ ("  " : Str).cps.toList, c = 32 := by decide +kernel
  rw [h c m]
  exact ok32
theorem nl_line {cl : Cl} {ws : List Nat} {xs : List Str} (h : ∀ x ∈ xs, NL x) : NL (lineR cl ws xs) := by
  unfold lineR
  rw [show Txt.join "  " (padL cl ws xs) = Str.join "  " (padL cl ws xs) from StrLaws.glued_eq_join _ _]
  exact nl_bare (nl_join nl_sp (nl_padL h))
theorem nl_int (i : Int) : NL (toString i : Str) := fun c m => by
  have h : ¬ (c ≠ 45 ∧ (c < 48 ∨ 57 < c)) := fun h => int_text_free' c h i m
  exact ⟨by omega, by omega⟩
theorem nl_cell {d : D} (h : Cell d) : NL (tell d) := by
  rcases h with ⟨i, rfl, _⟩ | ⟨x, rfl, ⟨_, e, _, hc⟩, hx⟩
  · exact nl_int i
  · cases e
    exact fun c m => ⟨hx c m, hc c m⟩
theorem nl_many (n : Nat) : NL (manyS n) := by
  have q : ∀ x : Str, x.cps.toList.all (fun c => decide (c ≠ 10) && decide (c < 1000)) = true → NL x := fun x h c m => by
    have := List.all_eq_true.mp h c m
    rw [Bool.and_eq_true, decide_eq_true_eq, decide_eq_true_eq] at this
    exact this
  unfold manyS
  split
  · exact q _ (by decide +kernel)
  · exact nl_app (nl_app (q _ (by decide +kernel)) (nl_int _)) (q _ (by decide +kernel))
theorem pad_dash {k : Kd} {w : Nat} : padR k w (fill 45 w) = fill 45 w := by
  have e : w - (fill 45 w).length = 0 := by rw [fill_len]; omega
  cases k <;> simp only [padR, e] <;> (apply str_ext; rw [app_list]; simp [fill])
theorem padL_dash : ∀ {cl : Cl} {ws : List Nat}, cl.length = ws.length → padL cl ws (ws.map (fill 45)) = ws.map (fill 45)
  | [], [], _ => rfl
  | c :: cl, w :: ws, h => by
    rw [List.map_cons]
    show padR c.2 w (fill 45 w) :: padL cl ws (ws.map (fill 45)) = _
    rw [pad_dash, padL_dash (by simpa using h)]
  | [], _ :: _, h => by simp at h
  | _ :: _, [], h => by simp at h
theorem bare_id {x : Str} {c : Nat} (h : x.cps.toList.getLast? = some c) (hc : c ≠ 32) : bare x = x := by
  have ht : trail x = 0 := by
    unfold trail
    have e : x.cps.toList.reverse.head? = some c := by rw [List.head?_reverse]; exact h
    cases hr : x.cps.toList.reverse with
    | nil => rfl
    | cons a l =>
      rw [hr] at e
      have : a = c := by simpa using e
      subst this
      rw [List.takeWhile_cons]
      simp [hc]
  apply str_ext
  show x.cps.toList.take (x.length - trail x) = _
  rw [ht, Nat.sub_zero, len_list, List.take_length]
theorem join_last {s : Str} {c : Nat} : ∀ {ts : List Str}, ts ≠ [] → (∀ t ∈ ts, t.cps.toList.getLast? = some c) → (Str.join s ts).cps.toList.getLast? = some c
  | [], h, _ => absurd rfl h
  | [x], _, h => h x List.mem_cons_self
  | x :: y :: r, _, h => by
    have ih := join_last (s := s) (ts := y :: r) (by simp) fun t ht => h t (List.mem_cons_of_mem _ ht)
    have e : (Str.join s (x :: y :: r)).cps.toList = (x ++ s).cps.toList ++ (Str.join s (y :: r)).cps.toList := app_list _ _
    rw [e, List.getLast?_append, ih]
    rfl
theorem dash_line {cl : Cl} {ws : List Nat} (hl : cl.length = ws.length) (h1 : 1 ≤ cl.length) (hw : ∀ w ∈ ws, 1 ≤ w) : lineR cl ws (ws.map (fill 45)) = Txt.join "  " (ws.map (fill 45)) := by
  unfold lineR
  rw [padL_dash hl]
  refine bare_id (c := 45) ?_ (by decide)
  rw [show Txt.join "  " (ws.map (fill 45)) = Str.join "  " (ws.map (fill 45)) from StrLaws.glued_eq_join _ _]
  refine join_last (fun e => by have h0 := congrArg List.length e; rw [List.length_map, List.length_nil] at h0; omega) fun t ht => ?_
  obtain ⟨w, hm, rfl⟩ := List.mem_map.mp ht
  rw [fill_list]
  have := hw w hm
  rw [List.getLast?_replicate, if_neg (by omega)]
theorem w_pos {cl : Cl} {rows : List (List D)} (hn : ∀ c ∈ cl, 1 ≤ c.1.length) : ∀ w ∈ wsN cl (tbl cl rows), 1 ≤ w := fun w hw => by
  obtain ⟨p, hp, rfl⟩ := List.mem_map.mp hw
  have hp' : p < cl.length := by simpa using hp
  have h := w_ge (T := tbl cl rows) (l := namesS cl) List.mem_cons_self p
  have e : (namesS cl).getD p "" = cl[p].1 := by
    unfold namesS
    rw [List.getD_eq_getElem?_getD, List.getElem?_map, List.getElem?_eq_getElem hp']
    rfl
  rw [e] at h
  exact Nat.le_trans (hn _ (List.getElem_mem hp')) h
/-- what both write -/
def gridS (cl : Cl) (rows : List (List D)) : Str := Txt.join "\n" (lawLs cl rows)
theorem grid_both {cl : Cl} {rows : List (List D)} (h1 : 1 ≤ cl.length) (hn : ∀ c ∈ cl, 1 ≤ c.1.length) :
    Txt.join "\n" ((lineR cl (wsN cl (tbl cl rows)) (namesS cl) :: lineR cl (wsN cl (tbl cl rows)) ((wsN cl (tbl cl rows)).map (fill 45)) :: rows.map fun es => lineR cl (wsN cl (tbl cl rows)) (rowS es)) ++ [manyS rows.length]) = gridS cl rows := by
  unfold gridS lawLs
  rw [dash_line (by unfold wsN; rw [List.length_map, List.length_range]) h1 (w_pos hn)]
  rfl
theorem lines_nl {cl : Cl} {rows : List (List D)} (hn : ∀ c ∈ cl, NL c.1) (hr : ∀ es ∈ rows, RowC cl.length es) : ∀ t ∈ lawLs cl rows, NL t := fun t ht => by
    unfold lawLs at ht
    rcases List.mem_cons.mp ht with rfl | ht
    · exact nl_line fun x hx => by
        obtain ⟨c, hc, rfl⟩ := List.mem_map.mp hx
        exact hn c hc
    · rcases List.mem_cons.mp ht with rfl | ht
      · rw [show Txt.join "  " ((wsN cl (tbl cl rows)).map (fill 45)) = Str.join "  " _ from StrLaws.glued_eq_join _ _]
        exact nl_join nl_sp fun t ht => by
          obtain ⟨w, _, rfl⟩ := List.mem_map.mp ht
          exact nl_fill ok45
      · rcases List.mem_append.mp ht with ht | ht
        · obtain ⟨es, he, rfl⟩ := List.mem_map.mp ht
          exact nl_line fun x hx => by
            obtain ⟨d, hd, rfl⟩ := List.mem_map.mp hx
            exact nl_cell ((hr es he).2 d hd)
        · rw [List.mem_singleton.mp ht]
          exact nl_many _
theorem join_lt : ∀ {ts : List Str}, (∀ t ∈ ts, NL t) → ∀ c ∈ (Str.join ⟨#[10]⟩ ts).cps.toList, c < 1000
  | [], _, c, m => by cases m
  | [x], h, c, m => (h x List.mem_cons_self c m).2
  | x :: y :: r, h, c, m => by
    have e : (Str.join ⟨#[10]⟩ (x :: y :: r)).cps.toList = x.cps.toList ++ [10] ++ (Str.join ⟨#[10]⟩ (y :: r)).cps.toList := by
      show (x.cps ++ #[10] ++ (Str.join ⟨#[10]⟩ (y :: r)).cps).toList = _
      rw [Array.toList_append, Array.toList_append]
    rw [e, List.mem_append, List.mem_append] at m
    rcases m with (m | m) | m
    · exact (h x List.mem_cons_self c m).2
    · rw [List.mem_singleton.mp m]; decide
    · exact join_lt (fun t ht => h t (List.mem_cons_of_mem _ ht)) c m
theorem grid_join (cl : Cl) (rows : List (List D)) : gridS cl rows = Str.join ⟨#[10]⟩ (lawLs cl rows) := by
  have hb : ("\n" : Str) = ⟨#[10]⟩ := by decide +kernel
  unfold gridS
  rw [hb]
  exact StrLaws.glued_eq_join _ _
theorem grid_parts {cl : Cl} {rows : List (List D)} (hn : ∀ c ∈ cl, NL c.1) (hr : ∀ es ∈ rows, RowC cl.length es) (hx : 0 < (gridS cl rows).length) : (Txt.split (gridS cl rows) "\n").length = rows.length + 3 := by
  have hb : ("\n" : Str) = ⟨#[10]⟩ := by decide +kernel
  have hL := lines_nl hn hr
  rw [hb, split_len (by decide) hx]
  rw [grid_join, join_count 10 (by unfold lawLs; simp) fun t ht => (hL t ht).n10]
  unfold lawLs
  simp
end K03

namespace DL
open PySem PySem.Spec PyProof.Rows L2
section
/-! ### how great a value is, by its own signs -/
structure Sz (B j w : Nat) (d : D) : Prop where
  sho : d.showable = true
  lv : d.leavesShort B = true
  dp : d.depth ≤ j
  wt : d.weight ≤ w
structure SzL (B j w : Nat) (ds : List D) : Prop where
  sho : PyData.showableAll ds = true
  lv : PyData.leavesShortAll B ds = true
  dp : PyData.depthAll ds ≤ j
  wt : PyData.weightAll ds ≤ w
variable {B j w : Nat}
theorem Sz.mono {j' w' : Nat} {d : D} (h : Sz B j w d) (hj : j ≤ j') (hw : w ≤ w') : Sz B j' w' d := ⟨h.sho, h.lv, Nat.le_trans h.dp hj, Nat.le_trans h.wt hw⟩
theorem SzL.mono {j' w' : Nat} {d : List D} (h : SzL B j w d) (hj : j ≤ j') (hw : w ≤ w') : SzL B j' w' d := ⟨h.sho, h.lv, Nat.le_trans h.dp hj, Nat.le_trans h.wt hw⟩
theorem SzL.nil : SzL B j w [] := ⟨rfl, rfl, Nat.zero_le _, Nat.zero_le _⟩
theorem SzL.cons {w2 w3 : Nat} {d : D} {ds : List D} (h : Sz B j w d) (h2 : SzL B j w2 ds) (h3 : w + 1 + w2 ≤ w3) : SzL B j w3 (d :: ds) := ⟨by rw [PyData.showableAll, h.sho, h2.sho]; rfl, by rw [PyData.leavesShortAll, h.lv, h2.lv]; rfl, by rw [PyData.depthAll]; exact Nat.max_le.mpr ⟨h.dp, h2.dp⟩, by
  rw [PyData.weightAll]
  have := h.wt
  have := h2.wt
  omega⟩
theorem SzL.all : ∀ {ds : List D}, (∀ d ∈ ds, Sz B j w d) → SzL B j (ds.length * (w + 1)) ds
  | [], _ => .nil
  | d :: ds, h => .cons (h d List.mem_cons_self) (SzL.all fun e he => h e (List.mem_cons_of_mem _ he)) (by rw [List.length_cons, Nat.succ_mul]; omega)
theorem SzL.alln {n : Nat} {ds : List D} (h : ∀ d ∈ ds, Sz B j w d) (hn : ds.length ≤ n) : SzL B j (n * (w + 1)) ds := (SzL.all h).mono (Nat.le_refl _) (Nat.mul_le_mul_right _ hn)
theorem SzL.tup {ds : List D} (h : SzL B j w ds) : Sz B (j + 1) w (.tuple ds) := ⟨by simpa [PyData.showable] using h.sho, by simpa [PyData.leavesShort] using h.lv, by have := h.dp; simp only [PyData.depth]; omega, by simpa [PyData.weight] using h.wt⟩
theorem SzL.lst {ds : List D} (h : SzL B j w ds) : Sz B (j + 1) w (.list ds) := ⟨by simpa [PyData.showable] using h.sho, by simpa [PyData.leavesShort] using h.lv, by have := h.dp; simp only [PyData.depth]; omega, by simpa [PyData.weight] using h.wt⟩
theorem Sz.repr {d : D} (h : Sz B j w d) (h8 : 8 ≤ B) (hj : j ≤ 100) (hw : (B + 2) * w + B ≤ sizeLine) : reprG [d] = some (.str d.shown) := by
  unfold reprG
  have := PyData.shown_le B h8 d h.lv
  have h1 := Nat.mul_le_mul_left (B + 2) h.wt
  have h2 := h.dp
  exact if_pos ⟨h.sho, by omega, by omega⟩
theorem Sz.int {i : Int} {b k : Nat} (h : i.natAbs < 2 ^ b) (hk : i.natAbs < 10 ^ k) (k0 : 0 < k) (hb : b < 1920) (hkB : k + 1 ≤ B) : Sz B 0 b (.int i) := by
  have hl : i.natAbs ≠ 0 → i.natAbs.log2 < b := fun hz => (Nat.log2_lt hz).mpr h
  refine ⟨?_, ?_, ?_, ?_⟩
  · simp only [PyData.showable, decide_eq_true_eq]
    by_cases hz : i.natAbs = 0
    · rw [hz]; decide
    · have := hl hz; omega
  · have := int_text_length_le10 (a := i) (k := k) k0 hk
    have e : (PyData.shown (.int i)).length = (toString i).length := by
      simp only [PyData.shown]
      exact PySem.ofString_length _
    simp only [PyData.leavesShort, decide_eq_true_eq, e]
    omega
  · simp [PyData.depth]
  · simp only [PyData.weight]
    split
    · omega
    · rename_i hz
      have : i.natAbs ≠ 0 := fun h0 => hz (by have := Int.natAbs_eq_zero.mp h0; subst this; rfl)
      have := hl this
      omega
theorem SS.sz {n : Nat} {d : D} (h : SS n d) : Sz B 0 n d := by
  obtain ⟨x, rfl, hl, hc⟩ := h
  refine ⟨rfl, ?_, Nat.le_of_eq (by simp [PyData.depth]), ?_⟩
  · simp only [PyData.leavesShort, List.all_eq_true, decide_eq_true_eq]
    intro c h
    exact Nat.lt_trans (hc c h) (by decide)
  · simp only [PyData.weight]
    exact hl
end
end DL
namespace K03
open PySem PySem.Spec PyProof.Rows L2 DL
/-! ### rows -/
theorem nl_of {x : Str} {n : Nat} (h : SS n (.str x)) (h' : 10 ∉ x.cps.toList) : NL x := by
  obtain ⟨_, e, _, hc⟩ := h
  cases e
  exact fun c m => ⟨fun e => h' (e ▸ m), hc c m⟩
theorem txt_10 {x : Str} (h : txtB (.str x) = true) : ∀ c ∈ x.cps.toList, c ≠ 10 := by
  unfold txtB madeOf at h
  simp only [Bool.and_eq_true, decide_eq_true_eq] at h
  have h2 := h.2
  unfold signsIn at h2
  rw [List.all_eq_true] at h2
  intro c hc e
  have := h2 c hc
  rw [decide_eq_true_eq] at this
  subst e
  exact (show 10 ∉ ("abcdefghijklmnopqrstuvwxyz0123456789 " : Str).cps.toList by decide +kernel) this
theorem cell_vk {k : Kd} {z : D} (h : Vk k z) : Cell z := by
  have h0 : (1000000000000 : Nat) < 10 ^ 42 := by decide +kernel
  cases k with
  | n =>
    obtain ⟨i, rfl, hi⟩ := h
    exact .inl ⟨i, rfl, by omega⟩
  | t =>
    obtain ⟨x, rfl, h1, h2⟩ := h
    exact .inr ⟨x, rfl, h2, txt_10 h1⟩
  | b => exact h.elim
def rowPre (ds : List D) : Prop := ∃ cl, ds = [colsD cl] ∧ colsOk cl
def rowPost (ds : List D) (z : D) : Prop := ∃ cl es, ds = [colsD cl] ∧ z = .tuple es ∧ RowC cl.length es
theorem g_row : Draws Loom G__law_row rowPre rowPost := by
  rintro L ds hL ⟨cl, rfl, hc⟩
  have hs : (1000 : Nat) ≤ sizeLine := by decide
  have h8 := hc.1
  unfold G__law_row m__law_row
  simp_arith []
  have ec : colsD cl = .tuple (cl.map cD) := rfl
  refine wp_lcr (fun r => ∃ L s2 s3, Loom L ∧ light s2 = true ∧ light s3 = true ∧ r = [.deep L, .fz (colsD cl), s2, s3]) (fun d y => Cell y) (fun r ⟨L, s2, s3, _, l2, l3, e⟩ => by subst e; simp [okW, l2, l3]) ?_
  rw [ec]
  simp_arith []
  refine ⟨by rw [List.length_map]; omega, ⟨L, .emp, .emp, hL, rfl, rfl, rfl⟩, ?_, ?_⟩
  · rintro d hd r ⟨L, s2, s3, hL, l2, l3, rfl⟩
    obtain ⟨c, hcm, rfl⟩ := List.mem_map.mp hd
    obtain ⟨a, k⟩ := c
    simp_arith [wR, cD]
    refine call_d1 g_value rfl ?_
    simp_arith []
    refine ⟨hL, ⟨k, rfl, (hc.2 _ hcm).2.1⟩, fun z L2 hL2 hz => ⟨?_, L2, _, _, hL2, rfl, rfl, rfl⟩⟩
    obtain ⟨k', e, h⟩ := hz
    exact cell_vk h
  rintro ys r1 hl hP ⟨L4, s2, s3, hL4, l2, l3, rfl⟩
  simp_arith [wR, bkR, Option.getD]
  rw [List.length_map] at hl
  refine ⟨hL4, cl, ys, by rw [ec], rfl, hl, fun z hz => ?_⟩
  obtain ⟨i, hi⟩ := List.getElem?_of_mem hz
  obtain ⟨_, _, h⟩ := hP i z hi
  exact h
theorem o_pow40 : powG (.int 10) (.int 40) = some (.int 10000000000000000000000000000000000000000) := rfl
theorem o_pow13 : powG (.int 10) (.int 13) = some (.int 10000000000000) := rfl
theorem rep6 (x : D) : mulG (.list [x]) (.int 6) = some (.list [x, x, x, x, x, x]) := rfl
theorem cell_int {i : Int} (h : i.natAbs < 10 ^ 42) : Cell (.int i) := .inl ⟨i, rfl, h⟩
def farPre (ds : List D) : Prop := ∃ n es, ds = [.tuple es] ∧ RowC n es ∧ n ≤ 8
def farPost (ds : List D) (z : D) : Prop := ∃ es es', ds = [.tuple es] ∧ z = .tuple es' ∧ RowC es.length es'
theorem g_far : Draws Loom G__law_far farPre farPost := by
  rintro L ds hL ⟨n, es, rfl, hr, hn⟩
  have hs : (1000 : Nat) ≤ sizeLine := by decide
  unfold G__law_far m__law_far
  simp_arith [o_pow40, o_pow13, o_pow12]
  refine wp_lcr (fun r => ∃ L s3, Loom L ∧ light s3 = true ∧ r = [.deep L, .fz (.tuple es), .fz (.list [.int 10000000000000000000000000000000000000000, .int (-10000000000000000000000000000000000000000), .int 10000000000000, .int (-1000000000000 - 1), .int 0, .int (-7)]), s3]) (fun d y => Cell y) (fun r ⟨L, s3, _, l3, e⟩ => by subst e; simp [okW, l3]) ?_
  simp_arith []
  refine ⟨by rw [hr.1]; omega, ⟨L, .emp, hL, rfl, rfl⟩, ?_, ?_⟩
  · rintro d hd r ⟨L, s3, hL, l3, rfl⟩
    have hcd := hr.2 d hd
    rcases isi_cell hcd with ⟨i, rfl, hi⟩ | ⟨x, rfl, hi, hx⟩
    · simp_arith [wR, hi]
      refine call_d1 g_pick rfl ?_
      simp_arith [rep6, o_addL]
      rw [if_pos (by decide)]
      simp_arith []
      refine ⟨hL, pre_list (by simp) (by simp only [List.length_append, List.length_cons, List.length_nil]; decide), fun z L2 hL2 hz => ⟨?_, L2, _, hL2, rfl, rfl⟩⟩
      have hz' := hz _ rfl
      simp only [parts, List.cons_append, List.nil_append, List.mem_cons, List.not_mem_nil, or_false, or_self] at hz'
      rcases hz' with rfl | rfl | rfl | rfl | rfl | rfl | rfl
      · exact cell_int (by decide +kernel)
      · exact cell_int (by decide +kernel)
      · exact cell_int (by decide +kernel)
      · exact cell_int (by decide +kernel)
      · exact cell_int (by decide +kernel)
      · exact cell_int (by decide +kernel)
      · exact hcd
    · simp_arith [wR, hi]
      exact ⟨hcd, L, _, hL, rfl, rfl⟩
  rintro ys r1 hl hP ⟨L4, s3, hL4, l3, rfl⟩
  simp_arith [wR, bkR, Option.getD]
  refine ⟨hL4, es, ys, rfl, rfl, hl, fun z hz => ?_⟩
  obtain ⟨i, hi⟩ := List.getElem?_of_mem hz
  obtain ⟨_, _, h⟩ := hP i z hi
  exact h
end K03

namespace K03
open PySem PySem.Spec PyProof.Rows L2 DL
/-! ### the law -/
def Rows (n : Nat) (rows : List (List D)) : Prop := (∀ es ∈ rows, RowC n es) ∧ rows.length ≤ 33
def rowsD (rows : List (List D)) : D := .tuple (rows.map .tuple)
theorem cols_ss {cl : Cl} (hc : colsOk cl) : ∀ c ∈ cl, SS 8 (.str c.1) := fun c h => (hc.2 c h).1
theorem cols_nl {cl : Cl} (hc : colsOk cl) : ∀ c ∈ cl, NL c.1 := fun c h => nl_of (hc.2 c h).1 (hc.2 c h).2.2.1
theorem cols_pos {cl : Cl} (hc : colsOk cl) : ∀ c ∈ cl, 1 ≤ c.1.length := fun c h => (hc.2 c h).2.2.2
theorem lines_le {cl : Cl} {rows : List (List D)} (hc : colsOk cl) (hr : Rows cl.length rows) : ∀ t ∈ lawLs cl rows, t.length ≤ 1000 := by
  have hTb := tbl_tb (cols_ss hc) hr.1
  have hwl : (wsN cl (tbl cl rows)).length = cl.length := by unfold wsN; rw [List.length_map, List.length_range]
  have hwb : ∀ w ∈ wsN cl (tbl cl rows), w ≤ 45 := fun w hw => by
    obtain ⟨p, _, rfl⟩ := List.mem_map.mp hw
    exact w_le (fun l hl p => getD_le hTb hl p) p
  have hfit : ∀ l ∈ tbl cl rows, Fits (wsN cl (tbl cl rows)) l := fun l hl => fits_of hTb hl
  intro t ht
  unfold lawLs at ht
  rcases List.mem_cons.mp ht with rfl | ht
  · exact lineR_le (hfit _ List.mem_cons_self) hwl.symm hc.1
  · rcases List.mem_cons.mp ht with rfl | ht
    · have hdl : ∀ t ∈ (wsN cl (tbl cl rows)).map (fill 45), t.length ≤ 100 := fun t ht => by
        obtain ⟨w, hw, rfl⟩ := List.mem_map.mp ht
        rw [fill_len]
        exact Nat.le_trans (hwb w hw) (by decide)
      exact (join_ok hdl (by rw [List.length_map, hwl]; exact hc.1)).2
    · rcases List.mem_append.mp ht with ht | ht
      · obtain ⟨es, he, rfl⟩ := List.mem_map.mp ht
        exact lineR_le (hfit _ (List.mem_cons_of_mem _ (List.mem_map_of_mem he))) hwl.symm hc.1
      · rw [List.mem_singleton.mp ht]
        exact manyS_le (by have := hr.2; omega)
theorem lines_many (cl : Cl) (rows : List (List D)) : (lawLs cl rows).length = rows.length + 3 := by unfold lawLs; simp
theorem lines_join {cl : Cl} {rows : List (List D)} (hc : colsOk cl) (hr : Rows cl.length rows) : joinOk "\n" (lawLs cl rows) = true ∧ (gridS cl rows).length ≤ 40000 := by
  have h1 := sum_le (lines_le hc hr)
  have h2 := lines_many cl rows
  have h3 := hr.2
  have h4 : ("\n" : Str).length = 1 := by decide +kernel
  have h5 : (lawLs cl rows).length * 1000 ≤ 36000 := by omega
  refine ⟨decide_eq_true (by rw [h4]; omega), ?_⟩
  have h6 := StrLaws.join_length_le "\n" (lawLs cl rows)
  rw [h4] at h6
  unfold gridS
  rw [show Txt.join "\n" (lawLs cl rows) = Str.join "\n" _ from StrLaws.glued_eq_join _ _]
  omega
theorem many_pos (n : Nat) : 0 < (manyS n).length := by
  unfold manyS
  split
  · decide +kernel
  · have e : ∀ a b : Str, (a ++ b).length = a.length + b.length := fun a b => strLen_append a b
    rw [e]
    have : (" rows)" : Str).length = 6 := by decide +kernel
    omega
theorem join_pos {s x : Str} : ∀ {ts : List Str}, 0 < x.length → x ∈ ts → 0 < (Str.join s ts).length
  | [y], h, m => by rw [List.mem_singleton.mp m] at h; exact h
  | y :: z :: r, h, m => by
    have e : ∀ a b : Str, (a ++ b).length = a.length + b.length := fun a b => strLen_append a b
    show 0 < (y ++ s ++ Str.join s (z :: r)).length
    rw [e, e]
    rcases List.mem_cons.mp m with rfl | m
    · omega
    · have := join_pos (s := s) h m
      omega
theorem grid_pos (cl : Cl) (rows : List (List D)) : 0 < (gridS cl rows).length := by
  rw [grid_join]
  exact join_pos (many_pos rows.length) (by unfold lawLs; simp)
theorem grid_ss {cl : Cl} {rows : List (List D)} (hc : colsOk cl) (hr : Rows cl.length rows) : SS 40000 (.str (gridS cl rows)) := ⟨_, rfl, (lines_join hc hr).2, fun c m => by
  rw [grid_join] at m
  exact join_lt (lines_nl (cols_nl hc) hr.1) c m⟩
theorem e_grid' {cl : Cl} {rows : List (List D)} (hc : colsOk cl) (h1 : 1 ≤ cl.length) (hr : Rows cl.length rows) : ans (G_grid [.fz (colsD cl), .fz (rowsD rows)]) = some (.str (gridS cl rows)) := by
  obtain ⟨z, h, e⟩ := e_grid hc.1 h1 (cols_ss hc) hr.1 (by have := hr.2; omega)
  rw [grid_both h1 (cols_pos hc)] at e
  rw [e] at h
  exact h
theorem e_lines' {cl : Cl} {rows : List (List D)} (hc : colsOk cl) (h1 : 1 ≤ cl.length) (hr : Rows cl.length rows) : ans (G__law_lines [.fz (colsD cl), .fz (rowsD rows)]) = some (.list ((lawLs cl rows).map .str)) := e__law_lines hc.1 h1 (cols_ss hc) hr.1 (by have := hr.2; omega)
theorem repr_two {x : Str} (h : SS 40000 (.str x)) : ∃ s, reprG [.list [.str x, .str x]] = some (.str s) := by
  have h0 : Sz 8 0 40000 (.str x) := h.sz
  have h1 : Sz 8 1 80002 (.list [.str x, .str x]) := SzL.lst (SzL.cons (w2 := 40001) h0 (SzL.cons (w2 := 0) h0 SzL.nil (by decide)) (by decide))
  exact ⟨_, h1.repr (by decide) (by decide) (by decide)⟩
theorem cell_sz {d : D} (h : Cell d) : Sz 46 0 140 d := by
  rcases h with ⟨i, rfl, hi⟩ | ⟨x, rfl, hx, _⟩
  · have h1 : (10 : Nat) ^ 42 < 2 ^ 140 := by decide +kernel
    exact Sz.int (b := 140) (k := 42) (by omega) hi (by decide) (by decide) (by decide)
  · exact (hx.sz (B := 46)).mono (Nat.le_refl _) (by decide)
theorem kd_sz (k : Kd) : Sz 46 0 8 (kdD k) := by
  have q : ∀ x : Str, x.length ≤ 8 → x.cps.toList.all (fun c => decide (c < 1000)) = true → Sz 46 0 8 (.str x) := fun x h1 h2 => SS.sz ⟨_, rfl, h1, fun c m => by
    have := List.all_eq_true.mp h2 c m
    rwa [decide_eq_true_eq] at this⟩
  cases k
  · exact q _ (by decide +kernel) (by decide +kernel)
  · exact q _ (by decide +kernel) (by decide +kernel)
  · exact q _ (by decide +kernel) (by decide +kernel)
theorem repr_kept {cl : Cl} {rows : List (List D)} (hc : colsOk cl) (hr : Rows cl.length rows) : ∃ s, reprG [.list [colsD cl, rowsD rows]] = some (.str s) := by
  have h1 : Sz 46 2 (8 * 19) (colsD cl) := SzL.tup (SzL.alln (w := 18) (n := 8) (fun d hd => by
    obtain ⟨c, hm, rfl⟩ := List.mem_map.mp hd
    exact SzL.tup (SzL.cons (w := 8) (w2 := 9) (w3 := 18) (hc.2 c hm).1.sz (SzL.cons (w := 8) (w2 := 0) (kd_sz _) SzL.nil (by decide)) (by decide))) (by rw [List.length_map]; exact hc.1))
  have h2 : Sz 46 2 (33 * 1129) (rowsD rows) := SzL.tup (SzL.alln (w := 1128) (n := 33) (fun d hd => by
    obtain ⟨es, hm, rfl⟩ := List.mem_map.mp hd
    exact SzL.tup (SzL.alln (w := 140) (n := 8) (fun e he => cell_sz ((hr.1 es hm).2 e he)) (by rw [(hr.1 es hm).1]; exact hc.1))) (by rw [List.length_map]; exact hr.2))
  have h3 : Sz 46 3 40000 (.list [colsD cl, rowsD rows]) := SzL.lst (SzL.cons h1 (SzL.cons (w2 := 0) (w3 := 37258) h2 SzL.nil (by decide)) (by decide))
  exact ⟨_, h3.repr (by decide) (by decide) (by decide)⟩
theorem pick5 (j : Nat) (hj : j < 5) : ∀ m : Nat, m < 5 → ∃ n : Nat, ixG (.list [.int 1, .int 2, .int 3, .int 8, .int (1 + (j : Nat))]) (.int (m : Nat)) = some (.int (n : Nat)) ∧ 1 ≤ n ∧ n ≤ 8
  | 0, _ => ⟨1, rfl, by omega, by omega⟩
  | 1, _ => ⟨2, rfl, by omega, by omega⟩
  | 2, _ => ⟨3, rfl, by omega, by omega⟩
  | 3, _ => ⟨8, rfl, by omega, by omega⟩
  | 4, _ => ⟨1 + j, by show some (PyData.int (1 + (j : Nat))) = _; rw [Int.natCast_add]; rfl, by omega, by omega⟩
  | m + 5, h => by omega
theorem pick_gap {z : D} (h : pickPost [.list [.str "", .str " ", .str " a ", .str "b  "]] z) : Cell z := by
  have q : ∀ x : Str, x.length ≤ 12 → x.cps.toList.all (fun c => decide (c < 1000) && decide (c ≠ 10)) = true → Cell (.str x) := fun x h1 h2 => by
    have h3 := fun c m => List.all_eq_true.mp h2 c m
    simp only [Bool.and_eq_true, decide_eq_true_eq] at h3
    exact .inr ⟨x, rfl, ⟨x, rfl, h1, fun c m => (h3 c m).1⟩, fun c m => (h3 c m).2⟩
  have hz' : z ∈ [PyData.str "", .str " ", .str " a ", .str "b  "] := h _ rfl
  simp only [List.mem_cons, List.not_mem_nil, or_false] at hz'
  rcases hz' with rfl | rfl | rfl | rfl
  · exact q _ (by decide +kernel) (by decide +kernel)
  · exact q _ (by decide +kernel) (by decide +kernel)
  · exact q _ (by decide +kernel) (by decide +kernel)
  · exact q _ (by decide +kernel) (by decide +kernel)
theorem sn_light {s : Sl} {x : Option Rho} (h : light s = true) : sn (some s) x = x := by
  cases s with
  | emp => rfl
  | fz _ => rfl
  | fn _ => rfl
  | own _ => cases h
  | deep _ => cases h
theorem tuples_of {P : List D → Prop} : ∀ {ys : List D}, (∀ y ∈ ys, ∃ es, y = .tuple es ∧ P es) → ∃ rows : List (List D), ys = rows.map .tuple ∧ ∀ es ∈ rows, P es
  | [], _ => ⟨[], rfl, fun _ h => nomatch h⟩
  | y :: ys, h => by
    obtain ⟨es, rfl, he⟩ := h y List.mem_cons_self
    obtain ⟨rows, rfl, hr⟩ := tuples_of (ys := ys) fun z hz => h z (List.mem_cons_of_mem _ hz)
    exact ⟨es :: rows, rfl, fun e m => (List.mem_cons.mp m).elim (fun q => q ▸ he) (hr e)⟩
theorem seq_cut {f g : M Ctl} {r : Rho} {Q : Ctl → Rho → Prop} (P : Rho → Prop) (h1 : Wp (f r) fun c r1 => c = .nx ∧ P r1) (h2 : ∀ r1, P r1 → Wp (g r1) Q) : Wp (seqM f g r) Q :=
  wp_seq_of (h1.mono fun c r1 ⟨e, h⟩ => ⟨e, h2 r1 h⟩)
theorem put_of {i : Nat} {d : D} {r : Rho} {s : Sl} {Q : Ctl → Rho → Prop} (hs : r[i]? = some s) (l : light s = true) (h : Q .nx (r.set i (.fz d))) : Wp (tgPut i d r) Q := by
  rw [k_tgPut, hs, pt_light l]
  exact h
theorem kd_inj {a b : Kd} (h : kdD a = kdD b) : a = b := by
  have := kd_eqv a b
  rw [h, kd_eqv] at this
  by_cases e : a = b
  · exact e
  · rw [decide_eq_true (rfl : b = b), decide_eq_false e] at this
    cases this
theorem cols_inj : ∀ {a b : Cl}, colsD a = colsD b → a = b := by
  intro a b h
  have h' : a.map cD = b.map cD := by injection h
  clear h
  induction a generalizing b with
  | nil => cases b with
    | nil => rfl
    | cons y b => cases h'
  | cons x a ih =>
    cases b with
    | nil => cases h'
    | cons y b =>
      rw [List.map_cons, List.map_cons, List.cons.injEq] at h'
      obtain ⟨x1, x2⟩ := x
      obtain ⟨y1, y2⟩ := y
      have h1 := h'.1
      unfold cD at h1
      simp only [PyData.tuple.injEq, List.cons.injEq, PyData.str.injEq, and_true] at h1
      rw [ih h'.2, h1.1, kd_inj h1.2]
theorem range1_14 : rng [.int 14] = some (rangeL 0 14) := range1_ok (n := 14) (by decide)
theorem law_true (ns : List Int) (h : ns.length ≤ 63) : ∃ r, G_law [.fz (.list (ns.map PyData.int))] = .ok (.bool true) r := by
  refine of_ans (ans_of_wp ?_)
  have hs : (1000 : Nat) ≤ sizeLine := by decide
  have gC := g_columns
  have gR := g_row
  have gF := g_far
  have hG := @e_grid'
  have hL := @e_lines'
  unfold G_law m_law
  rw [rng_eq]
  generalize G__law_columns = GC at gC ⊢
  generalize G__law_row = GR at gR ⊢
  generalize G__law_far = GF at gF ⊢
  generalize G_grid = GG at hG ⊢
  generalize G__law_lines = GL at hL ⊢
  simp_arith []
  refine wp_mkM' ?_
  simp_arith []
  refine (loom_wp ns h).mono fun kvs _ hLo => ?_
  refine ⟨rfl, ?_⟩
  try simp_arith []
  generalize PyData.list (ns.map PyData.int) = nd
  rw [range1_14]
  try simp_arith []
  refine (wp_loop_inv (fun r => ∃ U s2 s3 s4 s5 s6 s7 s8 s9, Loom U ∧ light s2 = true ∧ light s3 = true ∧ light s4 = true ∧ light s5 = true ∧ light s6 = true ∧ light s7 = true ∧ light s8 = true ∧ light s9 = true ∧ r = [.fz nd, .deep U, s2, s3, s4, s5, s6, s7, s8, s9]) ⟨_, .emp, .emp, .emp, .emp, .emp, .emp, .emp, .emp, hLo, rfl, rfl, rfl, rfl, rfl, rfl, rfl, rfl, rfl⟩ ?_).mono ?_
  · intro d hd r hr
    obtain ⟨U, s2, s3, s4, s5, s6, s7, s8, s9, hU, l2, l3, l4, l5, l6, l7, l8, l9, e⟩ := hr
    subst e
    obtain ⟨i, hi, e⟩ := mem_range0 hd
    subst e
    rw [Int.zero_add]
    refine put_of rfl l2 ?_
    refine seq_cut (fun r => ∃ L cl, Loom L ∧ colsOk cl ∧ 1 ≤ cl.length ∧ r = [.fz nd, .deep L, .fz (.int (i : Nat)), .fz (colsD cl), s4, s5, s6, s7, s8, s9]) ?_ ?_
    · simp_arith [pt_light l3]
      refine call_d1 gC rfl ?_
      simp_arith []
      refine call_d1 g_draw rfl ?_
      simp_arith []
      refine ⟨hU, pre_draw (by decide), fun z L1 hL1 hz => ?_⟩
      obtain ⟨j, rfl, hj⟩ := post_draw hz
      have hj5 : j < 5 := by have := hj (by decide); omega
      obtain ⟨n, hn, n1, n8⟩ := pick5 j hj5 (i % 5) (Nat.mod_lt _ (by decide))
      have hmod : modG (.int (i : Nat)) (.int 5) = some (.int ((i % 5 : Nat) : Int)) := by
        have e : modG (.int (i : Nat)) (.int 5) = some (.int (((i : Nat) : Int) % 5)) := rfl
        rw [e]
        rfl
      simp_arith [hmod, hn]
      refine ⟨hL1, ⟨n, rfl, n8⟩, fun z L2 hL2 hz => ?_⟩
      obtain ⟨n', cl, e, rfl, hln, hc⟩ := hz
      have e' : (n : Int) = (n' : Int) := by injection e with e1; injection e1
      simp_arith [pt_light l3]
      exact ⟨L2, cl, hL2, hc, by omega, rfl⟩
    rintro r1 ⟨L, cl, hL0, hc, h1, rfl⟩
    refine seq_cut (fun r => ∃ L m, Loom L ∧ m ≤ 32 ∧ r = [.fz nd, .deep L, .fz (.int (i : Nat)), .fz (colsD cl), .fz (.int (m : Nat)), s5, s6, s7, s8, s9]) ?_ ?_
    · have d6 : ∀ {L : D}, Loom L → Wp (callM G__law_draw [.ref 1, .val (cV (.int 6))] [.fz nd, .deep L, .fz (.int (i : Nat)), .fz (colsD cl), s4, s5, s6, s7, s8, s9]) fun z r => ∃ L m, Loom L ∧ m ≤ 32 ∧ z = .int (m : Nat) ∧ r = [.fz nd, .deep L, .fz (.int (i : Nat)), .fz (colsD cl), s4, s5, s6, s7, s8, s9] := fun hL0 => by
        refine call_d1 g_draw rfl ?_
        simp_arith []
        refine ⟨hL0, pre_draw (by decide), fun z L1 hL1 hz => ?_⟩
        obtain ⟨j, rfl, hj⟩ := post_draw hz
        exact ⟨L1, j, hL1, by have := hj (by decide); omega, rfl, rfl⟩
      simp_arith []
      by_cases h10 : i = 10
      · have hb : (((i : Nat) : Int) == 10) = true := by rw [h10]; rfl
        rw [hb]
        simp_arith []
        refine call_d1 g_draw rfl ?_
        simp_arith []
        refine ⟨hL0, pre_draw (by decide), fun z L1 hL1 hz => ?_⟩
        obtain ⟨j, rfl, hj⟩ := post_draw hz
        simp_arith []
        cases hj0 : ((j : Nat) : Int) == 0 with
        | true =>
          simp_arith [pt_light l4]
          exact ⟨L1, 32, hL1, by decide, rfl⟩
        | false =>
          simp_arith []
          refine (d6 hL1).mono ?_
          rintro z r ⟨L2, m, hL2, hm, rfl, rfl⟩
          simp_arith [pt_light l4]
          exact ⟨L2, m, hL2, hm, rfl⟩
      · have hb : (((i : Nat) : Int) == 10) = false := by rw [beq_eq_false_iff_ne]; omega
        rw [hb]
        simp_arith []
        refine (d6 hL0).mono ?_
        rintro z r ⟨L2, m, hL2, hm, rfl, rfl⟩
        simp_arith [pt_light l4]
        exact ⟨L2, m, hL2, hm, rfl⟩
    rintro r1 ⟨L, m, hL0, hm, rfl⟩
    refine seq_cut (fun r => ∃ L rows, Loom L ∧ (∀ es ∈ rows, RowC cl.length es) ∧ rows.length ≤ 32 ∧ r = [.fz nd, .deep L, .fz (.int (i : Nat)), .fz (colsD cl), .fz (.int (m : Nat)), .fz (rowsD rows), s6, s7, s8, s9]) ?_ ?_
    · simp_arith []
      refine wp_lcr (fun r => ∃ L s9, Loom L ∧ light s9 = true ∧ r = [.fz nd, .deep L, .fz (.int (i : Nat)), .fz (colsD cl), .fz (.int (m : Nat)), s5, s6, s7, s8, s9]) (fun d y => ∃ es, y = .tuple es ∧ RowC cl.length es) (fun r ⟨L, s9, _, l9, e⟩ => by subst e; simp [okW, l9]) ?_
      have hms : m ≤ sizeLine := by omega
      have hrg : rng [.int (m : Nat)] = some (rangeL 0 m) := range1_ok hms
      simp_arith [hrg, rangeL_len]
      refine ⟨hms, ⟨L, s9, hL0, l9, rfl⟩, ?_, ?_⟩
      · rintro d hd r ⟨L, s9, hL0, l9, rfl⟩
        simp_arith [wR]
        refine call_d1 gF rfl ?_
        refine call_d1 gR rfl ?_
        simp_arith []
        refine ⟨hL0, ⟨cl, rfl, hc⟩, fun z L2 hL2 hz => ?_⟩
        obtain ⟨cl', es, e, rfl, hes⟩ := hz
        have ecl : cl' = cl := (cols_inj (by injection e)).symm
        subst ecl
        refine ⟨hL2, ⟨_, es, rfl, hes, hc.1⟩, fun z L3 hL3 hz => ?_⟩
        obtain ⟨es0, es', e, rfl, hes'⟩ := hz
        have ee : es0 = es := by injection e with e1; injection e1 with e2; exact e2.symm
        subst ee
        exact ⟨⟨es', rfl, by rw [hes.1] at hes'; exact hes'⟩, L3, _, hL3, rfl, rfl⟩
      rintro ys r1 hl hP ⟨L4, s9', hL4, l9', rfl⟩
      obtain ⟨rows, rfl, hrows⟩ := tuples_of fun y hy => by
        obtain ⟨k, hk⟩ := List.getElem?_of_mem hy
        obtain ⟨_, _, h⟩ := hP k y hk
        exact h
      simp_arith [wR, bkR, Option.getD, pt_light l5]
      rw [List.length_map] at hl
      exact ⟨L4, rows, hL4, hrows, by omega, rfl⟩
    rintro r1 ⟨L, rows, hL0, hrows, hm2, rfl⟩
    obtain ⟨c0, ct, ecl⟩ : ∃ c0 ct, cl = c0 :: ct := by
      cases cl with
      | nil => simp at h1
      | cons c0 ct => exact ⟨c0, ct, rfl⟩
    have hc0 : ixG (colsD cl) (.int 0) = some (.tuple [.str c0.1, kdD c0.2]) := by rw [ecl]; exact atI_nat (j := 0) (v := cD c0) rfl
    refine seq_cut (fun r => ∃ L rows, Loom L ∧ (∀ es ∈ rows, RowC cl.length es) ∧ rows.length ≤ 33 ∧ r = [.fz nd, .deep L, .fz (.int (i : Nat)), .fz (colsD cl), .fz (.int (m : Nat)), .fz (rowsD rows), s6, s7, s8, s9]) ?_ ?_
    · have ex0 : ∃ L rows', Loom L ∧ (∀ es ∈ rows', RowC cl.length es) ∧ rows'.length ≤ 33 ∧ rows = rows' := ⟨L, rows, hL0, hrows, by omega, rfl⟩
      simp_arith [hc0]
      cases hk : eqS ("text" : Str) (kdD c0.2) with
      | false =>
        simp_arith []
        exact ⟨L, rows, hL0, hrows, by omega, rfl⟩
      | true =>
        simp_arith []
        refine call_d1 g_draw rfl ?_
        simp_arith []
        refine ⟨hL0, pre_draw (by decide), fun z L1 hL1 hz => ?_⟩
        obtain ⟨j, rfl, hj⟩ := post_draw hz
        simp_arith []
        cases hj0 : ((j : Nat) : Int) == 0 with
        | false =>
          simp_arith []
          exact ⟨L1, rows, hL1, hrows, by omega, rfl⟩
        | true =>
          simp_arith []
          refine call_d1 g_pick rfl ?_
          simp_arith []
          refine ⟨hL1, pre_list (by decide) (by decide), fun z L2 hL2 hz => ?_⟩
          have hcz := pick_gap hz
          try simp_arith []
          refine call_d1 gR rfl ?_
          simp_arith []
          refine ⟨hL2, ⟨cl, rfl, hc⟩, fun y L3 hL3 hy => ?_⟩
          obtain ⟨cl', es, e, rfl, hes⟩ := hy
          have ecl' : cl' = cl := (cols_inj (by injection e)).symm
          subst ecl'
          obtain ⟨e0, et, rfl⟩ : ∃ e0 et, es = e0 :: et := by
            cases es with
            | nil => have := hes.1; rw [List.length_nil] at this; omega
            | cons e0 et => exact ⟨e0, et, rfl⟩
          have hct : DL.cutD (e0 :: et) (some 1) none = et := cut_r e0 et
          have hel := hes.1
          rw [List.length_cons] at hel
          have h8 := hc.1
          have ha1 : addG (.tuple [z]) (.tuple et) = some (.tuple (z :: et)) := if_pos (by rw [List.length_singleton]; omega)
          have ha2 : addG (rowsD rows) (.tuple [.tuple (z :: et)]) = some (rowsD (rows ++ [z :: et])) := by
            have q : addG (.tuple (rows.map PyData.tuple)) (.tuple [.tuple (z :: et)]) = some (.tuple (rows.map PyData.tuple ++ [.tuple (z :: et)])) := if_pos (by rw [List.length_map, List.length_singleton]; omega)
            unfold rowsD
            rw [q, List.map_append]
            rfl
          simp_arith [sl_t, hct, ha1, ha2]
          refine ⟨L3, rows ++ [z :: et], hL3, fun es hm => ?_, by rw [List.length_append, List.length_singleton]; omega, rfl⟩
          rcases List.mem_append.mp hm with hm | hm
          · exact hrows es hm
          · rw [List.mem_singleton.mp hm]
            refine ⟨by rw [List.length_cons]; exact hel, fun d hd => ?_⟩
            rcases List.mem_cons.mp hd with rfl | hd
            · exact hcz
            · exact hes.2 d (List.mem_cons_of_mem _ hd)
    rintro r1 ⟨L, rows, hL', hrows, hm3, rfl⟩
    have hR : Rows cl.length rows := ⟨hrows, hm3⟩
    have hg := hG hc h1 hR
    have hl := hL hc h1 hR
    obtain ⟨kept, hkept⟩ := repr_kept hc hR
    obtain ⟨hj, hgl⟩ := lines_join hc hR
    obtain ⟨two, htwo⟩ := repr_two (grid_ss hc hR)
    have hsp := grid_parts (cols_nl hc) hR.1 (grid_pos cl rows)
    have hgs : Txt.join "\n" (lawLs cl rows) = gridS cl rows := rfl
    have hso : splitOk (gridS cl rows) "\n" = true := decide_eq_true ⟨by decide +kernel, by
      have : (100000 : Nat) ≤ sizeLine := by decide
      omega⟩
    have hln : lenG [rowsD rows] = some (.int (rows.length : Nat)) := by
      show some (PyData.int ((rows.map PyData.tuple).length : Nat)) = _
      rw [List.length_map]
    have hpl : ((Txt.split (gridS cl rows) "\n").map PyData.str).length = rows.length + 3 := by rw [List.length_map]; exact hsp
    simp_arith [hkept, hl, txtsIn_l, txts_str, hj, hgs, sn_light l6, sn_light l7]
    generalize gridS cl rows = gs at hg htwo hso hpl ⊢
    have hq : (((rows.length + 3 : Nat) : Int) == ((rows.length : Nat) : Int) + 3) = true := by rw [beq_iff_eq]; omega
    have hbne : (two != two) = false := by simp
    have hbne2 : (kept != kept) = false := by simp
    by_cases h3 : i = 3
    · have hb : (((i : Nat) : Int) == 3) = true := by rw [h3]; rfl
      rw [hb]
      simp_arith [hg, htwo, hkept, hso, hln, hbne, hbne2, pt_light l8]
      rw [hpl, hq]
      simp_arith []
      exact ⟨L, .fz (.int (i : Nat)), .fz (colsD cl), .fz (.int (m : Nat)), .fz (rowsD rows), .fz (.str kept), .fz (.str gs), .fz (.str gs), s9, hL', rfl, rfl, rfl, rfl, rfl, rfl, rfl, l9, rfl⟩
    · have hb : (((i : Nat) : Int) == 3) = false := by rw [beq_eq_false_iff_ne]; omega
      rw [hb]
      simp_arith [hg, htwo, hkept, hso, hln, hbne, hbne2, pt_light l8]
      rw [hpl, hq]
      simp_arith []
      exact ⟨L, .fz (.int (i : Nat)), .fz (colsD cl), .fz (.int (m : Nat)), .fz (rowsD rows), .fz (.str kept), .fz (.str gs), .fz (.str gs), s9, hL', rfl, rfl, rfl, rfl, rfl, rfl, rfl, l9, rfl⟩
  rintro c r ⟨rfl, U, s2, s3, s4, s5, s6, s7, s8, s9, hU, l2, l3, l4, l5, l6, l7, l8, l9, rfl⟩
  simp_arith []
end K03

open PySem PySem.W PyProof.Rows
set_option maxHeartbeats 0 in
theorem PySem.Challenge.cw_unseentables_k03_whole_grids_by_own_widt_holds : PySem.Challenge.rw_unseentables_k03_whole_grids_by_own_widt.Holds := by
  w_on; o_law; k_head; (case hw => w_witness2)
  k_fill
  refine DL.walkGK (l := PySem.Challenge.rw_unseentables_k03_whole_grids_by_own_widt) (n := 63) (k := 5) (x := "_law_script") (CX := L2.CX0) (sp := fun K => DL.spF K (fun _ => 0) DL.xv0 1 K03.G_law) rfl (by decide) rfl rfl ⟨rfl, by decide, by decide⟩ rfl (fun w h Y => PySem.W.kIn_of Y) ?F (fun w => rfl) (fun K H a ns hl hS => DL.sp_law hS (K03.law_true ns hl)) (fun _ _ _ _ h => h)
  case F =>
    intro w mg fa h KX G hmg XX
    refine' K03.all_mk KX G hmg (q__grid_line := ?q__grid_line) (l__grid_line := ?l__grid_line) (e__grid_line := ?e__grid_line) (p__grid_line := ?p__grid_line) (q__law_loom := ?q__law_loom) (l__law_loom := ?l__law_loom) (e__law_loom := ?e__law_loom) (p__law_loom := ?p__law_loom) (q__law_draw := ?q__law_draw) (l__law_draw := ?l__law_draw) (e__law_draw := ?e__law_draw) (p__law_draw := ?p__law_draw) (q__law_keys := ?q__law_keys) (l__law_keys := ?l__law_keys) (e__law_keys := ?e__law_keys) (p__law_keys := ?p__law_keys) (q__law_filled := ?q__law_filled) (l__law_filled := ?l__law_filled) (e__law_filled := ?e__law_filled) (p__law_filled := ?p__law_filled) (q__law_bare := ?q__law_bare) (l__law_bare := ?l__law_bare) (e__law_bare := ?e__law_bare) (p__law_bare := ?p__law_bare) (q_grid := ?q_grid) (l_grid := ?l_grid) (e_grid := ?e_grid) (p_grid := ?p_grid) (q__law_pick := ?q__law_pick) (l__law_pick := ?l__law_pick) (e__law_pick := ?e__law_pick) (p__law_pick := ?p__law_pick) (q__law_lines := ?q__law_lines) (l__law_lines := ?l__law_lines) (e__law_lines := ?e__law_lines) (p__law_lines := ?p__law_lines) (q__law_name := ?q__law_name) (l__law_name := ?l__law_name) (e__law_name := ?e__law_name) (p__law_name := ?p__law_name) (q__law_value := ?q__law_value) (l__law_value := ?l__law_value) (e__law_value := ?e__law_value) (p__law_value := ?p__law_value) (q__law_far := ?q__law_far) (l__law_far := ?l__law_far) (e__law_far := ?e__law_far) (p__law_far := ?p__law_far) (q__law_columns := ?q__law_columns) (l__law_columns := ?l__law_columns) (e__law_columns := ?e__law_columns) (p__law_columns := ?p__law_columns) (q__law_row := ?q__law_row) (l__law_row := ?l__law_row) (e__law_row := ?e__law_row) (p__law_row := ?p__law_row) (q_law := ?q_law) (l_law := ?l_law) (e_law := ?e_law) (p_law := ?p_law) (z_abs := ?z_abs) (z_enumerate := ?z_enumerate) (z_int := ?z_int) (z_isinstance := ?z_isinstance) (z_len := ?z_len) (z_max := ?z_max) (z_range := ?z_range) (z_repr := ?z_repr) (z_str := ?z_str) (z_tuple := ?z_tuple) (z_zip := ?z_zip) 
    (case q__grid_line => k_is)
    (case l__grid_line => k_is)
    (case e__grid_line => k_is)
    (case p__grid_line => k_is)
    (case q__law_loom => k_is)
    (case l__law_loom => k_is)
    (case e__law_loom => k_is)
    (case p__law_loom => k_is)
    (case q__law_draw => k_is)
    (case l__law_draw => k_is)
    (case e__law_draw => k_is)
    (case p__law_draw => k_is)
    (case q__law_keys => k_is)
    (case l__law_keys => k_is)
    (case e__law_keys => k_is)
    (case p__law_keys => k_is)
    (case q__law_filled => k_is)
    (case l__law_filled => k_is)
    (case e__law_filled => k_is)
    (case p__law_filled => k_is)
    (case q__law_bare => k_is)
    (case l__law_bare => k_is)
    (case e__law_bare => k_is)
    (case p__law_bare => k_is)
    (case q_grid => k_is)
    (case l_grid => k_is)
    (case e_grid => k_is)
    (case p_grid => k_is)
    (case q__law_pick => k_is)
    (case l__law_pick => k_is)
    (case e__law_pick => k_is)
    (case p__law_pick => k_is)
    (case q__law_lines => k_is)
    (case l__law_lines => k_is)
    (case e__law_lines => k_is)
    (case p__law_lines => k_is)
    (case q__law_name => k_is)
    (case l__law_name => k_is)
    (case e__law_name => k_is)
    (case p__law_name => k_is)
    (case q__law_value => k_is)
    (case l__law_value => k_is)
    (case e__law_value => k_is)
    (case p__law_value => k_is)
    (case q__law_far => k_is)
    (case l__law_far => k_is)
    (case e__law_far => k_is)
    (case p__law_far => k_is)
    (case q__law_columns => k_is)
    (case l__law_columns => k_is)
    (case e__law_columns => k_is)
    (case p__law_columns => k_is)
    (case q__law_row => k_is)
    (case l__law_row => k_is)
    (case e__law_row => k_is)
    (case p__law_row => k_is)
    (case q_law => k_is)
    (case l_law => k_is)
    (case e_law => k_is)
    (case p_law => k_is)
    (case z_abs => k_is)
    (case z_enumerate => k_is)
    (case z_int => k_is)
    (case z_isinstance => k_is)
    (case z_len => k_is)
    (case z_max => k_is)
    (case z_range => k_is)
    (case z_repr => k_is)
    (case z_str => k_is)
    (case z_tuple => k_is)
    (case z_zip => k_is)
