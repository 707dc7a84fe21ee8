import PyProof.Rows.All
import Wide.All
import OpenK.AllK
import Wide.FinOn
import HandS.ForMost
import HandS.ForExc
import HandS.Deep
import HandS.IsInst
import HandS.Flow
import HandS.DictComp
import HandS.SetKeys
import HandS.FStr
import HandS.WordsDict
import HandS.Lambda
import HandS.Nested
import HandS.Small
import HandS.More
import HandS.Strs
import HandS.HotCalls
import HandS.ExcIs
import HandS.Defaults
import HandS.Head0
import HandS.Head1
import HandS.Head2
import HandS.HeadEnd
import HandS.HeadWalk
import HandS.HeadHook4
import PySem.Challenge.RW_blockpages_k07_refused_pages
set_option Elab.async false
section OwA_
set_option Elab.async false
set_option linter.all false
set_option maxRecDepth 100000
set_option maxHeartbeats 2000000
/-! Data with owners: what a value is (frozen data D, owned trees O), how it lies in the heap. -/
namespace Ow
open PySem PySem.Spec PyProof.Rows L2
/-- the names of the code objects in a table -/
class TQ where
  tq : Addr → Str
variable [TQ]

/-- frozen data -/
inductive D where
  | non | bl (b : Bool) | int (i : Int) | str (s : Str)
  | lst (xs : List D) | tup (xs : List D) | dic (ks : List Key) (xs : List D) | dicT (ks : List (List Key)) (xs : List D)
  | obj (c : Nat) (ns : List Str) (xs : List D) | lam (i : Nat) | scr (ns : List Int)
  deriving Inhabited
/-- a tree that may still be changed by whom it belongs to -/
inductive O where
  | fr (d : D) | ml (os : List O) | md (ks : List Key) (os : List O) | mdT (ks : List (List Key)) (os : List O) | ob (c : Nat) (ns : List Str) (os : List O) | tp (os : List O) | dead
  deriving Inhabited

mutual
def frz : O → D
  | .fr d => d
  | .ml os => .lst (frzs os)
  | .md ks os => .dic ks (frzs os)
  | .mdT ks os => .dicT ks (frzs os)
  | .ob c ns os => .obj c ns (frzs os)
  | .tp os => .tup (frzs os)
  | .dead => .non
def frzs : List O → List D
  | [] => []
  | o :: os => frz o :: frzs os
end

/-- what H holds H' holds; a dict may have been locked, a table of code objects may have grown -/
def Ex (H H' : Hp) : Prop := ∀ a o, H a = some o → H' a = some o ∨ (∃ (ws : List (Key × V)) (od : Obj), o = .dK ws ∧ H' a = some (.frz od (.dK ws))) ∨ ∃ ps ps', o = .tbl ps ∧ H' a = some (.tbl ps') ∧ LamX.TabS H' a (TQ.tq a)
/-- what may not be told of as kept -/
inductive Spc where
  | tbl (ps : Array Value) | ext (φ : Heap → Prop)
def spc : Spc → HO
  | .tbl ps => .tbl ps
  | .ext φ => .ext φ
theorem Ex.at {H H' : Hp} {a : Addr} {o : HO} (e : Ex H H') (h : H a = some o) (n : ∀ ws, o ≠ .dK ws := by intro _ z; cases z) (m : ∀ ps, o ≠ .tbl ps := by intro _ z; cases z) : H' a = some o :=
  (e a o h).elim id fun z => z.elim (fun ⟨ws, od, z, _⟩ => absurd z (n ws)) fun ⟨ps, _, z, _⟩ => absurd z (m ps)
theorem tab_swap {H H' : Hp} {a : Addr} {q : Str} (t : LamX.TabS H a q) (h : H' a = H a) (k : ∀ c φ, H c = some (.ext φ) → H' c = some (.ext φ)) : LamX.TabS H' a q := by
  obtain ⟨ps, h1, h2, h3⟩ := t
  exact ⟨ps, h.trans h1, h2, fun pos cv hc => let ⟨c, e1, e2⟩ := h3 pos cv hc; ⟨c, e1, k c _ e2⟩⟩
theorem Ex.refl (H : Hp) : Ex H H := fun _ _ h => .inl h
theorem Ex.tab {H H' : Hp} {a : Addr} (e : Ex H H') (t : LamX.TabS H a (TQ.tq a)) : LamX.TabS H' a (TQ.tq a) := by
  obtain ⟨ps, h1, h2, h3⟩ := id t
  rcases e a _ h1 with z | ⟨_, _, z, _⟩ | ⟨_, _, _, _, z⟩
  · refine ⟨ps, z, h2, fun pos cv hc => ?_⟩
    obtain ⟨c, e1, e2⟩ := h3 pos cv hc
    exact ⟨c, e1, e.at e2 (fun _ z => by unfold LamX.CodeO at z; cases z) fun _ z => by unfold LamX.CodeO at z; cases z⟩
  · cases z
  · exact z
/-- what never changes: the ground under the data; ca: where the classes are, lf: what a lambda's object is -/
structure Gd where
  K : PySem.W.Frag
  ca : Nat → Addr
  xn : Nat → List Str
  lf : Nat → Addr → Hp → Prop
  F0 : Hp
  nc : Nat
  lfm : ∀ i a F F', Ex F F' → lf i a F → lf i a F'

mutual
inductive IsD (G : Gd) (F : Hp) : V → D → Prop where
  | non : IsD G F .non .non
  | bl (b) : IsD G F (.bl b) (.bl b)
  | int (i) : IsD G F (.int i) (.int i)
  | str (s) : IsD G F (.str s) (.str s)
  | lst {a vs ds} : F a = some (.lst vs) → IsDs G F vs ds → IsD G F (.ref a) (.lst ds)
  | scr {a ns} : SqL G.K F a (ns.map V.int) → ns.length ≤ 63 → IsD G F (.ref a) (.scr ns)
  | tup {a vs ds} : F a = some (.tup vs) → IsDs G F vs ds → IsD G F (.ref a) (.tup ds)
  | dic {a} {ws : List (Key × V)} {ds} : Rd F a (.dK ws) → IsDs G F (ws.map (·.2)) ds → IsD G F (.ref a) (.dic (ws.map (·.1)) ds)
  | dicT {a} {ws : List (List Key × V)} {ds} : F a = some (.dT ws) → IsDs G F (ws.map (·.2)) ds → IsD G F (.ref a) (.dicT (ws.map (·.1)) ds)
  | obj {a c dx} {ws : List (Str × V)} {ds} : c < G.nc → F a = some (.ins (G.ca c) dx ws) → IsDs G F (ws.map (·.2)) ds → IsD G F (.ref a) (.obj c (ws.map (·.1)) ds)
  | lam {a i} : G.lf i a F → IsD G F (.ref a) (.lam i)
inductive IsDs (G : Gd) (F : Hp) : List V → List D → Prop where
  | nil : IsDs G F [] []
  | cons {v d vs ds} : IsD G F v d → IsDs G F vs ds → IsDs G F (v :: vs) (d :: ds)
end

mutual
/-- owned trees: the addresses that belong to it, in order -/
inductive IsO (G : Gd) (F H : Hp) : V → O → List Addr → Prop where
  | fr {v d} : IsD G F v d → IsO G F H v (.fr d) []
  | ml {a vs os A} : F a = none → H a = some (.lst vs) → IsOs G F H vs os A → IsO G F H (.ref a) (.ml os) (a :: A)
  | tp {a vs os A} : F a = none → H a = some (.tup vs) → IsOs G F H vs os A → IsO G F H (.ref a) (.tp os) (a :: A)
  | md {a} {ws : List (Key × V)} {os A} : F a = none → H a = some (.dK ws) → IsOs G F H (ws.map (·.2)) os A → IsO G F H (.ref a) (.md (ws.map (·.1)) os) (a :: A)
  | mdT {a} {ws : List (List Key × V)} {os A} : F a = none → H a = some (.dT ws) → IsOs G F H (ws.map (·.2)) os A → IsO G F H (.ref a) (.mdT (ws.map (·.1)) os) (a :: A)
  | ob {a c dx} {ws : List (Str × V)} {os A} : c < G.nc → F a = none → H a = some (.ins (G.ca c) dx ws) → IsOs G F H (ws.map (·.2)) os A → IsO G F H (.ref a) (.ob c (ws.map (·.1)) os) (a :: A)
inductive IsOs (G : Gd) (F H : Hp) : List V → List O → List Addr → Prop where
  | nil : IsOs G F H [] [] []
  | cons {v o vs os A B} : IsO G F H v o A → IsOs G F H vs os B → IsOs G F H (v :: vs) (o :: os) (A ++ B)
end

theorem Ex.trans {H H1 H2 : Hp} (a : Ex H H1) (b : Ex H1 H2) : Ex H H2 := fun x o h => by
  rcases a x o h with h1 | ⟨ws, od, z, h1⟩ | ⟨ps, ps', z, h1, t⟩
  · rcases b x o h1 with h2 | h2 | ⟨ps, ps', z, h2, t⟩
    · exact .inl h2
    · exact .inr (.inl h2)
    · exact .inr (.inr ⟨ps, ps', z, h2, t⟩)
  · exact .inr (.inl ⟨ws, od, z, b.at h1⟩)
  · rcases b x _ h1 with h2 | ⟨_, _, z2, _⟩ | ⟨_, ps2, z2, h2, t2⟩
    · exact .inr (.inr ⟨ps, ps', z, h2, b.tab t⟩)
    · cases z2
    · exact .inr (.inr ⟨ps, ps2, z, h2, t2⟩)
/-- an object that F does not hold may change -/
theorem Ex.mut {F H : Hp} {p : Addr} {o : HO} (e : Ex F H) (h : F p = none) (hH : ∀ φ, H p ≠ some (.ext φ)) : Ex F (upd H p o) := fun a u ha => by
  rw [upd_ne (ne_of_none ha h)]
  refine (e a u ha).imp id fun z => z.imp id fun ⟨ps, ps', z, q, t⟩ => ⟨ps, ps', z, q, tab_swap t (upd_ne (ne_of_none ha h)) fun c φ hc => by rw [upd_ne fun z => hH φ (by rw [← z]; exact hc)]; exact hc⟩
theorem Ex.new {H : Hp} {p : Addr} {o : HO} (h : H p = none) : Ex H (upd H p o) := (Ex.refl H).mut h fun _ z => by rw [h] at z; cases z
theorem Ex.none {F H : Hp} {p : Addr} (e : Ex F H) (h : H p = none) : F p = none := by
  cases q : F p with
  | none => rfl
  | some o =>
    rcases e p o q with z | ⟨_, _, _, z⟩ | ⟨_, _, _, z, _⟩ <;> (rw [z] at h; cases h)
theorem Ex.rd {H H' : Hp} {a : Addr} {u : HO} (e : Ex H H') (h : Rd H a u) (m : ∀ ps, u ≠ .tbl ps := by intro _ z; cases z) : Rd H' a u := by
  rcases h with h | ⟨o, h⟩
  · rcases e a _ h with z | ⟨ws, od, z, h'⟩ | ⟨ps, _, z, _⟩
    · exact .inl z
    · exact .inr ⟨od, z ▸ h'⟩
    · exact absurd z (m ps)
  · exact .inr ⟨o, e.at h⟩
theorem Ex.l {K : PySem.W.Frag} {H H' : Hp} {a : Addr} {xs : List V} (e : Ex H H') (h : SqL K H a xs) : SqL K H' a xs := h.elim (fun h => .inl (e.rd h)) .inr
theorem Ex.t {K : PySem.W.Frag} {H H' : Hp} {a : Addr} {xs : List V} (e : Ex H H') (h : SqT K H a xs) : SqT K H' a xs := h.elim (fun h => .inl (e.rd h)) .inr

section
variable {G : Gd} {F F' H H' : Hp}
mutual
theorem IsD.mono (e : Ex F F') : ∀ {v d}, IsD G F v d → IsD G F' v d
  | _, _, .non => .non
  | _, _, .bl b => .bl b
  | _, _, .int i => .int i
  | _, _, .str s => .str s
  | _, _, .lst h r => .lst (e.at h) (r.mono e)
  | _, _, .scr h r => .scr (e.l h) r
  | _, _, .tup h r => .tup (e.at h) (r.mono e)
  | _, _, .dic h r => .dic (e.rd h) (r.mono e)
  | _, _, .dicT h r => .dicT (e.at h) (r.mono e)
  | _, _, .obj n h r => .obj n (e.at h) (r.mono e)
  | _, _, .lam h => .lam (G.lfm _ _ _ _ e h)
theorem IsDs.mono (e : Ex F F') : ∀ {vs ds}, IsDs G F vs ds → IsDs G F' vs ds
  | _, _, .nil => .nil
  | _, _, .cons h r => .cons (h.mono e) (r.mono e)
end
mutual
/-- what belongs to it stays as it is, and stays its own -/
theorem IsO.frame (e : Ex F F') : ∀ {v o A}, IsO G F H v o A → (∀ a ∈ A, H' a = H a ∧ F' a = none) → IsO G F' H' v o A
  | _, _, _, .fr h, _ => .fr (h.mono e)
  | _, _, _, .ml f h r, k => .ml (k _ List.mem_cons_self).2 ((k _ List.mem_cons_self).1.trans h) (r.frame e fun a m => k a (List.mem_cons_of_mem _ m))
  | _, _, _, .tp f h r, k => .tp (k _ List.mem_cons_self).2 ((k _ List.mem_cons_self).1.trans h) (r.frame e fun a m => k a (List.mem_cons_of_mem _ m))
  | _, _, _, .md f h r, k => .md (k _ List.mem_cons_self).2 ((k _ List.mem_cons_self).1.trans h) (r.frame e fun a m => k a (List.mem_cons_of_mem _ m))
  | _, _, _, .mdT f h r, k => .mdT (k _ List.mem_cons_self).2 ((k _ List.mem_cons_self).1.trans h) (r.frame e fun a m => k a (List.mem_cons_of_mem _ m))
  | _, _, _, .ob n f h r, k => .ob n (k _ List.mem_cons_self).2 ((k _ List.mem_cons_self).1.trans h) (r.frame e fun a m => k a (List.mem_cons_of_mem _ m))
theorem IsOs.frame (e : Ex F F') : ∀ {vs os A}, IsOs G F H vs os A → (∀ a ∈ A, H' a = H a ∧ F' a = none) → IsOs G F' H' vs os A
  | _, _, _, .nil, _ => .nil
  | _, _, _, .cons h r, k => .cons (h.frame e fun a m => k a (List.mem_append_left _ m)) (r.frame e fun a m => k a (List.mem_append_right _ m))
end
mutual
/-- what it owns is not frozen, and stands -/
theorem IsO.own : ∀ {v o A}, IsO G F H v o A → ∀ a ∈ A, F a = none ∧ ∃ u, H a = some u
  | _, _, _, .fr _ => fun _ m => nomatch m
  | _, _, _, .ml f h r => fun a m => (List.mem_cons.mp m).elim (fun q => q ▸ ⟨f, _, h⟩) (r.own a)
  | _, _, _, .tp f h r => fun a m => (List.mem_cons.mp m).elim (fun q => q ▸ ⟨f, _, h⟩) (r.own a)
  | _, _, _, .md f h r => fun a m => (List.mem_cons.mp m).elim (fun q => q ▸ ⟨f, _, h⟩) (r.own a)
  | _, _, _, .mdT f h r => fun a m => (List.mem_cons.mp m).elim (fun q => q ▸ ⟨f, _, h⟩) (r.own a)
  | _, _, _, .ob n f h r => fun a m => (List.mem_cons.mp m).elim (fun q => q ▸ ⟨f, _, h⟩) (r.own a)
theorem IsOs.own : ∀ {vs os A}, IsOs G F H vs os A → ∀ a ∈ A, F a = none ∧ ∃ u, H a = some u
  | _, _, _, .nil => fun _ m => nomatch m
  | _, _, _, .cons h r => fun a m => (List.mem_append.mp m).elim (h.own a) (r.own a)
end
mutual
/-- frozen: it may be read as data -/
theorem IsO.read (e : Ex F F') : ∀ {v o A}, IsO G F H v o A → (∀ a ∈ A, F' a = H a) → IsD G F' v (frz o)
  | _, _, _, .fr h, _ => by rw [frz]; exact h.mono e
  | _, _, _, .ml f h r, k => by rw [frz]; exact .lst ((k _ List.mem_cons_self).trans h) (r.read e fun a m => k a (List.mem_cons_of_mem _ m))
  | _, _, _, .tp f h r, k => by rw [frz]; exact .tup ((k _ List.mem_cons_self).trans h) (r.read e fun a m => k a (List.mem_cons_of_mem _ m))
  | _, _, _, .md f h r, k => by rw [frz]; exact .dic (.inl ((k _ List.mem_cons_self).trans h)) (r.read e fun a m => k a (List.mem_cons_of_mem _ m))
  | _, _, _, .mdT f h r, k => by rw [frz]; exact .dicT ((k _ List.mem_cons_self).trans h) (r.read e fun a m => k a (List.mem_cons_of_mem _ m))
  | _, _, _, .ob n f h r, k => by rw [frz]; exact .obj n ((k _ List.mem_cons_self).trans h) (r.read e fun a m => k a (List.mem_cons_of_mem _ m))
theorem IsOs.read (e : Ex F F') : ∀ {vs os A}, IsOs G F H vs os A → (∀ a ∈ A, F' a = H a) → IsDs G F' vs (frzs os)
  | _, _, _, .nil, _ => by rw [frzs]; exact .nil
  | _, _, _, .cons h r, k => by rw [frzs]; exact .cons (h.read e fun a m => k a (List.mem_append_left _ m)) (r.read e fun a m => k a (List.mem_append_right _ m))
end
/-- F with the addresses of A as they stand in H -/
def ext (F H : Hp) (A : List Addr) : Hp := fun a => if a ∈ A then H a else F a
theorem ext_in {A : List Addr} {a : Addr} (h : a ∈ A) : ext F H A a = H a := if_pos h
theorem ext_out {A : List Addr} {a : Addr} (h : a ∉ A) : ext F H A a = F a := if_neg h
theorem ext_l {A : List Addr} (h : ∀ a ∈ A, F a = none) : Ex F (ext F H A) := fun a o e => by
  rw [ext_out fun m => by rw [h a m] at e; cases e]
  exact .inl e
theorem ext_r {A : List Addr} (e : Ex F H) : Ex (ext F H A) H := fun a o q => by
  by_cases m : a ∈ A
  · rw [ext_in m] at q; exact .inl q
  · rw [ext_out m] at q
    exact e a o q
end
end Ow
end OwA_
section OwB_
set_option Elab.async false
set_option linter.all false
set_option maxRecDepth 100000
set_option maxHeartbeats 2000000
/-! The state of a def's slots, what a step leaves. -/
namespace Ow
open PySem PySem.Spec PyProof.Rows L2
variable [TQ]
section
variable {G : Gd} {F F' F1 F2 H H' H1 H2 : Hp} {A A1 A2 A' B C : List Addr}

/-- a slot -/
inductive IsS (G : Gd) (F H : Hp) : Option V → O → List Addr → Prop where
  | dead {s} : IsS G F H s .dead []
  | val {v o A} : IsO G F H v o A → IsS G F H (some v) o A
theorem IsS.frame (e : Ex F F') {s o A} (h : IsS G F H s o A) (k : ∀ a ∈ A, H' a = H a ∧ F' a = none) : IsS G F' H' s o A := by
  cases h with
  | dead => exact .dead
  | val h => exact .val (h.frame e k)
theorem IsS.own {s o A} (h : IsS G F H s o A) : ∀ a ∈ A, F a = none ∧ ∃ u, H a = some u := by
  cases h with
  | dead => exact fun _ m => nomatch m
  | val h => exact h.own
/-- the slots of a frame -/
inductive IsE (G : Gd) (F H : Hp) : List (Option V) → List O → List Addr → Prop where
  | nil : IsE G F H [] [] []
  | cons {s o σ δ A B} : IsS G F H s o A → IsE G F H σ δ B → IsE G F H (s :: σ) (o :: δ) (A ++ B)
theorem IsE.frame (e : Ex F F') {σ δ A} (h : IsE G F H σ δ A) (k : ∀ a ∈ A, H' a = H a ∧ F' a = none) : IsE G F' H' σ δ A := by
  induction h with
  | nil => exact .nil
  | cons h _ ih => exact .cons (h.frame e fun a m => k a (List.mem_append_left _ m)) (ih fun a m => k a (List.mem_append_right _ m))
theorem IsE.own {σ δ A} (h : IsE G F H σ δ A) : ∀ a ∈ A, F a = none ∧ ∃ u, H a = some u := by
  induction h with
  | nil => exact fun _ m => nomatch m
  | cons h _ ih => exact fun a m => (List.mem_append.mp m).elim (h.own a) (ih a)
theorem IsE.len {σ δ A} (h : IsE G F H σ δ A) : σ.length = δ.length := by
  induction h with
  | nil => rfl
  | cons _ _ ih => simp [ih]
/-- one slot apart, and put back otherwise -/
theorem IsE.split {σ δ A} (h : IsE G F H σ δ A) : ∀ {i o}, δ[i]? = some o → ∃ s A1 A2 A3, σ[i]? = some s ∧ A = A1 ++ (A2 ++ A3) ∧ IsS G F H s o A2 ∧
    ∀ (F' H' : Hp) (s' : Option V) (o' : O) (B : List Addr), Ex F F' → (∀ a ∈ A1 ++ A3, H' a = H a ∧ F' a = none) → IsS G F' H' s' o' B → IsE G F' H' (σ.set i s') (δ.set i o') (A1 ++ (B ++ A3)) := by
  induction h with
  | nil => intro i o e; simp at e
  | @cons s o σ δ A B h r ih =>
    intro i o' e
    cases i with
    | zero =>
      simp only [List.getElem?_cons_zero, Option.some.injEq] at e
      subst e
      refine ⟨s, [], A, B, by simp, by simp, h, fun F' H' s' o' C e k h' => ?_⟩
      simp only [List.set_cons_zero, List.nil_append]
      exact .cons h' (r.frame e fun a m => k a (by simpa using m))
    | succ i =>
      simp only [List.getElem?_cons_succ] at e
      obtain ⟨s1, A1, A2, A3, e1, e2, h2, k2⟩ := ih e
      refine ⟨s1, A ++ A1, A2, A3, by simpa using e1, by rw [e2, List.append_assoc], h2, fun F' H' s' o' C ex k h' => ?_⟩
      simp only [List.set_cons_succ]
      rw [List.append_assoc]
      refine .cons (h.frame ex fun a m => k a (by simp [m])) (k2 F' H' s' o' C ex (fun a m => k a ?_) h')
      rcases List.mem_append.mp m with m | m <;> simp [m]

/-- from a state to a later one: the ground grows, what does not belong to us stays as it is -/
structure Nx (F H : Hp) (A : List Addr) (F' H' : Hp) (A' : List Addr) : Prop where
  ff : Ex F F'
  fh : Ex F' H'
  fr : ∀ a o, H a = some o → F a = none → a ∉ A → (∀ ps, o ≠ spc ps) → H' a = some o ∧ F' a = none ∧ a ∉ A'
theorem Nx.refl (e : Ex F H) : Nx F H A F H A := ⟨.refl _, e, fun _ _ h n m _ => ⟨h, n, m⟩⟩
theorem Nx.trans (x : Nx F H A F1 H1 A1) (y : Nx F1 H1 A1 F2 H2 A2) : Nx F H A F2 H2 A2 :=
  ⟨x.ff.trans y.ff, y.fh, fun a o h n m t => let ⟨h1, n1, m1⟩ := x.fr a o h n m t; y.fr a o h1 n1 m1 t⟩
theorem Nx.sub (x : Nx F H A F' H' A') (h : ∀ a ∈ C, a ∈ A') : Nx F H A F' H' C := ⟨x.ff, x.fh, fun a o q n m t => let ⟨h1, n1, m1⟩ := x.fr a o q n m t; ⟨h1, n1, fun z => m1 (h a z)⟩⟩
/-- a wider claim ahead -/
theorem Nx.wide (x : Nx F H A F' H' A') (h : ∀ a ∈ A, a ∈ C) : Nx F H C F' H' A' := ⟨x.ff, x.fh, fun a o q n m t => x.fr a o q n (fun z => m (h a z)) t⟩
/-- B, ours but not taken part in the second step, is as it was -/
theorem Nx.tmp (x : Nx F H A F1 H1 (A1 ++ B)) (y : Nx F1 H1 A1 F2 H2 A2) : Nx F H A F2 H2 (A2 ++ B) :=
  ⟨x.ff.trans y.ff, y.fh, fun a o h n m t => by
    obtain ⟨h1, n1, m1⟩ := x.fr a o h n m t
    rw [List.mem_append, not_or] at m1
    obtain ⟨h2, n2, m2⟩ := y.fr a o h1 n1 m1.1 t
    exact ⟨h2, n2, by rw [List.mem_append, not_or]; exact ⟨m2, m1.2⟩⟩⟩
/-- what a step that we don't take part in leaves of ours -/
theorem Nx.keeps (y : Nx F1 H1 A1 F2 H2 A2) (hB : ∀ a ∈ B, F1 a = none ∧ ∃ u, H1 a = some u) (ht : ∀ a ∈ B, ∀ ps, H1 a ≠ some (spc ps)) (hd : ∀ a ∈ B, a ∉ A1) : ∀ a ∈ B, H2 a = H1 a ∧ F2 a = none := fun a m => by
  obtain ⟨n, u, h⟩ := hB a m
  obtain ⟨h2, n2, _⟩ := y.fr a u h n (hd a m) fun ps q => ht a m ps (by rw [h, q])
  exact ⟨h2.trans h.symm, n2⟩
mutual
theorem IsO.notbl : ∀ {v o A}, IsO G F H v o A → ∀ a ∈ A, ∀ ps, H a ≠ some (spc ps)
  | _, _, _, .fr _ => fun _ m => nomatch m
  | _, _, _, .ml f h r => fun a m ps => (List.mem_cons.mp m).elim (fun q => by rw [q, h]; cases ps <;> exact fun z => nomatch z) (fun m => r.notbl a m ps)
  | _, _, _, .tp f h r => fun a m ps => (List.mem_cons.mp m).elim (fun q => by rw [q, h]; cases ps <;> exact fun z => nomatch z) (fun m => r.notbl a m ps)
  | _, _, _, .md f h r => fun a m ps => (List.mem_cons.mp m).elim (fun q => by rw [q, h]; cases ps <;> exact fun z => nomatch z) (fun m => r.notbl a m ps)
  | _, _, _, .mdT f h r => fun a m ps => (List.mem_cons.mp m).elim (fun q => by rw [q, h]; cases ps <;> exact fun z => nomatch z) (fun m => r.notbl a m ps)
  | _, _, _, .ob n f h r => fun a m ps => (List.mem_cons.mp m).elim (fun q => by rw [q, h]; cases ps <;> exact fun z => nomatch z) (fun m => r.notbl a m ps)
theorem IsOs.notbl : ∀ {vs os A}, IsOs G F H vs os A → ∀ a ∈ A, ∀ ps, H a ≠ some (spc ps)
  | _, _, _, .nil => fun _ m => nomatch m
  | _, _, _, .cons h r => fun a m ps => (List.mem_append.mp m).elim (fun m => h.notbl a m ps) (fun m => r.notbl a m ps)
end
theorem IsE.notbl {σ δ A} (h : IsE G F H σ δ A) : ∀ a ∈ A, ∀ ps, H a ≠ some (spc ps) := by
  induction h with
  | nil => exact fun _ m => nomatch m
  | cons h _ ih =>
    refine fun a m ps => (List.mem_append.mp m).elim (fun m => ?_) (fun m => ih a m ps)
    cases h with
    | dead => exact nomatch m
    | val h => exact h.notbl a m ps
/-- a temporary kept through a step -/
theorem IsO.thru {v o} (h : IsO G F1 H1 v o B) (y : Nx F1 H1 A1 F2 H2 A2) (hd : ∀ a ∈ B, a ∉ A1) : IsO G F2 H2 v o B := h.frame y.ff (y.keeps h.own h.notbl hd)
theorem IsE.thru {σ δ} (h : IsE G F1 H1 σ δ B) (y : Nx F1 H1 A1 F2 H2 A2) (hd : ∀ a ∈ B, a ∉ A1) : IsE G F2 H2 σ δ B := h.frame y.ff (y.keeps h.own h.notbl hd)
theorem IsOs.thru {vs os} (h : IsOs G F1 H1 vs os B) (y : Nx F1 H1 A1 F2 H2 A2) (hd : ∀ a ∈ B, a ∉ A1) : IsOs G F2 H2 vs os B := h.frame y.ff (y.keeps h.own h.notbl hd)
/-- B is frozen -/
theorem Nx.freeze (e : Ex F H) (hB : ∀ a ∈ B, F a = none) (ht : ∀ a ∈ B, ∀ ps, H a ≠ some (spc ps)) (hn : ∀ a ∈ A', a ∈ A) (hb : ∀ a ∈ B, a ∈ A) : Nx F H A (ext F H B) H A' := ⟨ext_l hB, ext_r e, fun a o h n m _ => ⟨h, by rw [ext_out fun z => m (hb a z)]; exact n, fun z => m (hn a z)⟩⟩
/-- a new object, ours -/
theorem Nx.new {p : Addr} {o : HO} (e : Ex F H) (h : H p = none) : Nx F H A F (upd H p o) (p :: A) := ⟨.refl _, e.mut (e.none h) (fun _ z => by rw [h] at z; cases z), fun a u q n m _ => by
  have ne := ne_of_none q h
  exact ⟨by rw [upd_ne ne]; exact q, n, fun z => (List.mem_cons.mp z).elim ne m⟩⟩
/-- a new object, frozen at once -/
theorem Nx.newF {p : Addr} {o : HO} (e : Ex F H) (h : H p = none) : Nx F H A (upd F p o) (upd H p o) A := ⟨.new (e.none h), fun a u q => by
    by_cases z : a = p
    · subst z; rw [upd_same] at q ⊢; exact .inl q
    · rw [upd_ne z] at q ⊢
      exact (e a u q).imp id fun z2 => z2.imp id fun ⟨ps, ps', w, q', t⟩ => ⟨ps, ps', w, q', tab_swap t (upd_ne z) fun c φ hc => by rw [upd_ne (ne_of_none hc h)]; exact hc⟩, fun a u q n m _ => by
  have ne := ne_of_none q h
  exact ⟨by rw [upd_ne ne]; exact q, by rw [upd_ne ne]; exact n, m⟩⟩
/-- one of ours is changed -/
theorem Nx.mut {p : Addr} {o : HO} (e : Ex F H) (h : F p = none) (hm : p ∈ A) (hx : ∀ φ, H p ≠ some (.ext φ) := by intro _ z; simp [*] at z) : Nx F H A F (upd H p o) A := ⟨.refl _, e.mut h hx, fun a u q n m _ => ⟨by rw [upd_ne fun z => m (by rw [z]; exact hm)]; exact q, n, m⟩⟩
end
end Ow
end OwB_
section OwC_
set_option Elab.async false
set_option linter.all false
set_option maxRecDepth 100000
set_option maxHeartbeats 2000000
/-! A small language over owned data, and what it means. -/
namespace Ow
open PySem PySem.Spec PyProof.Rows L2
variable [TQ]

/-- all frozen -/
def allFr : List O → Option (List D)
  | [] => some []
  | .fr d :: os => (allFr os).map (d :: ·)
  | _ :: _ => none
/-- the items of a list or tuple -/
def elems : O → Option (List D)
  | .fr (.lst ds) => some ds
  | .fr (.tup ds) => some ds
  | .ml os => allFr os
  | .tp os => allFr os
  | _ => none
def lstOf : O → Option (List D)
  | .fr (.lst ds) => some ds
  | .ml os => allFr os
  | _ => none
def isScal : D → Bool
  | .non | .bl _ | .int _ | .str _ => true
  | _ => false
mutual
def pd : D → Option PyData
  | .non => some .none
  | .bl b => some (.bool b)
  | .int i => some (.int i)
  | .str s => some (.str s)
  | .lst ds => (pds ds).map .list
  | .tup ds => (pds ds).map .tuple
  | _ => none
def pds : List D → Option (List PyData)
  | [] => some []
  | d :: ds => (pd d).bind fun e => (pds ds).map (e :: ·)
end
def keyD : D → Option Key
  | .int i => some (.inl i)
  | .str s => some (.inr s)
  | _ => none
def keysD : List D → Option (List Key)
  | [] => some []
  | d :: ds => (keyD d).bind fun k => (keysD ds).map (k :: ·)
def look {κ : Type} [DecidableEq κ] : List κ → List D → κ → Option D
  | k :: ks, d :: ds, x => if k = x then some d else look ks ds x
  | _, _, _ => none
/-- the classes that isinstance is asked for -/
inductive Kd where
  | non | bool | int | str | list | tuple | dict | cls (c : Nat) | fn
  deriving DecidableEq
def kdOf : D → Kd
  | .non => .non
  | .bl _ => .bool
  | .int _ => .int
  | .str _ => .str
  | .lst _ => .list
  | .tup _ => .tuple
  | .dic _ _ => .dict
  | .dicT _ _ => .dict
  | .obj c _ _ => .cls c
  | .scr _ => .list
  | .lam _ => .fn
instance (i j : Int) : Decidable (CMul i j) := by unfold CMul; infer_instance
instance (s : Str) (j : Int) : Decidable (MulOk s j) := by unfold MulOk; infer_instance
/-- operations by values: they change nothing -/
inductive P where
  | add | sub | mul | fdiv | mod | pow | neg | eq | ne | lt | le | gt | ge | isin | notin | isN | notN | len | idx | slc (lo hi : Bool)
  | isi (k : Kd) | abs | all | any | list | dget | dhas | dnhas | toi | join | dcopy | nset
  deriving DecidableEq
def leS (a b : Str) : Bool := !decide (b.cps.toList < a.cps.toList)
def eqPd (a b : D) : Option Bool := (pd a).bind fun x => (pd b).bind fun y => if SeqAt.shaped x && SeqAt.shaped y then some (PyData.eqv x y) else none
def eqD : D → D → Option Bool
  | .str x, .str y => some (decide (x = y))
  | .int x, .int y => some (decide (x = y))
  | a, b => eqPd a b
def isinD (a : D) (o : O) : Option Bool := (lstOf o).bind fun ds => (pd a).bind fun x => (pds ds).bind fun ys =>
      if SeqAt.shaped x && SeqAt.shaped (.list ys) then some (ys.any fun z => PyData.eqv z x) else none
/-- the value under a key, if it is a dict with such a key -/
def findO : O → O → Option (Option D)
  | .fr (.dic ks ds), .fr k => (keyD k).map fun k => look ks ds k
  | .md ks os, .fr k => (keyD k).bind fun k => (allFr os).map fun ds => look ks ds k
  | .fr (.dicT ks ds), .fr (.tup k) => (keysD k).map fun k => look ks ds k
  | .mdT ks os, .fr (.tup k) => (keysD k).bind fun k => (allFr os).map fun ds => look ks ds k
  | _, _ => none
def cutD {α : Type} (xs : List α) (lo hi : Option Int) : List α := (xs.drop (HT.sIx xs.length 0 lo)).take (HT.sIx xs.length xs.length hi - HT.sIx xs.length 0 lo)
def sm : Nat := 1000000
def truth : O → Option Bool
  | .fr .non => some false
  | .fr (.bl b) => some b
  | .fr (.int i) => some (i != 0)
  | .fr (.str s) => if s.length ≤ sm then some ((s.length : Int) != 0) else none
  | .fr (.lst ds) => some (!ds.isEmpty)
  | .fr (.tup ds) => some (!ds.isEmpty)
  | .ml os => some (!os.isEmpty)
  | .tp os => some (!os.isEmpty)
  | _ => none
def bls : List D → Option (List Bool)
  | [] => some []
  | .bl b :: ds => (bls ds).map (b :: ·)
  | _ :: _ => none
/-- isinstance of a thing of the kind j, of the class k -/
def isOfK (j k : Kd) : Option Bool := match k with
  | .str | .list | .tuple | .dict | .cls _ => (match j with | .fn => none | j => some (decide (j = k)))
  | .bool => (match j with | .fn => none | j => some (decide (j = .bool)))
  | _ => none
def prAdd : O → O → Option O
  | .fr (.int i), .fr (.int j) => some (.fr (.int (i + j)))
  | .fr (.str i), .fr (.str j) => if i.length + j.length ≤ sm then some (.fr (.str (i ++ j))) else none
  | a, b => (lstOf a).bind fun xs => (lstOf b).bind fun ys => if xs.length + ys.length ≤ sm then some (.ml ((xs ++ ys).map .fr)) else none
def prMul : O → O → Option O
  | .fr (.int i), .fr (.int j) => if CMul i j then some (.fr (.int (i * j))) else none
  | .fr (.str s), .fr (.int j) => if MulOk s j then some (.fr (.str (Txt.mul s j))) else none
  | a, .fr (.int j) => (lstOf a).bind fun xs => if -1000 ≤ j ∧ j ≤ 10000 ∧ xs.length ≤ 10 then some (.ml (((List.replicate j.toNat xs).flatten).map .fr)) else none
  | _, _ => none
def intOp (c : Int → Int → Bool) (f : Int → Int → D) : O → O → Option O
  | .fr (.int i), .fr (.int j) => if c i j then some (.fr (f i j)) else none
  | _, _ => none
def prLe : O → O → Option O
  | .fr (.int i), .fr (.int j) => some (.fr (.bl (decide (i ≤ j))))
  | .fr (.str i), .fr (.str j) => some (.fr (.bl (leS i j)))
  | _, _ => none
def prLen : O → Option O
  | .fr (.str s) => if s.length ≤ sm then some (.fr (.int s.length)) else none
  | .md ks _ => some (.fr (.int ks.length))
  | .fr (.lst xs) => some (.fr (.int xs.length))
  | .fr (.tup xs) => some (.fr (.int xs.length))
  | .fr (.scr xs) => some (.fr (.int xs.length))
  | .ml xs => some (.fr (.int xs.length))
  | .tp xs => some (.fr (.int xs.length))
  | _ => none
def prIdx : O → O → Option O
  | .fr (.str s), .fr (.int i) => if s.length ≤ sm then (atI s.cps.toList i).map fun c => .fr (.str ⟨#[c]⟩) else none
  | .fr (.scr ns), .fr (.int i) => (atI ns i).map fun n => .fr (.int n)
  | o, .fr (.int i) => (elems o).bind fun ds => (atI ds i).map .fr
  | _, _ => none
def prSl (i j : Option Int) : O → Option O
  | .fr (.str s) => if s.length ≤ sm then some (.fr (.str ⟨(cutD s.cps.toList i j).toArray⟩)) else none
  | .fr (.scr ns) => some (.ml ((cutD ns i j).map fun n => .fr (.int n)))
  | o => (lstOf o).map fun xs => .ml ((cutD xs i j).map .fr)
def isNon : O → Bool
  | .fr .non => true
  | _ => false
def prAbs : O → Option O
  | .fr (.int i) => some (.fr (.int (if i < 0 then -i else i)))
  | _ => none
def prNeg : O → Option O
  | .fr (.int i) => some (.fr (.int (-i)))
  | _ => none
def prToi : O → Option O
  | .fr (.int i) => some (.fr (.int i))
  | .fr (.bl b) => some (.fr (.int (if b then 1 else 0)))
  | _ => none
def strsD : List D → Option (List Str)
  | [] => some []
  | .str s :: ds => (strsD ds).map (s :: ·)
  | _ :: _ => none
def prJoin : O → O → Option O
  | .fr (.str a), o => (elems o).bind fun ds => (strsD ds).bind fun ys => if (ys.map (·.length)).sum + ys.length * a.length ≤ 16777216 then some (.fr (.str (Txt.join a ys))) else none
  | _, _ => none
/-- each once -/
def uniqS (ys : List Str) : List Str := ys.foldl (fun acc y => if acc.any (· == y) then acc else acc ++ [y]) []
def prNset (o : O) : Option O := (lstOf o).bind fun ds => (strsD ds).bind fun ys => if ys.length ≤ 4000 then some (.fr (.int (uniqS ys).length)) else none
def prDcp : O → Option O
  | .fr (.dic ks ds) => some (.md ks (ds.map .fr))
  | .md ks os => (allFr os).map fun ds => .md ks (ds.map .fr)
  | _ => none
def pr : P → List O → Option O
  | .add, [a, b] => prAdd a b
  | .sub, [a, b] => intOp (fun _ _ => true) (fun i j => .int (i - j)) a b
  | .mul, [a, b] => prMul a b
  | .fdiv, [a, b] => intOp (fun _ j => decide (j ≠ 0) && decide (j.natAbs < 1073741824)) (fun i j => .int (i.fdiv j)) a b
  | .mod, [a, b] => intOp (fun _ j => decide (j ≠ 0)) (fun i j => .int (i.fmod j)) a b
  | .pow, [a, b] => intOp (fun i j => decide (0 ≤ j) && decide (j ≤ 1000) && decide (i.natAbs < 2 ^ 64)) (fun i j => .int (i ^ j.toNat)) a b
  | .neg, [a] => prNeg a
  | .eq, [a, b] => (eqD (frz a) (frz b)).map fun c => .fr (.bl c)
  | .ne, [a, b] => (eqD (frz a) (frz b)).map fun c => .fr (.bl !c)
  | .lt, [a, b] => intOp (fun _ _ => true) (fun i j => .bl (decide (i < j))) a b
  | .gt, [a, b] => intOp (fun _ _ => true) (fun i j => .bl (decide (j < i))) a b
  | .ge, [a, b] => intOp (fun _ _ => true) (fun i j => .bl (decide (j ≤ i))) a b
  | .le, [a, b] => prLe a b
  | .isin, [a, o] => (isinD (frz a) o).map fun c => .fr (.bl c)
  | .notin, [a, o] => (isinD (frz a) o).map fun c => .fr (.bl !c)
  | .isN, [o] => some (.fr (.bl (isNon o)))
  | .notN, [o] => some (.fr (.bl (!isNon o)))
  | .len, [o] => prLen o
  | .idx, [o, i] => prIdx o i
  | .dget, [o, i] => (findO o i).bind fun r => r.map .fr
  | .dhas, [i, o] => (findO o i).map fun r => .fr (.bl r.isSome)
  | .dnhas, [i, o] => (findO o i).map fun r => .fr (.bl !r.isSome)
  | .slc true true, [o, .fr (.int i), .fr (.int j)] => prSl (some i) (some j) o
  | .slc true false, [o, .fr (.int i)] => prSl (some i) none o
  | .slc false true, [o, .fr (.int j)] => prSl none (some j) o
  | .slc false false, [o] => prSl none none o
  | .isi k, [o] => (isOfK (kdOf (frz o)) k).map fun c => .fr (.bl c)
  | .abs, [o] => prAbs o
  | .all, [o] => (lstOf o).bind fun ds => (bls ds).map fun bs => .fr (.bl (bs.all id))
  | .any, [o] => (lstOf o).bind fun ds => (bls ds).map fun bs => .fr (.bl (bs.any id))
  | .list, [o] => (elems o).map fun ds => .ml (ds.map .fr)
  | .toi, [o] => prToi o
  | .join, [a, o] => prJoin a o
  | .dcopy, [o] => prDcp o
  | .nset, [o] => prNset o
  | _, _ => none

/-- what an except clause may tell of: the class, its own fields -/
structure XV where
  c : Nat
  xs : List D
abbrev Env := List O
inductive Rs (α : Type) where
  | ok (a : α) (δ : Env)
  | ex (x : XV)
abbrev M (α : Type) := Env → Option (Rs α)
def bnd {α β : Type} (m : M α) (f : α → M β) : M β := fun δ => match m δ with
  | none => none
  | some (.ex x) => some (.ex x)
  | some (.ok a δ') => f a δ'
def ret {α : Type} (a : α) : M α := fun δ => some (.ok a δ)
/-- an operand: a slot's own, or a value -/
inductive PO where
  | sl (i : Nat) | vl (o : O)
def res (δ : Env) : PO → Option O
  | .sl i => match δ[i]? with | some .dead => none | o => o
  | .vl o => some o
def ress (δ : Env) : List PO → Option (List O)
  | [] => some []
  | p :: ps => (res δ p).bind fun o => (ress δ ps).map (o :: ·)

/-- what is walked: a list, a tuple, a text, a dict's keys -/
inductive Wk where
  | l | t | s | k
/-- targets: a slot, or slots for the items of a tuple -/
inductive Tg where
  | one (i : Nat) | many (is : List Nat)

mutual
inductive E where
  | var (i : Nat) | cst (d : D) | gl (d : D)
  | prim (p : P) (es : Es) | not_ (a : E) | and_ (a b : E) | or_ (a b : E) | ite (t a b : E) | chain (p q : P) (a b c : E)
  | tup (es : Es) | lst (es : Es) | dnew (t : Bool) | dict (ks : List Str) (es : Es) | attr (a : E) (f : Str)
  | call (f : Nat) (es : Es) | make (c : Nat) (es : Es) (ds : List D) | meth (c : Nat) (m : Str) (f : Nat) (a : E) (es : Es)
  | lc (e : E) (t : Tg) (it : It) (c : Es) | dc (k v : E) (t : Tg) (it : It)
  | lam (i : Nat) | callv (i : Nat) (es : Es) | sl2 (a b c : E) | idxOf (i : Nat) (b : E)
inductive Es where
  | nil | cons (e : E) (es : Es)
inductive It where
  | seq (w : Wk) (e : E) | range1 (e : E) | range2 (a b : E) | enum (e : E) (st : Int) | items (e : E) | values (e : E) | zip (a b : E)
end
/-! ### what the language means -/
def setS (pin : List Nat) (i : Nat) (o : O) : M Unit := fun δ => if pin.contains i || !decide (i < δ.length) then none else some (.ok () (δ.set i o))
def setSs (pin : List Nat) : List Nat → List D → M Unit
  | [], [] => ret ()
  | i :: is, d :: ds => bnd (setS pin i (.fr d)) fun _ => setSs pin is ds
  | _, _ => fun _ => none
/-- a target takes data -/
def take (pin : List Nat) : Tg → D → M Unit
  | .one i, d => setS pin i (.fr d)
  | .many is, .tup ds => setSs pin is ds
  | .many _, _ => fun _ => none
def Tg.slots : Tg → List Nat
  | .one i => [i]
  | .many is => is
/-- a value, as frozen data; a slot's own is frozen where it lies -/
def getS (i : Nat) : M O := fun δ => match δ[i]? with
  | some (.fr d) => some (.ok (.fr d) δ)
  | some .dead => none
  | some o => some (.ok (.fr (frz o)) (δ.set i (.fr (frz o))))
  | none => none
def fails {α : Type} : M α := fun _ => none
def lift {α : Type} : Option α → M α
  | some a => ret a
  | none => fails
def resM (ps : List PO) : M (List O) := fun δ => (ress δ ps).map fun os => .ok os δ
def itemsOf : Wk → D → Option (List D)
  | .l, .lst ds => some ds
  | .t, .tup ds => some ds
  | .s, .str s => if s.length ≤ sm then some (s.cps.toList.map fun c => .str ⟨#[c]⟩) else none
  | .k, .dic ks _ => some (ks.map fun k => match k with | .inl i => .int i | .inr x => .str x)
  | _, _ => none
def numbered (i : Int) : List D → List D
  | [] => []
  | d :: ds => .tup [.int i, d] :: numbered (i + 1) ds
def paired : List Key → List D → List D
  | k :: ks, d :: ds => .tup [match k with | .inl i => .int i | .inr x => .str x, d] :: paired ks ds
  | _, _ => []
def ranged (lo : Int) : Nat → List D
  | 0 => []
  | n + 1 => .int lo :: ranged (lo + 1) n
def each {α : Type} (f : D → M (Option α)) : List D → M (List α)
  | [] => ret []
  | d :: ds => bnd (f d) fun o => bnd (each f ds) fun r => ret (match o with | some a => a :: r | none => r)
def slotD (δ : Env) (i : Nat) : Bool := match δ[i]? with | some (.fr _) => true | some .dead => true | _ => false
def wipeS (is : List Nat) (δ : Env) : Env := is.foldr (fun i δ => δ.set i .dead) δ
def backS (is : List Nat) (δ0 δ : Env) : Env := is.foldr (fun i δ => δ.set i (δ0.getD i .dead)) δ
def wipeM (is : List Nat) : M Unit := fun δ => if is.all (slotD δ) then some (.ok () (wipeS is δ)) else none
/-- a block of its own: its slots come forgotten, and are put back -/
def block {α : Type} (is : List Nat) (m : M α) : M α := fun δ => if is.all (slotD δ) then match m (wipeS is δ) with
  | some (.ok a δ') => if is.all (slotD δ') then some (.ok a (backS is δ δ')) else none
  | r => r
  else none
/-- the slots among operands that are handed on, each once -/
def lent : List PO → List Nat
  | [] => []
  | .sl i :: ps => i :: lent ps
  | _ :: ps => lent ps
def giveBack : List PO → List O → Env → Env
  | .sl i :: ps, o :: os, δ => giveBack ps os (δ.set i o)
  | _ :: ps, _ :: os, δ => giveBack ps os δ
  | _, _, δ => δ
/-- what a program's defs are: f and operands' contents to a value and the contents behind -/
abbrev Cl := Nat → List O → Option (Rs O)
def callM (cl : Cl) (f : Nat) (ps : List PO) : M O := fun δ => match ress δ ps with
  | none => none
  | some os => if (lent ps).Nodup then match cl f os with
      | none => none
      | some (.ex x) => some (.ex x)
      | some (.ok o os') => some (.ok o (giveBack ps os' δ))
    else none
/-- the lambda that a slot holds -/
def lamM (i : Nat) : M Nat := fun δ => match δ[i]? with
  | some (.fr (.lam j)) => some (.ok j δ)
  | _ => none
/-- the def that makes an instance: its result is self's content behind it -/
def makeM (cl : Cl) (ini : Nat → Option Nat) (c : Nat) (ps : List PO) (ds : List D) : M O := fun δ => match ress δ ps, ini c with
  | some os, some f => if (lent ps).Nodup then match cl f (.ob c [] [] :: (os ++ ds.map .fr)) with
      | some (.ok (.fr .non) (o :: os')) => some (.ok o (giveBack ps os' δ))
      | some (.ex x) => some (.ex x)
      | _ => none
    else none
  | _, _ => none
/-- an instance of the class c that has no attribute m of its own -/
def isIns (c : Nat) (m : Str) : O → Bool
  | .fr (.obj c' ns _) => decide (c' = c) && !ns.contains m
  | .ob c' ns _ => decide (c' = c) && !ns.contains m
  | _ => false
def chkM (c : Nat) (m : Str) (p : PO) : M Unit := fun δ => match res δ p with
  | some o => if isIns c m o then some (.ok () δ) else none
  | none => none
def tupO (os : List O) : O := match allFr os with | some ds => .fr (.tup ds) | none => .tp os
def lookF : List Str → List O → Str → Option (Nat × O)
  | n :: ns, o :: os, f => if n = f then some (0, o) else (lookF ns os f).map fun (j, o) => (j + 1, o)
  | _, _, _ => none
def lookFd : List Str → List D → Str → Option D
  | n :: ns, d :: ds, f => if n = f then some d else lookFd ns ds f
  | _, _, _ => none
def attrM (p : PO) (f : Str) : M O := fun δ => match p with
  | .sl i => match δ[i]? with
    | some (.fr (.obj _ ns ds)) => (lookFd ns ds f).map fun d => .ok (.fr d) δ
    | some (.ob c ns os) => (lookF ns os f).bind fun (j, o) => match o with
      | .dead => none
      | .fr d => some (.ok (.fr d) δ)
      | o => some (.ok (.fr (frz o)) (δ.set i (.ob c ns (os.set j (.fr (frz o))))))
    | _ => none
  | .vl (.fr (.obj _ ns ds)) => (lookFd ns ds f).map fun d => .ok (.fr d) δ
  | .vl (.ob _ ns os) => (lookF ns os f).map fun (_, o) => .ok (.fr (frz o)) δ
  | _ => none
def truthM (o : O) : M Bool := lift (truth o)
def isLst : O → Bool
  | .fr (.lst _) => true
  | .ml _ => true
  | _ => false
def seqM (i : Nat) : M Unit := fun δ => match δ[i]? with
  | some o => if isLst o then some (.ok () δ) else none
  | none => none
def indexO (d : D) (l : O) : Option Nat := (lstOf l).bind fun ds => (pd d).bind fun x => (pds ds).bind fun ys => if SeqAt.shaped x && SeqAt.shaped (.list ys) then ys.findIdx? (fun z => PyData.eqv z x) else none
def idxM (i : Nat) (d : D) : M O := fun δ => match δ[i]? with
  | some l => (indexO d l).map fun n => .ok (.fr (.int n)) δ
  | none => none
def intO (o : O) : M Int := lift (match frz o with | .int n => some n | _ => none)
def keyM (o : O) : M Key := lift (keyD (frz o))
def noEx {α : Type} (m : M α) : M α := fun δ => match m δ with
  | some (.ex _) => none
  | r => r
def replO {κ : Type} [DecidableEq κ] : List κ → List O → κ → O → List O
  | k1 :: ks, o1 :: os, k, o => (if k1 = k then o else o1) :: replO ks os k o
  | _, os, _, _ => os
def putO {κ : Type} [DecidableEq κ] (ks : List κ) (os : List O) (k : κ) (o : O) : List κ × List O :=
  if (ks.any fun k1 => decide (k1 = k)) = true then (ks, replO ks os k o) else (ks ++ [k], os ++ [o])
def dcAcc : List (Key × D) → List Key × List O → List Key × List O
  | [], a => a
  | (k, d) :: r, (ks, os) => dcAcc r (putO ks os k (.fr d))

def peekS (i : Nat) : M PO := fun δ => match δ[i]? with | none => none | some .dead => none | some _ => some (.ok (.sl i) δ)
def pk (e : E) (m : M O) : M PO := match e with
  | .var i => peekS i
  | _ => bnd m fun o => ret (.vl o)

mutual
def ev (cl : Cl) (ini : Nat → Option Nat) : E → M O
  | .var i => getS i
  | .cst d => ret (.fr d)
  | .gl d => ret (.fr d)
  | .prim p es => bnd (evs cl ini es) fun ps => bnd (resM ps) fun os => lift (pr p os)
  | .not_ a => bnd (ev cl ini a) fun o => bnd (truthM o) fun t => ret (.fr (.bl !t))
  | .and_ a b => bnd (ev cl ini a) fun o => bnd (truthM o) fun t => if t then ev cl ini b else ret o
  | .or_ a b => bnd (ev cl ini a) fun o => bnd (truthM o) fun t => if t then ret o else ev cl ini b
  | .ite t a b => bnd (ev cl ini t) fun o => bnd (truthM o) fun t => if t then ev cl ini a else ev cl ini b
  | .chain p q a b c => bnd (ev cl ini a) fun x => bnd (ev cl ini b) fun y => bnd (lift (pr p [.fr (frz x), .fr (frz y)])) fun r => bnd (truthM r) fun t => if t then bnd (ev cl ini c) fun z => lift (pr q [.fr (frz y), .fr (frz z)]) else ret (.fr (.bl false))
  | .tup es => bnd (evd cl ini es) fun ds => if ds.length ≤ sm then ret (.fr (.tup ds)) else fails
  | .lst es => bnd (evd cl ini es) fun ds => if ds.length ≤ sm then ret (.ml (ds.map .fr)) else fails
  | .dnew t => ret (if t then .mdT [] [] else .md [] [])
  | .dict ks es => bnd (evd cl ini es) fun ds => if (ks.map (Sum.inr (α := Int))).Nodup then ret (.md (ks.map .inr) (ds.map .fr)) else fails
  | .attr a f => bnd (pk a (ev cl ini a)) fun p => attrM p f
  | .call f es => bnd (evs cl ini es) fun ps => callM cl f ps
  | .make c es ds => bnd (evs cl ini es) fun ps => makeM cl ini c ps ds
  | .meth c m f a es => bnd (pk a (ev cl ini a)) fun p => bnd (chkM c m p) fun _ => bnd (evs cl ini es) fun ps => callM cl f (p :: ps)
  | .lc e t it c => bnd (evi cl ini it) fun ds => if ds.length ≤ sm then block t.slots (bnd (each (fun d => bnd (wipeM t.slots) fun _ => bnd (take [] t d) fun _ => bnd (evt cl ini c) fun b => if b then bnd (ev cl ini e) fun o => ret (some (frz o)) else ret none) ds) fun xs => ret (.ml (xs.map .fr))) else fails
  | .dc k v t it => bnd (evi cl ini it) fun ds => if ds.length ≤ sm then block t.slots (bnd (each (fun d => bnd (wipeM t.slots) fun _ => bnd (take [] t d) fun _ => bnd (noEx (ev cl ini k)) fun ko => bnd (keyM (.fr (frz ko))) fun kk => bnd (noEx (ev cl ini v)) fun o => ret (some (kk, frz o))) ds) fun kds => ret (.md (dcAcc kds ([], [])).1 (dcAcc kds ([], [])).2)) else fails
  | .lam i => ret (.fr (.lam i))
  | .callv i es => bnd (lamM i) fun j => bnd (evs cl ini es) fun ps => callM cl (1000 + j) ps
  | .idxOf i b => bnd (seqM i) fun _ => bnd (ev cl ini b) fun o => idxM i (frz o)
  | .sl2 a b c => bnd (pk a (ev cl ini a)) fun p => bnd (ev cl ini b) fun x => bnd (intO x) fun i => bnd (ev cl ini c) fun y => bnd (intO y) fun j => bnd (resM [p]) fun os => lift (match os with | [o] => prSl (some i) (some j) o | _ => none)
/-- operands -/
def evs (cl : Cl) (ini : Nat → Option Nat) : Es → M (List PO)
  | .nil => ret []
  | .cons e es => bnd (pk e (ev cl ini e)) fun p => bnd (evs cl ini es) fun ps => ret (p :: ps)
/-- values to be kept -/
def evd (cl : Cl) (ini : Nat → Option Nat) : Es → M (List D)
  | .nil => ret []
  | .cons e es => bnd (ev cl ini e) fun o => bnd (evd cl ini es) fun ds => ret (frz o :: ds)
/-- tests, all of them -/
def evt (cl : Cl) (ini : Nat → Option Nat) : Es → M Bool
  | .nil => ret true
  | .cons e es => bnd (ev cl ini e) fun o => bnd (truthM o) fun t => if t then evt cl ini es else ret false
def evi (cl : Cl) (ini : Nat → Option Nat) : It → M (List D)
  | .seq w e => bnd (ev cl ini e) fun o => lift (itemsOf w (frz o))
  | .range1 e => bnd (ev cl ini e) fun o => lift (match frz o with
      | .int n => if -sm ≤ n ∧ n ≤ sm then some (ranged 0 n.toNat) else none
      | _ => none)
  | .range2 a b => bnd (ev cl ini a) fun x => bnd (ev cl ini b) fun y => lift (match frz x, frz y with
      | .int a, .int b => if -sm ≤ a ∧ a ≤ sm ∧ -sm ≤ b ∧ b ≤ sm then some (ranged a (b - a).toNat) else none
      | _, _ => none)
  | .enum e st => bnd (ev cl ini e) fun o => bnd (lift (itemsOf .l (frz o))) fun ds => if st = 0 then ret (numbered st ds) else fails
  | .items e => bnd (ev cl ini e) fun o => lift (match frz o with | .dic ks ds => some (paired ks ds) | _ => none)
  | .values e => bnd (ev cl ini e) fun o => lift (match frz o with | .dic _ ds => some ds | _ => none)
  | .zip a b => bnd (ev cl ini a) fun x => bnd (ev cl ini b) fun y => bnd (lift (itemsOf .l (frz x))) fun xs => bnd (lift (itemsOf .l (frz y))) fun ys => ret ((xs.zip ys).map fun p => .tup [p.1, p.2])
end
/-! ### statements -/
inductive Fl where
  | nx | rt (o : O) | bk | ct
/-- what is left of a frame when an exception came -/
def frOnly : O → O
  | .fr d => .fr d
  | _ => .dead
mutual
inductive S where
  | asg (t : Tg) (e : E) | asgs (i j : Nat) (es : Es) | app (i : Nat) (e : E) | pop (i : Nat) | ext (i : Nat) (e : E) | seti (d : Bool) (i : Nat) (k e : E) | setf (i : Nat) (f : Str) (e : E) | setd (i : Nat) (k e : E)
  | exp (e : E) | rt (mv : Bool) (e : E) | rtN | ife (t : E) (a b : Ss) | fo (t : Tg) (it : It) (b : Ss) | wh (t : E) (b : Ss) | rs (c : Nat) (es : Es) | pass | brk | cont | aug (i : Nat) (sb : Bool) (e : E) | tr (tg : Option Nat) (e : E) (i : Nat) (c : Nat → Option Bool) (h : List Nat → XV → Env → Option (Rs Fl))
inductive Ss where
  | nil | cons (s : S) (r : Ss)
end
/-- a slot's content is turned -/
def atS (g : O → Option O) (i : Nat) : M Unit := fun δ => (δ[i]?).bind fun o => (g o).map fun o' => .ok () (δ.set i o')
/-- a list of one's own lies in the slot -/
def isMl : O → Bool
  | .ml _ => true
  | _ => false
def mlM (i : Nat) : M Unit := fun δ => match δ[i]? with
  | some o => if isMl o then some (.ok () δ) else none
  | none => none
def intS (i : Nat) : M Int := fun δ => match δ[i]? with
  | some (.fr (.int n)) => some (.ok n δ)
  | _ => none
def liveM (i : Nat) : M Unit := fun δ => match δ[i]? with
  | some .dead => none
  | some _ => some (.ok () δ)
  | none => none
def moveS (i : Nat) : M O := fun δ => match δ[i]? with
  | some .dead => none
  | some o => some (.ok o (δ.set i .dead))
  | none => none
def rtM (pin : List Nat) (mv : Bool) (e : E) (m : M O) : M O := match mv, e with
  | true, .var i => if pin.contains i then m else moveS i
  | _, _ => m
def pushO (d : D) : O → Option O
  | .ml os => if os.length < sm then some (.ml (os ++ [.fr d])) else none
  | _ => none
def popO : O → Option O
  | .ml os => if os.isEmpty then none else some (.ml os.dropLast)
  | _ => none
def extO (ds : List D) : O → Option O
  | .ml os => if os.length + ds.length ≤ 2 * sm then some (.ml (os ++ ds.map .fr)) else none
  | _ => none
def storeL (k : D) (d : D) : O → Option O
  | .ml os => match k with
    | .int z => (ixN os.length z).map fun j => .ml (os.set j (.fr d))
    | _ => none
  | _ => none
def storeD (k : D) (d : D) : O → Option O
  | .md ks os => (keyD k).bind fun k => if ks.length < sm then some (.md (putO ks os k (.fr d)).1 (putO ks os k (.fr d)).2) else none
  | .mdT ks os => (match k with | .tup ds => keysD ds | _ => none).bind fun k => if ks.length < sm then some (.mdT (putO ks os k (.fr d)).1 (putO ks os k (.fr d)).2) else none
  | _ => none
def lookO {κ : Type} [DecidableEq κ] : List κ → List O → κ → Option O
  | k1 :: ks, o :: os, k => if k1 = k then some o else lookO ks os k
  | _, _, _ => none
/-- d.setdefault(k, []).append(x) -/
def setdO (k : D) (d : D) : O → Option O
  | .md ks os => (keyD k).bind fun k => match lookO ks os k with
    | some (.ml xs) => if xs.length < sm then some (.md (putO ks os k (.ml (xs ++ [.fr d]))).1 (putO ks os k (.ml (xs ++ [.fr d]))).2) else none
    | some _ => none
    | none => if ks.length < sm then some (.md (ks ++ [k]) (os ++ [.ml [.fr d]])) else none
  | _ => none
def setF (f : Str) (o : O) : List Str → List O → List Str × List O
  | n :: ns, o1 :: os => if n = f then (n :: ns, o :: os) else (n :: (setF f o ns os).1, o1 :: (setF f o ns os).2)
  | _, _ => ([f], [o])
def fieldO (f : Str) (o : O) : O → Option O
  | .ob c ns os => if ns.length < 100 then some (.ob c (setF f o ns os).1 (setF f o ns os).2) else none
  | _ => none
/-- a loop over items: the body of each, till it is left -/
def loop (f : D → M Fl) : List D → M Fl
  | [] => ret .nx
  | d :: ds => bnd (f d) fun fl => match fl with
    | .nx => loop f ds
    | .ct => loop f ds
    | .bk => ret .nx
    | .rt o => ret (.rt o)
def whl (t : M Bool) (f : M Fl) : Nat → M Fl
  | 0 => fails
  | n + 1 => bnd t fun b => if b then bnd f fun fl => match fl with
    | .nx => whl t f n
    | .ct => whl t f n
    | .bk => ret .nx
    | .rt o => ret (.rt o)
    else ret .nx
/-- an except clause's suite, the exception in slot i -/
def suiteM (pin : List Nat) (i : Nat) (h : Env → Option (Rs Fl)) : M Fl := fun δ => if pin.contains i then none else match h ((δ.map frOnly).set i .dead) with
  | some (.ok fl δ') => match δ'[i]? with
    | some .dead => some (.ok fl δ')
    | _ => none
  | _ => none
mutual
def exec (cl : Cl) (ini : Nat → Option Nat) (pin : List Nat) : S → M Fl
  | .asg (.one i) e => bnd (ev cl ini e) fun o => bnd (setS pin i o) fun _ => ret .nx
  | .asg t e => bnd (ev cl ini e) fun o => bnd (take pin t (frz o)) fun _ => ret .nx
  | .asgs i j es => bnd (evd cl ini es) fun ds => bnd (setSs pin [i, j] ds) fun _ => ret .nx
  | .app i e => bnd (mlM i) fun _ => bnd (ev cl ini e) fun o => bnd (atS (pushO (frz o)) i) fun _ => ret .nx
  | .pop i => bnd (atS popO i) fun _ => ret .nx
  | .ext i e => bnd (mlM i) fun _ => bnd (ev cl ini e) fun o => bnd (lift (match frz o with | .lst ds => some ds | _ => none)) fun ds => bnd (atS (extO ds) i) fun _ => ret .nx
  | .seti d i k e => bnd (ev cl ini e) fun o => bnd (liveM i) fun _ => bnd (ev cl ini k) fun ko => bnd (atS (if d then storeD (frz ko) (frz o) else storeL (frz ko) (frz o)) i) fun _ => ret .nx
  | .setf i f e => bnd (ev cl ini e) fun o => bnd (atS (fieldO f o) i) fun _ => ret .nx
  | .setd i k e => bnd (ev cl ini k) fun ko => bnd (ev cl ini e) fun o => bnd (atS (setdO (frz ko) (frz o)) i) fun _ => ret .nx
  | .exp e => bnd (ev cl ini e) fun _ => ret .nx
  | .rt mv e => bnd (rtM pin mv e (ev cl ini e)) fun o => ret (.rt o)
  | .rtN => ret (.rt (.fr .non))
  | .ife t a b => bnd (bnd (ev cl ini t) truthM) fun t => if t then execs cl ini pin a else execs cl ini pin b
  | .fo t it b => bnd (evi cl ini it) fun ds => loop (fun d => bnd (take pin t d) fun _ => execs cl ini pin b) ds
  | .wh t b => whl (bnd (ev cl ini t) truthM) (execs cl ini pin b) 1000000
  | .rs c es => bnd (evd cl ini es) fun ds _ => some (.ex ⟨c, ds⟩)
  | .pass => ret .nx
  | .brk => ret .bk
  | .cont => ret .ct
  | .aug i sb e => bnd (intS i) fun x => bnd (ev cl ini e) fun o => bnd (lift (match frz o with | .int y => some (O.fr (.int (if sb then x - y else x + y))) | _ => none)) fun o => bnd (setS pin i o) fun _ => ret .nx
  | .tr tg e i c h => fun δ => match ev cl ini e δ with
    | none => none
    | some (.ok o δ') => (match tg with | some j => bnd (setS pin j o) fun _ => ret Fl.nx | none => ret Fl.nx) δ'
    | some (.ex x) => match c x.c with
      | none => none
      | some false => some (.ex x)
      | some true => suiteM pin i (h pin x) δ
def execs (cl : Cl) (ini : Nat → Option Nat) (pin : List Nat) : Ss → M Fl
  | .nil => ret .nx
  | .cons s r => bnd (exec cl ini pin s) fun fl => match fl with
    | .nx => execs cl ini pin r
    | fl => ret fl
end
def isFr : O → Bool
  | .fr _ => true
  | _ => false
/-- a def: how many slots, its body -/
structure Df where
  n : Nat
  np : Nat
  b : Ss
def pins (os : List O) : List Nat := (List.range os.length).filter fun i => !isFr (os.getD i (.fr .non))
def fin : List O → Env → Option (List O)
  | [], _ => some []
  | o0 :: os, o1 :: δ => (fin os δ).bind fun r => if isFr o0 then some (o0 :: r) else match o1 with | .dead => none | o1 => some (o1 :: r)
  | _ :: _, [] => none
def runDf (cl : Cl) (ini : Nat → Option Nat) (d : Df) (os : List O) : Option (Rs O) :=
  if os.length = d.np then match execs cl ini (pins os) d.b (os ++ List.replicate (d.n - os.length) .dead) with
  | some (.ok (.rt o) δ) => (fin os δ).map fun os' => .ok o os'
  | some (.ok .nx δ) => (fin os δ).map fun os' => .ok (.fr .non) os'
  | some (.ex x) => some (.ex x)
  | _ => none
  else none
/-- a program: its defs, and what is told of others (by hand) -/
structure Pg where
  df : Nat → Option Df
  ini : Nat → Option Nat
  own : Nat → Nat → List O → Option (Rs O)
def run (p : Pg) : Nat → Cl
  | 0 => fun _ _ => none
  | k + 1 => fun f os => match p.df f with
    | some d => runDf (run p k) p.ini d os
    | none => p.own k f os
end Ow
end OwC_
section OwD_
set_option Elab.async false
set_option linter.all false
set_option maxRecDepth 100000
set_option maxHeartbeats 2000000
/-! What a piece of the language has to do with a piece of the text: readings. -/
namespace Ow
open PySem PySem.Spec PyProof.Rows L2
variable [TQ]

/-- an exception that lies so -/
inductive IsX (G : Gd) (F H : Hp) : Value → Option Addr → XV → Prop where
  | plain (c) : IsX G F H (.ref (G.ca c)) none ⟨c, []⟩
  | flds (c) {d} {ws : List (Str × V)} {xs} : H d = some (.xd ws) → ws.map (·.1) = G.xn c → IsDs G F (ws.map (·.2)) xs → IsX G F H (.ref (G.ca c)) (some d) ⟨c, xs⟩

/-- the state of a frame -/
structure Stt (G : Gd) (F H : Hp) (σ : L2.St) (δ : Env) (A : List Addr) : Prop where
  b0 : Ex G.F0 F
  ex : Ex F H
  env : IsE G F H σ δ A
  nd : A.Nodup

section
variable (G : Gd) (W : WX) (σ : L2.St)
def EndX (F H : Hp) (A : List Addr) (x : XV) : Prop := ∀ cls d F' H', Nx F H A F' H' [] → IsX G F' H' cls d x → W cls d σ H'
def Out {α : Type} (F H : Hp) (A : List Addr) (r : Option (Rs α)) (K : α → Env → Prop) : Prop :=
  match r with
  | none => False
  | some (.ex x) => EndX G W σ F H A x
  | some (.ok a δ) => K a δ
/-- a value comes: v, with the addresses B that are its own -/
def EndO (F H : Hp) (A : List Addr) (o : O) (δ : Env) (Q : VK) : Prop := ∀ v F' H' A' B, Nx F H A F' H' (A' ++ B) → IsE G F' H' σ δ A' → IsO G F' H' v o B → (A' ++ B).Nodup → Q v H'
def IsP (F H : Hp) (v : V) (p : PO) (B : List Addr) : Prop := match p with
  | .sl i => σ[i]? = some (some v) ∧ B = []
  | .vl o => IsO G F H v o B
def EndP (F H : Hp) (A : List Addr) (p : PO) (δ : Env) (Q : VK) : Prop := ∀ v F' H' A' B, Nx F H A F' H' (A' ++ B) → IsE G F' H' σ δ A' → IsP G σ F' H' v p B → (A' ++ B).Nodup → Q v H'
end
section
variable {G : Gd} {W : WX} {σ : L2.St} {F F1 H H1 : Hp} {A A1 : List Addr} {α β : Type}
theorem Out.imp {r : Option (Rs α)} {K K' : α → Env → Prop} (h : Out G W σ F H A r K) (k : ∀ a δ, K a δ → K' a δ) : Out G W σ F H A r K' := by
  unfold Out at h ⊢
  split
  · exact h
  · exact h
  · exact k _ _ h
theorem out_bnd {m : M α} {f : α → M β} {δ : Env} {K : β → Env → Prop} (h : Out G W σ F H A (bnd m f δ) K) : Out G W σ F H A (m δ) fun a δ' => Out G W σ F H A (f a δ') K := by
  unfold bnd at h
  cases e : m δ with
  | none => rw [e] at h; exact h
  | some r =>
    rw [e] at h
    cases r with
    | ex x => exact h
    | ok a δ' => exact h
theorem Out.from {r : Option (Rs α)} {K : α → Env → Prop} (h : Out G W σ F H A r K) (n : Nx F H A F1 H1 A1) : Out G W σ F1 H1 A1 r K := by
  unfold Out at h ⊢
  split
  · exact h
  · exact fun cls d F' H' n' i => h cls d F' H' (n.trans n') i
  · exact h
theorem out_lift {r : Option α} {δ : Env} {K : α → Env → Prop} (h : Out G W σ F H A (lift r δ) K) : ∃ a, r = some a ∧ K a δ := by
  cases r with
  | none => exact h.elim
  | some a => exact ⟨a, rfl, h⟩
theorem out_ret {a : α} {δ : Env} {K : α → Env → Prop} (h : Out G W σ F H A (ret a δ) K) : K a δ := h
theorem nodup_app {B : List Addr} (h : (A ++ B).Nodup) : A.Nodup := (List.nodup_append.mp h).1
theorem nodup_app_ne {B : List Addr} (h : (A ++ B).Nodup) : ∀ a ∈ B, a ∉ A := fun a m z => (List.nodup_append.mp h).2.2 a z a m rfl
theorem Nx.left {F H F' H' : Hp} {A A' B : List Addr} (n : Nx F H A F' H' (A' ++ B)) : Nx F H A F' H' A' := n.sub fun a m => List.mem_append_left _ m
/-- a state and a step of others -/
theorem Stt.thru {δ : Env} (s : Stt G F H σ δ A) (n : Nx F H [] F1 H1 A1) : Stt G F1 H1 σ δ A := ⟨s.b0.trans n.ff, n.fh, s.env.thru n (fun _ _ z => nomatch z), s.nd⟩
theorem fresh_of {δ : Env} (s : IsE G F H σ δ A) (n : Nx F H [] F1 H1 A1) : ∀ a ∈ A, a ∉ A1 := fun a m z => by
  obtain ⟨nn, u, h⟩ := s.own a m
  exact (n.fr a u h nn (fun z => nomatch z) (fun ps q => s.notbl a m ps (by rw [h, q]))).2.2 z
/-- a value that an operation makes of others comes -/
theorem EndO.op {F2 H2 : Hp} {A2 : List Addr} {o : O} {δ : Env} {Q : VK} (h : EndO G σ F H A o δ Q) (n : Nx F H A F2 H2 A2) (s : IsE G F2 H2 σ δ A2) (nd : A2.Nodup) :
    ∀ v F' H' B, Nx F2 H2 [] F' H' B → IsO G F' H' v o B → B.Nodup → Q v H' := fun v F' H' B n' i nb => by
  have d := fresh_of s n'
  refine h v F' H' A2 B ?_ (s.thru n' fun _ _ z => nomatch z) i (List.nodup_append.mpr ⟨nd, nb, fun a m b m' e => d a m (e ▸ m')⟩)
  refine ⟨n.ff.trans n'.ff, n'.fh, fun a u q nn m t => ?_⟩
  obtain ⟨h1, n1, m1⟩ := n.fr a u q nn m t
  obtain ⟨h2, n2, m2⟩ := n'.fr a u h1 n1 (fun z => nomatch z) t
  exact ⟨h2, n2, by rw [List.mem_append, not_or]; exact ⟨m1, m2⟩⟩

/-- what may be read -/
def Pk (G : Gd) (F H : Hp) (v : V) (o : O) : Prop := ∃ B, IsO G F H v o B
theorem IsE.res {δ : Env} (s : IsE G F H σ δ A) {v : V} {p : PO} {o : O} {B : List Addr} (h : IsP G σ F H v p B) (r : res δ p = some o) : Pk G F H v o := by
  cases p with
  | vl o' => cases r; exact ⟨_, h⟩
  | sl i =>
    obtain ⟨h1, _⟩ := h
    unfold Ow.res at r
    dsimp only at r
    cases e : δ[i]? with
    | none => rw [e] at r; cases r
    | some o' =>
      obtain ⟨s', A1, A2, A3, e1, _, e3, _⟩ := s.split e
      rw [h1] at e1
      cases e1
      rw [e] at r
      cases e3 with
      | dead => cases r
      | val e3 => cases o' <;> first | (cases r; exact ⟨_, e3⟩) | cases r
theorem IsP.thru {F2 H2 : Hp} {A2 B : List Addr} {v : V} {p : PO} (h : IsP G σ F H v p B) (y : Nx F H A F2 H2 A2) (hd : ∀ a ∈ B, a ∉ A) : IsP G σ F2 H2 v p B := by
  cases p with
  | vl o' => exact IsO.thru h y hd
  | sl i => exact h
end

/-! ### readings -/
section
variable (G : Gd) (cl : Cl) (ini : Nat → Option Nat) (W : WX)
def tM {α : Type} (m : M α) (K : L2.St → Hp → Hp → List Addr → α → Env → Prop) : L2.St → Hp → Prop := fun σ H => ∃ F A δ, Stt G F H σ δ A ∧ Out G W σ F H A (m δ) (K σ F H A)
def tE (e : E) : TE := fun σ H Q => ∃ F A δ, Stt G F H σ δ A ∧ Out G W σ F H A (ev cl ini e δ) fun o δ' => EndO G σ F H A o δ' Q
def tP (e : E) : TE := fun σ H Q => ∃ F A δ, Stt G F H σ δ A ∧ Out G W σ F H A (pk e (ev cl ini e) δ) fun o δ' => EndP G σ F H A o δ' Q
end
section
variable {G : Gd} {cl : Cl} {ini : Nat → Option Nat} {W : WX} {X : Cx}
/-- an operand that is no name -/
theorem sp_of {x : Expr} {e : E} (h : PE X x (tE G cl ini W e)) (hn : ∀ i, e ≠ .var i) : PE X x (tP G cl ini W e) := by
  refine ⟨fun pins s σ H Q I q => h.run pins s σ H Q I ?_⟩
  obtain ⟨F, A, δ, st, o⟩ := q
  refine ⟨F, A, δ, st, ?_⟩
  have e1 : pk e (ev cl ini e) δ = bnd (ev cl ini e) (fun o => ret (.vl o)) δ := by
    cases e <;> first | rfl | exact absurd rfl (hn _)
  rw [e1] at o
  exact (out_bnd o).imp fun o δ' k v F' H' A' B n i io nd => k v F' H' A' B n i io nd
theorem sp_var {i : Nat} {x : Str} {pos : Pos} (h : PE X (.Name x pos) (tVar i)) : PE X (.Name x pos) (tP G cl ini W (.var i)) := by
  refine ⟨fun pins s σ H Q I q => h.run pins s σ H Q I ?_⟩
  obtain ⟨F, A, δ, st, o⟩ := q
  unfold pk peekS at o
  dsimp only at o
  cases e : δ[i]? with
  | none => rw [e] at o; exact o.elim
  | some o' =>
    rw [e] at o
    obtain ⟨s', A1, A2, A3, e1, _, e3, _⟩ := st.env.split e
    cases e3 with
    | dead => exact o.elim
    | @val v _ _ e3 =>
      have o : EndP G σ F H A (.sl i) δ Q := by cases o' <;> first | exact o | exact o.elim
      exact ⟨v, e1, o v F H A [] (by rw [List.append_nil]; exact .refl st.ex) st.env ⟨e1, rfl⟩ (by rw [List.append_nil]; exact st.nd)⟩
/-- a name, to be kept -/
theorem rd_var {i : Nat} {σ : L2.St} {H : Hp} {Q : VK} (q : tE G cl ini W (.var i) σ H Q) : tVar i σ H Q := by
  obtain ⟨F, A, δ, st, o⟩ := q
  simp only [ev, getS] at o
  cases e : δ[i]? with
  | none => rw [e] at o; exact o.elim
  | some o' =>
    rw [e] at o
    obtain ⟨s', A1, A2, A3, e1, e2, e3, back⟩ := st.env.split e
    cases e3 with
    | dead => exact o.elim
    | @val v _ _ e3 =>
      refine ⟨v, e1, ?_⟩
      have fz : Out G W σ F H A (some (.ok (.fr (frz o')) (δ.set i (.fr (frz o'))))) (fun o δ' => EndO G σ F H A o δ' Q) → Q v H := fun k => by
        have hB : ∀ a ∈ A2, F a = none := fun a m => (e3.own a m).1
        have nd := st.nd
        rw [e2] at nd
        have dj : ∀ a ∈ A1 ++ A3, a ∉ A2 := fun a m z => by
          rw [List.nodup_append] at nd
          obtain ⟨_, n2, n3⟩ := nd
          rw [List.nodup_append] at n2
          rcases List.mem_append.mp m with m | m
          · exact n3 a m a (List.mem_append_left _ z) rfl
          · exact n2.2.2 a z a m rfl
        have r := e3.read (F' := ext F H A2) (ext_l hB) fun a m => ext_in m
        have env := back (ext F H A2) H (some v) (.fr (frz o')) [] (ext_l hB) (fun a m => ⟨rfl, by
          rw [ext_out (dj a m)]
          exact (st.env.own a (by rw [e2]; rcases List.mem_append.mp m with m | m <;> simp [m])).1⟩) (.val (.fr r))
        have es : σ.set i (some v) = σ := by
          rw [← List.getElem?_eq_some_iff.mp e1 |>.2]
          exact List.set_getElem_self ..
        rw [es] at env
        refine k v (ext F H A2) H (A1 ++ ([] ++ A3)) [] ?_ env (.fr r) ?_
        · rw [List.append_nil, e2]
          exact Nx.freeze st.ex hB e3.notbl (fun a m => by rcases List.mem_append.mp m with m | m <;> simp_all) fun a m => by simp [m]
        · rw [List.append_nil, List.nil_append]
          rw [List.nodup_append] at nd ⊢
          obtain ⟨n1, n2, n3⟩ := nd
          exact ⟨n1, (List.nodup_append.mp n2).2.1, fun a m b m' => n3 a m b (List.mem_append_right _ m')⟩
      cases o' with
      | fr d => exact o v F H A [] (by rw [List.append_nil]; exact .refl st.ex) st.env (by cases e3 with | fr h => exact .fr h) (by rw [List.append_nil]; exact st.nd)
      | dead => exact o.elim
      | ml _ => exact fz o
      | md _ _ => exact fz o
      | mdT _ _ => exact fz o
      | ob _ _ _ => exact fz o
      | tp _ => exact fz o
theorem se_var {i : Nat} {x : Str} {pos : Pos} (h : PE X (.Name x pos) (tVar i)) : PE X (.Name x pos) (tE G cl ini W (.var i)) := ⟨fun pins s σ H Q I q => h.run pins s σ H Q I (rd_var q)⟩
theorem se_cst_of {x : Expr} {e : E} {d : D} {v : V} (h : PE X x (tC v)) (hd : ∀ F, IsD G F v d) (he : ∀ δ, ev cl ini e δ = some (.ok (.fr d) δ)) : PE X x (tE G cl ini W e) := by
  refine ⟨fun pins s σ H Q I q => h.run pins s σ H Q I ?_⟩
  obtain ⟨F, A, δ, st, o⟩ := q
  rw [he] at o
  exact o v F H A [] (by rw [List.append_nil]; exact .refl st.ex) st.env (.fr (hd F)) (by rw [List.append_nil]; exact st.nd)
theorem se_int {i j pos} : PE X (.Constant (.int i) j pos) (tE G cl ini W (.cst (.int i))) := se_cst_of pe_int (fun _ => .int i) fun _ => rfl
theorem se_bl {i j pos} : PE X (.Constant (.bool i) j pos) (tE G cl ini W (.cst (.bl i))) := se_cst_of pe_bl (fun _ => .bl i) fun _ => rfl
theorem se_non {j pos} : PE X (.Constant .none j pos) (tE G cl ini W (.cst .non)) := se_cst_of pe_non (fun _ => .non) fun _ => rfl
theorem se_str {i j pos} : PE X (.Constant (.str i) j pos) (tE G cl ini W (.cst (.str i))) := se_cst_of pe_str (fun _ => .str i) fun _ => rfl
theorem se_gl {x : Str} {pos} {d : D} {v : V} (h : PE X (.Name x pos) (tC v)) (hd : IsD G G.F0 v d) : PE X (.Name x pos) (tE G cl ini W (.gl d)) := by
  refine ⟨fun pins s σ H Q I q => h.run pins s σ H Q I ?_⟩
  obtain ⟨F, A, δ, st, o⟩ := q
  exact o v F H A [] (by rw [List.append_nil]; exact .refl st.ex) st.env (.fr (hd.mono st.b0)) (by rw [List.append_nil]; exact st.nd)

/-! ### operations by values -/
def PrOk1 (G : Gd) (p : P) (r : V → Hp → VK → Prop) : Prop := ∀ F H v1 o1 o Q, Ex F H → Pk G F H v1 o1 → pr p [o1] = some o → (∀ v F' H' B, Nx F H [] F' H' B → IsO G F' H' v o B → B.Nodup → Q v H') → r v1 H Q
def PrOk2 (G : Gd) (p : P) (r : R2) : Prop := ∀ F H v1 v2 o1 o2 o Q, Ex F H → Pk G F H v1 o1 → Pk G F H v2 o2 → pr p [o1, o2] = some o → (∀ v F' H' B, Nx F H [] F' H' B → IsO G F' H' v o B → B.Nodup → Q v H') → r v1 v2 H Q
theorem ress1 {δ : Env} {p : PO} {os : List O} (h : ress δ [p] = some os) : ∃ o, os = [o] ∧ res δ p = some o := by
  unfold ress at h
  cases e : res δ p with
  | none => rw [e] at h; cases h
  | some o => rw [e] at h; exact ⟨o, (Option.some.inj h).symm, rfl⟩
theorem ress2 {δ : Env} {p q : PO} {os : List O} (h : ress δ [p, q] = some os) : ∃ o o', os = [o, o'] ∧ res δ p = some o ∧ res δ q = some o' := by
  unfold ress at h
  cases e : res δ p with
  | none => rw [e] at h; cases h
  | some o =>
    rw [e] at h
    cases e' : ress δ [q] with
    | none => rw [e'] at h; cases h
    | some os' =>
      rw [e'] at h
      obtain ⟨o', rfl, e2⟩ := ress1 e'
      exact ⟨o, o', (Option.some.inj h).symm, rfl, e2⟩
theorem out_res {σ : L2.St} {F H : Hp} {A : List Addr} {ps : List PO} {δ : Env} {K : List O → Env → Prop} (h : Out G W σ F H A (resM ps δ) K) : ∃ os, ress δ ps = some os ∧ K os δ := by
  unfold resM at h
  cases e : ress δ ps with
  | none => rw [e] at h; exact h.elim
  | some os => rw [e] at h; exact ⟨os, rfl, h⟩
theorem rd_op1 {p : P} {e : E} {r : V → Hp → VK → Prop} (k : PrOk1 G p r) {σ : L2.St} {H : Hp} {Q : VK} (q : tE G cl ini W (.prim p (.cons e .nil)) σ H Q) : tP G cl ini W e σ H fun x H1 => r x H1 Q := by
  obtain ⟨F, A, δ, st, o⟩ := q
  simp only [ev, evs] at o
  refine ⟨F, A, δ, st, (out_bnd (out_bnd o)).imp fun pa δ1 m v1 F1 H1 A1 B1 n1 e1 p1 nd1 => ?_⟩
  have m3 : Out G W σ F H A (bnd (resM [pa]) (fun os => lift (pr p os)) δ1) (fun o δ' => EndO G σ F H A o δ' Q) := m
  obtain ⟨os, er, m4⟩ := out_res (out_bnd m3)
  obtain ⟨o1, rfl, r1⟩ := ress1 er
  obtain ⟨o', eo, m5⟩ := out_lift m4
  exact k F1 H1 v1 o1 o' Q n1.fh (e1.res p1 r1) eo (m5.op n1.left e1 (nodup_app nd1))
theorem rd_op2 {p : P} {a b : E} {r : R2} (k : PrOk2 G p r) {σ : L2.St} {H : Hp} {Q : VK} (q : tE G cl ini W (.prim p (.cons a (.cons b .nil))) σ H Q) : tP G cl ini W a σ H fun x H1 => tP G cl ini W b σ H1 fun y H2 => r x y H2 Q := by
  obtain ⟨F, A, δ, st, o⟩ := q
  simp only [ev, evs] at o
  refine ⟨F, A, δ, st, (out_bnd (out_bnd o)).imp fun pa δ1 m v1 F1 H1 A1 B1 n1 e1 p1 nd1 => ?_⟩
  have m1 := (out_bnd (out_bnd m)).from n1.left
  refine ⟨F1, A1, δ1, ⟨st.b0.trans n1.ff, n1.fh, e1, nodup_app nd1⟩, m1.imp fun pb δ2 m2 v2 F2 H2 A2 B2 n2 e2 p2 nd2 => ?_⟩
  have m3 : Out G W σ F H A (bnd (resM [pa, pb]) (fun os => lift (pr p os)) δ2) (fun o δ' => EndO G σ F H A o δ' Q) := m2
  obtain ⟨os, er, m4⟩ := out_res (out_bnd m3)
  obtain ⟨o1, o2, rfl, r1, r2⟩ := ress2 er
  obtain ⟨o', eo, m5⟩ := out_lift m4
  have p1' := p1.thru n2.left (nodup_app_ne nd1)
  exact k F2 H2 v1 v2 o1 o2 o' Q n2.fh (e2.res p1' r1) (e2.res p2 r2) eo (m5.op (n1.left.trans n2.left) e2 (nodup_app nd2))
variable {a b : Expr} {ea eb : E} {pos : Pos}
theorem se_bin {op : Operator} {p : P} {r : R2} (ho : OpR X (binaryOp op) r) (k : PrOk2 G p r) (ha : PE X a (tP G cl ini W ea)) (hb : PE X b (tP G cl ini W eb)) : PE X (.BinOp a op b pos) (tE G cl ini W (.prim p (.cons ea (.cons eb .nil)))) :=
  ⟨fun pins s σ H Q I q => (pe_op ho ha hb).run pins s σ H Q I (rd_op2 k q)⟩
theorem se_cmp {op : CmpOp} {p : P} {r : R2} (ho : OpR X (compareOp op) r) (k : PrOk2 G p r) (hm : behindInMarks op b = false) (ha : PE X a (tP G cl ini W ea)) (hb : PE X b (tP G cl ini W eb)) : PE X (.Compare a [op] [b] pos) (tE G cl ini W (.prim p (.cons ea (.cons eb .nil)))) :=
  ⟨fun pins s σ H Q I q => (pe_cmpR ho ha hb hm).run pins s σ H Q I (rd_op2 k q)⟩
end
end Ow
end OwD_
section OwP_
set_option Elab.async false
set_option linter.all false
set_option maxRecDepth 100000
set_option maxHeartbeats 2000000
/-! The operations by values are the text's own. -/
namespace Ow
open PySem PySem.Spec PyProof.Rows L2
variable [TQ]
section
variable {G : Gd} {F H : Hp} {X : Cx}
theorem frs_is : ∀ {os ds vs B}, allFr os = some ds → IsOs G F H vs os B → IsDs G F vs ds
  | [], ds, vs, B, e, h => by
    cases h
    cases e
    exact .nil
  | .fr d :: os, ds, vs, B, e, h => by
    unfold allFr at e
    cases q : allFr os with
    | none => rw [q] at e; cases e
    | some r =>
      rw [q] at e
      cases e
      cases h with
      | cons h1 h2 =>
        cases h1 with
        | fr h1 => exact .cons h1 (frs_is q h2)
  | .ml _ :: _, _, _, _, e, _ => by cases e
  | .md _ _ :: _, _, _, _, e, _ => by cases e
  | .mdT _ _ :: _, _, _, _, e, _ => by cases e
  | .ob _ _ _ :: _, _, _, _, e, _ => by cases e
  | .tp _ :: _, _, _, _, e, _ => by cases e
  | .dead :: _, _, _, _, e, _ => by cases e
theorem is_frs : ∀ {ds vs}, IsDs G F vs ds → IsOs G F H vs (ds.map .fr) []
  | [], _, h => by cases h; exact .nil
  | d :: ds, _, h => by
    cases h with
    | cons h1 h2 => exact .cons (A := []) (B := []) (.fr h1) (is_frs h2)
theorem IsDs.len {vs ds} (h : IsDs G F vs ds) : vs.length = ds.length := by
  induction ds generalizing vs with
  | nil => cases h; rfl
  | cons d ds ih => cases h with | cons _ h2 => simp [ih h2]
theorem IsOs.len {vs os B} (h : IsOs G F H vs os B) : vs.length = os.length := by
  induction os generalizing vs B with
  | nil => cases h; rfl
  | cons d ds ih => cases h with | cons _ h2 => simp [ih h2]
theorem IsDs.app {vs ws ds es} (h : IsDs G F vs ds) (h' : IsDs G F ws es) : IsDs G F (vs ++ ws) (ds ++ es) := by
  induction ds generalizing vs with
  | nil => cases h; exact h'
  | cons d ds ih => cases h with | cons h1 h2 => exact .cons h1 (ih h2)
theorem IsDs.at {vs ds} (h : IsDs G F vs ds) : ∀ {i : Nat} {d}, ds[i]? = some d → ∃ v, vs[i]? = some v ∧ IsD G F v d := by
  induction ds generalizing vs with
  | nil => intro i d e; simp at e
  | cons d ds ih =>
    cases h with
    | cons h1 h2 =>
      intro i d' e
      cases i with
      | zero => simp at e; subst e; exact ⟨_, by simp, h1⟩
      | succ i => simp at e; obtain ⟨v, a, b⟩ := ih h2 e; exact ⟨v, by simpa using a, b⟩
theorem IsDs.take {vs ds} (h : IsDs G F vs ds) : ∀ n, IsDs G F (vs.take n) (ds.take n) := by
  induction ds generalizing vs with
  | nil => cases h; intro n; simp; exact .nil
  | cons d ds ih =>
    cases h with
    | cons h1 h2 =>
      intro n
      cases n with
      | zero => simp; exact .nil
      | succ n => simp; exact .cons h1 (ih h2 n)
theorem IsDs.drop {vs ds} (h : IsDs G F vs ds) : ∀ n, IsDs G F (vs.drop n) (ds.drop n) := by
  induction ds generalizing vs with
  | nil => cases h; intro n; simp; exact .nil
  | cons d ds ih =>
    cases h with
    | cons h1 h2 =>
      intro n
      cases n with
      | zero => simp; exact .cons h1 h2
      | succ n => simp; exact ih h2 n
theorem IsDs.cut {vs ds} (h : IsDs G F vs ds) (i j : Option Int) : IsDs G F (cutV vs i j) (cutD ds i j) := by
  unfold cutV cutD
  rw [h.len]
  exact (h.drop _).take _
theorem IsDs.rep {vs ds} (h : IsDs G F vs ds) : ∀ n, IsDs G F (List.replicate n vs).flatten (List.replicate n ds).flatten
  | 0 => .nil
  | n + 1 => by
    rw [List.replicate_succ, List.replicate_succ, List.flatten_cons, List.flatten_cons]
    exact h.app (h.rep n)
theorem pk_lst {v o ds} (e : Ex F H) (h : Pk G F H v o) (q : lstOf o = some ds) : ∃ a vs, v = .ref a ∧ H a = some (.lst vs) ∧ IsDs G F vs ds := by
  obtain ⟨B, h⟩ := h
  cases h with
  | fr h =>
    cases h with
    | lst h r => cases q; exact ⟨_, _, rfl, e.at h, r⟩
    | _ => cases q
  | ml f h r => exact ⟨_, _, rfl, h, frs_is q r⟩
  | _ => cases q
theorem pk_elems {K : PySem.W.Frag} {v o ds} (hK : G.K = K) (e : Ex F H) (h : Pk G F H v o) (q : elems o = some ds) : ∃ a vs, v = .ref a ∧ (SqL K H a vs ∨ SqT K H a vs) ∧ IsDs G F vs ds := by
  subst hK
  obtain ⟨B, h⟩ := h
  cases h with
  | fr h =>
    cases h with
    | lst h r => cases q; exact ⟨_, _, rfl, .inl (.of (e.at h)), r⟩
    | tup h r => cases q; exact ⟨_, _, rfl, .inr (.of (e.at h)), r⟩
    | _ => cases q
  | ml f h r => exact ⟨_, _, rfl, .inl (.of h), frs_is q r⟩
  | tp f h r => exact ⟨_, _, rfl, .inr (.of h), frs_is q r⟩
  | _ => cases q
/-- what is handed on: a frozen scalar -/
theorem k_fr {v d} {Q : VK} (e : Ex F H) (k : ∀ v F' H' B, Nx F H [] F' H' B → IsO G F' H' v (.fr d) B → B.Nodup → Q v H') (h : IsD G F v d) : Q v H := k v F H [] (.refl e) (.fr h) .nil
/-- .. a new list of frozen items -/
theorem k_ml {vs ds} {p : Addr} {Q : VK} (e : Ex F H) (k : ∀ v F' H' B, Nx F H [] F' H' B → IsO G F' H' v (.ml (ds.map .fr)) B → B.Nodup → Q v H') (h : IsDs G F vs ds) (hp : H p = none) : Q (.ref p) (upd H p (.lst vs)) :=
  k _ F _ [p] (.new e hp) (.ml (e.none hp) upd_same (is_frs h)) (by simp)
theorem opr_or {f : Value → Value → Sem Value} {r r' : R2} (h : OpR X f r) (h' : OpR X f r') : OpR X f (fun x y H Q => r x y H Q ∨ r' x y H Q) :=
  fun pins s σ H x y v u Q I rx ry q => q.elim (h pins s σ H x y v u Q I rx ry) (h' pins s σ H x y v u Q I rx ry)
theorem pk_int {v i} (h : Pk G F H v (.fr (.int i))) : v = .int i := by
  obtain ⟨_, h⟩ := h
  cases h with | fr h => cases h; rfl
theorem pk_str {v i} (h : Pk G F H v (.fr (.str i))) : v = .str i := by
  obtain ⟨_, h⟩ := h
  cases h with | fr h => cases h; rfl
theorem pk_bl {v i} (h : Pk G F H v (.fr (.bl i))) : v = .bl i := by
  obtain ⟨_, h⟩ := h
  cases h with | fr h => cases h; rfl
theorem pk_fr {v d} (h : Pk G F H v (.fr d)) : IsD G F v d := by
  obtain ⟨_, h⟩ := h
  cases h with | fr h => exact h
theorem pk_read {v o} (e : Ex F H) (h : Pk G F H v o) : IsD G H v (frz o) := by
  obtain ⟨B, h⟩ := h
  exact h.read e fun a _ => rfl
theorem sm_le {n : Nat} (h : n ≤ sm) : n ≤ sizeLine := Nat.le_trans h (by decide)

/-! ### + -/
abbrev rAdd3 : R2 := fun x y H Q => rI0 (fun i j => .int (i + j)) x y H Q ∨ ((∃ i j, x = .str i ∧ y = .str j ∧ i.length + j.length ≤ sizeLine ∧ Q (.str (i ++ j)) H) ∨ rCat x y H Q)
theorem op_add3 : OpR X (binaryOp .Add) rAdd3 := opr_or op_add (opr_or op_add_str op_cat)
theorem add_lst {v1 v2 o1 o2 o} {Q : VK} (e : Ex F H) (h1 : Pk G F H v1 o1) (h2 : Pk G F H v2 o2)
    (q : ((lstOf o1).bind fun xs => (lstOf o2).bind fun ys => if xs.length + ys.length ≤ sm then some (O.ml ((xs ++ ys).map .fr)) else none) = some o)
    (k : ∀ v F' H' B, Nx F H [] F' H' B → IsO G F' H' v o B → B.Nodup → Q v H') : rCat v1 v2 H Q := by
  obtain ⟨xs, e1, q⟩ := Option.bind_eq_some_iff.mp q
  obtain ⟨ys, e2, q⟩ := Option.bind_eq_some_iff.mp q
  split at q
  case isFalse => cases q
  rename_i hl
  cases q
  obtain ⟨a, vs, rfl, ha, ra⟩ := pk_lst e h1 e1
  obtain ⟨b, ws, rfl, hb, rb⟩ := pk_lst e h2 e2
  refine ⟨a, b, vs, ws, rfl, rfl, ha, hb, ?_, fun p hp => k_ml e k (ra.app rb) hp⟩
  rw [ra.len, rb.len]
  exact sm_le hl
theorem ok_add : PrOk2 G .add rAdd3 := by
  intro F H v1 v2 o1 o2 o Q e h1 h2 q k
  have q : prAdd o1 o2 = some o := q
  unfold prAdd at q
  split at q
  · cases q
    cases pk_int h1
    cases pk_int h2
    exact .inl ⟨_, _, rfl, rfl, k_fr e k (.int _)⟩
  · split at q
    case isFalse => cases q
    cases q
    cases pk_str h1
    cases pk_str h2
    rename_i hl
    exact .inr (.inl ⟨_, _, rfl, rfl, sm_le hl, k_fr e k (.str _)⟩)
  · exact .inr (.inr (add_lst e h1 h2 q k))
/-! ### numbers -/
theorem ok_int {p : P} {c : Int → Int → Bool} {f : Int → Int → D} {C : Int → Int → Prop} {g : Int → Int → V} (hp : ∀ a b, pr p [a, b] = intOp c f a b) (hc : ∀ i j, c i j = true → C i j) (hf : ∀ (G : Gd) F i j, IsD G F (g i j) (f i j)) :
    PrOk2 G p (rI C g) := by
  intro F H v1 v2 o1 o2 o Q e h1 h2 q k
  rw [hp] at q
  unfold intOp at q
  split at q
  · split at q
    case isFalse => cases q
    cases q
    cases pk_int h1
    cases pk_int h2
    rename_i hh
    exact ⟨_, _, rfl, rfl, hc _ _ hh, k_fr e k (hf G F _ _)⟩
  · cases q
theorem ok_int0 {p : P} {f : Int → Int → D} {g : Int → Int → V} (hp : ∀ a b, pr p [a, b] = intOp (fun _ _ => true) f a b) (hf : ∀ (G : Gd) F i j, IsD G F (g i j) (f i j)) :
    PrOk2 G p (rI0 g) := by
  intro F H v1 v2 o1 o2 o Q e h1 h2 q k
  rw [hp] at q
  unfold intOp at q
  split at q
  · split at q
    case isFalse => cases q
    cases q
    cases pk_int h1
    cases pk_int h2
    exact ⟨_, _, rfl, rfl, k_fr e k (hf G F _ _)⟩
  · cases q
theorem ok_sub : PrOk2 G .sub (rI0 fun i j => .int (i - j)) := ok_int0 (fun _ _ => rfl) fun _ _ _ _ => .int _
theorem ok_fdiv : PrOk2 G .fdiv (rI CDivN fun i j => .int (i.fdiv j)) := ok_int (fun _ _ => rfl) (fun i j h => by simpa [CDivN] using h) fun _ _ _ _ => .int _
theorem ok_mod : PrOk2 G .mod (rI (fun _ j => j ≠ 0) fun i j => .int (i.fmod j)) := ok_int (fun _ _ => rfl) (fun i j h => by simpa using h) fun _ _ _ _ => .int _
theorem ok_pow : PrOk2 G .pow (rI CPow fun i j => .int (i ^ j.toNat)) := ok_int (fun _ _ => rfl) (fun i j h => by
  simp only [Bool.and_eq_true, decide_eq_true_eq] at h
  exact ⟨h.1.1, by omega, h.2⟩) fun _ _ _ _ => .int _
theorem ok_lt : PrOk2 G .lt (rI0 fun i j => .bl (decide (i < j))) := ok_int0 (fun _ _ => rfl) fun _ _ _ _ => .bl _
theorem ok_gt : PrOk2 G .gt (rI0 fun i j => .bl (decide (j < i))) := ok_int0 (fun _ _ => rfl) fun _ _ _ _ => .bl _
theorem ok_ge : PrOk2 G .ge (rI0 fun i j => .bl (decide (j ≤ i))) := ok_int0 (fun _ _ => rfl) fun _ _ _ _ => .bl _
end
end Ow
end OwP_
section OwQ_
set_option Elab.async false
set_option linter.all false
set_option maxRecDepth 100000
set_option maxHeartbeats 2000000
namespace Ow
open PySem PySem.Spec PyProof.Rows L2
variable [TQ]
section
variable {G : Gd} {F H : Hp} {X : Cx}
/-! ### * -/
abbrev rMulS : R2 := fun x y H Q => ∃ s n, x = .str s ∧ y = .int n ∧ MulOk s n ∧ Q (.str (Txt.mul s n)) H
theorem op_mulS : OpR X (binaryOp .Mult) rMulS := by
  intro pins s σ H x y v u Q I rx ry h
  obtain ⟨z, n, rfl, rfl, ok, q⟩ := h
  obtain ⟨t, rfl⟩ := rx
  obtain ⟨t', rfl⟩ := ry
  exact SB.mul ok fun t' k => ⟨.str _, H, I.tok _, ⟨_, rfl⟩, q⟩
abbrev rMul3 : R2 := fun x y H Q => rI CMul (fun i j => .int (i * j)) x y H Q ∨ (rMulS x y H Q ∨ rRep x y H Q)
theorem op_mul3 : OpR X (binaryOp .Mult) rMul3 := opr_or op_mul (opr_or op_mulS op_rep)
theorem ok_mul : PrOk2 G .mul rMul3 := by
  intro F H v1 v2 o1 o2 o Q e h1 h2 q k
  have q : prMul o1 o2 = some o := q
  unfold prMul at q
  split at q
  · split at q
    case isFalse => cases q
    rename_i hh
    cases q
    cases pk_int h1
    cases pk_int h2
    exact .inl ⟨_, _, rfl, rfl, hh, k_fr e k (.int _)⟩
  · split at q
    case isFalse => cases q
    rename_i hh
    cases q
    cases pk_str h1
    cases pk_int h2
    exact .inr (.inl ⟨_, _, rfl, rfl, hh, k_fr e k (.str _)⟩)
  · cases pk_int h2
    obtain ⟨xs, e1, q⟩ := Option.bind_eq_some_iff.mp q
    split at q
    case isFalse => cases q
    rename_i hl
    cases q
    obtain ⟨a, vs, rfl, ha, ra⟩ := pk_lst e h1 e1
    refine .inr (.inr ⟨a, _, vs, rfl, rfl, ha, by omega, by omega, ?_, fun p hp => k_ml e k (ra.rep _) hp⟩)
    rw [ra.len]
    refine Nat.le_trans (Nat.mul_le_mul hl.2.2 (show Int.toNat _ ≤ 10000 by omega)) (by decide)
  · cases q
/-! ### comparing -/
abbrev rLe2 : R2 := fun x y H Q => rI0 (fun i j => .bl (decide (i ≤ j))) x y H Q ∨ ∃ i j, x = .str i ∧ y = .str j ∧ Q (.bl (!decide (j.cps.toList < i.cps.toList))) H
theorem op_le2 : OpR X (compareOp .LtE) rLe2 := opr_or op_le op_le_str
theorem ok_le : PrOk2 G .le rLe2 := by
  intro F H v1 v2 o1 o2 o Q e h1 h2 q k
  have q : prLe o1 o2 = some o := q
  unfold prLe at q
  split at q
  · cases q
    cases pk_int h1
    cases pk_int h2
    exact .inl ⟨_, _, rfl, rfl, k_fr e k (.bl _)⟩
  · cases q
    cases pk_str h1
    cases pk_str h2
    exact .inr ⟨_, _, rfl, rfl, k_fr e k (.bl _)⟩
  · cases q
mutual
theorem IsD.dp : ∀ {d v x}, IsD G H v d → pd d = some x → Dp G.K H v x
  | .non, _, _, .non, e => by cases e; exact .non
  | .bl b, _, _, .bl _, e => by cases e; exact .bl b
  | .int i, _, _, .int _, e => by cases e; exact .int i
  | .str s, _, _, .str _, e => by cases e; exact .str s
  | .lst ds, _, _, .lst h r, e => by
    rw [pd] at e
    obtain ⟨xs, e1, rfl⟩ := Option.map_eq_some_iff.mp e
    exact .lst (.of h) (IsDs.dp r e1)
  | .tup ds, _, _, .tup h r, e => by
    rw [pd] at e
    obtain ⟨xs, e1, rfl⟩ := Option.map_eq_some_iff.mp e
    exact .tup (.of h) (IsDs.dp r e1)
  | .dic _ _, _, _, _, e => by cases e
  | .dicT _ _, _, _, _, e => by cases e
  | .obj _ _ _, _, _, _, e => by cases e
  | .lam _, _, _, _, e => by cases e
  | .scr _, _, _, _, e => by cases e
theorem IsDs.dp : ∀ {ds vs xs}, IsDs G H vs ds → pds ds = some xs → DpAll G.K H vs xs
  | [], _, _, .nil, e => by cases e; exact .nil
  | d :: ds, _, _, .cons h r, e => by
    rw [pds] at e
    obtain ⟨x, e1, e⟩ := Option.bind_eq_some_iff.mp e
    obtain ⟨xs, e2, rfl⟩ := Option.map_eq_some_iff.mp e
    exact .cons (IsD.dp h e1) (IsDs.dp r e2)
end
abbrev rEq2 (K : PySem.W.Frag) : R2 := fun x y H Q => rEq x y H Q ∨ rEqD K x y H Q
abbrev rNe2 (K : PySem.W.Frag) : R2 := fun x y H Q => rNe x y H Q ∨ rNeD K x y H Q
theorem op_eq2 (hK : X.K = G.K) (hu : X.A.units + 64 < cLine) : OpR X (compareOp .Eq) (rEq2 G.K) := hK ▸ opr_or op_eq (op_eqD hu)
theorem op_ne2 (hK : X.K = G.K) (hu : X.A.units + 64 < cLine) : OpR X (compareOp .NotEq) (rNe2 G.K) := hK ▸ opr_or op_ne (op_neD hu)
theorem eqD_of {v1 v2 : V} {o1 o2 : O} {c : Bool} (e : Ex F H) (h1 : Pk G F H v1 o1) (h2 : Pk G F H v2 o2) (q : eqD (frz o1) (frz o2) = some c) :
    (scal v1 v2 = true ∧ decide (v1 = v2) = c) ∨ ∃ x y, Dp G.K H v1 x ∧ Dp G.K H v2 y ∧ SeqAt.shaped x = true ∧ SeqAt.shaped y = true ∧ PyData.eqv x y = c := by
  have r1 := pk_read e h1
  have r2 := pk_read e h2
  generalize frz o1 = d1 at *
  generalize frz o2 = d2 at *
  unfold eqD at q
  split at q
  · cases r1; cases r2; cases q
    exact .inl ⟨rfl, by simp⟩
  · cases r1; cases r2; cases q
    exact .inl ⟨rfl, by simp⟩
  · unfold eqPd at q
    obtain ⟨x, e1, q⟩ := Option.bind_eq_some_iff.mp q
    obtain ⟨y, e2, q⟩ := Option.bind_eq_some_iff.mp q
    split at q
    case isFalse => cases q
    rename_i hh
    cases q
    rw [Bool.and_eq_true] at hh
    exact .inr ⟨x, y, r1.dp e1, r2.dp e2, hh.1, hh.2, rfl⟩
theorem ok_eq : PrOk2 G .eq (rEq2 G.K) := by
  intro F H v1 v2 o1 o2 o Q e h1 h2 q k
  obtain ⟨c, q2, rfl⟩ := Option.map_eq_some_iff.mp (show (eqD (frz o1) (frz o2)).map _ = some o from q)
  have fin := k_fr e k (.bl c)
  rcases eqD_of e h1 h2 q2 with ⟨s, rfl⟩ | ⟨x, y, a, b, s, t, rfl⟩
  · exact .inl ⟨s, fin⟩
  · exact .inr ⟨x, y, a, b, s, t, fin⟩
theorem ok_ne : PrOk2 G .ne (rNe2 G.K) := by
  intro F H v1 v2 o1 o2 o Q e h1 h2 q k
  obtain ⟨c, q2, rfl⟩ := Option.map_eq_some_iff.mp (show (eqD (frz o1) (frz o2)).map _ = some o from q)
  have fin := k_fr e k (.bl (!c))
  rcases eqD_of e h1 h2 q2 with ⟨s, rfl⟩ | ⟨x, y, a, b, s, t, rfl⟩
  · exact .inl ⟨s, fin⟩
  · exact .inr ⟨x, y, a, b, s, t, fin⟩
theorem op_in2 (hK : X.K = G.K) (hu : X.A.units + 65 < cLine) : OpR X (compareOp .In) (rInD G.K) := hK ▸ op_inD hu
theorem op_nin2 (hK : X.K = G.K) (hu : X.A.units + 65 < cLine) : OpR X (compareOp .NotIn) (rNotInD G.K) := hK ▸ op_notInD hu
theorem isin_of {v1 v2 : V} {o1 o2 : O} {c : Bool} (e : Ex F H) (h1 : Pk G F H v1 o1) (h2 : Pk G F H v2 o2) (q : isinD (frz o1) o2 = some c) :
    ∃ d ds, Dp G.K H v1 d ∧ Dp G.K H v2 (.list ds) ∧ SeqAt.shaped d = true ∧ SeqAt.shaped (.list ds) = true ∧ (ds.any fun z => PyData.eqv z d) = c := by
  unfold isinD at q
  obtain ⟨xs, e1, q⟩ := Option.bind_eq_some_iff.mp q
  obtain ⟨x, e2, q⟩ := Option.bind_eq_some_iff.mp q
  obtain ⟨ys, e3, q⟩ := Option.bind_eq_some_iff.mp q
  split at q
  case isFalse => cases q
  rename_i hh
  cases q
  rw [Bool.and_eq_true] at hh
  obtain ⟨a, vs, rfl, ha, ra⟩ := pk_lst e h2 e1
  exact ⟨x, ys, (pk_read e h1).dp e2, .lst (.of ha) ((ra.mono e).dp e3), hh.1, hh.2, rfl⟩
theorem ok_in : PrOk2 G .isin (rInD G.K) := by
  intro F H v1 v2 o1 o2 o Q e h1 h2 q k
  obtain ⟨c, q2, rfl⟩ := Option.map_eq_some_iff.mp (show (isinD (frz o1) o2).map _ = some o from q)
  obtain ⟨x, y, a, b, s, t, rfl⟩ := isin_of e h1 h2 q2
  exact ⟨x, y, a, b, s, t, k_fr e k (.bl _)⟩
theorem ok_nin : PrOk2 G .notin (rNotInD G.K) := by
  intro F H v1 v2 o1 o2 o Q e h1 h2 q k
  obtain ⟨c, q2, rfl⟩ := Option.map_eq_some_iff.mp (show (isinD (frz o1) o2).map _ = some o from q)
  obtain ⟨x, y, a, b, s, t, rfl⟩ := isin_of e h1 h2 q2
  exact ⟨x, y, a, b, s, t, k_fr e k (.bl _)⟩
theorem isNon_of {v o} (h : Pk G F H v o) : decide (v = .non) = isNon o := by
  obtain ⟨B, h⟩ := h
  cases h with
  | fr h => cases h <;> first | rfl | simp [isNon]
  | _ => simp [isNon]
theorem isn_op : OpR X (compareOp .Is) (fun x y H Q => y = .non ∧ Q (.bl (decide (x = .non))) H) := op_isN
/-- x is None, x is not None -/
theorem ok_isN : PrOk1 G .isN (fun x H Q => Q (.bl (decide (x = .non))) H) := by
  intro F H v1 o1 o Q e h1 q k
  have q : some (O.fr (.bl (isNon o1))) = some o := q
  cases q
  show Q (.bl (decide (v1 = .non))) H
  rw [isNon_of h1]
  exact k_fr e k (.bl _)
theorem ok_notN : PrOk1 G .notN (fun x H Q => Q (.bl (!decide (x = .non))) H) := by
  intro F H v1 o1 o Q e h1 q k
  have q : some (O.fr (.bl (!isNon o1))) = some o := q
  cases q
  show Q (.bl (!decide (v1 = .non))) H
  rw [isNon_of h1]
  exact k_fr e k (.bl _)
/-! ### len, items, slices -/
abbrev rLen2 (K : PySem.W.Frag) : List V → Hp → VK → Prop := fun xs H Q => (∃ x n, xs = [x] ∧ LenV K x H n ∧ Q (.int n) H) ∨ ∃ a kvs, xs = [V.ref a] ∧ H a = some (.dK kvs) ∧ Q (.int kvs.length) H
theorem call_len2 (hK : X.K = G.K) : CallR X (.builtin "len") (rLen2 G.K) := fun pins s σ H xs us Q I r h => h.elim
  (fun h => call_len pins s σ H xs us Q I r (hK ▸ h)) (call_lenD pins s σ H xs us Q I r)
theorem pk_dK {v ks o} (e : Ex F H) (h : Pk G F H v o) (q : (∃ ds, o = .fr (.dic ks ds)) ∨ ∃ os, o = .md ks os) : ∃ a ws, v = .ref a ∧ Rd H a (.dK ws) ∧ ws.map (·.1) = ks := by
  obtain ⟨B, h⟩ := h
  rcases q with ⟨ds, rfl⟩ | ⟨os, rfl⟩
  · cases h with | fr h => cases h with | dic h r => exact ⟨_, _, rfl, e.rd h, rfl⟩
  · cases h with | md f h r => exact ⟨_, _, rfl, .inl h, rfl⟩
theorem ok_len : PrOk1 G .len (fun x => rLen2 G.K [x]) := by
  intro F H v1 o1 o Q e h1 q k
  have q : prLen o1 = some o := q
  unfold prLen at q
  split at q
  · split at q
    case isFalse => cases q
    rename_i hh
    cases q
    cases pk_str h1
    exact .inl ⟨_, _, rfl, ⟨sm_le hh, rfl⟩, k_fr e k (.int _)⟩
  · cases q
    obtain ⟨B, h⟩ := h1
    cases h with
    | md f h r =>
      refine .inr ⟨_, _, rfl, h, ?_⟩
      rename_i ws os A f' 
      have z := k_fr e k (.int _)
      rw [List.length_map] at z
      exact z
  · cases q
    obtain ⟨a, vs, rfl, ha, ra⟩ := pk_lst e h1 rfl
    refine .inl ⟨_, _, rfl, .inl ⟨vs, .of ha, rfl⟩, ?_⟩
    rw [ra.len]
    exact k_fr e k (.int _)
  · cases q
    have h := pk_fr h1
    cases h with
    | tup h r =>
      refine .inl ⟨_, _, rfl, .inr ⟨_, .of (e.at h), rfl⟩, ?_⟩
      rw [r.len]
      exact k_fr e k (.int _)
  · cases q
    have h := pk_fr h1
    cases h with
    | scr h r =>
      refine .inl ⟨_, _, rfl, .inl ⟨_, e.l h, rfl⟩, ?_⟩
      rw [List.length_map]
      exact k_fr e k (.int _)
  · cases q
    obtain ⟨B, h⟩ := h1
    cases h with
    | ml f h r =>
      refine .inl ⟨_, _, rfl, .inl ⟨_, .of h, rfl⟩, ?_⟩
      rw [r.len]
      exact k_fr e k (.int _)
  · cases q
    obtain ⟨B, h⟩ := h1
    cases h with
    | tp f h r =>
      refine .inl ⟨_, _, rfl, .inr ⟨_, .of h, rfl⟩, ?_⟩
      rw [r.len]
      exact k_fr e k (.int _)
  · cases q
theorem atI_is {vs ds} (r : IsDs G F vs ds) {i : Int} {d : D} (h : atI ds i = some d) : ∃ v, atI vs i = some v ∧ IsD G F v d := by
  unfold atI at h ⊢
  obtain ⟨j, e, h⟩ := Option.bind_eq_some_iff.mp h
  obtain ⟨v, h1, h2⟩ := r.at h
  refine ⟨v, ?_, h2⟩
  rw [r.len, e]
  exact h1
abbrev rIx3 (K : PySem.W.Frag) : R2 := fun x y H Q => rIxS x y H Q ∨ (rIxL K x y H Q ∨ rIxT K x y H Q)
theorem ix_3 (hK : X.K = G.K) : IxR X (rIx3 G.K) := hK ▸ IxR.or ix_str (IxR.or ix_list ix_tup)
theorem ok_idx : PrOk2 G .idx (rIx3 G.K) := by
  intro F H v1 v2 o1 o2 o Q e h1 h2 q k
  have q : prIdx o1 o2 = some o := q
  unfold prIdx at q
  split at q
  · split at q
    case isFalse => cases q
    rename_i hh
    obtain ⟨c, e1, rfl⟩ := Option.map_eq_some_iff.mp q
    cases pk_str h1
    cases pk_int h2
    exact .inl ⟨_, _, _, rfl, rfl, sm_le hh, e1, k_fr e k (.str _)⟩
  · obtain ⟨c, e1, rfl⟩ := Option.map_eq_some_iff.mp q
    cases pk_int h2
    have h := pk_fr h1
    cases h with
    | scr h r =>
      refine .inr (.inl ⟨_, _, _, .int c, rfl, rfl, e.l h, ?_, k_fr e k (.int _)⟩)
      unfold atI at e1 ⊢
      obtain ⟨j, e2, e3⟩ := Option.bind_eq_some_iff.mp e1
      rw [List.length_map, e2]
      show (List.map V.int _)[j]? = _
      rw [List.getElem?_map, e3]
      rfl
  · cases pk_int h2
    obtain ⟨ds, e1, q⟩ := Option.bind_eq_some_iff.mp q
    obtain ⟨d, e2, rfl⟩ := Option.map_eq_some_iff.mp q
    obtain ⟨a, vs, rfl, ha, ra⟩ := pk_elems rfl e h1 e1
    obtain ⟨v, h3, h4⟩ := atI_is ra e2
    rcases ha with ha | ha
    · exact .inr (.inl ⟨_, _, _, _, rfl, rfl, ha, h3, k_fr e k h4⟩)
    · exact .inr (.inr ⟨_, _, _, _, rfl, rfl, ha, h3, k_fr e k h4⟩)
  · cases q
/-! ### lists of truths -/
theorem bls_is : ∀ {ds vs bs}, IsDs G F vs ds → bls ds = some bs → vs = bs.map V.bl
  | [], _, _, .nil, e => by cases e; rfl
  | d :: ds, _, _, .cons h r, e => by
    cases h with
    | bl b =>
      obtain ⟨bs, e1, rfl⟩ := Option.map_eq_some_iff.mp (show (bls ds).map (b :: ·) = some _ from e)
      rw [bls_is r e1]
      rfl
    | _ => cases e
theorem call_all2 (hK : X.K = G.K) (hc : X.calm = true) : CallR X (.builtin "all") (rAll G.K) := hK ▸ cr_all hc
theorem call_any2 (hK : X.K = G.K) (hc : X.calm = true) : CallR X (.builtin "any") (rAny G.K) := hK ▸ cr_any hc
theorem ok_all : PrOk1 G .all (fun x => rAll G.K [x]) := by
  intro F H v1 o1 o Q e h1 q k
  obtain ⟨ds, e1, q⟩ := Option.bind_eq_some_iff.mp (show ((lstOf o1).bind fun ds => (bls ds).map fun bs => O.fr (.bl (bs.all id))) = some o from q)
  obtain ⟨bs, e2, rfl⟩ := Option.map_eq_some_iff.mp q
  obtain ⟨a, vs, rfl, ha, ra⟩ := pk_lst e h1 e1
  cases bls_is ra e2
  exact ⟨a, bs, rfl, .of ha, k_fr e k (.bl _)⟩
theorem ok_any : PrOk1 G .any (fun x => rAny G.K [x]) := by
  intro F H v1 o1 o Q e h1 q k
  obtain ⟨ds, e1, q⟩ := Option.bind_eq_some_iff.mp (show ((lstOf o1).bind fun ds => (bls ds).map fun bs => O.fr (.bl (bs.any id))) = some o from q)
  obtain ⟨bs, e2, rfl⟩ := Option.map_eq_some_iff.mp q
  obtain ⟨a, vs, rfl, ha, ra⟩ := pk_lst e h1 e1
  cases bls_is ra e2
  exact ⟨a, bs, rfl, .of ha, k_fr e k (.bl _)⟩
abbrev rAbs : List V → Hp → VK → Prop := fun xs H Q => ∃ i, xs = [.int i] ∧ Q (.int (if i < 0 then -i else i)) H
theorem ok_abs : PrOk1 G .abs (fun x => rAbs [x]) := by
  intro F H v1 o1 o Q e h1 q k
  have q : prAbs o1 = some o := q
  unfold prAbs at q
  split at q
  · cases q
    cases pk_int h1
    exact ⟨_, rfl, k_fr e k (.int _)⟩
  · cases q
abbrev rList2 (K : PySem.W.Frag) : List V → Hp → VK → Prop := fun xs H Q => ∃ p ys, xs = [.ref p] ∧ (SqL K H p ys ∨ SqT K H p ys) ∧ ∀ l, H l = none → Q (.ref l) (upd H l (.lst ys))
theorem call_list2 (hK : X.K = G.K) : CallR X (.type "list") (rList2 G.K) := hK ▸ call_list_of
theorem ok_list : PrOk1 G .list (fun x => rList2 G.K [x]) := by
  intro F H v1 o1 o Q e h1 q k
  obtain ⟨ds, e1, rfl⟩ := Option.map_eq_some_iff.mp (show (elems o1).map _ = some o from q)
  obtain ⟨a, vs, rfl, ha, ra⟩ := pk_elems rfl e h1 e1
  exact ⟨a, vs, rfl, ha, fun l hl => k_ml e k ra hl⟩
/-! ### truth -/
theorem isOs_empty {vs os B} (h : IsOs G F H vs os B) : vs.isEmpty = os.isEmpty := by cases h <;> rfl
theorem isDs_empty {vs ds} (h : IsDs G F vs ds) : vs.isEmpty = ds.isEmpty := by cases h <;> rfl
theorem tru_of {v o b} (e : Ex F H) (h : Pk G F H v o) (q : truth o = some b) : TruV G.K v H b := by
  obtain ⟨B, h⟩ := h
  unfold truth at q
  split at q
  · cases q; cases h with | fr h => cases h; rfl
  · cases q; cases h with | fr h => cases h; rfl
  · cases q; cases h with | fr h => cases h; rfl
  · split at q
    case isFalse => cases q
    rename_i hh
    cases q
    cases h with | fr h => cases h; exact ⟨sm_le hh, rfl⟩
  · cases q
    cases h with | fr h => cases h with | lst h r => exact .inl ⟨_, .of (e.at h), by rw [isDs_empty r]⟩
  · cases q
    cases h with | fr h => cases h with | tup h r => exact .inr (.inl ⟨_, .of (e.at h), by rw [isDs_empty r]⟩)
  · cases q
    cases h with | ml f h r => exact .inl ⟨_, .of h, by rw [isOs_empty r]⟩
  · cases q
    cases h with | tp f h r => exact .inr (.inl ⟨_, .of h, by rw [isOs_empty r]⟩)
  · cases q
end
end Ow
end OwQ_
section OwR_
set_option Elab.async false
set_option linter.all false
set_option maxRecDepth 100000
set_option maxHeartbeats 2000000
/-! Expressions: displays, argument lists, tests. -/
namespace Ow
open PySem PySem.Spec PyProof.Rows L2
variable [TQ]
section
variable {G : Gd} {cl : Cl} {ini : Nat → Option Nat} {W : WX} {X : Cx} {σ : L2.St} {F F1 F2 H H1 H2 : Hp} {A A1 A2 B : List Addr}
/-- a value that came is frozen -/
theorem fz {v o δ} (n : Nx F H A F1 H1 (A1 ++ B)) (s : IsE G F1 H1 σ δ A1) (i : IsO G F1 H1 v o B) (nd : (A1 ++ B).Nodup) :
    ∃ F2, Nx F H A F2 H1 A1 ∧ IsE G F2 H1 σ δ A1 ∧ IsD G F2 v (frz o) ∧ Nx F1 H1 (A1 ++ B) F2 H1 A1 := by
  have hB : ∀ a ∈ B, F1 a = none := fun a m => (i.own a m).1
  have z : Nx F1 H1 (A1 ++ B) (ext F1 H1 B) H1 A1 := Nx.freeze n.fh hB i.notbl (fun a m => List.mem_append_left _ m) (fun a m => List.mem_append_right _ m)
  exact ⟨ext F1 H1 B, n.trans z, s.frame z.ff fun a m => ⟨rfl, by rw [ext_out fun q => nodup_app_ne nd a q m]; exact (s.own a m).1⟩, i.read z.ff fun a m => ext_in m, z⟩
/-- kept values -/
def EndDs (G : Gd) (σ : L2.St) (F H : Hp) (A : List Addr) (ds : List D) (δ : Env) (Q : List V → Hp → Prop) : Prop := ∀ vs F' H' A', Nx F H A F' H' A' → IsE G F' H' σ δ A' → IsDs G F' vs ds → A'.Nodup → Q vs H'
def tDs (G : Gd) (cl : Cl) (ini : Nat → Option Nat) (W : WX) (es : Es) : TA := fun σ H Q => ∃ F A δ, Stt G F H σ δ A ∧ Out G W σ F H A (evd cl ini es δ) fun ds δ' => EndDs G σ F H A ds δ' Q
theorem sd_nil : PA X [] (tDs G cl ini W .nil) := by
  refine ⟨fun pos pins s σ H Q I q => pa_nil.run pos pins s σ H Q I ?_⟩
  obtain ⟨F, A, δ, st, o⟩ := q
  exact o [] F H A (.refl st.ex) st.env .nil st.nd
theorem sd_cons {x : Expr} {xs : List Expr} {e : E} {es : Es} (h : PE X x (tE G cl ini W e)) (r : PA X xs (tDs G cl ini W es)) (hs : starEach (x :: xs) X.env = (false, eval x X.env) :: starEach xs X.env := by rfl) : PA X (x :: xs) (tDs G cl ini W (.cons e es)) := by
  refine ⟨fun pos pins s σ H Q I q => (pa_cons h r hs).run pos pins s σ H Q I ?_⟩
  obtain ⟨F, A, δ, st, o⟩ := q
  simp only [evd] at o
  refine ⟨F, A, δ, st, (out_bnd o).imp fun o1 δ1 m v F1 H1 A1 B n1 e1 i1 nd1 => ?_⟩
  obtain ⟨F2, n2, e2, d2, z⟩ := fz n1 e1 i1 nd1
  refine ⟨F2, A1, δ1, ⟨st.b0.trans n2.ff, n2.fh, e2, nodup_app nd1⟩, (out_bnd (m.from n2)).imp fun ds δ2 m2 vs F3 H3 A3 n3 e3 d3 nd3 => ?_⟩
  exact m2 (v :: vs) F3 H3 A3 (n2.trans n3) e3 (.cons (d2.mono n3.ff) d3) nd3
/-- operands -/
inductive IsPs (G : Gd) (σ : L2.St) (F H : Hp) : List V → List PO → List Addr → Prop where
  | nil : IsPs G σ F H [] [] []
  | cons {v p vs ps A B} : IsP G σ F H v p A → IsPs G σ F H vs ps B → IsPs G σ F H (v :: vs) (p :: ps) (A ++ B)
theorem IsP.own {v p} (h : IsP G σ F H v p B) : ∀ a ∈ B, F a = none ∧ (∃ u, H a = some u) ∧ ∀ ps, H a ≠ some (spc ps) := by
  cases p with
  | sl i => obtain ⟨_, rfl⟩ := h; exact fun _ m => nomatch m
  | vl o => exact fun a m => ⟨(IsO.own h a m).1, (IsO.own h a m).2, IsO.notbl h a m⟩
def EndPs (G : Gd) (σ : L2.St) (F H : Hp) (A : List Addr) (ps : List PO) (δ : Env) (Q : List V → Hp → Prop) : Prop := ∀ vs F' H' A' B, Nx F H A F' H' (A' ++ B) → IsE G F' H' σ δ A' → IsPs G σ F' H' vs ps B → (A' ++ B).Nodup → Q vs H'
def tPs (G : Gd) (cl : Cl) (ini : Nat → Option Nat) (W : WX) (es : Es) : TA := fun σ H Q => ∃ F A δ, Stt G F H σ δ A ∧ Out G W σ F H A (evs cl ini es δ) fun ps δ' => EndPs G σ F H A ps δ' Q
theorem sps_nil : PA X [] (tPs G cl ini W .nil) := by
  refine ⟨fun pos pins s σ H Q I q => pa_nil.run pos pins s σ H Q I ?_⟩
  obtain ⟨F, A, δ, st, o⟩ := q
  exact o [] F H A [] (by rw [List.append_nil]; exact .refl st.ex) st.env .nil (by rw [List.append_nil]; exact st.nd)
theorem sps_cons {x : Expr} {xs : List Expr} {e : E} {es : Es} (h : PE X x (tP G cl ini W e)) (r : PA X xs (tPs G cl ini W es)) (hs : starEach (x :: xs) X.env = (false, eval x X.env) :: starEach xs X.env := by rfl) : PA X (x :: xs) (tPs G cl ini W (.cons e es)) := by
  refine ⟨fun pos pins s σ H Q I q => (pa_cons h r hs).run pos pins s σ H Q I ?_⟩
  obtain ⟨F, A, δ, st, o⟩ := q
  simp only [evs] at o
  refine ⟨F, A, δ, st, (out_bnd o).imp fun p1 δ1 m v F1 H1 A1 B1 n1 e1 i1 nd1 => ?_⟩
  refine ⟨F1, A1, δ1, ⟨st.b0.trans n1.ff, n1.fh, e1, nodup_app nd1⟩, (out_bnd (m.from n1.left)).imp fun ps δ2 m2 vs F2 H2 A2 B2 n2 e2 i2 nd2 => ?_⟩
  have m2 : EndPs G σ F H A (p1 :: ps) δ2 Q := m2
  have i1' := i1.thru n2 (nodup_app_ne nd1)
  have dj : ∀ a ∈ B1, a ∉ A2 ++ B2 := fun a q => by
    obtain ⟨f, ⟨u, h⟩, t⟩ := i1.own a q
    exact (n2.fr a u h f (nodup_app_ne nd1 a q) fun ps z => t ps (by rw [h, z])).2.2
  refine m2 (v :: vs) F2 H2 A2 (B1 ++ B2) ((n1.tmp n2).sub fun a q => ?_) e2 (.cons i1' i2) ?_
  · simp only [List.mem_append] at q ⊢
    rcases q with q | q | q <;> simp [q]
  · rw [List.nodup_append] at nd1 nd2 ⊢
    refine ⟨nd2.1, List.nodup_append.mpr ⟨nd1.2.1, nd2.2.1, fun a q b q' z => dj a q (by rw [z]; exact List.mem_append_right _ q')⟩, fun a q b q' z => ?_⟩
    rcases List.mem_append.mp q' with q' | q'
    · exact dj b q' (by rw [← z]; exact List.mem_append_left _ q)
    · exact nd2.2.2 a q b q' z
/-! ### displays -/
theorem fails_out {α : Type} {δ : Env} {K : α → Env → Prop} (h : Out G W σ F H A (fails δ) K) : False := h
theorem se_tup {xs : List Expr} {es : Es} {x1 pos} (h : PA X xs (tDs G cl ini W es)) : PE X (.Tuple xs x1 pos) (tE G cl ini W (.tup es)) := by
  refine ⟨fun pins s σ H Q I q => (pe_tup h).run pins s σ H Q I ?_⟩
  obtain ⟨F, A, δ, st, o⟩ := q
  simp only [ev] at o
  refine ⟨F, A, δ, st, (out_bnd o).imp fun ds δ1 m vs F1 H1 A1 n1 e1 i1 nd1 => ?_⟩
  split at m
  case isFalse => exact (fails_out m).elim
  rename_i hl
  refine ⟨by rw [i1.len]; exact sm_le hl, fun p hp => ?_⟩
  have z : Nx F1 H1 A1 (upd F1 p (.tup vs)) (upd H1 p (.tup vs)) A1 := .newF n1.fh hp
  exact m (.ref p) _ _ A1 [] (by rw [List.append_nil]; exact n1.trans z) (e1.frame z.ff fun a q => by
    obtain ⟨f, u, h⟩ := e1.own a q
    have ne := ne_of_none h hp
    exact ⟨upd_ne ne, by rw [upd_ne ne]; exact f⟩) (.fr (.tup upd_same (i1.mono z.ff))) (by rw [List.append_nil]; exact nd1)
theorem se_lst {xs : List Expr} {es : Es} {pos} (h : PA X xs (tDs G cl ini W es)) : PE X (.List xs pos) (tE G cl ini W (.lst es)) := by
  refine ⟨fun pins s σ H Q I q => (pe_lst h).run pins s σ H Q I ?_⟩
  obtain ⟨F, A, δ, st, o⟩ := q
  simp only [ev] at o
  refine ⟨F, A, δ, st, (out_bnd o).imp fun ds δ1 m vs F1 H1 A1 n1 e1 i1 nd1 => ?_⟩
  split at m
  case isFalse => exact (fails_out m).elim
  rename_i hl
  refine ⟨by rw [i1.len]; exact sm_le hl, fun p hp => ?_⟩
  have m : EndO G σ F H A (.ml (ds.map .fr)) δ1 Q := m
  exact m.op n1 e1 nd1 (.ref p) F1 _ [p] (.new n1.fh hp) (.ml (n1.fh.none hp) upd_same (is_frs i1)) (by simp)
theorem se_dnew {pos} {t : Bool} : PE X (.Dict [] [] pos) (tE G cl ini W (.dnew t)) := by
  refine ⟨fun pins s σ H Q I q => ?_⟩
  obtain ⟨F, A, δ, st, o⟩ := q
  cases t with
  | false =>
    refine pe_dnewK.run pins s σ H Q I fun p hp => ?_
    have m : EndO G σ F H A (.md [] []) δ Q := o
    exact m.op (.refl st.ex) st.env st.nd (.ref p) F _ [p] (.new st.ex hp) (.md (ws := []) (st.ex.none hp) upd_same .nil) (by simp)
  | true =>
    refine pe_dnewT.run pins s σ H Q I fun p hp => ?_
    have m : EndO G σ F H A (.mdT [] []) δ Q := o
    exact m.op (.refl st.ex) st.env st.nd (.ref p) F _ [p] (.new st.ex hp) (.mdT (ws := []) (st.ex.none hp) upd_same .nil) (by simp)
/-! ### tests -/
def EndB {α : Type} (G : Gd) (σ : L2.St) (F H : Hp) (A : List Addr) (b : α) (δ : Env) (Q : α → Hp → Prop) : Prop := ∀ F' H' A', Nx F H A F' H' A' → IsE G F' H' σ δ A' → A'.Nodup → Q b H'
def tT (G : Gd) (cl : Cl) (ini : Nat → Option Nat) (W : WX) (e : E) : TT := fun σ H Q => ∃ F A δ, Stt G F H σ δ A ∧ Out G W σ F H A (bnd (ev cl ini e) truthM δ) fun b δ' => EndB G σ F H A b δ' Q
/-- a test that is a value's truth -/
theorem st_of {x : Expr} {e : E} (hK : X.K = G.K) (h : PE X x (tE G cl ini W e)) (he : ∀ whole, isTrue x X.env whole = (do let v ← whole; standAt x.pos; holding [v] (truthy v)) := by intro _; rfl) : PT X x (tT G cl ini W e) := by
  refine ⟨fun pins s σ H Q I q => (pt_truth h he).run pins s σ H Q I ?_⟩
  obtain ⟨F, A, δ, st, o⟩ := q
  refine ⟨F, A, δ, st, (out_bnd o).imp fun o1 δ1 m v F1 H1 A1 B n1 e1 i1 nd1 => ?_⟩
  obtain ⟨b, eb, m⟩ := out_lift m
  exact ⟨b, hK ▸ tru_of n1.fh ⟨B, i1⟩ eb, m F1 H1 A1 n1.left e1 (nodup_app nd1)⟩
/-- .. that is a truth value for sure -/
def Says (e : E) : Prop := ∀ (cl : Cl) (ini : Nat → Option Nat) δ o δ', ev cl ini e δ = some (.ok o δ') → ∃ c, o = .fr (.bl c)
theorem tB_of {e : E} (hs : Says e) {σ : L2.St} {H : Hp} {Q : Bool → Hp → Prop} (q : tT G cl ini W e σ H Q) : tE G cl ini W e σ H fun x H1 => ∃ c, x = .bl c ∧ Q c H1 := by
  obtain ⟨F, A, δ, st, o⟩ := q
  refine ⟨F, A, δ, st, ?_⟩
  have o := out_bnd o
  unfold Out at o ⊢
  split
  · rename_i z; rw [z] at o; exact o
  · rename_i z; rw [z] at o; exact o
  · rename_i o1 δ1 z
    rw [z] at o
    obtain ⟨c, rfl⟩ := hs _ _ _ _ _ z
    intro v F1 H1 A1 B n1 e1 i1 nd1
    cases i1 with
    | fr h =>
      cases h
      exact ⟨c, rfl, o F1 H1 A1 n1.left e1 (nodup_app nd1)⟩
theorem bnd_ok {α β : Type} {m : M α} {f : α → M β} {δ : Env} {b : β} {δ' : Env} (h : bnd m f δ = some (.ok b δ')) : ∃ a δ1, m δ = some (.ok a δ1) ∧ f a δ1 = some (.ok b δ') := by
  unfold bnd at h
  cases e : m δ with
  | none => rw [e] at h; cases h
  | some r =>
    rw [e] at h
    cases r with
    | ex x => cases h
    | ok a δ1 => exact ⟨a, δ1, rfl, h⟩
theorem lift_ok {α : Type} {r : Option α} {δ : Env} {b : α} {δ' : Env} (h : lift r δ = some (.ok b δ')) : r = some b ∧ δ = δ' := by
  cases r with
  | none => cases h
  | some a => cases h; exact ⟨rfl, rfl⟩
theorem says_prim {p : P} {es : Es} (hp : ∀ os o, pr p os = some o → ∃ c, o = .fr (.bl c)) : Says (.prim p es) := by
  intro cl ini δ o δ' h
  simp only [ev] at h
  obtain ⟨ps, δ1, _, h⟩ := bnd_ok h
  obtain ⟨os, δ2, _, h⟩ := bnd_ok h
  exact hp os o (lift_ok h).1
/-- the operations that answer a truth -/
def isCmp : P → Bool
  | .eq | .ne | .lt | .le | .gt | .ge | .isin | .notin | .isN | .notN | .isi _ | .all | .any | .dhas | .dnhas => true
  | _ => false
theorem cmp_says {p : P} (h : isCmp p = true) : ∀ os o, pr p os = some o → ∃ c, o = .fr (.bl c) := by
  intro os o q
  cases p <;> first | cases h | skip
  all_goals
    (first
    | (rcases os with _ | ⟨a, _ | ⟨b, _ | ⟨c, os⟩⟩⟩ <;> first | (cases q; done) | skip))
  all_goals try (obtain ⟨c, _, rfl⟩ := Option.map_eq_some_iff.mp q; exact ⟨_, rfl⟩)
  all_goals try (cases q; exact ⟨_, rfl⟩)
  all_goals try (obtain ⟨ds, _, q⟩ := Option.bind_eq_some_iff.mp q; obtain ⟨c, _, rfl⟩ := Option.map_eq_some_iff.mp q; exact ⟨_, rfl⟩)
  all_goals
    (simp only [pr, intOp, prLe] at q
     split at q <;> first | (cases q; done) | (cases q; exact ⟨_, rfl⟩) | (split at q <;> first | (cases q; done) | (cases q; exact ⟨_, rfl⟩)))
end
end Ow
end OwR_
section OwS_
set_option Elab.async false
set_option linter.all false
set_option maxRecDepth 100000
set_option maxHeartbeats 2000000
/-! Expressions: tests, the rest of the operations, attributes. -/
namespace Ow
open PySem PySem.Spec PyProof.Rows L2
variable [TQ]
/-- what is known of a context -/
structure Good (G : Gd) (k : Nat) (X : Cx) : Prop where
  hK : X.K = G.K
  room : Room k X.A
  calm : X.calm = true
  nd : X.N.Nodup
theorem Good.u {G : Gd} {k : Nat} {X : Cx} (g : Good G k X) : X.A.units + 65 < cLine := by have := g.room.un; omega
theorem Good.u64 {G : Gd} {k : Nat} {X : Cx} (g : Good G k X) : X.A.units + 64 < cLine := by have := g.room.un; omega
theorem Good.u1 {G : Gd} {k : Nat} {X : Cx} (g : Good G k X) : X.A.units + 1 < cLine := by have := g.room.un; omega
section
variable {G : Gd} {cl : Cl} {ini : Nat → Option Nat} {W : WX} {X : Cx} {σ : L2.St} {F F1 F2 H H1 H2 : Hp} {A A1 A2 B : List Addr} {x y z : Expr} {a b c : E} {pos : Pos} {k : Nat}
theorem tTest_of {t : TE} {σ : L2.St} {H : Hp} {Q : Bool → Hp → Prop} (h : t σ H fun x H1 => ∃ c, x = .bl c ∧ Q c H1) : tTest t σ H Q := h
theorem st_cmp {op : CmpOp} {p : P} {r : R2} (ho : OpR X (compareOp op) r) (k : PrOk2 G p r) (hp : isCmp p = true) (hm : behindInMarks op y = false) (ha : PE X x (tP G cl ini W a)) (hb : PE X y (tP G cl ini W b)) :
    PT X (.Compare x [op] [y] pos) (tT G cl ini W (.prim p (.cons a (.cons b .nil)))) :=
  ⟨fun pins s σ H Q I q => (pt_cmpR ho ha hb hm).run pins s σ H Q I (tTest_of (rd_op2 k (tB_of (says_prim (cmp_says hp)) q)))⟩
/-- x is None -/
theorem se_isN {op : CmpOp} {p : P} {r : V → Hp → VK → Prop} {j pos'} (ho : OpR X (compareOp op) (fun x y H Q => y = .non ∧ r x H Q)) (k : PrOk1 G p r) (hm : behindInMarks op (.Constant .none j pos') = false) (ha : PE X x (tP G cl ini W a)) :
    PE X (.Compare x [op] [.Constant .none j pos'] pos) (tE G cl ini W (.prim p (.cons a .nil))) :=
  ⟨fun pins s σ H Q I q => (pe_cmpR ho ha pe_non hm).run pins s σ H Q I (by
    obtain ⟨F, A, δ, st, o⟩ := rd_op1 k q
    exact ⟨F, A, δ, st, o.imp fun p1 δ1 m v F' H' A' B n i io nd => ⟨rfl, m v F' H' A' B n i io nd⟩⟩)⟩
theorem st_isN {op : CmpOp} {p : P} {r : V → Hp → VK → Prop} {j pos'} (ho : OpR X (compareOp op) (fun x y H Q => y = .non ∧ r x H Q)) (k : PrOk1 G p r) (hp : isCmp p = true) (hm : behindInMarks op (.Constant .none j pos') = false) (ha : PE X x (tP G cl ini W a)) :
    PT X (.Compare x [op] [.Constant .none j pos'] pos) (tT G cl ini W (.prim p (.cons a .nil))) :=
  ⟨fun pins s σ H Q I q => (pt_cmpR ho ha pe_non hm).run pins s σ H Q I (by
    obtain ⟨F, A, δ, st, o⟩ := rd_op1 k (tB_of (says_prim (cmp_says hp)) q)
    exact ⟨F, A, δ, st, o.imp fun p1 δ1 m v F' H' A' B n i io nd => ⟨rfl, m v F' H' A' B n i io nd⟩⟩)⟩
/-! ### not, and, or as tests -/
theorem out_truth {o : O} {δ : Env} {K : Bool → Env → Prop} (h : Out G W σ F H A (truthM o δ) K) : ∃ b, truth o = some b ∧ K b δ := out_lift h
theorem bnd_bnd {α β γ : Type} (m : M α) (f : α → M β) (g : β → M γ) : bnd (bnd m f) g = bnd m fun a => bnd (f a) g := by
  funext δ
  unfold bnd
  cases m δ with
  | none => rfl
  | some r => cases r <;> rfl
theorem bnd_ret {α β : Type} (a : α) (f : α → M β) : bnd (ret a) f = f a := rfl
theorem bnd_id {α : Type} (m : M α) : bnd m ret = m := by
  funext δ
  unfold bnd
  cases m δ with
  | none => rfl
  | some r => cases r <;> rfl
theorem not_eq : bnd (ev cl ini (.not_ a)) truthM = bnd (bnd (ev cl ini a) truthM) fun t => ret (!t) := by
  simp only [ev, bnd_bnd]
  rfl
theorem and_eq : bnd (ev cl ini (.and_ a b)) truthM = bnd (bnd (ev cl ini a) truthM) fun t => if t = true then bnd (ev cl ini b) truthM else ret false := by
  simp only [ev, bnd_bnd]
  congr 1
  funext o δ
  show bnd (lift (truth o)) _ δ = bnd (lift (truth o)) _ δ
  cases e : truth o with
  | none => rfl
  | some t =>
    cases t with
    | true => rfl
    | false =>
      show lift (truth o) δ = _
      rw [e]
      rfl
theorem or_eq : bnd (ev cl ini (.or_ a b)) truthM = bnd (bnd (ev cl ini a) truthM) fun t => if t = true then ret true else bnd (ev cl ini b) truthM := by
  simp only [ev, bnd_bnd]
  congr 1
  funext o δ
  show bnd (lift (truth o)) _ δ = bnd (lift (truth o)) _ δ
  cases e : truth o with
  | none => rfl
  | some t =>
    cases t with
    | false => rfl
    | true =>
      show lift (truth o) δ = _
      rw [e]
      rfl
theorem st_not (ha : PT X x (tT G cl ini W a)) : PT X (.UnaryOp .Not x pos) (tT G cl ini W (.not_ a)) := by
  refine ⟨fun pins s σ H Q I q => (pt_not ha).run pins s σ H Q I ?_⟩
  obtain ⟨F, A, δ, st, o⟩ := q
  rw [not_eq] at o
  exact ⟨F, A, δ, st, (out_bnd o).imp fun b δ1 m F1 H1 A1 n1 e1 nd1 => (show EndB G σ F H A (!b) δ1 Q from m) F1 H1 A1 n1 e1 nd1⟩
theorem and_read {e1 e2 : E} {σ : L2.St} {H : Hp} {Q : Bool → Hp → Prop} (q : tT G cl ini W (.and_ e1 e2) σ H Q) : tT G cl ini W e1 σ H fun c H1 => if c = true then tT G cl ini W e2 σ H1 Q else Q false H1 := by
  obtain ⟨F, A, δ, st, o⟩ := q
  rw [and_eq] at o
  refine ⟨F, A, δ, st, (out_bnd o).imp fun b δ1 m F1 H1 A1 n1 e1 nd1 => ?_⟩
  cases b with
  | true => exact ⟨F1, A1, δ1, ⟨st.b0.trans n1.ff, n1.fh, e1, nd1⟩, ((show Out G W σ F H A (bnd (ev cl ini e2) truthM δ1) _ from m).from n1).imp fun b δ2 m2 F2 H2 A2 n2 e2 nd2 => m2 F2 H2 A2 (n1.trans n2) e2 nd2⟩
  | false => exact (show EndB G σ F H A false δ1 Q from m) F1 H1 A1 n1 e1 nd1
theorem or_read {e1 e2 : E} {σ : L2.St} {H : Hp} {Q : Bool → Hp → Prop} (q : tT G cl ini W (.or_ e1 e2) σ H Q) : tT G cl ini W e1 σ H fun c H1 => if c = true then Q true H1 else tT G cl ini W e2 σ H1 Q := by
  obtain ⟨F, A, δ, st, o⟩ := q
  rw [or_eq] at o
  refine ⟨F, A, δ, st, (out_bnd o).imp fun b δ1 m F1 H1 A1 n1 e1 nd1 => ?_⟩
  cases b with
  | false => exact ⟨F1, A1, δ1, ⟨st.b0.trans n1.ff, n1.fh, e1, nd1⟩, ((show Out G W σ F H A (bnd (ev cl ini e2) truthM δ1) _ from m).from n1).imp fun b δ2 m2 F2 H2 A2 n2 e2 nd2 => m2 F2 H2 A2 (n1.trans n2) e2 nd2⟩
  | true => exact (show EndB G σ F H A true δ1 Q from m) F1 H1 A1 n1 e1 nd1
variable {xs : List Expr}
theorem sw_and1 (ha : PT X x (tT G cl ini W a)) : PW X (.BoolOp .And [x] pos) (tT G cl ini W a) := pw_and1 ha
theorem sw_or1 (ha : PT X x (tT G cl ini W a)) : PW X (.BoolOp .Or [x] pos) (tT G cl ini W a) := pw_or1 ha
theorem sw_and (ha : PT X x (tT G cl ini W a)) (hb : PW X (.BoolOp .And (y :: xs) pos) (tT G cl ini W b)) : PW X (.BoolOp .And (x :: y :: xs) pos) (tT G cl ini W (.and_ a b)) :=
  ⟨fun wh pins s σ H Q I q => (pw_and ha hb).run wh pins s σ H Q I (and_read q)⟩
theorem sw_or (ha : PT X x (tT G cl ini W a)) (hb : PW X (.BoolOp .Or (y :: xs) pos) (tT G cl ini W b)) : PW X (.BoolOp .Or (x :: y :: xs) pos) (tT G cl ini W (.or_ a b)) :=
  ⟨fun wh pins s σ H Q I q => (pw_or ha hb).run wh pins s σ H Q I (or_read q)⟩
/-! ### .. as values -/
theorem se_not (hK : X.K = G.K) (ha : PE X x (tE G cl ini W a)) : PE X (.UnaryOp .Not x pos) (tE G cl ini W (.not_ a)) := by
  refine ⟨fun pins s σ H Q I q => (pe_notT ha).run pins s σ H Q I ?_⟩
  obtain ⟨F, A, δ, st, o⟩ := q
  simp only [ev] at o
  refine ⟨F, A, δ, st, (out_bnd o).imp fun o1 δ1 m v F1 H1 A1 B n1 e1 i1 nd1 => ?_⟩
  obtain ⟨t, et, m⟩ := out_truth (out_bnd m)
  have m : EndO G σ F H A (.fr (.bl !t)) δ1 Q := m
  exact ⟨t, hK ▸ tru_of n1.fh ⟨B, i1⟩ et, m (.bl !t) F1 H1 A1 [] (by rw [List.append_nil]; exact n1.left) e1 (.fr (.bl _)) (by rw [List.append_nil]; exact nodup_app nd1)⟩
theorem se_one {op} (ha : PE X x (tE G cl ini W a)) : PE X (.BoolOp op [x] pos) (tE G cl ini W a) := pe_one ha
theorem se_and (hK : X.K = G.K) (ha : PE X x (tE G cl ini W a)) (hb : PE X (.BoolOp .And (y :: xs) pos) (tE G cl ini W b)) : PE X (.BoolOp .And (x :: y :: xs) pos) (tE G cl ini W (.and_ a b)) := by
  refine ⟨fun pins s σ H Q I q => (pe_andT ha hb).run pins s σ H Q I ?_⟩
  obtain ⟨F, A, δ, st, o⟩ := q
  simp only [ev] at o
  refine ⟨F, A, δ, st, (out_bnd o).imp fun o1 δ1 m v F1 H1 A1 B n1 e1 i1 nd1 => ?_⟩
  obtain ⟨t, et, m⟩ := out_truth (out_bnd m)
  refine ⟨t, hK ▸ tru_of n1.fh ⟨B, i1⟩ et, ?_⟩
  cases t with
  | true => exact ⟨F1, A1, δ1, ⟨st.b0.trans n1.ff, n1.fh, e1, nodup_app nd1⟩, ((show Out G W σ F H A (ev cl ini b δ1) _ from m).from n1.left).imp fun o2 δ2 m2 v2 F2 H2 A2 B2 n2 e2 i2 nd2 => m2 v2 F2 H2 A2 B2 (n1.left.trans n2) e2 i2 nd2⟩
  | false => exact (show EndO G σ F H A o1 δ1 Q from m) v F1 H1 A1 B n1 e1 i1 nd1
theorem se_or (hK : X.K = G.K) (ha : PE X x (tE G cl ini W a)) (hb : PE X (.BoolOp .Or (y :: xs) pos) (tE G cl ini W b)) : PE X (.BoolOp .Or (x :: y :: xs) pos) (tE G cl ini W (.or_ a b)) := by
  refine ⟨fun pins s σ H Q I q => (pe_orT ha hb).run pins s σ H Q I ?_⟩
  obtain ⟨F, A, δ, st, o⟩ := q
  simp only [ev] at o
  refine ⟨F, A, δ, st, (out_bnd o).imp fun o1 δ1 m v F1 H1 A1 B n1 e1 i1 nd1 => ?_⟩
  obtain ⟨t, et, m⟩ := out_truth (out_bnd m)
  refine ⟨t, hK ▸ tru_of n1.fh ⟨B, i1⟩ et, ?_⟩
  cases t with
  | false => exact ⟨F1, A1, δ1, ⟨st.b0.trans n1.ff, n1.fh, e1, nodup_app nd1⟩, ((show Out G W σ F H A (ev cl ini b δ1) _ from m).from n1.left).imp fun o2 δ2 m2 v2 F2 H2 A2 B2 n2 e2 i2 nd2 => m2 v2 F2 H2 A2 B2 (n1.left.trans n2) e2 i2 nd2⟩
  | true => exact (show EndO G σ F H A o1 δ1 Q from m) v F1 H1 A1 B n1 e1 i1 nd1
theorem se_ite (hc : PT X x (tT G cl ini W a)) (ha : PE X y (tE G cl ini W b)) (hb : PE X z (tE G cl ini W c)) : PE X (.IfExp x y z pos) (tE G cl ini W (.ite a b c)) := by
  refine ⟨fun pins s σ H Q I q => (pe_ifExp hc ha hb).run pins s σ H Q I ?_⟩
  obtain ⟨F, A, δ, st, o⟩ := q
  have o : Out G W σ F H A (bnd (bnd (ev cl ini a) truthM) (fun t => if t = true then ev cl ini b else ev cl ini c) δ) fun o δ' => EndO G σ F H A o δ' Q := by
    simp only [ev] at o
    rw [bnd_bnd]
    exact o
  refine ⟨F, A, δ, st, (out_bnd o).imp fun t δ1 m F1 H1 A1 n1 e1 nd1 => ?_⟩
  have fin : ∀ e, Out G W σ F H A (ev cl ini e δ1) (fun o δ' => EndO G σ F H A o δ' Q) → tE G cl ini W e σ H1 Q := fun e m =>
    ⟨F1, A1, δ1, ⟨st.b0.trans n1.ff, n1.fh, e1, nd1⟩, (m.from n1).imp fun o2 δ2 m2 v2 F2 H2 A2 B2 n2 e2 i2 nd2 => m2 v2 F2 H2 A2 B2 (n1.trans n2) e2 i2 nd2⟩
  cases t with
  | true => exact fin b m
  | false => exact fin c m
/-- a <= b <= c -/
theorem rd_chain {p q : P} {r r' : R2} {Q : VK} (k1 : PrOk2 G p r) (k2 : PrOk2 G q r') (hp : isCmp p = true) (q : tE G cl ini W (.chain p q a b c) σ H Q) : tChain r r' (tE G cl ini W a) (tE G cl ini W b) (tE G cl ini W c) σ H Q := by
  obtain ⟨F, A, δ, st, o⟩ := q
  simp only [ev] at o
  refine ⟨F, A, δ, st, (out_bnd o).imp fun o1 δ1 m v1 F1 H1 A1 B1 n1 e1 i1 nd1 => ?_⟩
  obtain ⟨F1', n1', e1', d1, _⟩ := fz n1 e1 i1 nd1
  refine ⟨F1', A1, δ1, ⟨st.b0.trans n1'.ff, n1'.fh, e1', nodup_app nd1⟩, ((out_bnd m).from n1').imp fun o2 δ2 m2 v2 F2 H2 A2 B2 n2 e2 i2 nd2 => ?_⟩
  obtain ⟨F2', n2', e2', d2, _⟩ := fz n2 e2 i2 nd2
  obtain ⟨ro, er, m3⟩ := out_lift (out_bnd m2)
  obtain ⟨t, et, m4⟩ := out_truth (out_bnd m3)
  have n12 := n1'.trans n2'
  obtain ⟨c', rfl⟩ := cmp_says hp _ _ er
  cases et
  refine k1 F2' H2 v1 v2 _ _ _ _ n2'.fh ⟨_, .fr (d1.mono n2'.ff)⟩ ⟨_, .fr d2⟩ er fun v F3 H3 B3 n3 i3 nd3 => ?_
  cases i3 with
  | fr h3 =>
    cases h3
    refine ⟨t, rfl, ?_⟩
    have s2 : Stt G F2' H2 σ δ2 A2 := ⟨st.b0.trans n12.ff, n2'.fh, e2', nodup_app nd2⟩
    have n123 : Nx F H A F3 H3 A2 := ⟨n12.ff.trans n3.ff, n3.fh, fun a u h1 h2 h3 h4 => by
      obtain ⟨q1, q2, q3⟩ := n12.fr a u h1 h2 h3 h4
      obtain ⟨w1, w2, _⟩ := n3.fr a u q1 q2 (fun z => nomatch z) h4
      exact ⟨w1, w2, q3⟩⟩
    have s3 := s2.thru n3
    cases t with
    | true =>
      refine if_pos rfl ▸ ?_
      refine ⟨F3, A2, δ2, s3, ((out_bnd (show Out G W σ F H A (bnd (ev cl ini c) (fun z => lift (pr _ [.fr (frz o2), .fr (frz z)])) δ2) _ from m4)).from n123).imp fun o4 δ4 m5 v4 F4 H4 A4 B4 n4 e4 i4 nd4 => ?_⟩
      obtain ⟨F4', n4', e4', d4, _⟩ := fz n4 e4 i4 nd4
      obtain ⟨o5, e5, m6⟩ := out_lift m5
      exact k2 F4' H4 v2 v4 _ _ _ _ n4'.fh ⟨_, .fr (d2.mono (n3.ff.trans n4'.ff))⟩ ⟨_, .fr d4⟩ e5 (EndO.op m6 (n123.trans n4') e4' (nodup_app nd4))
    | false =>
      rw [if_neg Bool.false_ne_true]
      exact (show EndO G σ F H A (.fr (.bl false)) δ2 Q from m4) (.bl false) F3 H3 A2 [] (by rw [List.append_nil]; exact n123) s3.env (.fr (.bl _)) (by rw [List.append_nil]; exact s3.nd)
theorem says_chain {p q : P} (hq : isCmp q = true) : Says (.chain p q a b c) := by
  intro cl ini δ o δ' h
  simp only [ev] at h
  obtain ⟨x, δ1, _, h⟩ := bnd_ok h
  obtain ⟨y, δ2, _, h⟩ := bnd_ok h
  obtain ⟨r, δ3, _, h⟩ := bnd_ok h
  obtain ⟨t, δ4, _, h⟩ := bnd_ok h
  cases t with
  | false => cases h; exact ⟨_, rfl⟩
  | true =>
    obtain ⟨z, δ5, _, h⟩ := bnd_ok (show bnd (ev cl ini c) (fun z => lift (pr q [.fr (frz y), .fr (frz z)])) δ4 = some (.ok o δ') from h)
    cases e : pr q [.fr (frz y), .fr (frz z)] with
    | none => rw [e] at h; cases h
    | some o2 =>
      rw [e] at h
      cases h
      exact cmp_says hq _ _ e
theorem se_chain {op op' : CmpOp} {p q : P} {r r' : R2} (ho : OpR X (compareOp op) r) (ho' : OpR X (compareOp op') r') (k1 : PrOk2 G p r) (k2 : PrOk2 G q r') (hp : isCmp p = true) (ha : PE X x (tE G cl ini W a)) (hb : PE X y (tE G cl ini W b)) (hc : PE X z (tE G cl ini W c))
    (hm : lastMarks [op, op'] [y, z] = false := by with_unfolding_all rfl) : PE X (.Compare x [op, op'] [y, z] pos) (tE G cl ini W (.chain p q a b c)) :=
  ⟨fun pins s σ H Q I q => (pe_chain ho ho' ha hb hc hm).run pins s σ H Q I (rd_chain k1 k2 hp q)⟩
theorem st_chain {op op' : CmpOp} {p q : P} {r r' : R2} (ho : OpR X (compareOp op) r) (ho' : OpR X (compareOp op') r') (k1 : PrOk2 G p r) (k2 : PrOk2 G q r') (hp : isCmp p = true) (hq : isCmp q = true) (ha : PE X x (tE G cl ini W a)) (hb : PE X y (tE G cl ini W b)) (hc : PE X z (tE G cl ini W c))
    (hm : lastMarks [op, op'] [y, z] = false := by with_unfolding_all rfl) : PT X (.Compare x [op, op'] [y, z] pos) (tT G cl ini W (.chain p q a b c)) :=
  ⟨fun pins s σ H Q I q => (pt_chain ho ho' ha hb hc hm).run pins s σ H Q I (tTest_of (rd_chain k1 k2 hp (tB_of (says_chain hq) q)))⟩
end
end Ow
end OwS_
section OwT_
set_option Elab.async false
set_option linter.all false
set_option maxRecDepth 100000
set_option maxHeartbeats 2000000
/-! Subscripts, slices, built-ins, attributes, dicts. -/
namespace Ow
open PySem PySem.Spec PyProof.Rows L2
variable [TQ]
section
variable {G : Gd} {cl : Cl} {ini : Nat → Option Nat} {W : WX} {X : Cx} {σ : L2.St} {F F1 F2 H H1 H2 : Hp} {A A1 A2 B : List Addr} {x y z : Expr} {a b c : E} {pos : Pos} {k : Nat}
theorem se_idx (hK : X.K = G.K) (ha : PE X x (tP G cl ini W a)) (hb : PE X y (tP G cl ini W b)) (hs : PlainIx y) : PE X (.Subscript x y pos) (tE G cl ini W (.prim .idx (.cons a (.cons b .nil)))) :=
  ⟨fun pins s σ H Q I q => (pe_ix (ix_3 hK) ha hb hs).run pins s σ H Q I (rd_op2 ok_idx q)⟩
/-! ### dicts -/
theorem keyD_is {v d k} (h : IsD G F v d) (e : keyD d = some k) : v = kV k := by
  unfold keyD at e
  split at e
  · cases h; cases e; rfl
  · cases h; cases e; rfl
  · cases e
theorem keysD_is : ∀ {ds vs ks}, IsDs G F vs ds → keysD ds = some ks → vs = ks.map kV
  | [], _, _, .nil, e => by cases e; rfl
  | d :: ds, _, _, .cons h r, e => by
    obtain ⟨k, e1, e⟩ := Option.bind_eq_some_iff.mp (show (keyD d).bind (fun k => (keysD ds).map (k :: ·)) = some _ from e)
    obtain ⟨ks, e2, rfl⟩ := Option.map_eq_some_iff.mp e
    rw [keyD_is h e1, keysD_is r e2]
    rfl
theorem look_is {κ : Type} [DecidableEq κ] {k : κ} : ∀ {ws : List (κ × V)} {ds : List D}, IsDs G F (ws.map (·.2)) ds →
    (look (ws.map (·.1)) ds k = none ∧ valV ws k = none) ∨ ∃ d v, look (ws.map (·.1)) ds k = some d ∧ valV ws k = some v ∧ IsD G F v d
  | [], _, .nil => .inl ⟨rfl, rfl⟩
  | p :: ws, _, .cons (d := d) (ds := ds) h r => by
    by_cases e : p.1 = k
    · exact .inr ⟨d, p.2, by simp [look, e], valV_pos e, h⟩
    · rw [valV_neg e]
      have z : look ((p :: ws).map (·.1)) (d :: ds) k = look (ws.map (·.1)) ds k := by simp [look, e]
      rw [z]
      exact look_is r
theorem find_is {v1 v2 o1 o2 r} (e : Ex F H) (h1 : Pk G F H v1 o1) (h2 : Pk G F H v2 o2) (q : findO o1 o2 = some r) :
    ∃ a ov, v1 = .ref a ∧ DGet H a v2 ov ∧ ((r = none ∧ ov = none) ∨ ∃ d v, r = some d ∧ ov = some v ∧ IsD G F v d) := by
  unfold findO at q
  split at q
  · obtain ⟨k, e1, rfl⟩ := Option.map_eq_some_iff.mp q
    have h := pk_fr h1
    cases h with
    | dic h r =>
      refine ⟨_, _, rfl, .inl ⟨_, k, e.rd h, keyD_is (pk_fr h2) e1, rfl⟩, ?_⟩
      exact look_is r
  · obtain ⟨k, e1, q⟩ := Option.bind_eq_some_iff.mp q
    obtain ⟨ds, e2, rfl⟩ := Option.map_eq_some_iff.mp q
    obtain ⟨B, h⟩ := h1
    cases h with
    | md f h r =>
      refine ⟨_, _, rfl, .inl ⟨_, k, .inl h, keyD_is (pk_fr h2) e1, rfl⟩, ?_⟩
      exact look_is (frs_is e2 r)
  · obtain ⟨k, e1, rfl⟩ := Option.map_eq_some_iff.mp q
    have h := pk_fr h1
    have h' := pk_fr h2
    cases h with
    | dicT h r =>
      cases h' with
      | tup h3 r3 =>
        refine ⟨_, _, rfl, .inr ⟨_, k, _, .inl (e.at h), rfl, by rw [← keysD_is r3 e1]; exact e.at h3, rfl⟩, ?_⟩
        exact look_is r
  · obtain ⟨k, e1, q⟩ := Option.bind_eq_some_iff.mp q
    obtain ⟨ds, e2, rfl⟩ := Option.map_eq_some_iff.mp q
    obtain ⟨B, h⟩ := h1
    have h' := pk_fr h2
    cases h with
    | mdT f h r =>
      cases h' with
      | tup h3 r3 =>
        refine ⟨_, _, rfl, .inr ⟨_, k, _, .inl h, rfl, by rw [← keysD_is r3 e1]; exact e.at h3, rfl⟩, ?_⟩
        exact look_is (frs_is e2 r)
  · cases q
abbrev rDget : R2 := fun x y H Q => ∃ a v, x = .ref a ∧ DGet H a y (some v) ∧ Q v H
theorem ok_dget : PrOk2 G .dget rDget := by
  intro F H v1 v2 o1 o2 o Q e h1 h2 q k
  obtain ⟨r, e1, q⟩ := Option.bind_eq_some_iff.mp (show ((findO o1 o2).bind fun r => r.map O.fr) = some o from q)
  obtain ⟨a, ov, rfl, g, z⟩ := find_is e h1 h2 e1
  rcases z with ⟨rfl, rfl⟩ | ⟨d, v, rfl, rfl, h⟩
  · cases q
  · cases q
    exact ⟨a, v, rfl, g, k_fr e k h⟩
theorem se_dget (hu : X.A.units + 1 < cLine) (ha : PE X x (tP G cl ini W a)) (hb : PE X y (tP G cl ini W b)) (hs : NoSl y) : PE X (.Subscript x y pos) (tE G cl ini W (.prim .dget (.cons a (.cons b .nil)))) :=
  ⟨fun pins s σ H Q I q => (pe_dget hu ha hb hs).run pins s σ H Q I (rd_op2 ok_dget q)⟩
abbrev rDhas : R2 := fun y x H Q => ∃ a o, x = .ref a ∧ DGet H a y o ∧ Q (.bl o.isSome) H
abbrev rDnhas : R2 := fun y x H Q => ∃ a o, x = .ref a ∧ DGet H a y o ∧ Q (.bl (!o.isSome)) H
theorem ok_dhas : PrOk2 G .dhas rDhas := by
  intro F H v1 v2 o1 o2 o Q e h1 h2 q k
  obtain ⟨r, e1, rfl⟩ := Option.map_eq_some_iff.mp (show (findO o2 o1).map (fun r => O.fr (.bl r.isSome)) = some o from q)
  obtain ⟨a, ov, rfl, g, z⟩ := find_is e h2 h1 e1
  refine ⟨a, ov, rfl, g, ?_⟩
  rcases z with ⟨rfl, rfl⟩ | ⟨d, v, rfl, rfl, h⟩
  · exact k_fr e k (.bl _)
  · exact k_fr e k (.bl _)
theorem ok_dnhas : PrOk2 G .dnhas rDnhas := by
  intro F H v1 v2 o1 o2 o Q e h1 h2 q k
  obtain ⟨r, e1, rfl⟩ := Option.map_eq_some_iff.mp (show (findO o2 o1).map (fun r => O.fr (.bl !r.isSome)) = some o from q)
  obtain ⟨a, ov, rfl, g, z⟩ := find_is e h2 h1 e1
  refine ⟨a, ov, rfl, g, ?_⟩
  rcases z with ⟨rfl, rfl⟩ | ⟨d, v, rfl, rfl, h⟩
  · exact k_fr e k (.bl _)
  · exact k_fr e k (.bl _)
theorem se_dhas (hu : X.A.units + 1 < cLine) (ha : PE X x (tP G cl ini W a)) (hb : PE X y (tP G cl ini W b)) (hm : behindInMarks .In y = false) : PE X (.Compare x [.In] [y] pos) (tE G cl ini W (.prim .dhas (.cons a (.cons b .nil)))) :=
  ⟨fun pins s σ H Q I q => (pe_cmp (pc_din hu ha hb) hm).run pins s σ H Q I (rd_op2 ok_dhas q)⟩
theorem st_dhas (hu : X.A.units + 1 < cLine) (ha : PE X x (tP G cl ini W a)) (hb : PE X y (tP G cl ini W b)) (hm : behindInMarks .In y = false) : PT X (.Compare x [.In] [y] pos) (tT G cl ini W (.prim .dhas (.cons a (.cons b .nil)))) :=
  ⟨fun pins s σ H Q I q => (pt_cmp (pc_din hu ha hb) hm).run pins s σ H Q I (rd_op2 ok_dhas (tB_of (says_prim (cmp_says rfl)) q))⟩
theorem se_dnhas (hu : X.A.units + 1 < cLine) (ha : PE X x (tP G cl ini W a)) (hb : PE X y (tP G cl ini W b)) (hm : behindInMarks .NotIn y = false) : PE X (.Compare x [.NotIn] [y] pos) (tE G cl ini W (.prim .dnhas (.cons a (.cons b .nil)))) :=
  ⟨fun pins s σ H Q I q => (pe_cmp (pc_dnotin hu ha hb) hm).run pins s σ H Q I (rd_op2 ok_dnhas q)⟩
theorem st_dnhas (hu : X.A.units + 1 < cLine) (ha : PE X x (tP G cl ini W a)) (hb : PE X y (tP G cl ini W b)) (hm : behindInMarks .NotIn y = false) : PT X (.Compare x [.NotIn] [y] pos) (tT G cl ini W (.prim .dnhas (.cons a (.cons b .nil)))) :=
  ⟨fun pins s σ H Q I q => (pt_cmp (pc_dnotin hu ha hb) hm).run pins s σ H Q I (rd_op2 ok_dnhas (tB_of (says_prim (cmp_says rfl)) q))⟩
/-! ### slices -/
abbrev rSl2 (K : PySem.W.Frag) : V → Option Int → Option Int → Hp → VK → Prop := fun x lo hi H Q => rSlS x lo hi H Q ∨ rSlL K x lo hi H Q
theorem sl_2 (hK : X.K = G.K) : SlR X (rSl2 G.K) := hK ▸ SlR.or sl_str sl_list
theorem cutI (ns : List Int) (i j : Option Int) : cutV (ns.map V.int) i j = (cutD ns i j).map V.int := by
  unfold cutV cutD
  simp [List.map_take, List.map_drop]
theorem ints_is : ∀ ns : List Int, IsDs G F (ns.map V.int) (ns.map D.int)
  | [] => .nil
  | n :: ns => .cons (.int n) (ints_is ns)
theorem sl_ok {v o o' : _} {i j : Option Int} {Q : VK} (e : Ex F H) (h1 : Pk G F H v o) (q : prSl i j o = some o') (k : ∀ v F' H' B, Nx F H [] F' H' B → IsO G F' H' v o' B → B.Nodup → Q v H') : rSl2 G.K v i j H Q := by
  unfold prSl at q
  split at q
  · split at q
    case isFalse => cases q
    rename_i s hh
    cases q
    cases pk_str h1
    exact .inl ⟨_, rfl, sm_le hh, k_fr e k (.str _)⟩
  · cases q
    have h := pk_fr h1
    cases h with
    | scr h r =>
      refine .inr ⟨_, _, rfl, e.l h, fun p hp => ?_⟩
      rw [cutI]
      have z := ints_is (G := G) (F := F) (cutD ‹List Int› i j)
      rename_i ns _
      refine k_ml (ds := (cutD ns i j).map D.int) e (fun v F' H' B n io nd => k v F' H' B n (by rw [List.map_map] at io; exact io) nd) z hp
  · obtain ⟨xs, e1, rfl⟩ := Option.map_eq_some_iff.mp q
    obtain ⟨a, vs, rfl, ha, ra⟩ := pk_lst e h1 e1
    exact .inr ⟨_, _, rfl, .of ha, fun p hp => k_ml e k (ra.cut i j) hp⟩
theorem ok_slL : PrOk2 G (.slc true false) fun x y H Q => ∃ i, y = .int i ∧ rSl2 G.K x (some i) none H Q := by
  intro F H v1 v2 o1 o2 o Q e h1 h2 q k
  unfold pr at q
  split at q <;> try (first | (cases q; done) | contradiction)
  all_goals rename_i h3 h4
  all_goals first | (cases h3; done) | skip
  all_goals (cases h4; cases pk_int h2; exact ⟨_, rfl, sl_ok e h1 q k⟩)
end
end Ow
end OwT_
section OwU_
set_option Elab.async false
set_option linter.all false
set_option maxRecDepth 100000
set_option maxHeartbeats 2000000
/-! Slices, built-ins, attributes. -/
namespace Ow
open PySem PySem.Spec PyProof.Rows L2
variable [TQ]
section
variable {G : Gd} {cl : Cl} {ini : Nat → Option Nat} {W : WX} {X : Cx} {σ : L2.St} {F F1 F2 H H1 H2 : Hp} {A A1 A2 B : List Addr} {x y z : Expr} {a b c : E} {pos : Pos} {k : Nat}
theorem ok_slR : PrOk2 G (.slc false true) fun x y H Q => ∃ i, y = .int i ∧ rSl2 G.K x none (some i) H Q := by
  intro F H v1 v2 o1 o2 o Q e h1 h2 q k
  unfold pr at q
  split at q <;> try (first | (cases q; done) | contradiction)
  all_goals rename_i h3 h4
  all_goals first | (cases h3; done) | skip
  all_goals (cases h4; cases pk_int h2; exact ⟨_, rfl, sl_ok e h1 q k⟩)
theorem ok_sl0 : PrOk1 G (.slc false false) fun x H Q => rSl2 G.K x none none H Q := by
  intro F H v1 o1 o Q e h1 q k
  exact sl_ok e h1 q k
theorem se_slL {p2} (hK : X.K = G.K) (ha : PE X x (tP G cl ini W a)) (hb : PE X y (tP G cl ini W b)) : PE X (.Subscript x (.Slice (some y) none none p2) pos) (tE G cl ini W (.prim (.slc true false) (.cons a (.cons b .nil)))) :=
  ⟨fun pins s σ H Q I q => (pe_slice (sl_2 hK) ha (po_some hb) po_none).run pins s σ H Q I (rd_op2 ok_slL q)⟩
theorem se_slR {p2} (hK : X.K = G.K) (ha : PE X x (tP G cl ini W a)) (hb : PE X y (tP G cl ini W b)) : PE X (.Subscript x (.Slice none (some y) none p2) pos) (tE G cl ini W (.prim (.slc false true) (.cons a (.cons b .nil)))) :=
  ⟨fun pins s σ H Q I q => (pe_slice (sl_2 hK) ha po_none (po_some hb)).run pins s σ H Q I (rd_op2 ok_slR q)⟩
/-- three operands -/
def PrOk3 (G : Gd) (p : P) (r : V → V → V → Hp → VK → Prop) : Prop := ∀ F H v1 v2 v3 o1 o2 o3 o Q, Ex F H → Pk G F H v1 o1 → Pk G F H v2 o2 → Pk G F H v3 o3 → pr p [o1, o2, o3] = some o → (∀ v F' H' B, Nx F H [] F' H' B → IsO G F' H' v o B → B.Nodup → Q v H') → r v1 v2 v3 H Q
theorem ress3 {δ : Env} {p q r : PO} {os : List O} (h : ress δ [p, q, r] = some os) : ∃ o o' o'', os = [o, o', o''] ∧ res δ p = some o ∧ res δ q = some o' ∧ res δ r = some o'' := by
  unfold ress at h
  cases e : res δ p with
  | none => rw [e] at h; cases h
  | some o =>
    rw [e] at h
    cases e' : ress δ [q, r] with
    | none => rw [e'] at h; cases h
    | some os' =>
      rw [e'] at h
      obtain ⟨o', o'', rfl, e2, e3⟩ := ress2 e'
      exact ⟨o, o', o'', (Option.some.inj h).symm, rfl, e2, e3⟩
theorem rd_op3 {p : P} {a b c : E} {r : V → V → V → Hp → VK → Prop} (k : PrOk3 G p r) {σ : L2.St} {H : Hp} {Q : VK} (q : tE G cl ini W (.prim p (.cons a (.cons b (.cons c .nil)))) σ H Q) :
    tP G cl ini W a σ H fun x H1 => tP G cl ini W b σ H1 fun y H2 => tP G cl ini W c σ H2 fun z H3 => r x y z H3 Q := by
  obtain ⟨F, A, δ, st, o⟩ := q
  simp only [ev, evs] at o
  refine ⟨F, A, δ, st, (out_bnd (out_bnd o)).imp fun pa δ1 m v1 F1 H1 A1 B1 n1 e1 p1 nd1 => ?_⟩
  have m1 := (out_bnd (out_bnd m)).from n1.left
  refine ⟨F1, A1, δ1, ⟨st.b0.trans n1.ff, n1.fh, e1, nodup_app nd1⟩, m1.imp fun pb δ2 m2 v2 F2 H2 A2 B2 n2 e2 p2 nd2 => ?_⟩
  have n12 := n1.left.trans n2.left
  have m2' := (out_bnd (out_bnd m2)).from n12
  refine ⟨F2, A2, δ2, ⟨st.b0.trans n12.ff, n2.fh, e2, nodup_app nd2⟩, m2'.imp fun pc δ3 m3 v3 F3 H3 A3 B3 n3 e3 p3 nd3 => ?_⟩
  have m4 : Out G W σ F H A (bnd (resM [pa, pb, pc]) (fun os => lift (pr p os)) δ3) (fun o δ' => EndO G σ F H A o δ' Q) := m3
  obtain ⟨os, er, m5⟩ := out_res (out_bnd m4)
  obtain ⟨o1, o2, o3, rfl, r1, r2, r3⟩ := ress3 er
  obtain ⟨o', eo, m6⟩ := out_lift m5
  have p1' := p1.thru n2 (nodup_app_ne nd1)
  have d1 : ∀ a ∈ B1, a ∉ A2 := fun a q => by
    obtain ⟨f, ⟨u, h⟩, t⟩ := p1.own a q
    exact fun z => (n2.fr a u h f (nodup_app_ne nd1 a q) fun ps z => t ps (by rw [h, z])).2.2 (List.mem_append_left _ z)
  have p1'' := p1'.thru n3 d1
  have p2' := p2.thru n3 (nodup_app_ne nd2)
  exact k F3 H3 v1 v2 v3 o1 o2 o3 o' Q n3.fh (e3.res p1'' r1) (e3.res p2' r2) (e3.res p3 r3) eo (m6.op (n12.trans n3.left) e3 (nodup_app nd3))
theorem ok_slB : PrOk3 G (.slc true true) fun x y z H Q => ∃ i, y = .int i ∧ ∃ j, z = .int j ∧ rSl2 G.K x (some i) (some j) H Q := by
  intro F H v1 v2 v3 o1 o2 o3 o Q e h1 h2 h3 q k
  unfold pr at q
  split at q <;> try (first | (cases q; done) | contradiction)
  all_goals rename_i h4 h5
  all_goals first | (cases h4; done) | skip
  all_goals (cases h5; cases pk_int h2; cases pk_int h3; exact ⟨_, rfl, _, rfl, sl_ok e h1 q k⟩)
theorem rd_slB {σ : L2.St} {H : Hp} {Q : VK} {r : V → Option Int → Option Int → Hp → VK → Prop} (q : tP G cl ini W a σ H fun x H1 => tP G cl ini W b σ H1 fun y H2 => tP G cl ini W c σ H2 fun z H3 => ∃ i, y = .int i ∧ ∃ j, z = .int j ∧ r x (some i) (some j) H3 Q) :
    tP G cl ini W a σ H fun x H1 => tP G cl ini W b σ H1 fun y H2 => tP G cl ini W c σ H2 fun z H3 => ∃ i, y = .int i ∧ ∃ j, z = .int j ∧ r x (some i) (some j) H3 Q := q
theorem out_intO {o : O} {δ : Env} {K : Int → Env → Prop} {W : WX} (h : Out G W σ F H A (intO o δ) K) : ∃ i, frz o = .int i ∧ K i δ := by
  obtain ⟨i, e, k⟩ := out_lift h
  refine ⟨i, ?_, k⟩
  split at e
  · rename_i n q; cases e; exact q
  · cases e
theorem se_slB {p2} (hK : X.K = G.K) (ha : PE X x (tP G cl ini W a)) (hb : PE X y (tE G cl ini W b)) (hc : PE X z (tE G cl ini W c)) : PE X (.Subscript x (.Slice (some y) (some z) none p2) pos) (tE G cl ini W (.sl2 a b c)) := by
  refine ⟨fun pins s σ H Q I q => (pe_slice (sl_2 hK) ha (po_some hb) (po_some hc)).run pins s σ H Q I ?_⟩
  obtain ⟨F, A, δ, st, o⟩ := q
  simp only [ev] at o
  refine ⟨F, A, δ, st, (out_bnd o).imp fun p1 δ1 m v F1 H1 A1 B1 n1 e1 i1 nd1 => ?_⟩
  refine ⟨F1, A1, δ1, ⟨st.b0.trans n1.ff, n1.fh, e1, nodup_app nd1⟩, ((out_bnd m).from n1.left).imp fun o2 δ2 m2 v2 F2 H2 A2 B2 n2 e2 i2 nd2 => ?_⟩
  obtain ⟨F2', n2', e2', d2, z2⟩ := fz n2 e2 i2 nd2
  obtain ⟨i, ei, m2⟩ := out_intO (out_bnd m2)
  rw [ei] at d2
  cases d2
  have n12 := n1.left.trans n2'
  refine ⟨i, rfl, F2', A2, δ2, ⟨st.b0.trans n12.ff, n12.fh, e2', nodup_app nd2⟩, ((out_bnd m2).from n12).imp fun o3 δ3 m3 v3 F3 H3 A3 B3 n3 e3 i3 nd3 => ?_⟩
  obtain ⟨F3', n3', e3', d3, z3⟩ := fz n3 e3 i3 nd3
  obtain ⟨j, ej, m3⟩ := out_intO (out_bnd m3)
  rw [ej] at d3
  cases d3
  obtain ⟨os, er, m4⟩ := out_res (out_bnd m3)
  obtain ⟨o1, rfl, r1⟩ := ress1 er
  obtain ⟨o', eo, m5⟩ := out_lift m4
  have p1' := i1.thru (n2'.trans n3') (nodup_app_ne nd1)
  exact ⟨j, rfl, sl_ok n3'.fh (e3'.res p1' r1) eo (EndO.op m5 (n12.trans n3') e3' (nodup_app nd3))⟩
/-! ### built-in functions of one operand -/
variable {f : Str} {p : Pos} {id T : String} {r : List V → Hp → VK → Prop} {pp : P}
theorem se_b1 (hc : CallR X (.builtin id) r) (k : PrOk1 G pp fun x => r [x]) (hg : Gl X f) (hm : X.mg f = none) (hv : bootBuiltins f = some (.builtin id)) (ha : PE X x (tP G cl ini W a)) (hn : f ≠ "__name__" := by decide) (hdb : (f == ("__debug__" : Str)) = false := by decide)
    (h0 : starEach [x] X.env = (false, eval x X.env) :: starEach [] X.env := by rfl)
    (hpl : (backTo pos (starEach [] X.env)).any (·.1) = false := by rfl) :
    PE X (.Call (.Name f p) [x] [] pos) (tE G cl ini W (.prim pp (.cons a .nil))) :=
  ⟨fun pins s σ H Q I q => (pe_callB hc hg hm hv (pa_cons ha pa_nil h0) hn hdb h0 hpl).run pins s σ H Q I (rd_op1 k q)⟩
theorem se_t1 (hc : CallR X (.type T) r) (k : PrOk1 G pp fun x => r [x]) (hg : Gl X f) (hm : X.mg f = none) (hv : bootBuiltins f = some (.type T)) (ha : PE X x (tP G cl ini W a)) (hn : f ≠ "__name__" := by decide) (hdb : (f == ("__debug__" : Str)) = false := by decide)
    (h0 : starEach [x] X.env = (false, eval x X.env) :: starEach [] X.env := by rfl)
    (hpl : (backTo pos (starEach [] X.env)).any (·.1) = false := by rfl) :
    PE X (.Call (.Name f p) [x] [] pos) (tE G cl ini W (.prim pp (.cons a .nil))) :=
  ⟨fun pins s σ H Q I q => (pe_callTy hc hg hm hv (pa_cons ha pa_nil h0) hn hdb h0 hpl).run pins s σ H Q I (rd_op1 k q)⟩
/-! ### isinstance -/
def tyV (G : Gd) : Kd → Value
  | .non => .type "NoneType" | .bool => .type "bool" | .int => .type "int" | .str => .type "str" | .list => .type "list" | .tuple => .type "tuple" | .dict => .type "dict" | .cls c => .ref (G.ca c) | .fn => .type "function"
def clV (G : Gd) : Kd → V
  | .non => .ty "NoneType" | .bool => .ty "bool" | .int => .ty "int" | .str => .ty "str" | .list => .ty "list" | .tuple => .ty "tuple" | .dict => .ty "dict" | .cls c => .ref (G.ca c) | .fn => .ty "function"
theorem clV_is (k : Kd) : ClsV (clV G k) (tyV G k) := by cases k <;> first | exact .ty _ | exact .own _
/-- what the top's classes are, for isinstance -/
structure InsK (G : Gd) : Prop where
  cls : ∀ c, c < G.nc → Cls G.K (G.ca c) ∧ PySem.W.findIn G.K (.ref (G.ca c)) "__class__" = some (some (.builtin "object.__class__")) ∧ PySem.W.mroIn G.K (G.ca c) (.type "object") = some true
  gd : PySem.W.specialIn G.K (.builtin "object.__class__") "__get__" = some (some (.builtin "getset_descriptor.__get__"))
  tk : PySem.W.takesIn G.K (.builtin "object.__class__") = some true
theorem ty_is {v d} (K : InsK G) (h : IsD G H v d) (hf : kdOf d ≠ .fn) : TyX G.K H v (tyV G (kdOf d)) := by
  cases h with
  | non => exact .base .non
  | bl b => exact .base (.bl b)
  | int b => exact .base (.int b)
  | str b => exact .base (.str b)
  | lst h r => exact .base (.lst h)
  | tup h r => exact .base (.tup h)
  | scr h r => rcases h with (h | ⟨o, h⟩) | ⟨o, its, n, h, hc, _⟩
               · exact .base (.lst h)
               · exact .base (.frz h)
               · exact .kList h hc
  | dic h r => rcases h with h | ⟨o, h⟩
               · exact .base (.dK h)
               · exact .fDict h
  | dicT h r => exact .base (.dT h)
  | obj n h r => obtain ⟨c, f, m⟩ := K.cls _ n; exact .base (.ins h c f K.gd K.tk m)
  | lam h => exact absurd rfl hf
/-- the answers of isinstance on these classes -/
def KitOk (G : Gd) : Prop := ∀ j k b, isOfK j k = some b → (∀ c, j = .cls c → c < G.nc) → (∀ c, k = .cls c → c < G.nc) → PySem.W.kitOne G.K (tyV G j) (tyV G k) = some b
theorem isD_cls {v d c} (h : IsD G F v d) (e : kdOf d = .cls c) : c < G.nc := by
  cases h with
  | obj n h r => cases e; exact n
  | _ => cases e
theorem ok_isi {kd : Kd} (K : InsK G) (T : KitOk G) (hk : ∀ c, kd = .cls c → c < G.nc) : PrOk1 G (.isi kd) fun x H Q => rIsi G.K [x, clV G kd] H Q := by
  intro F H v1 o1 o Q e h1 q k
  obtain ⟨b, e1, rfl⟩ := Option.map_eq_some_iff.mp (show (isOfK (kdOf (frz o1)) kd).map (fun c => O.fr (.bl c)) = some o from q)
  have h := pk_read e h1
  have hf : kdOf (frz o1) ≠ .fn := fun z => by
    rw [z] at e1
    unfold isOfK at e1
    split at e1 <;> cases e1
  exact ⟨v1, clV G kd, _, _, b, rfl, clV_is kd, ty_is K h hf, T _ _ _ e1 (fun c z => isD_cls h z) hk, k_fr e k (.bl b)⟩
theorem call_isi2 (hK : X.K = G.K) : CallR X (.builtin "isinstance") (rIsi G.K) := hK ▸ call_isi
theorem se_isi {kd : Kd} (hK : X.K = G.K) (K : InsK G) (T : KitOk G) (hk : ∀ c, kd = .cls c → c < G.nc) (hg : Gl X "isinstance") (hm : X.mg "isinstance" = none) (ha : PE X x (tP G cl ini W a)) (hc : PE X y (tC (clV G kd)))
    (h1 : starEach [x, y] X.env = (false, eval x X.env) :: starEach [y] X.env := by rfl) (h0 : starEach [y] X.env = (false, eval y X.env) :: starEach [] X.env := by rfl)
    (hpl : (backTo pos (starEach [y] X.env)).any (·.1) = false := by rfl) :
    PE X (.Call (.Name "isinstance" p) [x, y] [] pos) (tE G cl ini W (.prim (.isi kd) (.cons a .nil))) :=
  ⟨fun pins s σ H Q I q => (pe_callB (call_isi2 hK) hg hm (by decide +kernel) (pa_cons ha (pa_cons hc pa_nil h0) h1) (by decide) (by decide) h1 hpl).run pins s σ H Q I (rd_op1 (ok_isi K T hk) q)⟩
/-! ### attributes -/
theorem lookF_is {B : List Addr} {f : Str} : ∀ {ws : List (Str × V)} {os : List O} {B j o}, IsOs G F H (ws.map (·.2)) os B → lookF (ws.map (·.1)) os f = some (j, o) → ∃ v, ws.lookup f = some v ∧ (ws.map (·.2))[j]? = some v ∧ os[j]? = some o
  | [], _, _, _, _, .nil, e => by cases e
  | q :: ws, _, _, j, o', .cons (o := o) h r, e => by
    have e : (if q.1 = f then some (0, o) else (lookF (ws.map (·.1)) _ f).map fun (j, o) => (j + 1, o)) = some (j, o') := e
    by_cases z : q.1 = f
    · rw [if_pos z] at e
      cases e
      exact ⟨q.2, by rw [List.lookup_cons, show (f == q.1) = true by simp [z]], by simp, by simp⟩
    · rw [if_neg z] at e
      obtain ⟨⟨j', o2⟩, e1, e2⟩ := Option.map_eq_some_iff.mp e
      cases e2
      obtain ⟨v, h1, h2, h3⟩ := lookF_is (B := B) r e1
      exact ⟨v, by rw [List.lookup_cons, show (f == q.1) = false by simpa using fun z' => z z'.symm]; exact h1, by simpa using h2, by simpa using h3⟩
theorem lookFd_is {f : Str} : ∀ {ws : List (Str × V)} {ds : List D} {d}, IsDs G F (ws.map (·.2)) ds → lookFd (ws.map (·.1)) ds f = some d → ∃ v, ws.lookup f = some v ∧ IsD G F v d
  | [], _, _, .nil, e => by cases e
  | q :: ws, _, _, .cons (d := d1) h r, e => by
    have e : (if q.1 = f then some d1 else lookFd (ws.map (·.1)) _ f) = some _ := e
    by_cases z : q.1 = f
    · rw [if_pos z] at e
      cases e
      exact ⟨q.2, by rw [List.lookup_cons, show (f == q.1) = true by simp [z]], h⟩
    · rw [if_neg z] at e
      obtain ⟨v, h1, h2⟩ := lookFd_is r e
      exact ⟨v, by rw [List.lookup_cons, show (f == q.1) = false by simpa using fun z' => z z'.symm]; exact h1, h2⟩
/-- one item apart -/
theorem IsOs.split {vs os A} (h : IsOs G F H vs os A) : ∀ {i : Nat} {o}, os[i]? = some o → ∃ v A1 A2 A3, vs[i]? = some v ∧ A = A1 ++ (A2 ++ A3) ∧ IsO G F H v o A2 ∧
    ∀ (F' H' : Hp) (v' : V) (o' : O) (B : List Addr), Ex F F' → (∀ a ∈ A1 ++ A3, H' a = H a ∧ F' a = none) → IsO G F' H' v' o' B → IsOs G F' H' (vs.set i v') (os.set i o') (A1 ++ (B ++ A3)) := by
  induction os generalizing vs A with
  | nil => intro i o e; simp at e
  | cons o1 os ih =>
    cases h with
    | @cons v o1 vs os A B h r =>
      intro i o' e
      cases i with
      | zero =>
        simp only [List.getElem?_cons_zero, Option.some.injEq] at e
        subst e
        refine ⟨v, [], A, B, by simp, by simp, h, fun F' H' s' o' C e k h' => ?_⟩
        simp only [List.set_cons_zero, List.nil_append]
        exact .cons h' (r.frame e fun a m => k a (by simpa using m))
      | succ i =>
        simp only [List.getElem?_cons_succ] at e
        obtain ⟨s1, A1, A2, A3, e1, e2, h2, k2⟩ := ih r e
        refine ⟨s1, A ++ A1, A2, A3, by simpa using e1, by rw [e2, List.append_assoc], h2, fun F' H' s' o' C ex k h' => ?_⟩
        simp only [List.set_cons_succ]
        rw [List.append_assoc]
        refine .cons (h.frame ex fun a m => k a (by simp [m])) (k2 F' H' s' o' C ex (fun a m => k a ?_) h')
        rcases List.mem_append.mp m with m | m <;> simp [m]
theorem attr_out {f : Str} {p : PO} {v : V} {δ : Env} {Q : VK} {B : List Addr} (hC : ∀ c, c < G.nc → Cls G.K (G.ca c) ∧ NoAttr G.K (G.ca c) f) (b0 : Ex G.F0 F) (st : Ex F H) (s : IsE G F1 H1 σ δ A1) (n : Nx F H A F1 H1 (A1 ++ B)) (nd : (A1 ++ B).Nodup) (h : IsP G σ F1 H1 v p B)
    (o : Out G W σ F H A (attrM p f δ) fun o δ' => EndO G σ F H A o δ' Q) : ∃ a C dx fs u, v = .ref a ∧ H1 a = some (.ins C dx fs) ∧ Cls G.K C ∧ NoAttr G.K C f ∧ fs.lookup f = some u ∧ Q u H1 := by
  have plain : ∀ {u d}, EndO G σ F H A (.fr d) δ Q → IsD G F1 u d → Q u H1 := fun {u d} k i => k u F1 H1 A1 [] (by rw [List.append_nil]; exact n.left) s (.fr i) (by rw [List.append_nil]; exact nodup_app nd)
  unfold attrM at o
  cases p with
  | vl o1 =>
    dsimp only at o
    have i0 : IsO G F1 H1 v o1 B := h
    clear h
    cases i0 with
    | fr h =>
      cases h with
      | obj hc h r =>
        dsimp only at o
        cases e : lookFd _ _ f with
        | none => rw [e] at o; exact o.elim
        | some d =>
          rw [e] at o
          obtain ⟨u, l, i⟩ := lookFd_is r e
          exact ⟨_, _, _, _, u, rfl, n.fh.at h, (hC _ hc).1, (hC _ hc).2, l, plain o i⟩
      | _ => exact o.elim
    | @ob a c dx ws os B' hc h0 h r =>
      dsimp only at o
      cases e : lookF (ws.map (·.1)) os f with
      | none => rw [e] at o; exact o.elim
      | some jo =>
        obtain ⟨j, o2⟩ := jo
        rw [e] at o
        obtain ⟨u, l, g, g2⟩ := lookF_is (B := []) r e
        refine ⟨a, _, dx, ws, u, rfl, h, (hC _ hc).1, (hC _ hc).2, l, ?_⟩
        have o : EndO G σ F H A (.fr (frz o2)) δ Q := o
        -- the whole temporary is frozen
        obtain ⟨F2, n2, s2, i2, z⟩ := fz n s (.ob hc h0 h r) nd
        rw [frz] at i2
        obtain ⟨v3, B1, B2, B3, q1, q2, q3, _⟩ := r.split g2
        rw [g] at q1
        cases q1
        have i3 : IsD G (ext F1 H1 (a :: B')) u (frz o2) := q3.read (ext_l fun b m => ((IsO.ob hc h0 h r).own b m).1) fun b m => ext_in (by rw [q2]; simp [m])
        have z2 : Nx F1 H1 (A1 ++ (a :: B')) (ext F1 H1 (a :: B')) H1 A1 := Nx.freeze n.fh (fun b m => ((IsO.ob hc h0 h r).own b m).1) (fun b m => (IsO.ob hc h0 h r).notbl b m) (fun b m => List.mem_append_left _ m) (fun b m => List.mem_append_right _ m)
        exact o u _ H1 A1 [] (by rw [List.append_nil]; exact n.trans z2) (s.frame z2.ff fun b m => ⟨rfl, by rw [ext_out fun q => nodup_app_ne nd b q m]; exact (s.own b m).1⟩) (.fr i3) (by rw [List.append_nil]; exact nodup_app nd)
    | _ => exact o.elim
  | sl i =>
    obtain ⟨hv, rfl⟩ := h
    rw [List.append_nil] at n nd
    dsimp only at o
    cases e : δ[i]? with
    | none => rw [e] at o; exact o.elim
    | some o1 =>
      rw [e] at o
      obtain ⟨s', B1, B2, B3, q1, q2, q3, back⟩ := s.split e
      rw [hv] at q1
      cases q1
      cases q3 with
      | dead => exact o.elim
      | val q3 =>
        cases q3 with
        | fr h =>
          cases h with
          | obj hc h r =>
            dsimp only at o
            cases e2 : lookFd _ _ f with
            | none => rw [e2] at o; exact o.elim
            | some d =>
              rw [e2] at o
              obtain ⟨u, l, i⟩ := lookFd_is r e2
              exact ⟨_, _, _, _, u, rfl, n.fh.at h, (hC _ hc).1, (hC _ hc).2, l, (show EndO G σ F H A (.fr d) δ Q from o) u F1 H1 A1 [] (by rw [List.append_nil]; exact n) s (.fr i) (by rw [List.append_nil]; exact nd)⟩
          | _ => exact o.elim
        | @ob a c dx ws os B' hc h0 h r =>
          dsimp only at o
          cases e2 : lookF (ws.map (·.1)) os f with
          | none => rw [e2] at o; exact o.elim
          | some jo =>
            obtain ⟨j, o2⟩ := jo
            rw [e2] at o
            obtain ⟨u, l, g, g2⟩ := lookF_is (B := []) r e2
            refine ⟨a, _, dx, ws, u, rfl, h, (hC _ hc).1, (hC _ hc).2, l, ?_⟩
            obtain ⟨v3, C1, C2, C3, w1, w2, w3, back2⟩ := r.split g2
            rw [g] at w1
            cases w1
            have fzn : Out G W σ F H A (some (.ok (.fr (frz o2)) (δ.set i (.ob c (ws.map (·.1)) (os.set j (.fr (frz o2))))))) (fun o δ' => EndO G σ F H A o δ' Q) → Q u H1 := fun k => by
              have hB : ∀ b ∈ C2, F1 b = none := fun b m => (w3.own b m).1
              have e1 := ext_l (F := F1) (H := H1) hB
              have i3 := w3.read e1 fun b m => ext_in m
              have ndA := nd
              rw [q2, w2] at ndA
              have p1 := List.nodup_append.mp ndA
              have p2 := List.nodup_append.mp p1.2.1
              have p3 := List.nodup_cons.mp p2.1
              have p4 := List.nodup_append.mp p3.2
              have p5 := List.nodup_append.mp p4.2.1
              have dj : ∀ b ∈ C2, b ∉ B1 ∧ b ∉ B3 ∧ b ∉ C1 ∧ b ∉ C3 ∧ b ≠ a := fun b m =>
                ⟨fun z => p1.2.2 b z b (by simp [m]) rfl, fun z => p2.2.2 b (by simp [m]) b z rfl, fun z => p4.2.2 b z b (by simp [m]) rfl, fun z => p5.2.2 b m b z rfl, fun z => p3.1 (by rw [← z]; simp [m])⟩
              have keep : ∀ b, b ∉ C2 → F1 b = none → ext F1 H1 C2 b = none := fun b m h => by rw [ext_out m]; exact h
              have own1 : ∀ b ∈ A1, F1 b = none := fun b m => (s.own b m).1
              have hset : (ws.map (·.2)).set j u = ws.map (·.2) := by
                rw [← (List.getElem?_eq_some_iff.mp g).2]
                exact List.set_getElem_self ..
              have r2 := back2 (ext F1 H1 C2) H1 u (.fr (frz o2)) [] e1 (fun b m => ⟨rfl, keep b (fun z => by
                rcases List.mem_append.mp m with m | m
                · exact (dj b z).2.2.1 m
                · exact (dj b z).2.2.2.1 m) (own1 b (by rw [q2, w2]; rcases List.mem_append.mp m with m | m <;> simp [m]))⟩) (.fr i3)
              rw [hset] at r2
              have ob2 : IsO G (ext F1 H1 C2) H1 (.ref a) (.ob c (ws.map (·.1)) (os.set j (.fr (frz o2)))) (a :: (C1 ++ ([] ++ C3))) := .ob hc (keep a (fun z => (dj a z).2.2.2.2 rfl) h0) h r2
              have env := back (ext F1 H1 C2) H1 (some (.ref a)) _ _ e1 (fun b m => ⟨rfl, keep b (fun z => by
                rcases List.mem_append.mp m with m | m
                · exact (dj b z).1 m
                · exact (dj b z).2.1 m) (own1 b (by rw [q2]; rcases List.mem_append.mp m with m | m <;> simp [m]))⟩) (.val ob2)
              have es : σ.set i (some (.ref a)) = σ := by
                rw [← (List.getElem?_eq_some_iff.mp hv).2]
                exact List.set_getElem_self ..
              rw [es] at env
              refine k u _ H1 _ [] ?_ env (.fr i3) ?_
              · rw [List.append_nil]
                refine n.trans (Nx.freeze n.fh hB w3.notbl (fun b m => ?_) (fun b m => by rw [q2, w2]; simp [m]))
                rw [q2, w2]
                simp only [List.mem_append, List.mem_cons, List.nil_append] at m ⊢
                rcases m with m | ((m | m | m) | m) <;> simp [m]
              · rw [List.append_nil]
                exact List.Nodup.sublist (.append (.refl _) (.append (.cons₂ a (.append (.refl _) (.append (List.nil_sublist _) (.refl _)))) (.refl _))) ndA
            cases o2 with
            | fr d =>
              cases w3 with
              | fr w3 => exact (show EndO G σ F H A (.fr d) δ Q from o) u F1 H1 A1 [] (by rw [List.append_nil]; exact n) s (.fr w3) (by rw [List.append_nil]; exact nd)
            | dead => cases w3
            | ml _ => exact fzn o
            | md _ _ => exact fzn o
            | mdT _ _ => exact fzn o
            | ob _ _ _ => exact fzn o
            | tp _ => exact fzn o
        | _ => exact o.elim
theorem se_attr {f : Str} (hK : X.K = G.K) (hC : ∀ c, c < G.nc → Cls G.K (G.ca c) ∧ NoAttr G.K (G.ca c) f) (ha : PE X x (tP G cl ini W a)) (hb : attributeBase x f X.env (eval x X.env) = eval x X.env := by rfl) :
    PE X (.Attribute x f pos) (tE G cl ini W (.attr a f)) := by
  refine ⟨fun pins s σ H Q I q => (pe_fld ha hb).run pins s σ H Q I ?_⟩
  obtain ⟨F, A, δ, st, o⟩ := q
  simp only [ev] at o
  refine ⟨F, A, δ, st, (out_bnd o).imp fun p1 δ1 m v F1 H1 A1 B1 n1 e1 i1 nd1 => ?_⟩
  rw [hK]
  exact attr_out hC st.b0 st.ex e1 n1 nd1 i1 m
end
end Ow
end OwU_
section OwV_
set_option Elab.async false
set_option linter.all false
set_option maxRecDepth 100000
set_option maxHeartbeats 2000000
/-! Calls: operands are lent, and come back. -/
namespace Ow
open PySem PySem.Spec PyProof.Rows L2
variable [TQ]
section
variable {G : Gd} {cl : Cl} {ini : Nat → Option Nat} {E : XK} {X : Cx} {σ : L2.St} {F F1 F2 H H1 H2 : Hp} {A A1 A2 B : List Addr} {x y z : Expr} {a b c : Ow.E} {pos : Pos} {k : Nat}
theorem giveBack_set {i : Nat} {o : O} : ∀ {ps : List PO} {os : List O} {δ : Env}, i ∉ lent ps → giveBack ps os (δ.set i o) = (giveBack ps os δ).set i o
  | [], _, _, _ => by unfold giveBack; rfl
  | .sl j :: ps, [], _, _ => by unfold giveBack; rfl
  | .vl _ :: ps, [], _, _ => by unfold giveBack; rfl
  | .sl j :: ps, o1 :: os, δ, h => by
    unfold lent at h
    rw [List.mem_cons, not_or] at h
    show giveBack ps os ((δ.set i o).set j o1) = (giveBack ps os (δ.set j o1)).set i o
    rw [List.set_comm _ _ h.1, giveBack_set h.2]
  | .vl _ :: ps, o1 :: os, δ, h => by
    show giveBack ps os (δ.set i o) = (giveBack ps os δ).set i o
    exact giveBack_set h
theorem ress_set {i : Nat} {o : O} : ∀ {ps : List PO} {δ : Env}, i ∉ lent ps → ress (δ.set i o) ps = ress δ ps
  | [], _, _ => by unfold ress; rfl
  | .sl j :: ps, δ, h => by
    unfold lent at h
    rw [List.mem_cons, not_or] at h
    unfold ress
    rw [ress_set h.2]
    have e : res (δ.set i o) (.sl j) = res δ (.sl j) := by
      dsimp only [res]
      rw [List.getElem?_set_ne h.1]
    rw [e]
  | .vl _ :: ps, δ, h => by
    unfold ress
    rw [ress_set (show i ∉ lent ps from h)]
    rfl
/-- what is lent: the operands with what is theirs, the rest of the frame, and how both come together again -/
theorem lend : ∀ {ps : List PO} {vs : List V} {os : List O} {δ : Env} {A B : List Addr}, IsE G F H σ δ A → IsPs G σ F H vs ps B → (A ++ B).Nodup → ress δ ps = some os → (lent ps).Nodup →
    ∃ C R, IsOs G F H vs os C ∧ (C ++ R).Nodup ∧ (∀ a, a ∈ C ∨ a ∈ R ↔ a ∈ A ∨ a ∈ B) ∧
      ∀ F' H' os' C', Ex F F' → (∀ a ∈ R, H' a = H a ∧ F' a = none) → IsOs G F' H' vs os' C' → (C' ++ R).Nodup → ∃ A', IsE G F' H' σ (giveBack ps os' δ) A' ∧ A'.Nodup ∧ (∀ a ∈ A', a ∈ C' ∨ a ∈ R)
  | [], _, os, δ, A, B, s, hp, nd, e, _ => by
    cases hp
    cases e
    refine ⟨[], A, .nil, by simpa using nd, fun a => by simp, fun F' H' os' C' ex k h nd' => ⟨A, ?_, ?_, fun a m => .inr m⟩⟩
    · cases h
      exact s.frame ex k
    · exact (List.nodup_append.mp nd').2.1
  | .vl o1 :: ps, _, os, δ, A, _, s, hp, nd, e, nl => by
    cases hp with | @cons v _ vs _ B1 B2 h r =>
    have e : (ress δ ps).map (o1 :: ·) = some os := e
    obtain ⟨os2, e2, rfl⟩ := Option.map_eq_some_iff.mp e
    have nd2 : (A ++ B2).Nodup := List.Nodup.sublist (.append (.refl _) (List.sublist_append_right _ _)) nd
    obtain ⟨C, R, h1, h2, h3, h4⟩ := lend s r nd2 e2 nl
    have dj : ∀ a ∈ B1, a ∉ C ∧ a ∉ R := fun a m => by
      have z : a ∉ A ∧ a ∉ B2 := by
        have q := List.nodup_append.mp nd
        exact ⟨fun z => q.2.2 a z a (by simp [m]) rfl, fun z => (List.nodup_append.mp q.2.1).2.2 a m a z rfl⟩
      refine ⟨fun q => ?_, fun q => ?_⟩
      · rcases (h3 a).mp (.inl q) with w | w
        · exact z.1 w
        · exact z.2 w
      · rcases (h3 a).mp (.inr q) with w | w
        · exact z.1 w
        · exact z.2 w
    have ndB1 : B1.Nodup := (List.nodup_append.mp (List.nodup_append.mp nd).2.1).1
    refine ⟨B1 ++ C, R, .cons h h1, ?_, fun a => ?_, fun F' H' os' C' ex k h' nd' => ?_⟩
    · rw [List.append_assoc]
      exact List.nodup_append.mpr ⟨ndB1, h2, fun a m b m' q => by
        subst q
        rcases List.mem_append.mp m' with w | w
        · exact (dj a m).1 w
        · exact (dj a m).2 w⟩
    · have := h3 a
      simp only [List.mem_append]
      constructor
      · rintro ((m | m) | m)
        · exact .inr (.inl m)
        · rcases this.mp (.inl m) with w | w <;> simp [w]
        · rcases this.mp (.inr m) with w | w <;> simp [w]
      · rintro (m | m | m)
        · rcases this.mpr (.inl m) with w | w <;> simp [w]
        · simp [m]
        · rcases this.mpr (.inr m) with w | w <;> simp [w]
    · cases h' with
      | @cons _ o' _ os'' D1 D2 g1 g2 =>
        obtain ⟨A', q1, q2, q3⟩ := h4 F' H' os'' D2 ex k g2 (List.Nodup.sublist (.append (List.sublist_append_right _ _) (.refl _)) nd')
        exact ⟨A', q1, q2, fun a m => (q3 a m).imp (fun w => List.mem_append_right _ w) id⟩
  | .sl i :: ps, _, os, δ, A, _, s, hp, nd, e, nl => by
    cases hp with | @cons v _ vs _ B1 B2 h r =>
    obtain ⟨hv, rfl⟩ := h
    rw [List.nil_append] at nd
    unfold lent at nl
    obtain ⟨ni, nl⟩ := List.nodup_cons.mp nl
    unfold ress at e
    obtain ⟨o1, e1, e⟩ := Option.bind_eq_some_iff.mp e
    obtain ⟨os2, e2, rfl⟩ := Option.map_eq_some_iff.mp e
    unfold res at e1
    dsimp only at e1
    cases ed : δ[i]? with
    | none => rw [ed] at e1; cases e1
    | some o2 =>
      rw [ed] at e1
      obtain ⟨s', A1, A2, A3, w1, w2, w3, back⟩ := s.split ed
      rw [hv] at w1
      cases w1
      cases w3 with
      | dead => cases e1
      | val w3 =>
        have eo : o2 = o1 := by cases o2 <;> first | exact Option.some.inj e1 | cases e1
        subst eo
        have w4 := back F H (some v) .dead [] (.refl _) (fun a m => ⟨rfl, (s.own a (by rw [w2]; rcases List.mem_append.mp m with m | m <;> simp [m])).1⟩) .dead
        have es : σ.set i (some v) = σ := by
          rw [← (List.getElem?_eq_some_iff.mp hv).2]
          exact List.set_getElem_self ..
        rw [es] at w4
        subst w2
        have nd2 : ((A1 ++ ([] ++ A3)) ++ B2).Nodup := List.Nodup.sublist (.append (.append (.refl _) (.append (List.nil_sublist _) (.refl _))) (.refl _)) nd
        obtain ⟨C, R, h1, h2, h3, h4⟩ := lend w4 r nd2 (by rw [ress_set ni]; exact e2) nl
        have dj : ∀ a ∈ A2, a ∉ C ∧ a ∉ R := fun a m => by
          have q := List.nodup_append.mp nd
          have q1 := List.nodup_append.mp q.1
          have q2 := List.nodup_append.mp q1.2.1
          have z : ¬ (a ∈ A1 ++ ([] ++ A3) ∨ a ∈ B2) := by
            rintro (w | w)
            · rcases List.mem_append.mp w with w | w
              · exact q1.2.2 a w a (by simp [m]) rfl
              · exact q2.2.2 a m a (by simpa using w) rfl
            · exact q.2.2 a (by simp [m]) a w rfl
          exact ⟨fun w => z ((h3 a).mp (.inl w)), fun w => z ((h3 a).mp (.inr w))⟩
        have ndA2 : A2.Nodup := (List.nodup_append.mp (List.nodup_append.mp (List.nodup_append.mp nd).1).2.1).1
        refine ⟨A2 ++ C, R, .cons w3 h1, ?_, fun a => ?_, fun F' H' os' C' ex k h' nd' => ?_⟩
        · rw [List.append_assoc]
          exact List.nodup_append.mpr ⟨ndA2, h2, fun a m b m' q => by
            subst q
            rcases List.mem_append.mp m' with w | w
            · exact (dj a m).1 w
            · exact (dj a m).2 w⟩
        · have := h3 a
          simp only [List.mem_append, List.nil_append] at this ⊢
          constructor
          · rintro ((m | m) | m)
            · simp [m]
            · rcases this.mp (.inl m) with (w | w) | w <;> simp [w]
            · rcases this.mp (.inr m) with (w | w) | w <;> simp [w]
          · rintro ((m | m | m) | m)
            · rcases this.mpr (.inl (.inl m)) with w | w <;> simp [w]
            · simp [m]
            · rcases this.mpr (.inl (.inr m)) with w | w <;> simp [w]
            · rcases this.mpr (.inr m) with w | w <;> simp [w]
        · cases h' with
          | @cons _ o' _ os'' D1 D2 g1 g2 =>
            obtain ⟨A', q1, q2, q3⟩ := h4 F' H' os'' D2 ex k g2 (List.Nodup.sublist (.append (List.sublist_append_right _ _) (.refl _)) nd')
            rw [giveBack_set ni] at q1
            have hi : i < (giveBack ps os'' δ).length := by
              have z := q1.len
              rw [List.length_set] at z
              rw [← z]
              exact (List.getElem?_eq_some_iff.mp hv).1
            obtain ⟨s'', E1, E2, E3, u1, u2, u3, back2⟩ := q1.split (i := i) (o := .dead) (List.getElem?_set_self hi)
            cases u3 with
            | val u3 => cases u3
            | dead =>
              have u4 := back2 F' H' (some v) o' D1 (.refl _) (fun a m => ⟨rfl, (q1.own a (by rw [u2]; simpa using m)).1⟩) (.val g1)
              rw [es, List.set_set] at u4
              have e3 : giveBack (.sl i :: ps) (o' :: os'') δ = (giveBack ps os'' δ).set i o' := giveBack_set ni
              rw [e3]
              refine ⟨_, u4, ?_, fun a m => ?_⟩
              · subst u2
                have dD : ∀ a ∈ D1, a ∉ E1 ++ ([] ++ E3) := fun a m z => by
                  have q := List.nodup_append.mp nd'
                  rcases q3 a z with w | w
                  · exact (List.nodup_append.mp q.1).2.2 a m a w rfl
                  · exact q.2.2 a (by simp [m]) a w rfl
                have ndD : D1.Nodup := (List.nodup_append.mp (List.nodup_append.mp nd').1).1
                have q := List.nodup_append.mp q2
                rw [List.nil_append] at q
                refine List.nodup_append.mpr ⟨q.1, List.nodup_append.mpr ⟨ndD, q.2.1, fun a m b m' z => dD a m (by rw [z]; simp [m'])⟩, fun a m b m' z => ?_⟩
                rcases List.mem_append.mp m' with w | w
                · exact dD b w (by rw [← z]; simp [m])
                · exact q.2.2 a m b w z
              · subst u2
                rcases List.mem_append.mp m with w | w
                · exact (q3 a (by simp [w])).imp (fun w => List.mem_append_right _ w) id
                · rcases List.mem_append.mp w with w | w
                  · exact .inl (List.mem_append_left _ w)
                  · exact (q3 a (by simp [w])).imp (fun w => List.mem_append_right _ w) id
/-- what a def promises: what cl says of it -/
def spF (G : Gd) (cl : Cl) (f : Nat) : Sp := fun vs H Q E => ∃ F A os, Ex G.F0 F ∧ Ex F H ∧ IsOs G F H vs os A ∧ A.Nodup ∧ match cl f os with
  | none => False
  | some (.ex x) => ∀ cls d F' H', Nx F H A F' H' [] → IsX G F' H' cls d x → E cls d H'
  | some (.ok o os') => ∀ v F' H' A' B, Nx F H A F' H' (A' ++ B) → IsOs G F' H' vs os' A' → IsO G F' H' v o B → (A' ++ B).Nodup → Q v H'
abbrev WE (E : XK) : WX := fun c d _ H => E c d H
theorem nx_wide {C R : List Addr} {F' H' : Hp} {D : List Addr} (n : Nx F H C F' H' D) (hC : ∀ a ∈ C, a ∈ A) (hR : ∀ a ∈ R, a ∈ A) : Nx F H A F' H' (D ++ R) :=
  ⟨n.ff, n.fh, fun a o h f m t => by
    obtain ⟨h1, f1, m1⟩ := n.fr a o h f (fun z => m (hC a z)) t
    exact ⟨h1, f1, by rw [List.mem_append, not_or]; exact ⟨m1, fun z => m (hR a z)⟩⟩⟩
/-- operands are handed to a def, and what it hands back comes -/
theorem rd_call {W : WX} {f : Nat} {ps : List PO} {δ : Env} {vs : List V} {Q : VK} {os : List O} (b0 : Ex G.F0 F) (st : Ex F H) (n : Nx F H A F1 H1 (A1 ++ B)) (s : IsE G F1 H1 σ δ A1) (ip : IsPs G σ F1 H1 vs ps B) (nd : (A1 ++ B).Nodup)
    (er : ress δ ps = some os) (nl : (lent ps).Nodup) (hd : Out G W σ F H A (match cl f os with | none => none | some (.ex x) => some (.ex x) | some (.ok o os') => some (.ok o (giveBack ps os' δ))) fun o δ' => EndO G σ F H A o δ' Q) :
    spF G cl f vs H1 Q (fun c d H => W c d σ H) := by
  obtain ⟨C, R, h1, h2, h3, h4⟩ := lend s ip nd er nl
  refine ⟨F1, C, os, b0.trans n.ff, n.fh, h1, (List.nodup_append.mp h2).1, ?_⟩
  cases e : cl f os with
  | none => rw [e] at hd; exact hd
  | some r =>
    rw [e] at hd
    have hC : ∀ a ∈ C, a ∈ A1 ++ B := fun a m => by
      rcases (h3 a).mp (.inl m) with w | w <;> simp [w]
    have hR : ∀ a ∈ R, a ∈ A1 ++ B := fun a m => by
      rcases (h3 a).mp (.inr m) with w | w <;> simp [w]
    cases r with
    | ex x =>
      intro cls d F' H' n' i
      exact (show EndX G W σ F H A x from hd) cls d F' H' (n.trans (n'.wide hC)) i
    | ok o os' =>
      intro v F' H' A' B' n' h5 h6 nd'
      have hown : ∀ a ∈ R, F1 a = none ∧ (∃ u, H1 a = some u) ∧ ∀ ps, H1 a ≠ some (spc ps) := fun a m => by
        rcases (h3 a).mp (.inr m) with w | w
        · exact ⟨(s.own a w).1, (s.own a w).2, s.notbl a w⟩
        · have q : ∀ {vs ps B}, IsPs G σ F1 H1 vs ps B → ∀ a ∈ B, F1 a = none ∧ (∃ u, H1 a = some u) ∧ ∀ ps, H1 a ≠ some (spc ps) := by
            intro vs ps B i
            induction i with
            | nil => exact fun _ m => nomatch m
            | cons h _ ih => exact fun a m => (List.mem_append.mp m).elim (fun m => h.own a m) (fun m => ih a m)
          exact q ip a w
      have nin : ∀ a ∈ R, a ∉ C := fun a m z => (List.nodup_append.mp h2).2.2 a z a m rfl
      have kR : ∀ a ∈ R, H' a = H1 a ∧ F' a = none ∧ a ∉ A' ++ B' := fun a m => by
        obtain ⟨f1, ⟨u, hu⟩, t⟩ := hown a m
        obtain ⟨w1, w2, w3⟩ := n'.fr a u hu f1 (nin a m) fun ps z => t ps (by rw [hu, z])
        exact ⟨w1.trans hu.symm, w2, w3⟩
      have ndR : R.Nodup := (List.nodup_append.mp h2).2.1
      have ndd := List.nodup_append.mp nd'
      obtain ⟨A2, q1, q2, q3⟩ := h4 F' H' os' A' n'.ff (fun a m => ⟨(kR a m).1, (kR a m).2.1⟩) h5 (List.nodup_append.mpr ⟨ndd.1, ndR, fun a m b m' z => (kR b m').2.2 (by rw [← z]; simp [m])⟩)
      refine (show EndO G σ F H A o (giveBack ps os' δ) Q from hd) v F' H' A2 B' ?_ q1 h6 ?_
      · refine (n.trans (nx_wide n' hC hR)).sub fun a m => ?_
        rcases List.mem_append.mp m with m | m
        · rcases q3 a m with w | w <;> simp [w]
        · simp [m]
      · refine List.nodup_append.mpr ⟨q2, ndd.2.1, fun a m b m' z => ?_⟩
        subst z
        rcases q3 a m with w | w
        · exact ndd.2.2 a w a m' rfl
        · exact (kR a w).2.2 (by simp [m'])
variable {xs : List Expr} {es : Es} {f : Nat} {fn : Str} {fa : Addr} {fd : FuncData} {pn : List Str} {p : Pos}
theorem out_call {ps : List PO} {δ : Env} {K : O → Env → Prop} {W : WX} (h : Out G W σ F H A (callM cl f ps δ) K) : ∃ os, ress δ ps = some os ∧ (lent ps).Nodup ∧ Out G W σ F H A (match cl f os with | none => none | some (.ex x) => some (.ex x) | some (.ok o os') => some (.ok o (giveBack ps os' δ))) K := by
  unfold callM at h
  cases e : ress δ ps with
  | none => rw [e] at h; exact h.elim
  | some os =>
    rw [e] at h
    dsimp only at h
    split at h
    · rename_i nl
      exact ⟨os, rfl, nl, h⟩
    · exact h.elim
/-- a def's call -/
theorem se_call (Fn : FnOk X.prog X.w X.K X.mg X.base (L2.CX X.prog X.w) k fa fd pn (spF G cl f)) (hr : Room k X.A) (hx : Passes (L2.CX X.prog X.w) X E) (hg : Gl X fn) (hm : X.mg fn = some (.ref fa)) (hk : PySem.W.keepIn X.K (.ref fa) = true) (hb : Binds X.K fd pn [])
    (ha : PA X (x :: xs) (tPs G cl ini (WE E) es)) (hdb : (fn == ("__debug__" : Str)) = false := by decide) (he : starEach (x :: xs) X.env = (false, eval x X.env) :: starEach xs X.env := by rfl) (hpl : (backTo pos (starEach xs X.env)).any (·.1) = false := by rfl) :
    PE X (.Call (.Name fn p) (x :: xs) [] pos) (tE G cl ini (WE E) (.call f es)) := by
  refine ⟨fun pins s σ H Q I q => (pe_call (E := E) Fn hr hg hm hk hb .nil hx ha hdb he hpl).run pins s σ H Q I ?_⟩
  obtain ⟨F, A, δ, st, o⟩ := q
  simp only [ev] at o
  refine ⟨F, A, δ, st, (out_bnd o).imp fun ps δ1 m vs F1 H1 A1 B1 n1 e1 i1 nd1 => ?_⟩
  obtain ⟨os, er, nl, m⟩ := out_call m
  rw [List.append_nil]
  exact rd_call st.b0 st.ex n1 e1 i1 nd1 er nl m
theorem se_call0 (Fn : FnOk X.prog X.w X.K X.mg X.base (L2.CX X.prog X.w) k fa fd pn (spF G cl f)) (hr : Room k X.A) (hx : Passes (L2.CX X.prog X.w) X E) (hg : Gl X fn) (hm : X.mg fn = some (.ref fa)) (hk : PySem.W.keepIn X.K (.ref fa) = true) (hb : Binds X.K fd pn [])
    (hdb : (fn == ("__debug__" : Str)) = false := by decide) :
    PE X (.Call (.Name fn p) [] [] pos) (tE G cl ini (WE E) (.call f .nil)) := by
  refine ⟨fun pins s σ H Q I q => (pe_call0 (E := E) Fn hr hg hm hk hb .nil hx hdb).run pins s σ H Q I ?_⟩
  obtain ⟨F, A, δ, st, o⟩ := q
  have o : Out G (WE E) σ F H A (callM cl f [] δ) fun o δ' => EndO G σ F H A o δ' Q := o
  obtain ⟨os, er, nl, m⟩ := out_call o
  exact rd_call (B := []) st.b0 st.ex (by rw [List.append_nil]; exact .refl st.ex) st.env .nil (by rw [List.append_nil]; exact st.nd) er nl m
/-- a method of one's own -/
theorem isIns_of {c : Nat} {m : Str} {v o} (e : Ex F H) (h : Pk G F H v o) (q : isIns c m o = true) : ∃ a dx fs, v = .ref a ∧ H a = some (.ins (G.ca c) dx fs) ∧ fs.lookup m = none ∧ c < G.nc := by
  have nl : ∀ {ws : List (Str × V)}, (ws.map (·.1)).contains m = false → ws.lookup m = none := by
    intro ws
    induction ws with
    | nil => intro _; rfl
    | cons p ws ih =>
      intro z
      rw [List.map_cons, List.contains_cons, Bool.or_eq_false_iff] at z
      rw [List.lookup_cons, z.1]
      exact ih z.2
  obtain ⟨B, h⟩ := h
  unfold isIns at q
  split at q
  · rw [Bool.and_eq_true, decide_eq_true_eq, Bool.not_eq_true'] at q
    obtain ⟨rfl, q⟩ := q
    cases h with
    | fr h => cases h with | obj n h r => exact ⟨_, _, _, rfl, e.at h, nl q, n⟩
  · rw [Bool.and_eq_true, decide_eq_true_eq, Bool.not_eq_true'] at q
    obtain ⟨rfl, q⟩ := q
    cases h with
    | ob n f h r => exact ⟨_, _, _, rfl, h, nl q, n⟩
  · cases q
theorem se_meth {c : Nat} {m : Str} {apos : Pos} {o1 : Expr} (hc : Cls X.K (G.ca c)) (hm : Meth X.K (G.ca c) m fa) (Fn : FnOk X.prog X.w X.K X.mg X.base (L2.CX X.prog X.w) k fa fd pn (spF G cl f)) (hr : Room k X.A) (hx : Passes (L2.CX X.prog X.w) X E) (hb : Binds X.K fd pn [])
    (ho : PE X o1 (tP G cl ini (WE E) a)) (ha : PA X (x :: xs) (tPs G cl ini (WE E) es))
    (hst : starEach (x :: xs) X.env = (false, eval x X.env) :: starEach xs X.env := by rfl) (hpl : (backTo pos (starEach xs X.env)).any (·.1) = false := by rfl)
    {pl : Sem Bool} (ht : eval (.Call (.Attribute o1 m apos) (x :: xs) [] pos) X.env = (do
      let ov ← eval o1 X.env
      standAt apos.atName
      let (f, first) ← holding [ov] (getMethod ov m pl)
      callWith pos f first (backTo pos (starEach (x :: xs) X.env)) (backToKw pos (keywordEach [] X.env))) := by rfl) :
    PE X (.Call (.Attribute o1 m apos) (x :: xs) [] pos) (tE G cl ini (WE E) (.meth c m f a es)) := by
  refine ⟨fun pins s σ H Q I q => (pe_meth (E := E) ho hc hm Fn hr hb .nil hx ha hst hpl ht).run pins s σ H Q I ?_⟩
  obtain ⟨F, A, δ, st, o⟩ := q
  simp only [ev] at o
  refine ⟨F, A, δ, st, (out_bnd o).imp fun p1 δ1 m1 v F1 H1 A1 B1 n1 e1 i1 nd1 => ?_⟩
  have m2 := out_bnd m1
  unfold chkM at m2
  cases er1 : res δ1 p1 with
  | none => rw [er1] at m2; exact m2.elim
  | some o2 =>
    rw [er1] at m2
    dsimp only at m2
    split at m2
    case isFalse => exact m2.elim
    rename_i hi
    obtain ⟨aa, dx, fs, rfl, g1, g2, g3⟩ := isIns_of n1.fh (e1.res i1 er1) hi
    refine ⟨aa, dx, fs, rfl, g1, g2, F1, A1, δ1, ⟨st.b0.trans n1.ff, n1.fh, e1, nodup_app nd1⟩, ((out_bnd (show Out G (WE E) σ F H A (bnd (evs cl ini es) (fun ps => callM cl f (p1 :: ps)) δ1) _ from m2)).from n1.left).imp fun ps δ2 m3 vs F2 H2 A2 B2 n2 e2 i2 nd2 => ?_⟩
    obtain ⟨os, er, nl, m4⟩ := out_call m3
    rw [List.append_nil]
    have i1' := i1.thru n2 (nodup_app_ne nd1)
    have dj : ∀ a ∈ B1, a ∉ A2 ++ B2 := fun a q => by
      obtain ⟨f, ⟨u, h⟩, t⟩ := i1.own a q
      exact (n2.fr a u h f (nodup_app_ne nd1 a q) fun ps z => t ps (by rw [h, z])).2.2
    have p1n := List.nodup_append.mp nd1
    have p2n := List.nodup_append.mp nd2
    refine rd_call (B := B1 ++ B2) st.b0 st.ex ((n1.tmp n2).sub fun a q => ?_) e2 (.cons i1' i2) (List.nodup_append.mpr ⟨p2n.1, List.nodup_append.mpr ⟨p1n.2.1, p2n.2.1, fun a q b q' z => dj a q (by rw [z]; exact List.mem_append_right _ q')⟩, fun a q b q' z => ?_⟩) er nl m4
    · simp only [List.mem_append] at q ⊢
      rcases q with q | q | q <;> simp [q]
    · rcases List.mem_append.mp q' with q' | q'
      · exact dj b q' (by rw [← z]; exact List.mem_append_left _ q)
      · exact p2n.2.2 a q b q' z
theorem se_meth0 {c : Nat} {m : Str} {apos : Pos} {o1 : Expr} (hc : Cls X.K (G.ca c)) (hm : Meth X.K (G.ca c) m fa) (Fn : FnOk X.prog X.w X.K X.mg X.base (L2.CX X.prog X.w) k fa fd pn (spF G cl f)) (hr : Room k X.A) (hx : Passes (L2.CX X.prog X.w) X E) (hb : Binds X.K fd pn [])
    (ho : PE X o1 (tP G cl ini (WE E) a))
    {pl : Sem Bool} (ht : eval (.Call (.Attribute o1 m apos) [] [] pos) X.env = (do
      let ov ← eval o1 X.env
      standAt apos.atName
      let (f, first) ← holding [ov] (getMethod ov m pl)
      callWith pos f first (backTo pos (starEach [] X.env)) (backToKw pos (keywordEach [] X.env))) := by rfl) :
    PE X (.Call (.Attribute o1 m apos) [] [] pos) (tE G cl ini (WE E) (.meth c m f a .nil)) := by
  refine ⟨fun pins s σ H Q I q => (pe_meth0 (E := E) ho hc hm Fn hr hb .nil hx ht).run pins s σ H Q I ?_⟩
  obtain ⟨F, A, δ, st, o⟩ := q
  simp only [ev, evs] at o
  refine ⟨F, A, δ, st, (out_bnd o).imp fun p1 δ1 m1 v F1 H1 A1 B1 n1 e1 i1 nd1 => ?_⟩
  have m2 := out_bnd m1
  unfold chkM at m2
  cases er1 : res δ1 p1 with
  | none => rw [er1] at m2; exact m2.elim
  | some o2 =>
    rw [er1] at m2
    dsimp only at m2
    split at m2
    case isFalse => exact m2.elim
    rename_i hi
    obtain ⟨aa, dx, fs, rfl, g1, g2, g3⟩ := isIns_of n1.fh (e1.res i1 er1) hi
    have m2 : Out G (WE E) σ F H A (callM cl f [p1] δ1) _ := m2
    obtain ⟨os, er, nl, m4⟩ := out_call m2
    have z := rd_call (B := B1 ++ []) (ps := [p1]) (vs := [V.ref aa]) st.b0 st.ex (by rw [List.append_nil]; exact n1) e1 (.cons i1 .nil) (by rw [List.append_nil]; exact nd1) er nl m4
    exact ⟨aa, dx, fs, rfl, g1, g2, z⟩
theorem IsOs.app_inv : ∀ {vs ws : List V} {os : List O} {C : List Addr}, IsOs G F H (vs ++ ws) os C → ∃ oa ob Ca Cb, os = oa ++ ob ∧ C = Ca ++ Cb ∧ IsOs G F H vs oa Ca ∧ oa.length = vs.length
  | [], ws, os, C, h => ⟨[], os, [], C, rfl, rfl, .nil, rfl⟩
  | v :: vs, ws, os, C, h => by
    cases h with
    | cons h1 h2 =>
      obtain ⟨oa, ob, Ca, Cb, rfl, rfl, h3, h4⟩ := h2.app_inv
      exact ⟨_ :: oa, ob, _ ++ Ca, Cb, rfl, by rw [List.append_assoc], .cons h1 h3, by simp [h4]⟩
theorem giveBack_app : ∀ {ps : List PO} {oa ob : List O} {δ : Env}, oa.length = ps.length → giveBack ps (oa ++ ob) δ = giveBack ps oa δ
  | [], [], ob, δ, _ => by unfold giveBack; rfl
  | [], _ :: _, _, _, h => by simp at h
  | _ :: _, [], _, _, h => by simp at h
  | .sl i :: ps, o :: oa, ob, δ, h => giveBack_app (ps := ps) (by simpa using h)
  | .vl _ :: ps, o :: oa, ob, δ, h => giveBack_app (ps := ps) (by simpa using h)
theorem IsPs.len {vs ps B} (h : IsPs G σ F H vs ps B) : vs.length = ps.length := by
  induction h with
  | nil => rfl
  | cons _ _ ih => simp [ih]
/-- an instance is made -/
theorem se_make {c : Nat} {ds : List D} {dvs : List V} {dus : List Value} (M : Mk X.K (G.ca c) fa) (hn : c < G.nc) (hini : ini c = some f) (Fn : FnOk X.prog X.w X.K X.mg X.base (L2.CX X.prog X.w) k fa fd pn (spF G cl f)) (hr : Room (k + 1) X.A) (hx : Passes (L2.CX X.prog X.w) X E) (hg : Gl X fn) (hm : X.mg fn = some (.ref (G.ca c)))
    (hb : Binds X.K fd pn dus) (hd : Vals dvs dus) (hds : ∀ F, IsDs G F dvs ds) (ha : PA X (x :: xs) (tPs G cl ini (WE E) es)) (hdb : (fn == ("__debug__" : Str)) = false := by decide) (he : starEach (x :: xs) X.env = (false, eval x X.env) :: starEach xs X.env := by rfl) (hpl : (backTo pos (starEach xs X.env)).any (·.1) = false := by rfl) :
    PE X (.Call (.Name fn p) (x :: xs) [] pos) (tE G cl ini (WE E) (.make c es ds)) := by
  refine ⟨fun pins s σ H Q I q => (pe_make (E := E) M Fn hr hg hm hb hd hx ha hdb he hpl).run pins s σ H Q I ?_⟩
  obtain ⟨F, A, δ, st, o⟩ := q
  simp only [ev] at o
  refine ⟨F, A, δ, st, (out_bnd o).imp fun ps δ1 m vs F1 H1 A1 B1 n1 e1 i1 nd1 => ?_⟩
  unfold makeM at m
  rw [hini] at m
  cases er : ress δ1 ps with
  | none => rw [er] at m; exact m.elim
  | some os =>
    rw [er] at m
    dsimp only at m
    split at m
    case isFalse => exact m.elim
    rename_i nl
    intro xa dx hx hdx ne
    obtain ⟨C, R, h1, h2, h3, h4⟩ := lend e1 i1 nd1 er nl
    -- the new object and its dict
    have k1 : Nx F1 H1 (A1 ++ B1) F1 (upd H1 dx (.own xa)) (A1 ++ B1) := (Nx.new n1.fh hdx).sub fun a q => List.mem_cons_of_mem _ q
    have hx1 : upd H1 dx (.own xa) xa = none := by rw [upd_ne (Ne.symm ne)]; exact hx
    have k2 : Nx F1 (upd H1 dx (.own xa)) (A1 ++ B1) F1 (upd (upd H1 dx (.own xa)) xa (.ins (G.ca c) dx [])) (xa :: (A1 ++ B1)) := Nx.new k1.fh hx1
    have k12 := k1.trans k2
    have hC : ∀ a ∈ C, a ∈ A1 ++ B1 := fun a m => by
      rcases (h3 a).mp (.inl m) with w | w <;> simp [w]
    have hR : ∀ a ∈ R, a ∈ A1 ++ B1 := fun a m => by
      rcases (h3 a).mp (.inr m) with w | w <;> simp [w]
    have qown : ∀ {vs ps B}, IsPs G σ F1 H1 vs ps B → ∀ a ∈ B, F1 a = none ∧ (∃ u, H1 a = some u) ∧ ∀ ps, H1 a ≠ some (spc ps) := by
      intro vs ps B i
      induction i with
      | nil => exact fun _ m => nomatch m
      | cons h _ ih => exact fun a m => (List.mem_append.mp m).elim (fun m => h.own a m) (fun m => ih a m)
    have own : ∀ a, a ∈ A1 ∨ a ∈ B1 → F1 a = none ∧ (∃ u, H1 a = some u) ∧ ∀ ps, H1 a ≠ some (spc ps) := fun a m => by
      rcases m with w | w
      · exact ⟨(e1.own a w).1, (e1.own a w).2, e1.notbl a w⟩
      · exact qown i1 a w
    have same : ∀ a, a ∈ A1 ∨ a ∈ B1 → (upd (upd H1 dx (.own xa)) xa (.ins (G.ca c) dx [])) a = H1 a ∧ a ≠ xa := fun a m => by
      obtain ⟨_, ⟨u, hu⟩, _⟩ := own a m
      have n1 := ne_of_none hu hx
      have n2 := ne_of_none hu hdx
      exact ⟨by rw [upd_ne n1, upd_ne n2], n1⟩
    have hself : IsO G F1 (upd (upd H1 dx (.own xa)) xa (.ins (G.ca c) dx [])) (.ref xa) (.ob c [] []) [xa] := .ob (ws := []) hn (n1.fh.none hx) upd_same .nil
    have hargs : IsOs G F1 (upd (upd H1 dx (.own xa)) xa (.ins (G.ca c) dx [])) vs os C := h1.frame (.refl _) fun a m => ⟨(same a ((h3 a).mp (.inl m))).1, (h1.own a m).1⟩
    have hdef : IsOs G F1 (upd (upd H1 dx (.own xa)) xa (.ins (G.ca c) dx [])) dvs (ds.map .fr) [] := is_frs (hds F1)
    have happ : ∀ {vs : List V} {os : List O} {C : List Addr}, IsOs G F1 (upd (upd H1 dx (.own xa)) xa (.ins (G.ca c) dx [])) vs os C → IsOs G F1 (upd (upd H1 dx (.own xa)) xa (.ins (G.ca c) dx [])) (vs ++ dvs) (os ++ ds.map .fr) C := by
      intro vs os C i
      induction os generalizing vs C with
      | nil => cases i; exact hdef
      | cons o os ih => cases i with | cons i1 i2 => exact .cons i1 (ih i2)
    have nxC : xa ∉ C := fun m => (same xa ((h3 xa).mp (.inl m))).2 rfl
    have nxR : xa ∉ R := fun m => (same xa ((h3 xa).mp (.inr m))).2 rfl
    refine ⟨F1, [xa] ++ C, .ob c [] [] :: (os ++ ds.map .fr), st.b0.trans n1.ff, k12.fh, .cons hself (happ hargs), ?_, ?_⟩
    · exact List.nodup_cons.mpr ⟨nxC, (List.nodup_append.mp h2).1⟩
    · have kC : ∀ a ∈ [xa] ++ C, a ∈ xa :: (A1 ++ B1) := fun a m => by
        rcases List.mem_append.mp m with w | w
        · simp at w; simp [w]
        · exact List.mem_cons_of_mem _ (hC a w)
      have kR : ∀ a ∈ R, a ∈ xa :: (A1 ++ B1) := fun a m => List.mem_cons_of_mem _ (hR a m)
      cases e : cl f (.ob c [] [] :: (os ++ ds.map .fr)) with
      | none => rw [e] at m; exact m
      | some r =>
        rw [e] at m
        cases r with
        | ex x =>
          intro cls d F' H' n' i
          exact (show EndX G (WE E) σ F H A x from m) cls d F' H' (n1.trans (k12.trans (n'.wide kC))) i
        | ok o os' =>
          intro v F' H' A' B' n' h5 h6 nd'
          cases h5 with
          | @cons _ o1 _ os2 D1 D2 g1 g2 =>
            have m3 : o = .fr .non ∧ EndO G σ F H A o1 (giveBack ps os2 δ1) Q := by
              cases o with
              | fr d => cases d <;> first | exact ⟨rfl, m⟩ | exact m.elim
              | _ => exact m.elim
            obtain ⟨rfl, m⟩ := m3
            cases h6 with
            | fr h6 =>
              cases h6
              refine ⟨rfl, ?_⟩
              rw [List.append_nil] at n' nd'
              have kR2 : ∀ a ∈ R, H' a = H1 a ∧ F' a = none ∧ a ∉ D1 ++ D2 := fun a q => by
                obtain ⟨f1, ⟨u, hu⟩, t⟩ := own a ((h3 a).mp (.inr q))
                have z := (same a ((h3 a).mp (.inr q)))
                obtain ⟨w1, w2, w3⟩ := n'.fr a u (z.1.trans hu) f1 (fun w => by
                  rcases List.mem_append.mp w with w | w
                  · simp at w; exact z.2 w
                  · exact (List.nodup_append.mp h2).2.2 a w a q rfl) fun ps z => t ps (by rw [hu, z])
                exact ⟨w1.trans hu.symm, w2, w3⟩
              have ndR : R.Nodup := (List.nodup_append.mp h2).2.1
              have ndd := List.nodup_append.mp nd'
              obtain ⟨oa, ob, Da, Db, rfl, rfl, g3, g4⟩ := g2.app_inv
              have m : EndO G σ F H A o1 (giveBack ps (oa ++ ob) δ1) Q := by assumption
              rw [giveBack_app (g4.trans i1.len)] at m
              have ndDa : Da.Nodup := (List.nodup_append.mp ndd.2.1).1
              obtain ⟨A2, q1, q2, q3⟩ := h4 F' H' oa Da n'.ff (fun a m => ⟨(kR2 a m).1, (kR2 a m).2.1⟩) g3 (List.nodup_append.mpr ⟨ndDa, ndR, fun a m b m' z => (kR2 b m').2.2 (by rw [← z]; simp [m])⟩)
              refine m (.ref xa) F' H' A2 D1 ?_ q1 g1 ?_
              · refine (n1.trans (k12.trans (nx_wide n' kC kR))).sub fun a m => ?_
                rcases List.mem_append.mp m with m | m
                · rcases q3 a m with w | w <;> simp [w]
                · simp [m]
              · refine List.nodup_append.mpr ⟨q2, ndd.1, fun a m b m' z => ?_⟩
                subst z
                rcases q3 a m with w | w
                · exact ndd.2.2 a m' a (by simp [w]) rfl
                · exact (kR2 a w).2.2 (by simp [m'])
end
end Ow
end OwV_
section OwW_
set_option Elab.async false
set_option linter.all false
set_option maxRecDepth 100000
set_option maxHeartbeats 4000000
/-! A comprehension whose block may raise. -/
namespace Ow
open PySem PySem.Spec PyProof.Rows L2
variable [TQ]

/-! ### the library's comprehension, the frame of what is let go known -/
section
variable {M : Model} {A : Around} {E : Value → Shared → Prop} {s : Shared} {env : PySem.Env}
def postX (M : Model) (A : Around) (E : Value → Shared → Prop) (use : Option (Value → Sem Unit)) (Q : Value → Shared → Prop) (fr : Option Addr) (acc : Value) (C : Addr) (r : Result) (s' : Shared) : Prop :=
  match r, use with
  | .ok _, none => ∃ m, s'.heap.Ns C m ∧ ∀ h', Heap.SameBut C s'.heap h' → Q acc { s' with heap := h' }
  | .ok _, some u => wpAny M A (u acc) (fun _ s'' => ∃ m, s''.heap.Ns C m ∧ ∀ h', Heap.SameBut C s''.heap h' → Q .none { s'' with heap := h' }) E s'
  | .error x, _ => ∃ m, s'.heap.Ns C m ∧ ∀ h', Heap.SameBut C s'.heap h' → ∀ cenv : PySem.Env, cenv.locals = C → cenv.frame = fr → wpAny M A (PySem.passOn "comprehension.variables-let-go" x cenv : Sem Value) (fun _ _ => False) E { s' with heap := h' }
theorem comp_freeX {e : Expr} {scope : Scope} {pos : Pos} {newAcc first : Sem Value} {g : Comprehension} {gs : List Comprehension} {cl : List (Str × Addr)} {use : Option (Value → Sem Unit)}
    {Q : Value → Shared → Prop}
    (hcl : clausesOf e = g :: gs) (hs : ∀ x, foldedSetIterable g.iter env x = pure x) (hclos : closureFor scope env = pure cl)
    (hkind : scope.kind = .function) (hnames : ∀ x ∈ scope.names, x.2 = .local → scope.names.lookup x.1 = some .local)
    (h : wpAny M A first (fun x s₁ => wpAny M A (pyIter x) (fun it s₂ => wpAny M A newAcc (fun acc s₃ =>
      wpAny M A (newFunctionEnv scope env.globals cl [] env.qual none .none (some env)) (fun cenv s₄ =>
        codeAny M A (.compStart e 0 it acc { cenv with scope := relabel scope env }) (postX M A E use Q cenv.frame acc cenv.locals) s₄) E s₃) E s₂) E s₁) E s) :
    wpAny M A (comprehension e scope env pos newAcc false first use) Q E s := by
  unfold comprehension
  rw [hclos, hcl]
  refine wpAny_bind (wpAny_mono h (fun x s₁ h₁ => wpAny_bind (wpAny_standAt (wpAny_bind (wpAny_of_eq (hs x) (wpAny_bind (wpAny_holding (wpAny_mono h₁ (fun it s₂ h₂ =>
    wpAny_standIf (wpAny_bind (wpAny_mono h₂ (fun acc s₃ h₃ => wpAny_bind (wpAny_pure (wpAny_bind (wpAny_mono h₃ (fun cenv s₄ h₄ => ?_) fun _ _ h' => h')))) fun _ _ h' => h')))
      fun _ _ h' => h'))))))) fun _ _ h' => h')
  dsimp only
  have hv : ∀ x ∈ (scope.names.filter fun x => (x.2 == .local || x.2 == .cell) && x.1 != (".0" : Str)).reverse, x.2 = .local →
      PySem.Env.kindOf { cenv with scope := relabel scope env } x.1 = some .local := fun x hx hl => lookup_relabel_local (hnames x (List.mem_filter.mp (List.mem_reverse.mp hx)).1 hl)
  have hv' : ∀ x ∈ (scope.names.filter fun x => (x.2 == .local || x.2 == .cell) && x.1 != (".0" : Str)).reverse.drop 1 ++ (scope.names.filter fun x => (x.2 == .local || x.2 == .cell) && x.1 != (".0" : Str)).reverse.take 1,
      x.2 = .local → PySem.Env.kindOf { cenv with scope := relabel scope env } x.1 = some .local := fun x hx hl => by
    rcases List.mem_append.mp hx with h1 | h1
    · exact hv x (List.mem_of_mem_drop h1) hl
    · exact hv x (List.mem_of_mem_take h1) hl
  refine wpAny_holding (wpAny_bind (wpAny_attempt (wpAny_holding (wpAny_run (codeAny_mono h₄ fun r s' hr => ?_)))))
  cases r with
  | ok f =>
    cases use with
    | none =>
      obtain ⟨m, hn, hr⟩ := hr
      exact wpAny_bind (wpAny_holding (wpAny_comp_letGo (cenv := { cenv with scope := relabel scope env }) hkind _ s' m hv hn fun h' m' _ hs' => wpAny_pure (hr h' hs')))
    | some u =>
      refine wpAny_bind (wpAny_rule (wpAny_bind (wpAny_holding (wpAny_mono hr (fun _ s'' hr' => ?_) fun _ _ h' => h'))))
      obtain ⟨m, hn, hr'⟩ := hr'
      exact wpAny_bind (wpAny_comp_letGo (cenv := { cenv with scope := relabel scope env }) hkind _ s'' m hv' hn fun h' m' _ hs' => wpAny_pure (hr' h' hs'))
  | error x =>
    have hr' : ∃ m, s'.heap.Ns cenv.locals m ∧ ∀ h', Heap.SameBut cenv.locals s'.heap h' → ∀ cenv' : PySem.Env, cenv'.locals = cenv.locals → cenv'.frame = cenv.frame → wpAny M A (PySem.passOn "comprehension.variables-let-go" x cenv' : Sem Value) (fun _ _ => False) E { s' with heap := h' } := by cases use <;> exact hr
    obtain ⟨m, hn, hr⟩ := hr'
    exact wpAny_bind (wpAny_holding (wpAny_comp_letGo (cenv := { cenv with scope := relabel scope env }) hkind _ s' m hv hn fun h' m' _ hs' => wpAny_mono (hr h' hs' _ rfl rfl) (fun _ _ f => f.elim) fun _ _ y => y))
end

/-! ### an exception in the air of a def or of a block within it -/
/-- .. flying, or noted at the def's frame L -/
def Air (X : Cx) (E : XK) (L : Addr) (u : Value) (s' : Shared) : Prop :=
  ∃ (a : Addr) (B : Heap) (sI : Shared) (pins : List (Addr × Obj)) (σ : L2.St) (H : Hp) (cls : Value) (d : Option Addr),
    u = .ref a ∧ Inv X pins σ H sI ∧ (∀ b o, sI.heap.get? b = some o → b ∉ frs X.stack → B.get? b = some o) ∧ sI.heap.UpToSlots s'.heap ∧
      (HandSPX.FlyingZ B X.stack a (Zc cls d) s'.heap ∨ HandSPX.HeldZ B X.stack a (Zc cls d) L s'.heap) ∧ H a = none ∧ s'.os = sI.os ∧ AllBare s'.gens ∧ E cls d H
/-- what may leave a def or its block -/
structure Px (X : Cx) (E : XK) : Prop where
  ex : ∃ L de outer, X.env.frame = some L ∧ de.frame = some L ∧ X.stack = de :: outer ∧ ∀ u s', Air X E L u s' → X.xe u s'
theorem Px.of_takes {X : Cx} {E : XK} (hs : X.stack = X.env :: X.outer) (hf : X.env.frame = some X.env.locals) (tk : Takes X (WE E)) : Px X E :=
  ⟨_, _, _, hf, hf, hs, fun u s' ⟨a, B, sI, pins, σ, H, cls, d, e, I, nb, up, sky, na, os, ag, w⟩ => tk u s' ⟨a, B, sI, pins, σ, H, cls, d, e, I, nb, up, .inr sky, na, os, ag, w⟩⟩
/-- a call's exception -/
theorem Px.passes {X : Cx} {E : XK} (p : Px X E) : Passes (L2.CX X.prog X.w) X E := by
  obtain ⟨L, de, outer, hf, hd, hs, tk⟩ := p.ex
  intro pins σ H s e s' I c
  obtain ⟨a, B, H', cls, d, rfl, fl, hok, ub, na, os, ag, hE⟩ := c
  refine tk _ _ ?_
  obtain ⟨G, g1, g2⟩ := restrict s'.heap fun b => (B.get? b).isSome || decide (b ∈ frs X.stack)
  have st : B.StaysIn s'.heap := fl.1
  have gB : ∀ b o, B.get? b = some o → G.get? b = some o := fun b o e => by
    rw [g1 b (by simp [e])]
    exact st b o e
  have gF : ∀ b, b ∈ frs X.stack → G.get? b = s'.heap.get? b := fun b hb => g1 b (by simp [hb])
  have og : ∀ b o, G.get? b = some o → s'.heap.get? b = some o ∧ ((B.get? b).isSome = true ∨ b ∈ frs X.stack) := fun b o e => by
    cases q : ((B.get? b).isSome || decide (b ∈ frs X.stack)) with
    | false => rw [g2 b q] at e; cases e
    | true =>
      rw [g1 b q] at e
      exact ⟨e, by simpa [Bool.or_eq_true] using q⟩
  refine ⟨a, B, { s with heap := G, gens := s'.gens, drawn := s'.drawn, toks := s'.toks }, pins, σ, H', cls, d, rfl, ?_, fun b o e hb => ?_, Heap.UpToSlots.of_keeps fun b o e => (og b o e).1, .inl fl, na, os, ag, hE⟩
  · refine I.call (ch := []) ⟨fun b o e n hb _ => gB b o (ub.keep b o e n hb), fun b o e n hb _ => ?_, fun b o e n _ => ub.free b o e n, fun b o e _ => ?_, ub.tups, ub.frzs, ub.tbls⟩ (hok.kept gB) ag (fun _ z => nomatch z)
    · obtain ⟨sl, q⟩ := ub.slot b o e hb
      exact ⟨sl, by rw [gF b hb]; exact q⟩
    · by_cases hb : b ∈ frs X.stack
      · obtain ⟨sl, q⟩ := ub.slot b o e hb
        exact ⟨_, by rw [gF b hb]; exact q⟩
      · obtain ⟨o', q⟩ := ub.there b o e hb
        exact ⟨o', gB b o' q⟩
  · obtain ⟨e', h⟩ := og b o e
    rcases h with h | h
    · obtain ⟨o', q⟩ := Option.isSome_iff_exists.mp h
      have z := st b o' q
      rw [e'] at z; cases z
      exact q
    · exact absurd h hb
theorem note_congr {e1 e2 : PySem.Env} (h : e1.frame = e2.frame) (x : Value) : noteFrame x e1 = noteFrame x e2 := by
  unfold noteFrame PySem.frameOf
  rw [h]
/-- a block's context whose wish is W -/
abbrev blkX (X : Cx) (s : Shared) (H : Hp) (scope : Scope) (cenv : PySem.Env) (fp : List Addr) (W : Value → Shared → Prop) : Cx := (X.blk s H scope cenv fp).wish W
/-- the block lets it go -/
theorem Px.block {X : Cx} {E : XK} (p : Px X E) {pins : List (Addr × Obj)} {σ : L2.St} {s3 : Shared} {H3 : Hp} {scope : Scope} {ce : PySem.Env} {fp : List Addr} {use : Option (Value → Sem Unit)} {Qf : Value → Shared → Prop} {acc : Value}
    (I3 : Inv X pins σ H3 s3) (hfr : ce.frame = X.env.frame) (hsz : s3.heap.objs.size ≤ ce.locals) (f3 : ∀ b ∈ fp, FpOk X pins H3 b) :
    Px (blkX X s3 H3 scope ce fp (notedBy (model X.prog X.w) X.A ce fun e s' => postX (model X.prog X.w) X.A X.xe use Qf ce.frame acc ce.locals (.error e) s')) E := by
  obtain ⟨L, de, outer, hf, hd, hs, tk⟩ := p.ex
  refine ⟨L, de, outer, hfr.trans hf, hd, hs, fun u s' ⟨a, B, sI, pins', σ', H', cls, d, e, I, nb, up, sky, na, os, ag, w⟩ => ?_⟩
  subst e
  have I : Inv (blkX X s3 H3 scope ce fp _) pins' σ' H' sI := I
  have nb : ∀ b o, sI.heap.get? b = some o → b ∉ frs X.stack → B.get? b = some o := nb
  have sky : HandSPX.FlyingZ B X.stack a (Zc cls d) s'.heap ∨ HandSPX.HeldZ B X.stack a (Zc cls d) L s'.heap := sky
  show wpAny (model X.prog X.w) X.A (noteFrame (.ref a) ce) (fun _ s'' => postX (model X.prog X.w) X.A X.xe use Qf ce.frame acc ce.locals (.error (.ref a)) s'') _ s'
  rw [note_congr (e2 := de) (hfr.trans (hf.trans hd.symm))]
  have hframes : X.A.frames = some (de :: outer) := by rw [← hs]; exact I3.ok.frames
  have J : Inv X pins σ H' sI := I3.call' (ch := fp) I.os I.base I.hok I.bare fun b hb => ⟨(f3 b hb).2.2.2.1, (f3 b hb).2.1, (f3 b hb).2.2.2.2.1, (f3 b hb).2.2.2.2.2⟩
  have nC : H' ce.locals = none := I.free
  obtain ⟨m, hn, _⟩ := I.loc
  have hn : sI.heap.Ns ce.locals m := hn
  obtain ⟨oC, esC, epC, hoC, hCr⟩ := id hn
  have CF : ce.locals ∉ frs X.stack := fun z => by
    obtain ⟨_, o, ho, _⟩ := I.ok.funs.mem (show ce.locals ∈ (blkX X s3 H3 scope ce fp _).fs from z)
    exact absurd (Nat.lt_of_lt_of_le (Heap.lt_size ho) hsz) (Nat.lt_irrefl _)
  have BC : B.get? ce.locals = some oC := nb _ _ hoC CF
  have fpC : FpOk X pins H' ce.locals := I3.fpOk hsz nC
  have fin : ∀ h1, HandSPX.HeldZ B (de :: outer) a (Zc cls d) L h1 → s'.heap.UpToSlots h1 → postX (model X.prog X.w) X.A X.xe use Qf ce.frame acc ce.locals (.error (.ref a)) { s' with heap := h1 } := by
    intro h1 held up1
    have goal : ∃ m, h1.Ns ce.locals m ∧ ∀ h', Heap.SameBut ce.locals h1 h' → ∀ cenv : PySem.Env, cenv.locals = ce.locals → cenv.frame = ce.frame → wpAny (model X.prog X.w) X.A (PySem.passOn "comprehension.variables-let-go" (.ref a) cenv : Sem Value) (fun _ _ => False) X.xe { s' with heap := h' } := by
      refine ⟨m, ⟨oC, esC, epC, held.1 _ _ BC, hCr⟩, fun h' sb cenv _ hcf => ?_⟩
      -- the ground without the block's own dict
      have hb : ∀ b o, (PySem.W.hideAll B [ce.locals]).get? b = some o → B.get? b = some o ∧ b ≠ ce.locals := fun b o e => by
        refine ⟨PySem.W.of_hideAll _ e, fun z => ?_⟩
        subst z
        rw [PySem.W.hideAll_none _ (by simp)] at e
        cases e
      have hb2 : ∀ b o, B.get? b = some o → b ≠ ce.locals → (PySem.W.hideAll B [ce.locals]).get? b = some o := fun b o e n => PySem.W.hideAll_get _ e (by simpa using n)
      have hnone : ∀ b, B.get? b = none → (PySem.W.hideAll B [ce.locals]).get? b = none := fun b e => by
        cases q : (PySem.W.hideAll B [ce.locals]).get? b with
        | none => rfl
        | some o => rw [(hb b o q).1] at e; cases e
      obtain ⟨h_st, h_na, h_fr, oe, vs, T, oT, ts, t1, t2, t3, t4, t5, t6, t7, t8, t9⟩ := held
      have neq : ∀ b, B.get? b = none → b ≠ ce.locals := fun b e z => by rw [z, BC] at e; cases e
      have fr2 : h'.FunFrames B (de :: outer) := by
        have all : ∀ l : List PySem.Env, h1.FunFrames B l → h'.FunFrames B l := by
          intro l
          induction l with
          | nil => intro _; trivial
          | cons env r ih =>
            intro hl
            obtain ⟨hk, ⟨L', o', hf', hn', ho', hd'⟩, hr'⟩ := hl
            exact ⟨hk, ⟨L', o', hf', hn', (sb.2 L' (neq L' hn')).trans ho', hd'⟩, ih hr'⟩
        exact all _ h_fr
      have held2 : HandSPX.HeldZ (PySem.W.hideAll B [ce.locals]) (de :: outer) a (Zc cls d) L h' := by
        refine ⟨fun b o e => ?_, hnone a h_na, funFrames_none fr2 fun b z => ?_, oe, vs, T, oT, ts, (sb.2 a (neq a h_na)).trans t1, t2, t3, t4, hnone T t5, t6, (sb.2 T (neq T t5)).trans t7, t8, t9⟩
        · obtain ⟨e1, e2⟩ := hb b o e
          exact (sb.2 b e2).trans (h_st b o e1)
        · exact hnone b (h_fr.mem z).1
      unfold PySem.passOn
      refine wpAny_bind (wpAny_field ((sb.2 a (neq a h_na)).trans t1) t3 t4 ?_)
      rw [if_neg (by simp)]
      rw [hcf, hfr, hf]
      refine wpAny_bind (HandSPX.setFlight_onZ (L := L) held2 fun h'' held3 up3 => ?_)
      refine wpAny_throw ?_
      obtain ⟨f0, f1, f2, f3', f4, f5⟩ := fpC
      refine tk _ _ ⟨a, PySem.W.hideAll B [ce.locals], { sI with heap := PySem.W.hideAll sI.heap [ce.locals] }, pins, σ, H', cls, d, rfl, J.turned (t' := sI.toks) (fun b o hb e => PySem.W.hideAll_get _ e (by simpa using hb)) f0 f1 f3' f4 f5, fun b o e hb' => ?_, ?_, .inr ?_, na, os, ag, w⟩
      · have e1 : sI.heap.get? b = some o := PySem.W.of_hideAll _ e
        refine hb2 b o (nb b o e1 hb') fun z => ?_
        subst z
        have e : (PySem.W.hideAll sI.heap [ce.locals]).get? ce.locals = some o := e
        rw [PySem.W.hideAll_none _ (by simp)] at e
        cases e
      · intro b o e hnf
        have e : (PySem.W.hideAll sI.heap [ce.locals]).get? b = some o := e
        have e1 : sI.heap.get? b = some o := PySem.W.of_hideAll _ e
        have nbC : b ≠ ce.locals := fun z => by
          subst z
          rw [PySem.W.hideAll_none _ (by simp)] at e
          cases e
        obtain ⟨sl, q1⟩ := up b o e1 hnf
        obtain ⟨sl2, q2⟩ := up1 b _ q1 hnf
        have q3 : h'.get? b = some { o with slots := sl2 } := (sb.2 b nbC).trans q2
        obtain ⟨sl3, q4⟩ := up3 b _ q3 hnf
        exact ⟨sl3, q4⟩
      · rw [hs]
        exact held3
    cases use <;> exact goal
  rw [hs] at sky
  rcases sky with fl | hh
  · exact HandSPX.looks_onZ Zc.steady hframes hd fl fin
  · exact HandSPX.againZ hd hh.2.2.2 (fin s'.heap hh (Heap.UpToSlots.refl _))
end Ow
end OwW_
section OwX_
set_option Elab.async false
set_option linter.all false
set_option maxRecDepth 100000
set_option maxHeartbeats 4000000
/-! A list comprehension whose block may raise: the library's rule, its wish let through. -/
namespace Ow
open PySem PySem.Spec PyProof.Rows L2
variable [TQ]
section
variable {X : Cx}
theorem lcX_core {E : XK} {pins : List (Addr × Obj)} {s : Shared} {σ : L2.St} {H : Hp} {Q : VK} {elt tg iter : Expr} {ifs : List Expr} {scope : Scope} {own : List (Str × Nat)} {pos pos' : Pos} {wi : TI} {g : TG} {tt : TT} {te : TE} {use : Option (Value → Sem Unit)} {Qf : Value → Shared → Prop}
    (px : Px X E) (hc : X.calm = true) (hN : X.N.Nodup) (I : L2.Inv X pins σ H s) (hi : PI X tg iter wi) (ok : BlkOk X.N X.env.scope scope own)
    (hg : ∀ (s : Shared) (H : Hp) (C : Addr) (cl : List (Str × Addr)) (fp : List Addr) (W : Value → Shared → Prop), PG (blkX X s H scope (compEnvC scope cl C X.env) fp W) tg g) (ht : ∀ (s : Shared) (H : Hp) (C : Addr) (cl : List (Str × Addr)) (fp : List Addr) (W : Value → Shared → Prop), Px (blkX X s H scope (compEnvC scope cl C X.env) fp W) E → PTs (blkX X s H scope (compEnvC scope cl C X.env) fp W) ifs tt)
    (he : ∀ (s : Shared) (H : Hp) (C : Addr) (cl : List (Str × Addr)) (fp : List Addr) (W : Value → Shared → Prop), Px (blkX X s H scope (compEnvC scope cl C X.env) fp W) E → PE (blkX X s H scope (compEnvC scope cl C X.env) fp W) elt te) (hs : ∀ x, foldedSetIterable iter X.env x = pure x)
    (h : tLc wi g tt te (own.map (·.2)) σ H Q)
    (hRR : ∀ D C s' m H', L2.Inv X pins σ H' s' → Q (.ref D) H' → s'.heap.Ns C m → FpOk X pins H' C → postX (model X.prog X.w) X.A X.xe use Qf X.env.frame (.ref D) C (.ok .next) s') :
    wpAny (model X.prog X.w) X.A (comprehension (.ListComp elt [⟨tg, iter, ifs, 0⟩] scope pos) scope X.env pos' (newList []) false (eval iter X.env) use) Qf X.xe s := by
  have hfree : ∀ y ∈ scope.names, y.2 = .free → ∃ c, X.env.cells.lookup y.1 = some c := fun y hy e => by
    rcases ok.free y hy e with k | k
    · exact I.ok.has _ (.inl k)
    · exact I.ok.has _ (.inr k)
  refine comp_freeX (use := use) rfl hs (closure_ok hfree) ok.kind (fun y hy e => by rw [ok.uniq y hy, e])
    (thn (hi.run pins s σ H _ I h) fun xv s1 hx => thn hx fun itv s2 h2 => ?_)
  obtain ⟨it, fp, tn, J, H2, e, I2, T, st2, f2, q⟩ := h2
  subst e
  refine wpAny_newObj_type (newEnv_comp ?_) (by show 0 ≤ sizeLine; decide)
  generalize hD : s2.heap.objs.size = D
  have hDn : H2 D = none := I2.hok.fresh (Nat.le_of_eq hD)
  obtain ⟨W, ⟨m0, w0⟩, turn⟩ := q D hDn
  -- the new list
  generalize hs3 : ({ s2 with heap := s2.heap.push { cls := .type "list", data := .seq ([] : List Value).toArray } } : Shared) = s3
  have I3 : L2.Inv X pins σ (upd H2 D (.lst [])) s3 := by
    rw [← hs3]
    refine I2.laid (t' := s2.toks) (fun b o e => Heap.get?_push_of_some _ e) (Nat.le_of_eq hD) ⟨Nat.zero_le _, [], 0, .nil, ?_⟩
    rw [← hD]
    exact Heap.get?_push_size _ rfl
  have h3 : s3.heap = s2.heap.push { cls := .type "list", data := .seq ([] : List Value).toArray } := by rw [← hs3]
  have sz : ∀ b ∈ fp, b < s2.heap.objs.size := fun b hb => by
    obtain ⟨o, e, _⟩ := T.obj _ _ st2 b hb
    exact Heap.lt_size e
  have f3 : ∀ b ∈ fp, FpOk X pins (upd H2 D (.lst [])) b ∧ b < s3.heap.objs.size := fun b hb => by
    have hlt := sz b hb
    refine ⟨⟨?_, (f2 b hb).2⟩, by rw [h3, Heap.size_push]; exact Nat.lt_succ_of_lt hlt⟩
    rw [upd_ne (by rw [← hD]; exact Nat.ne_of_lt hlt)]
    exact (f2 b hb).1
  have st3 : tn 0 s3.heap := T.keep _ _ _ st2 fun b _ o e => by rw [h3]; exact Heap.get?_push_of_some _ e
  have I4 := block_start I3 ok hN f3
  have pg := hg s3 (upd H2 D (.lst [])) s3.heap.objs.size (cellsFrom (s3.heap.objs.size + 1) scope.names (cloFrom X.env.cells scope.names [])) fp
  have pt := ht s3 (upd H2 D (.lst [])) s3.heap.objs.size (cellsFrom (s3.heap.objs.size + 1) scope.names (cloFrom X.env.cells scope.names [])) fp
  have pe := he s3 (upd H2 D (.lst [])) s3.heap.objs.size (cellsFrom (s3.heap.objs.size + 1) scope.names (cloFrom X.env.cells scope.names [])) fp
  show codeAny _ _ (.compStart (.ListComp elt [⟨tg, iter, ifs, 0⟩] scope pos) 0 (.ref it) (.ref D) (compEnvC scope (cellsFrom (s3.heap.objs.size + 1) scope.names (cloFrom X.env.cells scope.names [])) s3.heap.objs.size X.env)) (postX (model X.prog X.w) X.A X.xe use Qf X.env.frame (.ref D) s3.heap.objs.size) { s3 with heap := pushCells (s3.heap.push { cls := .type "dict", data := .dict #[] }) scope.names }
  have nfp : ∀ b ∈ fp, (upd H2 D (.lst [])) b = none := fun b hb => (f3 b hb).1.1
  generalize hce : compEnvC scope (cellsFrom (s3.heap.objs.size + 1) scope.names (cloFrom X.env.cells scope.names [])) s3.heap.objs.size X.env = ce at I4 pg pt pe ⊢
  have cL : ce.locals = s3.heap.objs.size := by subst hce; rfl
  have cF : ce.frame = X.env.frame := by subst hce; rfl
  generalize hH3 : upd H2 D (.lst []) = H3 at I3 I4 pg pt pe w0 nfp f3
  generalize hs4 : ({ s3 with heap := pushCells (s3.heap.push { cls := .type "dict", data := .dict #[] }) scope.names } : Shared) = s4 at I4 ⊢
  obtain ⟨WB, hWB⟩ : ∃ WB, WB = notedBy (model X.prog X.w) X.A ce fun e s' => postX (model X.prog X.w) X.A X.xe use Qf ce.frame (.ref D) ce.locals (.error e) s' := ⟨_, rfl⟩
  have pxB : Px (blkX X s3 H3 scope ce fp WB) E := by rw [hWB]; exact px.block I3 cF (Nat.le_of_eq cL.symm) fun b hb => (f3 b hb).1
  have I4 : L2.Inv (blkX X s3 H3 scope ce fp WB) [] (wipe σ (own.map (·.2))) H3 s4 := I4.wish WB
  have pg := pg WB
  have pt := pt WB pxB
  have pe := pe WB pxB
  have st4 : tn 0 s4.heap := T.keep _ _ _ st3 fun b _ o e => by rw [← hs4]; exact pushCells_keeps _ _ _ _ (Heap.get?_push_of_some _ e)
  have stat : ∀ {σ' : L2.St} {H' : Hp} {s' : Shared}, L2.Inv (blkX X s3 H3 scope ce fp WB) [] σ' H' s' → (∀ b ∈ fp, H' b = none) → ∀ b ∈ fp, FpOk (blkX X s3 H3 scope ce fp WB) [] H' b := fun {σ' H' s'} I' hn b hb =>
    ⟨hn b hb, (I'.ok.exf b hb).1, I'.ok.exfs b hb, .inl hb, fun x c e => (I'.ok.exf b hb).2 x c e, fun p hp => absurd (show p ∈ ([] : List (Addr × Obj)) ++ [] from hp) (by simp)⟩
  have loop : codeAny (model X.prog X.w) X.A (.compLoop (.ListComp elt [⟨tg, iter, ifs, 0⟩] scope pos) 0 (.ref it) (.ref D) ce) (postX (model X.prog X.w) X.A X.xe use Qf X.env.frame (.ref D) s3.heap.objs.size) s4 := by
    refine compLoop_any (fun n s' => ∃ i H', L2.Inv (blkX X s3 H3 scope ce fp WB) [] (wipe σ (own.map (·.2))) H' s' ∧ tn i s'.heap ∧ (∀ b ∈ fp, H' b = none) ∧ W i n H') ?_ m0 ⟨0, H3, I4, st4, nfp, w0⟩
    rintro n s5 ⟨i, H5, I5, st5, n5, w5⟩
    rcases turn i n H5 w5 with ⟨stop, qq⟩ | ⟨go, Nx, hNx, step⟩
    · have td := T.done (blkX X s3 H3 scope ce fp WB) rfl rfl rfl hc i [] s5 _ H5 (fun _ _ => False) I5 (stat I5 n5) st5 stop
      refine thnF td fun r s6 ⟨hr, I6⟩ => ?_
      subst hr
      -- back in the def's context
      have I7 : L2.Inv X pins σ H5 s6 := I3.call' (ch := fp) I6.os I6.base I6.hok I6.bare fun b hb => ⟨(f3 b hb).1.2.2.2.1, (f3 b hb).1.2.1, (f3 b hb).1.2.2.2.2.1, (f3 b hb).1.2.2.2.2.2⟩
      have nC : H5 s3.heap.objs.size = none := by
        have z : H5 ce.locals = none := I6.free
        rw [cL] at z
        exact z
      obtain ⟨m, hn, _⟩ := I6.loc
      have hn : s6.heap.Ns ce.locals m := hn
      rw [cL] at hn
      exact hRR D s3.heap.objs.size s6 m H5 I7 qq hn (I3.fpOk (Nat.le_refl _) nC)
    · have ti := T.item (blkX X s3 H3 scope ce fp WB) rfl rfl rfl hc i [] s5 _ H5 (fun _ _ => False) I5 (stat I5 n5) st5 go
      refine thnF ti fun r s6 ⟨u, hr, h6⟩ => ?_
      subst hr
      refine thnF h6 fun _ s7 ⟨x, H7, I7, r7, y7, st7, n7⟩ => ?_
      have I7' := I7.pinned (stat I7 n7) (T.obj _ _ st7)
      have toW : ∀ {α : Type} {t : Sem α} {Q : α → Shared → Prop} {s : Shared}, wpAny (model X.prog X.w) X.A t Q WB s → wpAny (model X.prog X.w) X.A t Q (notedBy (model X.prog X.w) X.A ce fun e s' => postX (model X.prog X.w) X.A X.xe use Qf X.env.frame (.ref D) s3.heap.objs.size (.error e) s') s := fun {α t Q s} h => by rw [hWB, cF, cL] at h; exact h
      refine thn (toW (pg.run _ s7 _ H7 x u _ I7' r7 (step x H7 y7))) fun _ s8 ⟨σ8, H8, I8, hw8, q8⟩ => ?_
      refine thn (toW (pt.run _ s8 σ8 H8 _ I8 q8)) fun b s9 ⟨H9, I9, q9⟩ => ?_
      -- the turn's end
      have fin : ∀ {s' : Shared} {H' : Hp}, L2.Inv (blkX X s3 H3 scope ce fp WB) ([] ++ pinsAt fp s7.heap) σ8 H' s' → Nx H' → ∃ m, m < n ∧ ∃ i H', L2.Inv (blkX X s3 H3 scope ce fp WB) [] (wipe σ (own.map (·.2))) H' s' ∧ tn i s'.heap ∧ (∀ b ∈ fp, H' b = none) ∧ W i m H' := fun {s' H'} I' nx => by
        obtain ⟨m', hm, w'⟩ := hNx H' nx
        have pin' : ∀ b ∈ fp, ∀ o, s7.heap.get? b = some o → s'.heap.get? b = some o ∧ H' b = none := fun b hb o e =>
          let z := I'.pin (b, o) (List.mem_append_right _ (List.mem_append_right _ (mem_pinsAt hb e)))
          ⟨z.1, z.2.1⟩
        have hl : (wipe σ (own.map (·.2))).length = σ8.length := by rw [← hw8, wipe_length]
        refine ⟨m', hm, i + 1, H', (I'.unpinned (pins := [])).weak hl (fun j v e => ?_), T.keep _ _ _ st7 fun b hb o e => (pin' b hb o e).1, fun b hb => ?_, w'⟩
        · rw [← hw8] at e
          exact (wipe_some e).1
        · obtain ⟨o, e, _⟩ := T.obj _ _ st7 b hb
          exact (pin' b hb o e).2
      cases b with
      | false =>
        simp only [Bool.false_eq_true, if_false] at q9 ⊢
        exact fin I9 q9
      | true =>
        simp only [if_true] at q9 ⊢
        refine thn (toW (pe.run _ s9 σ8 H9 _ I9 q9)) fun z s10 ⟨yv, H10, I10, r10, acc, hD10, hz10, nx⟩ => ?_
        exact app_ok (X := blkX X s3 H3 scope ce fp WB) I10 hD10 hz10 r10 fun s11 I11 => fin I11 nx
  exact codeAny_compStart_list loop (T.self X.A 0 _ _ _ st4 loop)

theorem pe_lcX {E : XK} {elt tg iter : Expr} {ifs : List Expr} {scope : Scope} {own : List (Str × Nat)} {pos : Pos} {wi : TI} {g : TG} {tt : TT} {te : TE} (px : Px X E) (hc : X.calm = true) (hN : X.N.Nodup) (hi : PI X tg iter wi) (ok : BlkOk X.N X.env.scope scope own)
    (hg : ∀ (s : Shared) (H : Hp) (C : Addr) (cl : List (Str × Addr)) (fp : List Addr) (W : Value → Shared → Prop), PG (blkX X s H scope (compEnvC scope cl C X.env) fp W) tg g)
    (ht : ∀ (s : Shared) (H : Hp) (C : Addr) (cl : List (Str × Addr)) (fp : List Addr) (W : Value → Shared → Prop), Px (blkX X s H scope (compEnvC scope cl C X.env) fp W) E → PTs (blkX X s H scope (compEnvC scope cl C X.env) fp W) ifs tt)
    (he : ∀ (s : Shared) (H : Hp) (C : Addr) (cl : List (Str × Addr)) (fp : List Addr) (W : Value → Shared → Prop), Px (blkX X s H scope (compEnvC scope cl C X.env) fp W) E → PE (blkX X s H scope (compEnvC scope cl C X.env) fp W) elt te) (hs : ∀ x, foldedSetIterable iter X.env x = pure x := by intro _; rfl) :
    PE X (.ListComp elt [⟨tg, iter, ifs, 0⟩] scope pos) (tLc wi g tt te (own.map (·.2))) := by
  refine ⟨fun pins s σ H Q I h => ?_⟩
  rw [eval_ListComp]
  refine lcX_core px hc hN I hi ok hg ht he hs h fun D C s' m H' I' q hn f => ⟨m, hn, fun h'' sb => ?_⟩
  obtain ⟨f0, f1, f2, f3, f4, f5⟩ := f
  exact ⟨.ref D, H', I'.turned (t' := s'.toks) (fun b o hb e => (sb.2 b hb).trans e) f0 f1 f3 f4 f5, rfl, q⟩
theorem ps_setLcX {E : XK} {i : Nat} {y : Str} {py : Pos} {elt tg iter : Expr} {ifs : List Expr} {scope : Scope} {own : List (Str × Nat)} {pos spos : Pos} {wi : TI} {g : TG} {tt : TT} {te : TE} (px : Px X E) (hc : X.calm = true) (hN : X.N.Nodup) (hy : X.N[i]? = some y) (hyl : X.env.scope.names.lookup y = some .local)
    (hsw : swapsWith (.ListComp elt [⟨tg, iter, ifs, 0⟩] scope pos) (some (.Name y py)) spos.line X.env = pure true) (hi : PI X tg iter wi) (ok : BlkOk X.N X.env.scope scope own)
    (hg : ∀ (s : Shared) (H : Hp) (C : Addr) (cl : List (Str × Addr)) (fp : List Addr) (W : Value → Shared → Prop), PG (blkX X s H scope (compEnvC scope cl C X.env) fp W) tg g)
    (ht : ∀ (s : Shared) (H : Hp) (C : Addr) (cl : List (Str × Addr)) (fp : List Addr) (W : Value → Shared → Prop), Px (blkX X s H scope (compEnvC scope cl C X.env) fp W) E → PTs (blkX X s H scope (compEnvC scope cl C X.env) fp W) ifs tt)
    (he : ∀ (s : Shared) (H : Hp) (C : Addr) (cl : List (Str × Addr)) (fp : List Addr) (W : Value → Shared → Prop), Px (blkX X s H scope (compEnvC scope cl C X.env) fp W) E → PE (blkX X s H scope (compEnvC scope cl C X.env) fp W) elt te) (hs : ∀ x, foldedSetIterable iter X.env x = pure x := by intro _; rfl) :
    PS X (.Assign [.Name y py] (.ListComp elt [⟨tg, iter, ifs, 0⟩] scope pos) spos) (tAsg (tLc wi g tt te (own.map (·.2))) (gName i)) := by
  refine ⟨fun pins s σ H D I h => ?_⟩
  rw [exec_Assign_Name_used _ _ _ _ hsw]
  refine wpAny_bind (wpAny_standAt (wpAny_bind ?_))
  show wpAny _ X.A (do let _ ← comprehension (.ListComp elt [⟨tg, iter, ifs, 0⟩] scope pos) scope X.env (firstIterPos [⟨tg, iter, ifs, 0⟩] pos) (newList []) false (eval iter X.env) (some (assign (.Name y py) X.env))) _ _ s
  have h : tLc wi g tt te (own.map (·.2)) σ H (fun x H1 => gName i x σ H1 D.nx) := h
  refine wpAny_bind (thn (lcX_core (Qf := fun _ s' => SP X pins D .next s') px hc hN I hi ok hg ht he hs h fun L C s' m H' I' q hn f => ?_) fun _ s' hq => wpAny_pure (wpAny_pure hq))
  show wpAny _ _ (assign (.Name y py) X.env (.ref L)) _ _ _
  refine wpAny_assign_Name (store_ok2 (v := V.ref L) I' hN hy (.inl hyl) rfl (fun s2 I2 ⟨a, sb, ha⟩ => ?_) (.inr hyl))
  obtain ⟨f0, f1, f2, f3, f4, f5⟩ := f
  have haC : C ≠ a := by
    rcases ha with z | z
    · rw [z]; exact f1
    · exact fun e => f4 y a z e.symm
  refine ⟨m, hn.sameBut sb haC, fun h3 sb3 => ?_⟩
  exact ⟨_, H', I2.turned (t' := s2.toks) (fun b o hb e => (sb3.2 b hb).trans e) f0 f1 f3 f4 f5, q⟩
end
end Ow
end OwX_
section OwY_
set_option Elab.async false
set_option linter.all false
set_option maxRecDepth 100000
set_option maxHeartbeats 4000000
/-! Targets, what is walked, comprehensions. -/
namespace Ow
open PySem PySem.Spec PyProof.Rows L2
variable [TQ]
section
variable {G : Gd} {cl : Cl} {ini : Nat → Option Nat} {E : XK} {X : Cx} {σ : L2.St} {F F1 F2 H H1 H2 : Hp} {A A1 A2 B : List Addr} {x y z : Expr} {a b c : Ow.E} {pos : Pos} {k : Nat}
/-- a slot is set -/
theorem IsE.set {δ : Env} (s : IsE G F H σ δ A) (nd : A.Nodup) {i : Nat} {v : V} {o : O} {B : List Addr} (hi : i < δ.length) (h : IsO G F H v o B) (nb : B.Nodup) (dj : ∀ a ∈ B, a ∉ A) :
    ∃ A', IsE G F H (σ.set i (some v)) (δ.set i o) A' ∧ A'.Nodup ∧ ∀ a ∈ A', a ∈ A ∨ a ∈ B := by
  obtain ⟨s', A1, A2, A3, e1, e2, e3, back⟩ := s.split (i := i) (o := δ[i]) (by simp [hi])
  subst e2
  refine ⟨A1 ++ (B ++ A3), back F H (some v) o B (.refl _) (fun a m => ⟨rfl, (s.own a (by rcases List.mem_append.mp m with m | m <;> simp [m])).1⟩) (.val h), ?_, fun a m => ?_⟩
  · have p := List.nodup_append.mp nd
    have q := List.nodup_append.mp p.2.1
    refine List.nodup_append.mpr ⟨p.1, List.nodup_append.mpr ⟨nb, q.2.1, fun a m b m' z => dj a m (by rw [z]; simp [m'])⟩, fun a m b m' z => ?_⟩
    rcases List.mem_append.mp m' with w | w
    · exact dj b w (by rw [← z]; simp [m])
    · exact p.2.2 a m b (by simp [w]) z
  · rcases List.mem_append.mp m with m | m
    · simp [m]
    · rcases List.mem_append.mp m with m | m <;> simp [m]
/-- .. a slot that owns nothing -/
theorem IsE.put {δ : Env} (s : IsE G F H σ δ A) {i : Nat} {s' : Option V} {o : O} (hi : slotD δ i = true) (h : IsS G F H s' o []) : IsE G F H (σ.set i s') (δ.set i o) A := by
  unfold slotD at hi
  cases e : δ[i]? with
  | none =>
    rw [e] at hi
    cases hi
  | some o1 =>
    rw [e] at hi
    obtain ⟨s2, A1, A2, A3, e1, e2, e3, back⟩ := s.split e
    have eA : A2 = [] := by
      cases o1 with
      | fr d => cases e3 with | val e3 => cases e3; rfl
      | dead => cases e3 with
                | dead => rfl
                | val e3 => cases e3
      | _ => cases hi
    subst eA
    subst e2
    exact back F H s' o [] (.refl _) (fun a m => ⟨rfl, (s.own a (by rcases List.mem_append.mp m with m | m <;> simp [m])).1⟩) h
theorem wipe_nil (σ : L2.St) : wipe σ [] = σ := rfl
theorem wipe_cons (σ : L2.St) (i : Nat) (is : List Nat) : wipe σ (i :: is) = (wipe σ is).set i none := rfl
theorem wipeS_cons (i : Nat) (is : List Nat) (δ : Env) : wipeS (i :: is) δ = (wipeS is δ).set i .dead := rfl
theorem slotD_set {δ : Env} {i j : Nat} {o : O} (h : slotD δ i = true) (ho : (∃ d, o = .fr d) ∨ o = .dead) : slotD (δ.set j o) i = true := by
  unfold slotD at h ⊢
  by_cases e : j = i
  · subst e
    by_cases hl : j < δ.length
    · rw [List.getElem?_set_self hl]
      rcases ho with ⟨d, rfl⟩ | rfl <;> rfl
    · rw [List.getElem?_eq_none (by omega)] at h
      cases h
  · rw [List.getElem?_set_ne e]
    exact h
theorem slotD_wipe {δ : Env} {i : Nat} (h : slotD δ i = true) : ∀ is, slotD (wipeS is δ) i = true
  | [] => h
  | j :: is => by rw [wipeS_cons]; exact slotD_set (slotD_wipe h is) (.inr rfl)
theorem IsE.wipe {δ : Env} (s : IsE G F H σ δ A) : ∀ {is : List Nat}, is.all (slotD δ) = true → IsE G F H (wipe σ is) (wipeS is δ) A
  | [], _ => s
  | i :: is, h => by
    rw [List.all_cons, Bool.and_eq_true] at h
    rw [wipe_cons, wipeS_cons]
    exact (s.wipe h.2).put (slotD_wipe h.1 is) .dead
/-- the slots of a block put back -/
theorem back_cons (i : Nat) (is : List Nat) (δ0 δ : Env) : backS (i :: is) δ0 δ = (backS is δ0 δ).set i (δ0.getD i .dead) := rfl
theorem slotD_back {δ0 δ : Env} {i : Nat} (h : slotD δ i = true) : ∀ is, is.all (slotD δ0) = true → slotD (backS is δ0 δ) i = true
  | [], _ => h
  | j :: is, h0 => by
    rw [List.all_cons, Bool.and_eq_true] at h0
    rw [back_cons]
    refine slotD_set (slotD_back h is h0.2) ?_
    have z := h0.1
    unfold slotD at z
    rw [List.getD_eq_getElem?_getD]
    cases e : δ0[j]? with
    | none => exact .inr rfl
    | some o => rw [e] at z; cases o <;> first | exact .inl ⟨_, rfl⟩ | exact .inr rfl | cases z
/-- the slots outside a list agree -/
def Agree (is : List Nat) (σ σ' : L2.St) : Prop := σ'.length = σ.length ∧ ∀ i, i ∉ is → σ'[i]? = σ[i]?
theorem wipe_agree (σ : L2.St) : ∀ is, Agree is σ (wipe σ is)
  | [] => ⟨rfl, fun _ _ => rfl⟩
  | i :: is => by
    obtain ⟨h1, h2⟩ := wipe_agree σ is
    rw [wipe_cons]
    refine ⟨by rw [List.length_set]; exact h1, fun j hj => ?_⟩
    rw [List.mem_cons, not_or] at hj
    rw [List.getElem?_set_ne (Ne.symm hj.1)]
    exact h2 j hj.2
theorem wipe_get (σ : L2.St) : ∀ {is : List Nat} {i : Nat}, i ∈ is → i < σ.length → (wipe σ is)[i]? = some none
  | [], _, h, _ => nomatch h
  | j :: is, i, h, hl => by
    rw [wipe_cons]
    by_cases e : j = i
    · subst e
      rw [List.getElem?_set_self (by rw [wipe_length]; exact hl)]
    · rw [List.getElem?_set_ne e]
      exact wipe_get σ ((List.mem_cons.mp h).resolve_left (Ne.symm e)) hl
theorem Agree.wipe_eq {is : List Nat} {σ σ' : L2.St} (h : Agree is σ σ') : wipe σ' is = wipe σ is := by
  apply List.ext_getElem?
  intro i
  by_cases m : i ∈ is
  · by_cases hl : i < σ.length
    · rw [wipe_get σ m hl, wipe_get σ' m (by rw [h.1]; exact hl)]
    · have hq := h.1
      rw [List.getElem?_eq_none (by rw [wipe_length]; omega), List.getElem?_eq_none (by rw [wipe_length]; omega)]
  · rw [(wipe_agree σ' is).2 i m, (wipe_agree σ is).2 i m]
    exact h.2 i m
/-- what was in the slots at first is put back -/
theorem IsE.back {δ0 δ : Env} {A0 : List Addr} {F0 H0 : Hp} (s0 : IsE G F0 H0 σ δ0 A0) (e : Ex F0 F) : ∀ {is : List Nat} {σ' : L2.St}, is.all (slotD δ0) = true → is.all (slotD δ) = true → IsE G F H σ' δ A →
    IsE G F H (is.foldr (fun i (s : L2.St) => s.set i ((σ[i]?).getD none)) σ') (backS is δ0 δ) A
  | [], _, _, _, s => s
  | i :: is, σ', h0, h, s => by
    rw [List.all_cons, Bool.and_eq_true] at h0 h
    rw [back_cons, List.foldr_cons]
    refine (IsE.back s0 e h0.2 h.2 s).put (slotD_back h.1 is h0.2) ?_
    have z := h0.1
    unfold slotD at z
    rw [List.getD_eq_getElem?_getD]
    cases q : δ0[i]? with
    | none => rw [q] at z; cases z
    | some o =>
      rw [q] at z
      obtain ⟨s2, B1, B2, B3, q1, q2, q3, _⟩ := s0.split q
      rw [q1]
      cases o with
      | fr d => cases q3 with | val q3 => cases q3 with | fr q3 => exact .val (.fr (q3.mono e))
      | dead => exact .dead
      | _ => cases z
theorem foldr_back {is : List Nat} {σ σ' : L2.St} (h : Agree is σ σ') : is.foldr (fun i (s : L2.St) => s.set i ((σ[i]?).getD none)) σ' = σ := by
  have key : ∀ (is : List Nat) (σ' : L2.St), σ'.length = σ.length → (∀ i, (is.foldr (fun i (s : L2.St) => s.set i ((σ[i]?).getD none)) σ')[i]? = if i ∈ is then σ[i]? else σ'[i]?) ∧ (is.foldr (fun i (s : L2.St) => s.set i ((σ[i]?).getD none)) σ').length = σ.length := by
    intro is
    induction is with
    | nil => intro σ' hl; exact ⟨fun i => by simp, hl⟩
    | cons j is ih =>
      intro σ' hl
      obtain ⟨k1, k2⟩ := ih σ' hl
      rw [List.foldr_cons]
      refine ⟨fun i => ?_, by rw [List.length_set]; exact k2⟩
      by_cases e : j = i
      · subst e
        rw [if_pos List.mem_cons_self]
        by_cases hlt : j < σ.length
        · rw [List.getElem?_set_self (by rw [k2]; exact hlt), List.getElem?_eq_getElem hlt]
          rfl
        · rw [List.getElem?_eq_none (by rw [List.length_set, k2]; omega), List.getElem?_eq_none (by omega)]
      · rw [List.getElem?_set_ne e, k1]
        simp [Ne.symm e]
  apply List.ext_getElem?
  intro i
  rw [(key is σ' h.1).1 i]
  split
  · rfl
  · rename_i m
    exact h.2 i m
end
end Ow
end OwY_
section OwZ_
set_option Elab.async false
set_option linter.all false
set_option maxRecDepth 100000
set_option maxHeartbeats 4000000
namespace Ow
open PySem PySem.Spec PyProof.Rows L2
variable [TQ]
section
variable {G : Gd} {cl : Cl} {ini : Nat → Option Nat} {E : XK} {X : Cx} {σ : L2.St} {F F1 F2 H H1 H2 : Hp} {A A1 A2 B : List Addr} {x y z : Expr} {a b c : Ow.E} {pos : Pos} {k : Nat}
/-- how a target takes, as the library tells it -/
def gSs : List Nat → TGs
  | [] => gNil
  | i :: is => gCons (gName i) (gSs is)
def gT (G : Gd) : Tg → TG
  | .one i => gName i
  | .many is => gTup G.K is.length (gSs is)
theorem setS_ok {pin : List Nat} {i : Nat} {o : O} {δ δ' : Env} (h : setS pin i o δ = some (.ok () δ')) : i ∉ pin ∧ i < δ.length ∧ δ' = δ.set i o := by
  unfold setS at h
  split at h
  · cases h
  · rename_i q
    rw [Bool.or_eq_true, not_or] at q
    cases h
    exact ⟨by simpa using q.1, by simpa using q.2, rfl⟩
/-- several names -/
theorem setSs_ok {pin : List Nat} : ∀ {is : List Nat} {ds : List D} {vs : List V} {σ : L2.St} {A : List Addr} {δ δ' : Env}, Ex F H → IsE G F H σ δ A → A.Nodup → IsDs G F vs ds → setSs pin is ds δ = some (.ok () δ') →
    ∃ σ' A', IsE G F H σ' δ' A' ∧ A'.Nodup ∧ (∀ a ∈ A', a ∈ A) ∧ Agree is σ σ' ∧ (∀ i ∈ pin, i ∉ is) ∧ vs.length = is.length ∧ ∀ Q : L2.St → Hp → Prop, Q σ' H → gSs is vs σ H Q
  | [], [], vs, σ, A, δ, δ', e, s, nd, hd, h => by
    cases hd
    cases h
    exact ⟨σ, A, s, nd, fun _ m => m, ⟨rfl, fun _ _ => rfl⟩, fun _ _ => by simp, rfl, fun Q q => ⟨rfl, q⟩⟩
  | [], _ :: _, _, _, _, _, _, _, _, _, _, h => by cases h
  | _ :: _, [], _, _, _, _, _, _, _, _, _, h => by cases h
  | i :: is, d :: ds, _, σ, A, δ, δ', e, s, nd, hd, h => by
    cases hd with | @cons v _ vs _ h1 h2 =>
    obtain ⟨⟨⟩, δ1, q1, q2⟩ := bnd_ok (show bnd (setS pin i (.fr d)) (fun _ => setSs pin is ds) δ = some (.ok () δ') from h)
    obtain ⟨p1, p2, rfl⟩ := setS_ok q1
    obtain ⟨A1, s1, nd1, sub1⟩ := s.set nd p2 (.fr h1) .nil (fun _ m => nomatch m)
    obtain ⟨σ', A', w1, w2, w3, w4, w5, w6, w7⟩ := setSs_ok (is := is) e s1 nd1 h2 q2
    refine ⟨σ', A', w1, w2, fun a m => by simpa using sub1 a (w3 a m), ⟨by rw [w4.1, List.length_set], fun j hj => ?_⟩, fun j hj z => ?_, by simp [w6], fun Q q => ?_⟩
    · rw [List.mem_cons, not_or] at hj
      rw [w4.2 j hj.2, List.getElem?_set_ne (Ne.symm hj.1)]
    · rcases List.mem_cons.mp z with z | z
      · exact p1 (z ▸ hj)
      · exact w5 j hj z
    · exact ⟨v, vs, rfl, w7 Q q⟩
/-- a target takes data -/
theorem tgRd : ∀ {t : Tg} {pin : List Nat} {v : V} {d : D} {σ : L2.St} {F H : Hp} {A : List Addr} {δ δ' : Env} {Q : L2.St → Hp → Prop}, Ex F H → IsE G F H σ δ A → A.Nodup → IsD G F v d → take pin t d δ = some (.ok () δ') →
  (∀ σ' A', IsE G F H σ' δ' A' → A'.Nodup → (∀ a ∈ A', a ∈ A) → Agree t.slots σ σ' → (∀ i ∈ pin, i ∉ t.slots) → Q σ' H) → gT G t v σ H Q
  | .one i, pin, v, d, σ, F, H, A, δ, δ', Q, e, s, nd, h, t, k => by
    obtain ⟨h1, h2, rfl⟩ := setS_ok t
    obtain ⟨A', s', nd', sub⟩ := s.set nd h2 (.fr h) .nil (fun _ m => nomatch m)
    refine k _ A' s' nd' (fun a m => by simpa using sub a m) ⟨by rw [List.length_set], fun j hj => ?_⟩ (fun j hj z => h1 (by rw [← (show j = i by simpa [Tg.slots] using z)]; exact hj))
    rw [List.getElem?_set_ne]
    intro z
    exact hj (by simp [Tg.slots, z])
  | .many is, pin, v, d, σ, F, H, A, δ, δ', Q, e, s, nd, hd, t, k => by
    cases hd with
    | tup h1 h2 =>
      obtain ⟨σ', A', w1, w2, w3, w4, w5, w6, w7⟩ := setSs_ok e s nd h2 t
      exact ⟨_, _, rfl, .of (e.at h1), w6, w7 Q (k σ' A' w1 w2 w3 w4 w5)⟩
    | _ => cases t
theorem tg_one {i : Nat} {n : Str} (hN : X.N.Nodup) (hi : X.N[i]? = some n) (hx : Loc X.env.scope n) (hf : X.fn n = true ∨ X.env.scope.names.lookup n = some .local) : PG X (.Name n pos) (gT G (.one i)) := pg_name hN hi hx hf
theorem tg_many {is : List Nat} {es : List Expr} {kk : Nat} (hK : X.K = G.K) (hc : X.calm = true) (hg : PGs X es (gSs is)) (hn : (assignEach es X.env).length = is.length := by rfl) (hst : (assignEach es X.env).findIdx? (·.1) = none := by rfl) :
    PG X (.Tuple es kk pos) (gT G (.many is)) := by
  show PG X _ (gTup G.K _ _)
  rw [← hK]
  exact pg_tup hc hg hn hst

/-! ### what is walked -/
/-- the iterator J gives the data ds, over the ground F -/
structure Yields (G : Gd) (J : L2.It) (F : Hp) (ds : List D) : Prop where
  go : ∀ i H, Ex F H → i < ds.length → J.go i H
  stop : ∀ i H, Ex F H → ds.length ≤ i → J.stop i H
  yld : ∀ i H v H' d F1, Ex F F1 → Ex F1 H → ds[i]? = some d → J.yld i H v H' → ∃ F2, Nx F1 H [] F2 H' [] ∧ IsD G F2 v d
theorem y_list {a : Addr} {vs : List V} {ds : List D} (h : F a = some (.lst vs)) (r : IsDs G F vs ds) : Yields G (Itl G.K a) F ds where
  go := fun i H e hi => by
    have hl := r.len
    exact ⟨vs, vs[i]'(by omega), .of (e.at h), by simp [hl, hi]⟩
  stop := fun i H e hi => ⟨vs, .of (e.at h), by rw [r.len]; exact hi⟩
  yld := fun i H v H' d F1 e1 e2 hd ⟨h1, h2⟩ => by
    subst h1
    obtain ⟨w, q1, q2⟩ := r.at hd
    have q := h2 vs (.of (e2.at (e1.at h)))
    rw [q1] at q
    cases q
    exact ⟨F1, .refl e2, q2.mono e1⟩
theorem y_tup {a : Addr} {vs : List V} {ds : List D} (h : F a = some (.tup vs)) (r : IsDs G F vs ds) : Yields G (Itt G.K a) F ds where
  go := fun i H e hi => by
    have hl := r.len
    exact ⟨vs, vs[i]'(by omega), .of (e.at h), by simp [hl, hi]⟩
  stop := fun i H e hi => ⟨vs, .of (e.at h), by rw [r.len]; exact hi⟩
  yld := fun i H v H' d F1 e1 e2 hd ⟨h1, h2⟩ => by
    subst h1
    obtain ⟨w, q1, q2⟩ := r.at hd
    have q := h2 vs (.of (e2.at (e1.at h)))
    rw [q1] at q
    cases q
    exact ⟨F1, .refl e2, q2.mono e1⟩
theorem y_str {s : Str} : Yields G (Its s) F (s.cps.toList.map fun c => .str ⟨#[c]⟩) where
  go := fun i H e hi => by rw [List.length_map, Array.length_toList] at hi; exact hi
  stop := fun i H e hi => by rw [List.length_map, Array.length_toList] at hi; exact hi
  yld := fun i H v H' d F1 e1 e2 hd ⟨h1, c, h2, h3⟩ => by
    subst h1 h3
    rw [List.getElem?_map, Array.getElem?_toList, h2] at hd
    cases hd
    exact ⟨F1, .refl e2, .str _⟩
theorem numbered_get : ∀ {ds : List D} {lo : Int} {i : Nat} {d}, (numbered lo ds)[i]? = some d → ∃ d', ds[i]? = some d' ∧ d = .tup [.int (lo + i), d']
  | [], lo, i, d, h => by simp [numbered] at h
  | d0 :: ds, lo, 0, d, h => by simp [numbered] at h; exact ⟨d0, rfl, by simp [h]⟩
  | d0 :: ds, lo, i + 1, d, h => by
    have h : (numbered (lo + 1) ds)[i]? = some d := by simpa [numbered] using h
    obtain ⟨d', h1, h2⟩ := numbered_get h
    exact ⟨d', by simpa using h1, by rw [h2]; congr 3; omega⟩
theorem numbered_len : ∀ (ds : List D) (lo : Int), (numbered lo ds).length = ds.length
  | [], _ => rfl
  | _ :: ds, lo => by simp [numbered, numbered_len ds]
theorem y_enum {a : Addr} {vs : List V} {ds : List D} (h : F a = some (.lst vs)) (r : IsDs G F vs ds) : Yields G (Ite G.K a) F (numbered 0 ds) where
  go := fun i H e hi => by
    rw [numbered_len] at hi
    have hl := r.len
    exact ⟨vs, vs[i]'(by omega), .of (e.at h), by simp [hl, hi]⟩
  stop := fun i H e hi => ⟨vs, .of (e.at h), by rw [numbered_len] at hi; rw [r.len]; exact hi⟩
  yld := fun i H v H' d F1 e1 e2 hd ⟨T, y, h1, h2, h3, h4⟩ => by
    subst h1 h3
    obtain ⟨d', g1, rfl⟩ := numbered_get hd
    obtain ⟨w, q1, q2⟩ := r.at g1
    have q := h4 vs (.of (e2.at (e1.at h)))
    rw [q1] at q
    cases q
    refine ⟨_, .newF e2 h2, .tup upd_same (.cons ?_ (.cons ((q2.mono e1).mono (.new (e2.none h2))) .nil))⟩
    rw [Int.zero_add]
    exact .int _
theorem ranged_get : ∀ {n : Nat} {lo : Int} {i : Nat} {d}, (ranged lo n)[i]? = some d → i < n ∧ d = .int (lo + i)
  | 0, lo, i, d, h => by simp [ranged] at h
  | n + 1, lo, 0, d, h => by simp [ranged] at h; exact ⟨by omega, by simp [h]⟩
  | n + 1, lo, i + 1, d, h => by
    have h : (ranged (lo + 1) n)[i]? = some d := by simpa [ranged] using h
    obtain ⟨h1, h2⟩ := ranged_get h
    exact ⟨by omega, by rw [h2]; congr 1; omega⟩
theorem ranged_len : ∀ (n : Nat) (lo : Int), (ranged lo n).length = n
  | 0, _ => rfl
  | n + 1, lo => by simp [ranged, ranged_len n]
theorem y_range {lo : Int} {n : Nat} : Yields G (Itr lo n) F (ranged lo n) where
  go := fun i H e hi => by rw [ranged_len] at hi; exact hi
  stop := fun i H e hi => by rw [ranged_len] at hi; exact hi
  yld := fun i H v H' d F1 e1 e2 hd ⟨h1, h2⟩ => by
    subst h1 h2
    obtain ⟨_, rfl⟩ := ranged_get hd
    exact ⟨F1, .refl e2, .int _⟩
/-- the reading of what is walked -/
def tI (G : Gd) (cl : Cl) (ini : Nat → Option Nat) (W : WX) (it : Ow.It) : TI := fun σ H R => ∃ F A δ, Stt G F H σ δ A ∧ Out G W σ F H A (evi cl ini it δ) fun ds δ' => ∀ F' H' A' J, Nx F H A F' H' A' → IsE G F' H' σ δ' A' → A'.Nodup → Yields G J F' ds → R J H'
variable {tg : Expr} {W : WX}
theorem si_list (hK : X.K = G.K) (h : PE X x (tE G cl ini W a)) : PI X tg x (tI G cl ini W (.seq .l a)) := by
  refine ⟨fun pins s σ H R I q => (pi_list h).run pins s σ H R I ?_⟩
  obtain ⟨F, A, δ, st, o⟩ := q
  simp only [evi] at o
  refine ⟨F, A, δ, st, (out_bnd o).imp fun o1 δ1 m v F1 H1 A1 B n1 e1 i1 nd1 => ?_⟩
  obtain ⟨ds, er, m⟩ := out_lift m
  obtain ⟨F2, n2, e2, d2, z⟩ := fz n1 e1 i1 nd1
  generalize frz o1 = d at d2 er
  cases d2 with
  | lst h1 r => cases er; exact ⟨_, rfl, ⟨_, .of (n2.fh.at h1)⟩, hK ▸ m F2 H1 A1 _ n2 e2 (nodup_app nd1) (y_list h1 r)⟩
  | _ => cases er
theorem si_tup (hK : X.K = G.K) (h : PE X x (tE G cl ini W a)) : PI X tg x (tI G cl ini W (.seq .t a)) := by
  refine ⟨fun pins s σ H R I q => (pi_tup h).run pins s σ H R I ?_⟩
  obtain ⟨F, A, δ, st, o⟩ := q
  simp only [evi] at o
  refine ⟨F, A, δ, st, (out_bnd o).imp fun o1 δ1 m v F1 H1 A1 B n1 e1 i1 nd1 => ?_⟩
  obtain ⟨ds, er, m⟩ := out_lift m
  obtain ⟨F2, n2, e2, d2, z⟩ := fz n1 e1 i1 nd1
  generalize frz o1 = d at d2 er
  cases d2 with
  | tup h1 r => cases er; exact ⟨_, rfl, ⟨_, .of (n2.fh.at h1)⟩, hK ▸ m F2 H1 A1 _ n2 e2 (nodup_app nd1) (y_tup h1 r)⟩
  | _ => cases er
theorem si_str (h : PE X x (tE G cl ini W a)) : PI X tg x (tI G cl ini W (.seq .s a)) := by
  refine ⟨fun pins s σ H R I q => (pi_str h).run pins s σ H R I ?_⟩
  obtain ⟨F, A, δ, st, o⟩ := q
  simp only [evi] at o
  refine ⟨F, A, δ, st, (out_bnd o).imp fun o1 δ1 m v F1 H1 A1 B n1 e1 i1 nd1 => ?_⟩
  obtain ⟨ds, er, m⟩ := out_lift m
  obtain ⟨F2, n2, e2, d2, z⟩ := fz n1 e1 i1 nd1
  generalize frz o1 = d at d2 er
  cases d2 with
  | str s =>
    simp only [itemsOf] at er
    split at er
    case isFalse => cases er
    cases er
    exact ⟨_, rfl, m F2 H1 A1 _ n2 e2 (nodup_app nd1) y_str⟩
  | _ => cases er
end
end Ow
end OwZ_
section OxA_
set_option Elab.async false
set_option linter.all false
set_option maxRecDepth 100000
set_option maxHeartbeats 4000000
namespace Ow
open PySem PySem.Spec PyProof.Rows L2
variable [TQ]
section
variable {G : Gd} {cl : Cl} {ini : Nat → Option Nat} {E : XK} {X : Cx} {σ : L2.St} {F F1 F2 H H1 H2 : Hp} {A A1 A2 B : List Addr} {x y z : Expr} {a b c : Ow.E} {pos : Pos} {k : Nat} {tg : Expr} {W : WX}
/-! ### range, enumerate -/
theorem si_range1 {p : Pos} (hg : Gl X "range") (hm : X.mg "range" = none) (h : PE X x (tE G cl ini W a)) (h0 : starEach [x] X.env = (false, eval x X.env) :: starEach [] X.env := by rfl) (hs : starEach [x] X.env = [(false, eval x X.env)] := by rfl) :
    PI X tg (.Call (.Name "range" p) [x] [] pos) (tI G cl ini W (.range1 a)) := by
  refine ⟨fun pins s σ H R I q => (pi_range1 hg hm (pa_cons h pa_nil h0) hs).run pins s σ H R I ?_⟩
  obtain ⟨F, A, δ, st, o⟩ := q
  simp only [evi] at o
  refine ⟨F, A, δ, st, (out_bnd o).imp fun o1 δ1 m v F1 H1 A1 B n1 e1 i1 nd1 => ?_⟩
  obtain ⟨xs, er, m⟩ := out_lift m
  obtain ⟨F2, n2, e2, d2, z⟩ := fz n1 e1 i1 nd1
  generalize frz o1 = d at d2 er
  cases d2 with
  | int n =>
    simp only at er
    split at er
    case isFalse => cases er
    rename_i hl
    cases er
    have hsm : (sm : Int) = 1000000 := rfl
    exact ⟨_, rfl, by omega, by omega, m F2 H1 A1 _ n2 e2 (nodup_app nd1) y_range⟩
  | _ => cases er
theorem si_range2 {p : Pos} (hg : Gl X "range") (hm : X.mg "range" = none) (h : PE X x (tE G cl ini W a)) (h' : PE X y (tE G cl ini W b)) (h1 : starEach [x, y] X.env = (false, eval x X.env) :: starEach [y] X.env := by rfl) (h0 : starEach [y] X.env = (false, eval y X.env) :: starEach [] X.env := by rfl)
    (hs : starEach [x, y] X.env = [(false, eval x X.env), (false, eval y X.env)] := by rfl) (hs2 : starEach [y] X.env = [(false, eval y X.env)] := by rfl) :
    PI X tg (.Call (.Name "range" p) [x, y] [] pos) (tI G cl ini W (.range2 a b)) := by
  refine ⟨fun pins s σ H R I q => (pi_range2 hg hm (pa_cons h (pa_cons h' pa_nil h0) h1) hs hs2).run pins s σ H R I ?_⟩
  obtain ⟨F, A, δ, st, o⟩ := q
  simp only [evi] at o
  refine ⟨F, A, δ, st, (out_bnd o).imp fun o1 δ1 m v F1 H1 A1 B n1 e1 i1 nd1 => ?_⟩
  obtain ⟨F1', n1', e1', d1, z⟩ := fz n1 e1 i1 nd1
  refine ⟨F1', A1, δ1, ⟨st.b0.trans n1'.ff, n1'.fh, e1', nodup_app nd1⟩, ((out_bnd m).from n1').imp fun o2 δ2 m2 v2 F2 H2 A2 B2 n2 e2 i2 nd2 => ?_⟩
  obtain ⟨F2', n2', e2', d2, z2⟩ := fz n2 e2 i2 nd2
  obtain ⟨xs, er, m3⟩ := out_lift m2
  generalize frz o1 = da at d1 er
  generalize frz o2 = db at d2 er
  cases d1 with
  | int n =>
    cases d2 with
    | int n' =>
      simp only at er
      split at er
      case isFalse => cases er
      rename_i hl
      cases er
      have hsm : (sm : Int) = 1000000 := rfl
      exact ⟨_, _, rfl, ⟨by omega, by omega, by omega, by omega⟩, m3 F2' H2 A2 _ (n1'.trans n2') e2' (nodup_app nd2) y_range⟩
    | _ => cases er
  | _ => cases er
theorem out_enum {ds : List D} {δ : Env} {K : List D → Env → Prop} (h : Out G W σ F H A ((if (0 : Int) = 0 then ret (numbered 0 ds) else fails) δ) K) : K (numbered 0 ds) δ := h
theorem si_enum {p tpos : Pos} {elts : List Expr} {kk : Nat} (hK : X.K = G.K) (hg : Gl X "enumerate") (hm : X.mg "enumerate" = none) (h : PE X x (tE G cl ini W a)) (h0 : starEach [x] X.env = (false, eval x X.env) :: starEach [] X.env := by rfl) (hs : starEach [x] X.env = [(false, eval x X.env)] := by rfl) :
    PI X (.Tuple elts kk tpos) (.Call (.Name "enumerate" p) [x] [] pos) (tI G cl ini W (.enum a 0)) := by
  refine ⟨fun pins s σ H R I q => (pi_enum hg hm (pa_cons h pa_nil h0) hs).run pins s σ H R I ?_⟩
  obtain ⟨F, A, δ, st, o⟩ := q
  simp only [evi] at o
  refine ⟨F, A, δ, st, (out_bnd o).imp fun o1 δ1 m v F1 H1 A1 B n1 e1 i1 nd1 => ?_⟩
  obtain ⟨xs, er, m⟩ := out_lift (out_bnd m)
  obtain ⟨F2, n2, e2, d2, z⟩ := fz n1 e1 i1 nd1
  generalize frz o1 = d at d2 er
  cases d2 with
  | lst h1 r =>
    cases er
    have m := out_enum m
    exact ⟨_, _, rfl, hK ▸ (SqL.of (n2.fh.at h1) : SqL G.K _ _ _), hK ▸ m F2 H1 A1 _ n2 e2 (nodup_app nd1) (y_enum h1 r)⟩
  | _ => cases er
/-! ### tests of a comprehension -/
def tTs (G : Gd) (cl : Cl) (ini : Nat → Option Nat) (W : WX) (es : Es) : TT := fun σ H Q => ∃ F A δ, Stt G F H σ δ A ∧ Out G W σ F H A (evt cl ini es δ) fun b δ' => EndB G σ F H A b δ' Q
theorem sts_nil : PTs X [] (tTs G cl ini W .nil) := by
  refine ⟨fun pins s σ H Q I q => pts_nil.run pins s σ H Q I ?_⟩
  obtain ⟨F, A, δ, st, o⟩ := q
  exact (show EndB G σ F H A true δ Q from o) F H A (.refl st.ex) st.env st.nd
theorem sts_one (h : PT X x (tT G cl ini W a)) : PTs X [x] (tTs G cl ini W (.cons a .nil)) := by
  refine ⟨fun pins s σ H Q I q => (pts_one h).run pins s σ H Q I ?_⟩
  obtain ⟨F, A, δ, st, o⟩ := q
  have e : evt cl ini (.cons a .nil) = bnd (bnd (ev cl ini a) truthM) fun t => if t = true then ret true else ret false := by
    simp only [evt, bnd_bnd]
  rw [e] at o
  refine ⟨F, A, δ, st, (out_bnd o).imp fun b δ1 m => ?_⟩
  cases b <;> exact m
/-! ### comprehensions -/
theorem take_ok {pin : List Nat} {σ : L2.St} : ∀ {t : Tg} {d : D} {δ : Env} {K : Unit → Env → Prop}, Out G W σ F H A (take pin t d δ) K → ∃ δ', take pin t d δ = some (.ok () δ') ∧ K () δ' := by
  have one : ∀ {i : Nat} {o : O} {δ : Env} {K : Unit → Env → Prop}, Out G W σ F H A (setS pin i o δ) K → ∃ δ', setS pin i o δ = some (.ok () δ') ∧ K () δ' := by
    intro i o δ K h
    unfold setS at h ⊢
    split at h
    · exact h.elim
    · rename_i q
      rw [if_neg q]
      exact ⟨_, rfl, h⟩
  have many : ∀ {is : List Nat} {ds : List D} {δ : Env} {K : Unit → Env → Prop}, Out G W σ F H A (setSs pin is ds δ) K → ∃ δ', setSs pin is ds δ = some (.ok () δ') ∧ K () δ' := by
    intro is
    induction is with
    | nil =>
      intro ds δ K h
      cases ds with
      | nil => exact ⟨δ, rfl, h⟩
      | cons _ _ => exact h.elim
    | cons i is ih =>
      intro ds δ K h
      cases ds with
      | nil => exact h.elim
      | cons d ds =>
        have h : Out G W σ F H A (bnd (setS pin i (.fr d)) (fun _ => setSs pin is ds) δ) K := h
        obtain ⟨δ1, e1, h1⟩ := one (out_bnd h)
        obtain ⟨δ2, e2, h2⟩ := ih h1
        refine ⟨δ2, ?_, h2⟩
        show bnd (setS pin i (.fr d)) (fun _ => setSs pin is ds) δ = _
        unfold bnd
        rw [e1]
        exact e2
  intro t d δ K h
  cases t with
  | one i => exact one h
  | many is =>
    cases d <;> first | exact many h | exact h.elim
/-- what is ours and not taken part in -/
theorem keepD {D : Addr} {o : HO} (n : Nx F1 H1 A1 F2 H2 A2) (f : F1 D = none) (h : H1 D = some o) (m : D ∉ A1) (t : ∀ ps, o ≠ spc ps) : F2 D = none ∧ H2 D = some o ∧ D ∉ A2 := by
  obtain ⟨h1, f1, m1⟩ := n.fr D o h f m t
  exact ⟨f1, h1, m1⟩
theorem nodup_snoc {D : Addr} (h : A.Nodup) (m : D ∉ A) : (A ++ [D]).Nodup := List.nodup_append.mpr ⟨h, by simp, fun a q b q' z => by
  simp at q'
  subst q' z
  exact m q⟩
theorem out_wipe {is : List Nat} {δ : Env} {K : Unit → Env → Prop} (h : Out G W σ F H A (wipeM is δ) K) : is.all (slotD δ) = true ∧ K () (wipeS is δ) := by
  unfold wipeM at h
  split at h
  · rename_i q; exact ⟨q, h⟩
  · exact h.elim
theorem out_block {α : Type} {is : List Nat} {m : M α} {δ : Env} {K : α → Env → Prop} (h : Out G W σ F H A (block is m δ) K) : is.all (slotD δ) = true ∧ Out G W σ F H A (m (wipeS is δ)) fun a δ' => is.all (slotD δ') = true ∧ K a (backS is δ δ') := by
  unfold block at h
  split at h
  case isFalse => exact h.elim
  rename_i q
  refine ⟨q, ?_⟩
  cases e : m (wipeS is δ) with
  | none => rw [e] at h; exact h.elim
  | some r =>
    rw [e] at h
    cases r with
    | ex x => exact h
    | ok a δ' =>
      dsimp only at h
      split at h
      · rename_i q2; exact ⟨q2, h⟩
      · exact h.elim
theorem out_sg {α : Type} {σ σ' : L2.St} {r : Option (Rs α)} {K : α → Env → Prop} (h : Out G (WE E) σ F H A r K) : Out G (WE E) σ' F H A r K := h
theorem sm_size : sm < sizeLine := by decide
/-- what a block does with one thing that it walks -/
def lcB (cl : Cl) (ini : Nat → Option Nat) (a : Ow.E) (t : Tg) (cs : Es) : D → M (Option D) := fun d => bnd (wipeM t.slots) fun _ => bnd (take [] t d) fun _ => bnd (evt cl ini cs) fun b => if b then bnd (ev cl ini a) fun o => ret (some (frz o)) else ret none
theorem isds_snoc {vs : List V} {ds : List D} {v : V} {d : D} (h : IsDs G F vs ds) (h' : IsD G F v d) : IsDs G F (vs ++ [v]) (ds ++ [d]) := by
  induction vs generalizing ds with
  | nil => cases h; exact .cons h' .nil
  | cons _ _ ih => cases h with | cons h1 h2 => exact .cons h1 (ih h2)
theorem Agree.trans {is : List Nat} {σ1 σ2 σ3 : L2.St} (h : Agree is σ1 σ2) (h' : Agree is σ2 σ3) : Agree is σ1 σ3 := ⟨h'.1.trans h.1, fun i hi => (h'.2 i hi).trans (h.2 i hi)⟩
/-- a comprehension between two of its turns -/
def LcI (G : Gd) (E : XK) (f : D → M (Option D)) (t : Tg) (ds : List D) (σ : L2.St) (F H : Hp) (A : List Addr) (F1 : Hp) (δ1 : Env) (Q : VK) (D0 : Addr) (i : Nat) (H' : Hp) : Prop :=
  ∃ F' A' δ' σ' acc accd, Nx F H A F' H' (A' ++ [D0]) ∧ Ex F1 F' ∧ Agree t.slots σ σ' ∧ IsE G F' H' σ' δ' A' ∧ (A' ++ [D0]).Nodup ∧ F' D0 = none ∧ H' D0 = some (.lst acc) ∧ IsDs G F' acc accd ∧ accd.length ≤ i ∧
    Out G (WE E) σ F H A (each f (ds.drop i) δ') fun r δ2 => t.slots.all (slotD δ2) = true ∧ EndO G σ F H A (.ml ((accd ++ r).map .fr)) (backS t.slots δ1 δ2) Q
theorem each_nil {α : Type} (f : D → M (Option α)) : each f [] = ret [] := by unfold each; rfl
theorem each_cons {α : Type} (f : D → M (Option α)) (d : D) (ds : List D) : each f (d :: ds) = bnd (f d) fun o => bnd (each f ds) fun r => ret (o.toList ++ r) := by
  conv => lhs; unfold each
  congr 1
  funext o
  cases o <;> rfl
theorem lc_rd {t : Tg} {it : Ow.It} {cs : Es} {Q : VK} (q : tE G cl ini (WE E) (.lc a t it cs) σ H Q) : tLc (tI G cl ini (WE E) it) (gT G t) (tTs G cl ini (WE E) cs) (tE G cl ini (WE E) a) t.slots σ H Q := by
  obtain ⟨F, A, δ, st, o⟩ := q
  simp only [ev] at o
  refine ⟨F, A, δ, st, (out_bnd o).imp fun ds δ1 m F1 H1 A1 J n1 e1 nd1 y D0 hD => ?_⟩
  split at m
  case isFalse => exact m.elim
  rename_i hl
  obtain ⟨a0, m⟩ := out_block m
  have m : Out G (WE E) σ F H A (bnd (each (lcB cl ini a t cs) ds) (fun xs => ret (.ml (xs.map .fr))) (wipeS t.slots δ1)) fun a δ' => t.slots.all (slotD δ') = true ∧ EndO G σ F H A a (backS t.slots δ1 δ') Q := m
  have fD : F1 D0 = none := n1.fh.none hD
  have nD : D0 ∉ A1 := fun z => by
    obtain ⟨_, u, h⟩ := e1.own D0 z
    rw [hD] at h
    cases h
  refine ⟨fun i mm H' => mm = ds.length - i ∧ i ≤ ds.length ∧ LcI G E (lcB cl ini a t cs) t ds σ F H A F1 δ1 Q D0 i H', ⟨ds.length, rfl, Nat.zero_le _, F1, A1, wipeS t.slots δ1, wipe σ t.slots, [], [], ?_, .refl _, wipe_agree σ _, ?_, nodup_snoc nd1 nD, fD, upd_same, .nil, Nat.le_refl _, ?_⟩, ?_⟩
  · exact (n1.trans (Nx.new n1.fh hD)).sub fun a m => by simpa [or_comm] using m
  · exact (e1.wipe a0).frame (.refl _) fun a m => ⟨upd_ne fun z => nD (z ▸ m), (e1.own a m).1⟩
  · exact (out_bnd m).imp fun r δ2 k => k
  · rintro i mm H2 ⟨rfl, hi, F2, A2, δ2, σ2, acc, accd, n2, x2, g2, e2, nd2, f2, h2, d2, l2, o2⟩
    have nD2 : D0 ∉ A2 := fun z => (List.nodup_append.mp nd2).2.2 D0 z D0 (by simp) rfl
    rcases Nat.lt_or_ge i ds.length with hlt | hge
    · refine .inr ⟨y.go i H2 (x2.trans n2.fh) hlt, LcI G E (lcB cl ini a t cs) t ds σ F H A F1 δ1 Q D0 (i + 1), fun H3 w => ⟨_, by omega, rfl, hlt, w⟩, fun x H3 yh => ?_⟩
      have hd : ds[i]? = some ds[i] := by simp [hlt]
      rw [List.drop_eq_getElem_cons hlt] at o2
      generalize ds[i] = d at hd o2
      generalize hr : ds.drop (i + 1) = rest at o2
      rw [each_cons] at o2
      have o2 := out_bnd o2
      obtain ⟨a1, o3⟩ := out_wipe (out_bnd (show Out G (WE E) σ F H A (bnd (wipeM t.slots) (fun _ => bnd (take [] t d) fun _ => bnd (evt cl ini cs) fun b => if b then bnd (ev cl ini a) fun o => ret (some (frz o)) else ret none) δ2) _ from o2))
      obtain ⟨δ3, tk, o4⟩ := take_ok (out_bnd o3)
      obtain ⟨F3, n3, dv⟩ := y.yld i H2 x H3 d F2 x2 n2.fh hd yh
      obtain ⟨h3, f3, _⟩ := n3.fr D0 _ h2 f2 (fun z => nomatch z) (fun ps z => by cases ps <;> cases z)
      have e3 := (e2.thru n3 fun _ _ z => nomatch z).wipe a1
      rw [g2.wipe_eq] at e3
      refine tgRd n3.fh e3 (List.nodup_append.mp nd2).1 dv tk fun σ4 A4 e4 nd4 sub4 g4 _ => ⟨by rw [g4.wipe_eq, (wipe_agree σ _).wipe_eq], ?_⟩
      have n4 : Nx F H A F3 H3 (A4 ++ [D0]) := (Nx.tmp (A1 := []) (B := A2 ++ [D0]) n2 n3).sub fun b m => by
        rcases List.mem_append.mp m with m | m
        · simp [sub4 b m]
        · simp at m; simp [m]
      have nD4 : D0 ∉ A4 := fun z => nD2 (sub4 _ z)
      refine ⟨F3, A4, δ3, ⟨st.b0.trans n4.ff, n4.fh, e4, nd4⟩, ((out_sg (out_bnd o4)).from n4.left).imp fun b δ5 m5 F5 H5 A5 n5 e5 nd5 => ?_⟩
      obtain ⟨f5, h5, nD5⟩ := keepD n5 f3 h3 nD4 (fun ps z => by cases ps <;> cases z)
      have n5' := n4.tmp n5
      have x5 : Ex F1 F5 := (x2.trans n3.ff).trans n5.ff
      cases b with
      | false =>
        have m5 := out_bnd (show Out G (WE E) σ F H A (bnd (each (lcB cl ini a t cs) rest) (fun r => ret r) δ5) _ from m5)
        exact ⟨F5, A5, δ5, σ4, acc, accd, n5', x5, (wipe_agree σ _).trans g4, e5, nodup_snoc nd5 nD5, f5, h5, (d2.mono n3.ff).mono n5.ff, by omega, by rw [hr]; exact m5.imp fun r δ6 k => k⟩
      | true =>
        simp only [if_true] at m5 ⊢
        refine ⟨F5, A5, δ5, ⟨st.b0.trans n5'.ff, n5'.fh, e5, nd5⟩, ((out_sg (out_bnd m5)).from n5'.left).imp fun o δ6 m6 v F6 H6 A6 B6 n6 e6 i6 nd6 => ?_⟩
        obtain ⟨F7, n7, e7, d7, z7⟩ := fz n6 e6 i6 nd6
        obtain ⟨f7, h7, nD7⟩ := keepD n7 f5 h5 nD5 (fun ps z => by cases ps <;> cases z)
        have m6 := out_bnd (show Out G (WE E) σ F H A (bnd (each (lcB cl ini a t cs) rest) (fun r => ret (frz o :: r)) δ6) _ from m6)
        have la : acc.length = accd.length := d2.len
        refine ⟨acc, h7, by have := sm_size; omega, F7, A6, δ6, σ4, acc ++ [v], accd ++ [frz o], (n5'.tmp n7).trans (Nx.mut n7.fh f7 (by simp)), x5.trans n7.ff, (wipe_agree σ _).trans g4, e7.frame (.refl _) (fun a m => ⟨upd_ne fun z => nD7 (z ▸ m), (e7.own a m).1⟩), nodup_snoc (nodup_app nd6) nD7, f7, upd_same, isds_snoc (((d2.mono n3.ff).mono n5.ff).mono n7.ff) d7, by simp; omega, ?_⟩
        rw [hr]
        refine m6.imp fun r δ8 k => ?_
        rw [List.append_assoc]
        exact k
    · refine .inl ⟨y.stop i H2 (x2.trans n2.fh) hge, ?_⟩
      rw [List.drop_of_length_le hge] at o2
      rw [each_nil] at o2
      obtain ⟨a2, o2⟩ := (show t.slots.all (slotD δ2) = true ∧ EndO G σ F H A (.ml ((accd ++ []).map .fr)) (backS t.slots δ1 δ2) Q from out_ret o2)
      have eb := e1.back x2 (F := F2) (H := H2) a0 a2 e2
      rw [foldr_back g2, ] at eb
      rw [List.append_nil] at o2
      exact o2 (.ref D0) F2 H2 A2 [D0] n2 eb (.ml f2 h2 (is_frs d2)) nd2
theorem se_lc {t : Tg} {it : Ow.It} {cs : Es} {iter elt : Expr} {ifs : List Expr} {scope : Scope} {own : List (Str × Nat)} (px : Px X E) (hc : X.calm = true) (hN : X.N.Nodup) (hi : PI X tg iter (tI G cl ini (WE E) it)) (ok : BlkOk X.N X.env.scope scope own) (hv : own.map (·.2) = t.slots)
    (hg : ∀ (s : Shared) (H : Hp) (C : Addr) (c : List (Str × Addr)) (fp : List Addr) (W : Value → Shared → Prop), PG (blkX X s H scope (compEnvC scope c C X.env) fp W) tg (gT G t))
    (ht : ∀ (s : Shared) (H : Hp) (C : Addr) (c : List (Str × Addr)) (fp : List Addr) (W : Value → Shared → Prop), Px (blkX X s H scope (compEnvC scope c C X.env) fp W) E → PTs (blkX X s H scope (compEnvC scope c C X.env) fp W) ifs (tTs G cl ini (WE E) cs))
    (he : ∀ (s : Shared) (H : Hp) (C : Addr) (c : List (Str × Addr)) (fp : List Addr) (W : Value → Shared → Prop), Px (blkX X s H scope (compEnvC scope c C X.env) fp W) E → PE (blkX X s H scope (compEnvC scope c C X.env) fp W) elt (tE G cl ini (WE E) a)) (hs : ∀ x, foldedSetIterable iter X.env x = pure x := by intro _; rfl) :
    PE X (.ListComp elt [⟨tg, iter, ifs, 0⟩] scope pos) (tE G cl ini (WE E) (.lc a t it cs)) := by
  refine ⟨fun pins s σ H Q I q => (pe_lcX px hc hN hi ok hg ht he hs).run pins s σ H Q I ?_⟩
  rw [hv]
  exact lc_rd q
end
end Ow
end OxA_
section OxB_
set_option Elab.async false
set_option linter.all false
set_option maxRecDepth 100000
set_option maxHeartbeats 4000000
/-! Statements. -/
namespace Ow
open PySem PySem.Spec PyProof.Rows L2
variable [TQ]
/-- the pinned slots stay -/
def Keep (pin : List Nat) (σ σ' : L2.St) : Prop := σ'.length = σ.length ∧ ∀ i ∈ pin, σ'[i]? = σ[i]?
theorem Keep.refl {pin : List Nat} {σ : L2.St} : Keep pin σ σ := ⟨rfl, fun _ _ => rfl⟩
theorem Keep.trans {pin : List Nat} {σ1 σ2 σ3 : L2.St} (h : Keep pin σ1 σ2) (h' : Keep pin σ2 σ3) : Keep pin σ1 σ3 := ⟨h'.1.trans h.1, fun i hi => (h'.2 i hi).trans (h.2 i hi)⟩
theorem Keep.set {pin : List Nat} {σ : L2.St} {i : Nat} {v : Option V} (h : i ∉ pin) : Keep pin σ (σ.set i v) := ⟨by simp, fun j hj => by
  rw [List.getElem?_set_ne]
  intro z
  exact h (z ▸ hj)⟩
theorem Keep.agree {pin is : List Nat} {σ σ' : L2.St} (h : Agree is σ σ') (d : ∀ i ∈ pin, i ∉ is) : Keep pin σ σ' := ⟨h.1, fun i hi => h.2 i (d i hi)⟩
section
variable (G : Gd) (pin : List Nat)
def EndN (F H : Hp) (A : List Addr) (σ : L2.St) (δ : Env) (R : L2.St → Hp → Prop) : Prop := ∀ σ' F' H' A', Nx F H A F' H' A' → IsE G F' H' σ' δ A' → A'.Nodup → Keep pin σ σ' → R σ' H'
def EndR (F H : Hp) (A : List Addr) (σ : L2.St) (o : O) (δ : Env) (Q : VK) : Prop := ∀ v σ' F' H' A' B, Nx F H A F' H' (A' ++ B) → IsE G F' H' σ' δ A' → IsO G F' H' v o B → (A' ++ B).Nodup → Keep pin σ σ' → Q v H'
def EndF (F H : Hp) (A : List Addr) (σ : L2.St) (fl : Fl) (δ : Env) (D : Ends) : Prop := match fl with
  | .nx => EndN G pin F H A σ δ D.nx
  | .bk => EndN G pin F H A σ δ D.bk
  | .ct => EndN G pin F H A σ δ D.ct
  | .rt o => EndR G pin F H A σ o δ D.rt
def tS (cl : Cl) (ini : Nat → Option Nat) (E : XK) (m : M Fl) : TS := fun D σ H => ∃ F A δ, Stt G F H σ δ A ∧ Out G (WE E) σ F H A (m δ) fun fl δ' => EndF G pin F H A σ fl δ' D
end
section
variable {G : Gd} {pin : List Nat} {cl : Cl} {ini : Nat → Option Nat} {E : XK} {X : Cx} {σ σ1 : L2.St} {F F1 F2 H H1 H2 : Hp} {A A1 A2 B : List Addr} {x y z : Expr} {a b c : Ow.E} {pos : Pos} {k : Nat} {tg : Expr} {D0 : Ends} {δ : Env}
theorem EndN.from {R : L2.St → Hp → Prop} (h : EndN G pin F H A σ δ R) (n : Nx F H A F1 H1 A1) (k : Keep pin σ σ1) : EndN G pin F1 H1 A1 σ1 δ R := fun σ' F' H' A' n' e nd k' => h σ' F' H' A' (n.trans n') e nd (k.trans k')
theorem EndR.from {o : O} {Q : VK} (h : EndR G pin F H A σ o δ Q) (n : Nx F H A F1 H1 A1) (k : Keep pin σ σ1) : EndR G pin F1 H1 A1 σ1 o δ Q := fun v σ' F' H' A' B n' e i nd k' => h v σ' F' H' A' B (n.trans n') e i nd (k.trans k')
theorem EndF.from {fl : Fl} (h : EndF G pin F H A σ fl δ D0) (n : Nx F H A F1 H1 A1) (k : Keep pin σ σ1) : EndF G pin F1 H1 A1 σ1 fl δ D0 := by
  cases fl with
  | nx => exact EndN.from h n k
  | bk => exact EndN.from h n k
  | ct => exact EndN.from h n k
  | rt o => exact EndR.from h n k
theorem EndF.nx (h : EndF G pin F H A σ .nx δ D0) : EndN G pin F H A σ δ D0.nx := h
theorem stt (st : L2.St) : True := trivial
/-! ### small statements -/
theorem ss_pass : PS X (.Pass pos) (tS G pin cl ini E (exec cl ini pin .pass)) := by
  refine ⟨fun pins s σ H D I q => ps_pass.run pins s σ H D I ?_⟩
  obtain ⟨F, A, δ, st, o⟩ := q
  simp only [exec] at o
  exact (out_ret o).nx σ F H A (.refl st.ex) st.env st.nd .refl
theorem ss_break : PS X (.Break pos) (tS G pin cl ini E (exec cl ini pin .brk)) := by
  refine ⟨fun pins s σ H D I q => ps_break.run pins s σ H D I ?_⟩
  obtain ⟨F, A, δ, st, o⟩ := q
  simp only [exec] at o
  exact (show EndN G pin F H A σ δ D.bk from out_ret o) σ F H A (.refl st.ex) st.env st.nd .refl
theorem ss_cont : PS X (.Continue pos) (tS G pin cl ini E (exec cl ini pin .cont)) := by
  refine ⟨fun pins s σ H D I q => ps_continue.run pins s σ H D I ?_⟩
  obtain ⟨F, A, δ, st, o⟩ := q
  simp only [exec] at o
  exact (show EndN G pin F H A σ δ D.ct from out_ret o) σ F H A (.refl st.ex) st.env st.nd .refl
theorem ss_doc {s : Str} {j pos'} : PS X (.Expr (.Constant (.str s) j pos') pos) (tS G pin cl ini E (exec cl ini pin .pass)) := by
  refine ⟨fun pins s σ H D I q => ps_doc.run pins s σ H D I ?_⟩
  obtain ⟨F, A, δ, st, o⟩ := q
  simp only [exec] at o
  exact (out_ret o).nx σ F H A (.refl st.ex) st.env st.nd .refl
theorem ss_exp (h : PE X x (tE G cl ini (WE E) a)) (hs : swapsWith x none pos.line X.env = pure false := by rfl) : PS X (.Expr x pos) (tS G pin cl ini E (exec cl ini pin (.exp a))) := by
  refine ⟨fun pins s σ H D I q => (ps_expr h hs).run pins s σ H D I ?_⟩
  obtain ⟨F, A, δ, st, o⟩ := q
  simp only [exec] at o
  exact ⟨F, A, δ, st, (out_bnd o).imp fun o δ' m v F' H' A' B n e i nd => (out_ret m).nx σ F' H' A' n.left e (nodup_app nd) .refl⟩
theorem ss_retN : PS X (.Return none pos) (tS G pin cl ini E (exec cl ini pin .rtN)) := by
  refine ⟨fun pins s σ H D I q => ps_retN.run pins s σ H D I ?_⟩
  obtain ⟨F, A, δ, st, o⟩ := q
  simp only [exec] at o
  exact (show EndR G pin F H A σ (.fr .non) δ D.rt from out_ret o) .non σ F H A [] (by rw [List.append_nil]; exact .refl st.ex) st.env (.fr .non) (by rw [List.append_nil]; exact st.nd) .refl
theorem ss_ret (h : PE X x (tE G cl ini (WE E) a)) : PS X (.Return (some x) pos) (tS G pin cl ini E (exec cl ini pin (.rt false a))) := by
  refine ⟨fun pins s σ H D I q => (ps_ret h).run pins s σ H D I ?_⟩
  obtain ⟨F, A, δ, st, o⟩ := q
  simp only [exec] at o
  have o : Out G (WE E) σ F H A (bnd (ev cl ini a) (fun o => ret (Fl.rt o)) δ) _ := o
  exact ⟨F, A, δ, st, (out_bnd o).imp fun o δ' m v F' H' A' B n e i nd => (show EndR G pin F H A σ o δ' D.rt from out_ret m) v σ F' H' A' B n e i nd .refl⟩
/-- a slot's own is handed out -/
theorem ss_retv {i : Nat} {n : Str} {p : Pos} (h : PE X (.Name n p) (tVar i)) : PS X (.Return (some (.Name n p)) pos) (tS G pin cl ini E (exec cl ini pin (.rt true (.var i)))) := by
  refine ⟨fun pins s σ H D I q => ?_⟩
  by_cases hp : pin.contains i = true
  · have e : exec cl ini pin (.rt true (.var i)) = exec cl ini pin (.rt false (.var i)) := by
      simp only [exec, rtM]
      rw [if_pos hp]
    rw [e] at q
    exact (ss_ret (se_var h)).run pins s σ H D I q
  · refine (ps_ret h).run pins s σ H D I ?_
    obtain ⟨F, A, δ, st, o⟩ := q
    simp only [exec, rtM] at o
    rw [if_neg hp] at o
    have o := out_bnd o
    unfold moveS at o
    cases e : δ[i]? with
    | none => rw [e] at o; exact o.elim
    | some o' =>
      rw [e] at o
      obtain ⟨s', A1, A2, A3, e1, e2, e3, back⟩ := st.env.split e
      cases e3 with
      | dead => exact o.elim
      | @val v _ _ e3 =>
        refine ⟨v, e1, ?_⟩
        have o : Out G (WE E) σ F H A (some (.ok o' (δ.set i .dead))) (fun o δ => Out G (WE E) σ F H A (ret (Fl.rt o) δ) fun fl δ' => EndF G pin F H A σ fl δ' D) := by cases o' <;> first | exact o | exact o.elim
        have o : EndR G pin F H A σ o' (δ.set i .dead) D.rt := o
        have nd := st.nd
        subst e2
        have env := back F H (some v) .dead [] (.refl _) (fun a m => ⟨rfl, (st.env.own a (by rcases List.mem_append.mp m with m | m <;> simp [m])).1⟩) .dead
        have es : σ.set i (some v) = σ := by
          rw [← List.getElem?_eq_some_iff.mp e1 |>.2]
          exact List.set_getElem_self ..
        rw [es] at env
        refine o v σ F H (A1 ++ ([] ++ A3)) A2 ((Nx.refl st.ex).sub fun a m => ?_) env e3 ?_ .refl
        · simp only [List.mem_append] at m ⊢
          rcases m with (m | m | m) | m
          · exact .inl m
          · exact nomatch m
          · exact .inr (.inr m)
          · exact .inr (.inl m)
        · have p := List.nodup_append.mp nd
          have q := List.nodup_append.mp p.2.1
          rw [List.nil_append]
          refine List.nodup_append.mpr ⟨List.nodup_append.mpr ⟨p.1, q.2.1, fun a m b m' => p.2.2 a m b (by simp [m'])⟩, q.1, fun a m b m' z => ?_⟩
          rcases List.mem_append.mp m with m | m
          · exact p.2.2 a m b (by simp [m']) z
          · exact q.2.2 b m' a m z.symm
/-! ### names are set -/
theorem out_setS {i : Nat} {o : O} {δ : Env} {K : Unit → Env → Prop} (h : Out G (WE E) σ F H A (setS pin i o δ) K) : i ∉ pin ∧ i < δ.length ∧ K () (δ.set i o) := by
  unfold setS at h
  split at h
  · exact h.elim
  · rename_i q
    rw [Bool.or_eq_true, not_or] at q
    exact ⟨by simpa using q.1, by simpa using q.2, h⟩
theorem rd_set {i : Nat} {D : Ends} (q : tS G pin cl ini E (exec cl ini pin (.asg (.one i) a)) D σ H) : tAsg (tE G cl ini (WE E) a) (gName i) D σ H := by
  obtain ⟨F, A, δ, st, o⟩ := q
  simp only [exec] at o
  refine ⟨F, A, δ, st, (out_bnd o).imp fun o δ' m v F' H' A' B n e io nd => ?_⟩
  obtain ⟨h1, h2, m⟩ := out_setS (out_bnd m)
  obtain ⟨A2, e2, nd2, sub⟩ := e.set (nodup_app nd) h2 io (List.nodup_append.mp nd).2.1 (nodup_app_ne nd)
  exact (out_ret m).nx _ F' H' A2 (n.sub fun a m => List.mem_append.mpr (sub a m)) e2 nd2 (.set h1)
theorem ss_set {i : Nat} {n : Str} {p : Pos} (hN : X.N.Nodup) (hi : X.N[i]? = some n) (hx : Loc X.env.scope n) (he : PE X x (tE G cl ini (WE E) a)) (hs : swapsWith x (some (.Name n p)) pos.line X.env = pure false := by rfl)
    (hf : X.fn n = true ∨ X.env.scope.names.lookup n = some .local := by first | exact .inl rfl | exact .inr rfl | assumption) : PS X (.Assign [.Name n p] x pos) (tS G pin cl ini E (exec cl ini pin (.asg (.one i) a))) :=
  ⟨fun pins s σ H D I q => (ps_set hN hi hx he hs hf).run pins s σ H D I (rd_set q)⟩
/-- .. a comprehension whose target is the name -/
theorem ss_setLc {i : Nat} {n : Str} {p spos : Pos} {t : Tg} {it : Ow.It} {cs : Es} {iter elt : Expr} {ifs : List Expr} {scope : Scope} {own : List (Str × Nat)} (px : Px X E) (hc : X.calm = true) (hN : X.N.Nodup) (hy : X.N[i]? = some n) (hyl : X.env.scope.names.lookup n = some .local)
    (hsw : swapsWith (.ListComp elt [⟨tg, iter, ifs, 0⟩] scope pos) (some (.Name n p)) spos.line X.env = pure true) (hi : PI X tg iter (tI G cl ini (WE E) it)) (ok : BlkOk X.N X.env.scope scope own) (hv : own.map (·.2) = t.slots)
    (hg : ∀ (s : Shared) (H : Hp) (C : Addr) (c : List (Str × Addr)) (fp : List Addr) (W : Value → Shared → Prop), PG (blkX X s H scope (compEnvC scope c C X.env) fp W) tg (gT G t))
    (ht : ∀ (s : Shared) (H : Hp) (C : Addr) (c : List (Str × Addr)) (fp : List Addr) (W : Value → Shared → Prop), Px (blkX X s H scope (compEnvC scope c C X.env) fp W) E → PTs (blkX X s H scope (compEnvC scope c C X.env) fp W) ifs (tTs G cl ini (WE E) cs))
    (he : ∀ (s : Shared) (H : Hp) (C : Addr) (c : List (Str × Addr)) (fp : List Addr) (W : Value → Shared → Prop), Px (blkX X s H scope (compEnvC scope c C X.env) fp W) E → PE (blkX X s H scope (compEnvC scope c C X.env) fp W) elt (tE G cl ini (WE E) a)) (hs : ∀ x, foldedSetIterable iter X.env x = pure x := by intro _; rfl) :
    PS X (.Assign [.Name n p] (.ListComp elt [⟨tg, iter, ifs, 0⟩] scope pos) spos) (tS G pin cl ini E (exec cl ini pin (.asg (.one i) (.lc a t it cs)))) := by
  refine ⟨fun pins s σ H D I q => (ps_setLcX px hc hN hy hyl hsw hi ok hg ht he hs).run pins s σ H D I ?_⟩
  rw [hv]
  exact lc_rd (rd_set q)
theorem rd_asg {is : List Nat} {D : Ends} (q : tS G pin cl ini E (exec cl ini pin (.asg (.many is) a)) D σ H) : tAsg (tE G cl ini (WE E) a) (gT G (.many is)) D σ H := by
  obtain ⟨F, A, δ, st, o⟩ := q
  simp only [exec] at o
  refine ⟨F, A, δ, st, (out_bnd o).imp fun o δ' m v F' H' A' B n e io nd => ?_⟩
  obtain ⟨F2, n2, e2, d2, z⟩ := fz n e io nd
  obtain ⟨δ2, tk, m⟩ := take_ok (out_bnd m)
  exact tgRd n2.fh e2 (nodup_app nd) d2 tk fun σ' A2 e3 nd3 sub ag dj => (out_ret m).nx _ _ _ A2 (n2.sub sub) e3 nd3 (.agree ag dj)
theorem ss_asg {is : List Nat} (he : PE X x (tE G cl ini (WE E) a)) (hg : PG X tg (gT G (.many is))) (hs : swapsWithSole [tg] x pos.line X.env = pure false := by rfl) (hw : swappedStores [tg] x X.env = pure none := by rfl)
    (h1 : (assignEach [tg] X.env).map (·.2) = [assign tg X.env] := by rfl) : PS X (.Assign [tg] x pos) (tS G pin cl ini E (exec cl ini pin (.asg (.many is) a))) :=
  ⟨fun pins s σ H D I q => (ps_asg he hg hs hw h1).run pins s σ H D I (rd_asg q)⟩
/-! ### if, blocks -/
theorem sss_nil : PSs X [] (tS G pin cl ini E (execs cl ini pin .nil)) := by
  refine ⟨fun pins s σ H D I q => pss_nil.run pins s σ H D I ?_⟩
  obtain ⟨F, A, δ, st, o⟩ := q
  simp only [execs] at o
  exact (out_ret o).nx σ F H A (.refl st.ex) st.env st.nd .refl
theorem sss_cons {st0 : Stmt} {rest : List Stmt} {s0 : S} {r : Ss} (h : PS X st0 (tS G pin cl ini E (exec cl ini pin s0))) (hr : PSs X rest (tS G pin cl ini E (execs cl ini pin r))) : PSs X (st0 :: rest) (tS G pin cl ini E (execs cl ini pin (.cons s0 r))) := by
  refine ⟨fun pins s σ H D I q => (pss_cons h hr).run pins s σ H D I ?_⟩
  obtain ⟨F, A, δ, st, o⟩ := q
  simp only [execs] at o
  refine ⟨F, A, δ, st, (out_bnd o).imp fun fl δ1 m => ?_⟩
  cases fl with
  | nx =>
    intro σ' F' H' A' n e nd kp
    exact ⟨F', A', δ1, ⟨st.b0.trans n.ff, n.fh, e, nd⟩, ((out_sg (σ' := σ') m).from n).imp fun fl δ2 m2 => m2.from n kp⟩
  | bk => exact out_ret m
  | ct => exact out_ret m
  | rt o => exact out_ret m
theorem ss_if {t : Ow.E} {ta tb : Ss} {pa pb : List Stmt} (hc : PT X x (tT G cl ini (WE E) t)) (ha : PSs X pa (tS G pin cl ini E (execs cl ini pin ta))) (hb : PSs X pb (tS G pin cl ini E (execs cl ini pin tb))) : PS X (.If x pa pb pos) (tS G pin cl ini E (exec cl ini pin (.ife t ta tb))) := by
  refine ⟨fun pins s σ H D I q => (ps_if hc ha hb).run pins s σ H D I ?_⟩
  obtain ⟨F, A, δ, st, o⟩ := q
  simp only [exec] at o
  refine ⟨F, A, δ, st, (out_bnd o).imp fun b δ1 m F' H' A' n e nd => ?_⟩
  cases b with
  | true => exact ⟨F', A', δ1, ⟨st.b0.trans n.ff, n.fh, e, nd⟩, (Out.from (show Out G (WE E) σ F H A (execs cl ini pin ta δ1) _ from m) n).imp fun fl δ2 m2 => m2.from n .refl⟩
  | false => exact ⟨F', A', δ1, ⟨st.b0.trans n.ff, n.fh, e, nd⟩, (Out.from (show Out G (WE E) σ F H A (execs cl ini pin tb δ1) _ from m) n).imp fun fl δ2 m2 => m2.from n .refl⟩
end
end Ow
end OxB_
section OxC_
set_option Elab.async false
set_option linter.all false
set_option maxRecDepth 100000
set_option maxHeartbeats 4000000
/-! Loops. -/
namespace Ow
open PySem PySem.Spec PyProof.Rows L2
variable [TQ]
section
variable {G : Gd} {pin : List Nat} {cl : Cl} {ini : Nat → Option Nat} {E : XK} {X : Cx} {σ σ1 : L2.St} {F F1 F2 H H1 H2 : Hp} {A A1 A2 B : List Addr} {x y z : Expr} {a b c : Ow.E} {pos : Pos} {k : Nat} {tg : Expr} {D0 : Ends} {δ : Env}
theorem loop_nil (f : D → M Fl) : loop f [] = ret .nx := by unfold loop; rfl
/-- behind a turn -/
def aft (more : M Fl) : Fl → M Fl
  | .nx => more
  | .ct => more
  | .bk => ret .nx
  | .rt o => ret (.rt o)
theorem loop_cons (f : D → M Fl) (d : D) (ds : List D) : loop f (d :: ds) = bnd (f d) (aft (loop f ds)) := by
  conv => lhs; unfold loop
  first | rfl | (congr 1; funext fl; cases fl <;> rfl)
theorem whl_succ (t : M Bool) (f : M Fl) (n : Nat) : whl t f (n + 1) = bnd t fun b => if b = true then bnd f (aft (whl t f n)) else ret .nx := by
  conv => lhs; unfold whl
  first | rfl | (congr 1; funext b; cases b <;> first | rfl | (show bnd f _ = bnd f _; congr 1; funext fl; cases fl <;> rfl))
/-- a loop between two of its turns: what is still to come -/
def FoI (G : Gd) (pin : List Nat) (E : XK) (m : M Fl) (σ : L2.St) (F H : Hp) (A : List Addr) (F1 : Hp) (D : Ends) (σ' : L2.St) (H' : Hp) : Prop :=
  ∃ F' A' δ', Nx F H A F' H' A' ∧ Ex F1 F' ∧ Keep pin σ σ' ∧ IsE G F' H' σ' δ' A' ∧ A'.Nodup ∧ Out G (WE E) σ F H A (m δ') fun fl δ2 => EndF G pin F H A σ fl δ2 D
/-- what a turn's body is to come to -/
theorem turn_ends {m more : M Fl} {D : Ends} {N : L2.St → Hp → Prop} {F0 H0 : Hp} {A0 : List Addr} {σ0 : L2.St} {δ' : Env} (hN : ∀ σ' H', FoI G pin E more σ F H A F1 D σ' H' → N σ' H') (b0 : Ex G.F0 F) (n : Nx F H A F0 H0 A0) (e1 : Ex F1 F0) (kp : Keep pin σ σ0)
    (o : Out G (WE E) σ F H A (bnd m (aft more) δ') fun fl δ2 => EndF G pin F H A σ fl δ2 D) : Out G (WE E) σ0 F0 H0 A0 (m δ') fun fl δ2 => EndF G pin F0 H0 A0 σ0 fl δ2 { D with nx := N, ct := N, bk := D.nx } := by
  refine ((out_sg (σ' := σ0) (out_bnd o)).from n).imp fun fl δ2 m2 => ?_
  cases fl with
  | nx => exact fun σ' F' H' A' n' e nd kp' => hN _ _ ⟨F', A', δ2, n.trans n', e1.trans n'.ff, kp.trans kp', e, nd, m2⟩
  | ct => exact fun σ' F' H' A' n' e nd kp' => hN _ _ ⟨F', A', δ2, n.trans n', e1.trans n'.ff, kp.trans kp', e, nd, m2⟩
  | bk => exact (out_ret m2).nx.from n kp
  | rt o => exact EndR.from (show EndR G pin F H A σ o δ2 D.rt from out_ret m2) n kp
theorem ss_for {t : Tg} {it : Ow.It} {bs : Ss} {iter : Expr} {body : List Stmt} (hp : PassesOwn (model X.prog X.w) X.A X.env X.xe) (hc : X.calm = true) (hi : PI X tg iter (tI G cl ini (WE E) it)) (hg : PG X tg (gT G t)) (hb : PSs X body (tS G pin cl ini E (execs cl ini pin bs)))
    (hs : ∀ x, foldedSetIterable iter X.env x = pure x := by intro _; rfl) : PS X (.For tg iter body [] pos) (tS G pin cl ini E (exec cl ini pin (.fo t it bs))) := by
  refine ⟨fun pins s σ H D I q => (ps_for hp hc hi hg hb hs).run pins s σ H D I ?_⟩
  obtain ⟨F, A, δ, st, o⟩ := q
  simp only [exec] at o
  refine ⟨F, A, δ, st, (out_bnd o).imp fun ds δ1 m F1 H1 A1 J n1 e1 nd1 y => ?_⟩
  obtain ⟨f, hf⟩ : ∃ f : Ow.D → M Fl, f = fun d => bnd (take pin t d) fun _ => execs cl ini pin bs := ⟨_, rfl⟩
  rw [← hf] at m
  refine ⟨fun i mm σ' H' => mm = ds.length - i ∧ i ≤ ds.length ∧ FoI G pin E (loop f (ds.drop i)) σ F H A F1 D σ' H', ⟨ds.length, rfl, Nat.zero_le _, F1, A1, δ1, n1, .refl _, .refl, e1, nd1, m⟩, ?_⟩
  rintro i mm σ2 H2 ⟨rfl, hi, F2, A2, δ2, n2, x2, k2, e2, nd2, o2⟩
  rcases Nat.lt_or_ge i ds.length with hlt | hge
  · refine .inr ⟨y.go i H2 (x2.trans n2.fh) hlt, FoI G pin E (loop f (ds.drop (i + 1))) σ F H A F1 D, fun σ' H3 w => ⟨_, by omega, rfl, hlt, w⟩, fun x H3 yh => ?_⟩
    have hd : ds[i]? = some ds[i] := by simp [hlt]
    rw [List.drop_eq_getElem_cons hlt, loop_cons] at o2
    generalize ds[i] = d at hd o2
    subst hf
    have o2 : Out G (WE E) σ F H A (bnd (take pin t d) (fun _ => bnd (execs cl ini pin bs) (aft (loop (fun d => bnd (take pin t d) fun _ => execs cl ini pin bs) (ds.drop (i + 1))))) δ2) fun fl δ2 => EndF G pin F H A σ fl δ2 D := by
      rw [bnd_bnd] at o2
      exact o2
    obtain ⟨δ3, tk, o4⟩ := take_ok (out_bnd o2)
    obtain ⟨F3, n3, dv⟩ := y.yld i H2 x H3 d F2 x2 n2.fh hd yh
    have e3 := e2.thru n3 fun _ _ z => nomatch z
    have n3' : Nx F H A F3 H3 A2 := (Nx.tmp (A1 := []) (B := A2) n2 n3)
    exact tgRd n3.fh e3 nd2 dv tk fun σ4 A4 e4 nd4 sub4 g4 dj => ⟨F3, A4, δ3, ⟨st.b0.trans n3'.ff, n3.fh, e4, nd4⟩, turn_ends (fun _ _ w => w) st.b0 (n3'.sub sub4) (x2.trans n3.ff) (k2.trans (.agree g4 dj)) o4⟩
  · refine .inl ⟨y.stop i H2 (x2.trans n2.fh) hge, ?_⟩
    rw [List.drop_of_length_le hge, loop_nil] at o2
    exact (out_ret o2).nx σ2 F2 H2 A2 n2 e2 nd2 k2
theorem ss_while {t : Ow.E} {bs : Ss} {body : List Stmt} (hp : PassesOwn (model X.prog X.w) X.A X.env X.xe) (hc : PT X x (tT G cl ini (WE E) t)) (hb : PSs X body (tS G pin cl ini E (execs cl ini pin bs))) : PS X (.While x body [] pos) (tS G pin cl ini E (exec cl ini pin (.wh t bs))) := by
  refine ⟨fun pins s σ H D I q => (ps_while hp hc hb).run pins s σ H D I ?_⟩
  obtain ⟨F, A, δ, st, o⟩ := q
  simp only [exec] at o
  refine ⟨fun n σ' H' => FoI G pin E (whl (bnd (ev cl ini t) truthM) (execs cl ini pin bs) n) σ F H A F D σ' H', ⟨_, F, A, δ, .refl st.ex, .refl _, .refl, st.env, st.nd, o⟩, ?_⟩
  rintro n σ2 H2 ⟨F2, A2, δ2, n2, x2, k2, e2, nd2, o2⟩
  cases n with
  | zero => exact o2.elim
  | succ n =>
    rw [whl_succ] at o2
    refine ⟨F2, A2, δ2, ⟨st.b0.trans n2.ff, n2.fh, e2, nd2⟩, ((out_sg (σ' := σ2) (out_bnd o2)).from n2).imp fun b δ3 m F3 H3 A3 n3 e3 nd3 => ?_⟩
    have n3' := n2.trans n3
    cases b with
    | true =>
      simp only [if_true] at m ⊢
      exact ⟨FoI G pin E (whl (bnd (ev cl ini t) truthM) (execs cl ini pin bs) n) σ F H A F D, fun σ' H' w => ⟨n, Nat.lt_succ_self _, w⟩, F3, A3, δ3, ⟨st.b0.trans n3'.ff, n3.fh, e3, nd3⟩, turn_ends (fun _ _ w => w) st.b0 n3' n3'.ff k2 m⟩
    | false => exact (EndF.nx (G := G) (pin := pin) (F := F) (H := H) (A := A) (σ := σ) (δ := δ3) (D0 := D) (out_ret m)) σ2 F3 H3 A3 n3' e3 nd3 k2
end
end Ow
end OxC_
section OxD_
set_option Elab.async false
set_option linter.all false
set_option maxRecDepth 100000
set_option maxHeartbeats 4000000
/-! What is changed in place. -/
namespace Ow
open PySem PySem.Spec PyProof.Rows L2
variable [TQ]
section
variable {G : Gd} {pin : List Nat} {cl : Cl} {ini : Nat → Option Nat} {E : XK} {X : Cx} {σ σ1 : L2.St} {F F1 F2 H H1 H2 : Hp} {A A1 A2 B : List Addr} {x y z : Expr} {a b c : Ow.E} {pos : Pos} {k : Nat} {tg : Expr} {D0 : Ends} {δ : Env}
theorem IsE.at (s : IsE G F H σ δ A) (nd : A.Nodup) {i : Nat} {o : O} (e : δ[i]? = some o) (ho : o ≠ .dead) : ∃ v A2, σ[i]? = some (some v) ∧ IsO G F H v o A2 ∧ A2.Nodup ∧ (∀ a ∈ A2, a ∈ A) ∧
    ∀ F' H' o' A3, Ex F F' → (∀ a ∈ A, a ∉ A2 → H' a = H a ∧ F' a = none) → IsO G F' H' v o' A3 → A3.Nodup → (∀ a ∈ A3, a ∈ A → a ∈ A2) → ∃ A', IsE G F' H' σ (δ.set i o') A' ∧ A'.Nodup ∧ ∀ a ∈ A', a ∈ A ∨ a ∈ A3 := by
  obtain ⟨s', B1, B2, B3, e1, e2, e3, back⟩ := s.split e
  cases e3 with
  | dead => exact absurd rfl ho
  | @val v _ _ e3 =>
    subst e2
    have p := List.nodup_append.mp nd
    have q := List.nodup_append.mp p.2.1
    refine ⟨v, B2, e1, e3, q.1, fun a m => by simp [m], fun F' H' o' A3 ex k h' n3 sub => ⟨B1 ++ (A3 ++ B3), ?_, ?_, ?_⟩⟩
    · have z := back F' H' (some v) o' A3 ex (fun a m => k a (by rcases List.mem_append.mp m with m | m <;> simp [m]) fun w => ?_) (.val h')
      · rw [← (List.getElem?_eq_some_iff.mp e1).2, List.set_getElem_self] at z
        exact z
      · rcases List.mem_append.mp m with m | m
        · exact p.2.2 a m a (by simp [w]) rfl
        · exact q.2.2 a w a m rfl
    · refine List.nodup_append.mpr ⟨p.1, List.nodup_append.mpr ⟨n3, q.2.1, fun a m b m' z => q.2.2 a (sub a m (by rw [z]; simp [m'])) b m' z⟩, fun a m b m' z => ?_⟩
      rcases List.mem_append.mp m' with w | w
      · exact p.2.2 a m b (by simp [sub b w (by rw [← z]; simp [m])]) z
      · exact p.2.2 a m b (by simp [w]) z
    · intro a m
      simp only [List.mem_append] at m ⊢
      rcases m with m | m | m
      · exact .inl (.inl m)
      · exact .inr m
      · exact .inl (.inr (.inr m))
theorem out_atS {g : O → Option O} {i : Nat} {K : Unit → Env → Prop} (h : Out G (WE E) σ F H A (atS g i δ) K) : ∃ o o', δ[i]? = some o ∧ g o = some o' ∧ K () (δ.set i o') := by
  unfold atS at h
  cases e : δ[i]? with
  | none => rw [e] at h; exact h.elim
  | some o =>
    rw [e] at h
    cases e' : g o with
    | none => exact (by simpa [e', Out] using h : False).elim
    | some o' => exact ⟨o, o', rfl, e', by simpa [e', Out] using h⟩
theorem out_mlM {i : Nat} {K : Unit → Env → Prop} (h : Out G (WE E) σ F H A (mlM i δ) K) : ∃ os, δ[i]? = some (.ml os) ∧ K () δ := by
  unfold mlM at h
  cases e : δ[i]? with
  | none => rw [e] at h; exact h.elim
  | some o =>
    rw [e] at h
    cases o <;> first | exact ⟨_, rfl, h⟩ | exact h.elim
/-- a list of one's own is turned: what else is ours stays -/
theorem ml_turn (s : IsE G F H σ δ A) (x : Ex F H) (nd : A.Nodup) {i : Nat} {os : List O} (e : δ[i]? = some (.ml os)) : ∃ p vs C, σ[i]? = some (some (.ref p)) ∧ F p = none ∧ H p = some (.lst vs) ∧ p ∈ A ∧ IsOs G F H vs os C ∧ p ∉ C ∧ C.Nodup ∧
    ∀ vs' os' C', IsOs G F H vs' os' C' → C'.Nodup → (∀ a ∈ C', a ∈ C) → ∃ A', IsE G F (upd H p (.lst vs')) σ (δ.set i (.ml os')) A' ∧ A'.Nodup ∧ (∀ a ∈ A', a ∈ A) := by
  obtain ⟨v, A2, e1, e2, n2, s2, back⟩ := s.at nd e (fun z => nomatch z)
  cases e2 with
  | @ml p vs _ C f h r =>
    obtain ⟨np, nC⟩ := List.nodup_cons.mp n2
    refine ⟨p, vs, C, e1, f, h, s2 p List.mem_cons_self, r, np, nC, fun vs' os' C' r' n' sub => ?_⟩
    refine back F (upd H p (.lst vs')) (.ml os') (p :: C') (.refl _) (fun a m w => ⟨upd_ne fun z => w (z ▸ List.mem_cons_self), (s.own a m).1⟩) (.ml f upd_same (r'.frame (.refl _) fun a m => ⟨upd_ne fun z => np (sub p (z ▸ m)), (r'.own a m).1⟩)) (List.nodup_cons.mpr ⟨fun m => np (sub p m), n'⟩) (fun a m _ => ?_) |>.imp fun A' w => ⟨w.1, w.2.1, fun a m => (w.2.2 a m).elim id fun m => s2 a ?_⟩
    all_goals
      rcases List.mem_cons.mp m with m | m
      · exact m ▸ List.mem_cons_self
      · exact List.mem_cons_of_mem _ (sub a m)
theorem isos_snoc {vs : List V} {os : List O} {v : V} {o : O} {C C' : List Addr} (h : IsOs G F H vs os C) (h' : IsO G F H v o C') : IsOs G F H (vs ++ [v]) (os ++ [o]) (C ++ C') := by
  induction os generalizing vs C with
  | nil => cases h; simpa using IsOs.cons h' .nil
  | cons _ _ ih => cases h with | cons h1 h2 => rw [List.append_assoc]; exact .cons h1 (ih h2)
theorem isos_app {vs vs' : List V} {os os' : List O} {C C' : List Addr} (h : IsOs G F H vs os C) (h' : IsOs G F H vs' os' C') : IsOs G F H (vs ++ vs') (os ++ os') (C ++ C') := by
  induction os generalizing vs C with
  | nil => cases h; simpa using h'
  | cons _ _ ih => cases h with | cons h1 h2 => rw [List.append_assoc]; exact .cons h1 (ih h2)
theorem ss_app {i : Nat} {n : Str} {p apos epos : Pos} (hK : X.K = G.K) (hv : PE X (.Name n p) (tVar i)) (he : PE X x (tE G cl ini (WE E) a))
    (hbase : attributeBase (.Name n p) "append" X.env (eval (.Name n p) X.env) = eval (.Name n p) X.env := by rfl)
    (hfew : ((backTo pos (starEach [x] X.env)).all (fun x => !x.1) && (backToKw pos (keywordEach [] X.env)).all (fun x => x.1.isSome) && decide ([x].length + ([] : List Keyword).length + (if ([] : List Keyword).isEmpty then 0 else 1) < 30)) = true := by rfl)
    (hline : (apos.endLine == pos.line) = true := by rfl) (h0 : starEach [x] X.env = (false, eval x X.env) :: starEach [] X.env := by rfl)
    (hs : swapsWith (.Call (.Attribute (.Name n p) "append" apos) [x] [] pos) none epos.line X.env = pure false := by rfl) :
    PS X (.Expr (.Call (.Attribute (.Name n p) "append" apos) [x] [] pos) epos) (tS G pin cl ini E (exec cl ini pin (.app i a))) := by
  refine ⟨fun pins s σ H D I q => (ps_expr (pe_bm PySem.F.plainAttrs_list PySem.F.slot_list_append PySem.F.type_list_append mt_append hv (pa_cons he pa_nil h0) hbase hfew hline h0) hs).run pins s σ H D I ?_⟩
  obtain ⟨F, A, δ, st, o⟩ := q
  simp only [exec] at o
  obtain ⟨os0, e0, o⟩ := out_mlM (out_bnd o)
  obtain ⟨p0, vs0, C0, g1, g2, g3, g4, _⟩ := ml_turn st.env st.ex st.nd e0
  refine ⟨.ref p0, g1, .inl ⟨rfl, vs0, .of g3⟩, F, A, δ, st, (out_bnd o).imp fun o1 δ1 m v F1 H1 A1 B n1 e1 i1 nd1 => ?_⟩
  obtain ⟨F2, n2, e2, d2, z⟩ := fz n1 e1 i1 nd1
  obtain ⟨o2, o3, w1, w2, m⟩ := out_atS (out_bnd m)
  cases o2 with
  | ml os =>
    unfold pushO at w2
    dsimp only at w2
    split at w2
    case isFalse => cases w2
    rename_i hl
    cases w2
    obtain ⟨p1, vs, C, q1, q2, q3, q4, q5, q6, q7, back⟩ := ml_turn e2 n2.fh (nodup_app nd1) w1
    rw [g1] at q1
    cases q1
    have hlen := q5.len
    have := sm_size
    refine ⟨p0, vs, v, rfl, rfl, q3, by omega, ?_⟩
    obtain ⟨A', e', nd', sub⟩ := back (vs ++ [v]) (os ++ [.fr (frz o1)]) (C ++ []) (isos_snoc q5 (.fr d2)) (by rw [List.append_nil]; exact q7) (by simp)
    exact (EndF.nx (G := G) (pin := pin) (F := F) (H := H) (A := A) (σ := σ) (D0 := D) (out_ret m)) σ F2 _ A' ((n2.trans (Nx.mut n2.fh q2 q4)).sub sub) e' nd' .refl
  | _ => cases w2
/-- x.extend(e) -/
theorem ss_ext {i : Nat} {n : Str} {p apos epos : Pos} (hK : X.K = G.K) (hv : PE X (.Name n p) (tVar i)) (he : PE X x (tE G cl ini (WE E) a))
    (hbase : attributeBase (.Name n p) "extend" X.env (eval (.Name n p) X.env) = eval (.Name n p) X.env := by rfl)
    (hfew : ((backTo pos (starEach [x] X.env)).all (fun x => !x.1) && (backToKw pos (keywordEach [] X.env)).all (fun x => x.1.isSome) && decide ([x].length + ([] : List Keyword).length + (if ([] : List Keyword).isEmpty then 0 else 1) < 30)) = true := by rfl)
    (hline : (apos.endLine == pos.line) = true := by rfl) (h0 : starEach [x] X.env = (false, eval x X.env) :: starEach [] X.env := by rfl)
    (hs : swapsWith (.Call (.Attribute (.Name n p) "extend" apos) [x] [] pos) none epos.line X.env = pure false := by rfl) :
    PS X (.Expr (.Call (.Attribute (.Name n p) "extend" apos) [x] [] pos) epos) (tS G pin cl ini E (exec cl ini pin (.ext i a))) := by
  refine ⟨fun pins s σ H D I q => (ps_expr (pe_bm PySem.F.plainAttrs_list PySem.F.slot_list_extend PySem.F.type_list_extend mt_extend hv (pa_cons he pa_nil h0) hbase hfew hline h0) hs).run pins s σ H D I ?_⟩
  obtain ⟨F, A, δ, st, o⟩ := q
  simp only [exec] at o
  obtain ⟨os0, e0, o⟩ := out_mlM (out_bnd o)
  obtain ⟨p0, vs0, C0, g1, g2, g3, g4, _⟩ := ml_turn st.env st.ex st.nd e0
  refine ⟨.ref p0, g1, .inl ⟨rfl, vs0, .of g3⟩, F, A, δ, st, (out_bnd o).imp fun o1 δ1 m v F1 H1 A1 B n1 e1 i1 nd1 => ?_⟩
  obtain ⟨F2, n2, e2, d2, z⟩ := fz n1 e1 i1 nd1
  obtain ⟨ds, el, m⟩ := out_lift (out_bnd m)
  generalize frz o1 = d at d2 el
  cases d2 with
  | @lst pb zs _ hb rb =>
    cases el
    obtain ⟨o2, o3, w1, w2, m⟩ := out_atS (out_bnd m)
    cases o2 with
    | ml os =>
      unfold extO at w2
      dsimp only at w2
      split at w2
      case isFalse => cases w2
      rename_i hl
      cases w2
      obtain ⟨p1, vs, C, q1, q2, q3, q4, q5, q6, q7, back⟩ := ml_turn e2 n2.fh (nodup_app nd1) w1
      rw [g1] at q1
      cases q1
      have hlen := q5.len
      have hlen2 := rb.len
      have hsm : sm = 1000000 := rfl
      have hsz : sizeLine = 16777216 := rfl
      refine ⟨p0, pb, vs, zs, rfl, rfl, q3, n2.fh.at hb, by omega, ?_⟩
      obtain ⟨A', e', nd', sub⟩ := back (vs ++ zs) (os ++ ds.map .fr) (C ++ []) (isos_app q5 (is_frs rb)) (by rw [List.append_nil]; exact q7) (by simp)
      exact (EndF.nx (G := G) (pin := pin) (F := F) (H := H) (A := A) (σ := σ) (D0 := D) (out_ret m)) σ F2 _ A' ((n2.trans (Nx.mut n2.fh q2 q4)).sub sub) e' nd' .refl
    | _ => cases w2
  | _ => cases el
theorem isos_drop {vs : List V} {os : List O} {C : List Addr} (h : IsOs G F H vs os C) (ne : os ≠ []) : ∃ y C', vs[vs.length - 1]? = some y ∧ IsOs G F H vs.dropLast os.dropLast C' ∧ C'.Sublist C := by
  induction os generalizing vs C with
  | nil => exact absurd rfl ne
  | cons o os ih =>
    cases h with | @cons v _ vs _ B1 B2 h1 h2 =>
    cases os with
    | nil => cases h2; exact ⟨v, [], by simp, .nil, List.nil_sublist _⟩
    | cons o' os =>
      obtain ⟨y, C', e, r, sb⟩ := ih h2 (fun z => nomatch z)
      cases h2 with | @cons v' _ vs' _ B3 B4 h3 h4 =>
      refine ⟨y, B1 ++ C', by simpa using e, ?_, (List.Sublist.refl _).append sb⟩
      exact .cons h1 r
/-- x.pop() -/
theorem ss_pop {i : Nat} {n : Str} {p apos epos : Pos} (hv : PE X (.Name n p) (tVar i))
    (hbase : attributeBase (.Name n p) "pop" X.env (eval (.Name n p) X.env) = eval (.Name n p) X.env := by rfl)
    (hline : (apos.endLine == pos.line) = true := by rfl)
    (hs : swapsWith (.Call (.Attribute (.Name n p) "pop" apos) [] [] pos) none epos.line X.env = pure false := by rfl) :
    PS X (.Expr (.Call (.Attribute (.Name n p) "pop" apos) [] [] pos) epos) (tS G pin cl ini E (exec cl ini pin (.pop i))) := by
  refine ⟨fun pins s σ H D I q => (ps_expr (pe_bm0 PySem.F.plainAttrs_list PySem.F.slot_list_pop PySem.F.type_list_pop mt_pop hv hbase hline) hs).run pins s σ H D I ?_⟩
  obtain ⟨F, A, δ, st, o⟩ := q
  simp only [exec] at o
  obtain ⟨o2, o3, w1, w2, m⟩ := out_atS (out_bnd o)
  cases o2 with
  | ml os =>
    unfold popO at w2
    dsimp only at w2
    split at w2
    case isTrue => cases w2
    rename_i hl
    cases w2
    obtain ⟨p0, vs, C, q1, q2, q3, q4, q5, q6, q7, back⟩ := ml_turn st.env st.ex st.nd w1
    obtain ⟨y, C', e, r, sb⟩ := isos_drop q5 (by simpa using hl)
    obtain ⟨A', e', nd', sub⟩ := back _ _ C' r (q7.sublist sb) (fun a m => sb.subset m)
    exact ⟨.ref p0, q1, .inl ⟨rfl, vs, .of q3⟩, p0, vs, y, rfl, rfl, q3, e, (EndF.nx (G := G) (pin := pin) (F := F) (H := H) (A := A) (σ := σ) (D0 := D) (out_ret m)) σ F _ A' ((Nx.mut st.ex q2 q4).sub sub) e' nd' .refl⟩
  | _ => cases w2
end
end Ow
end OxD_
section OxE_
set_option Elab.async false
set_option linter.all false
set_option maxRecDepth 100000
set_option maxHeartbeats 4000000
/-! What is stored, raised. -/
namespace Ow
open PySem PySem.Spec PyProof.Rows L2
variable [TQ]
section
variable {G : Gd} {pin : List Nat} {cl : Cl} {ini : Nat → Option Nat} {E : XK} {X : Cx} {σ σ1 : L2.St} {F F1 F2 H H1 H2 : Hp} {A A1 A2 B : List Addr} {x y z : Expr} {a b c : Ow.E} {pos : Pos} {k : Nat} {tg : Expr} {D0 : Ends} {δ : Env}
theorem out_liveM {i : Nat} {K : Unit → Env → Prop} (h : Out G (WE E) σ F H A (liveM i δ) K) : ∃ o, δ[i]? = some o ∧ o ≠ .dead ∧ K () δ := by
  unfold liveM at h
  cases e : δ[i]? with
  | none => rw [e] at h; exact h.elim
  | some o =>
    rw [e] at h
    cases o <;> first | exact ⟨_, rfl, (fun z => nomatch z), h⟩ | exact h.elim
theorem isos_set {vs : List V} {os : List O} {C : List Addr} {v : V} {d : Ow.D} (h : IsOs G F H vs os C) (hd : IsD G F v d) : ∀ (j : Nat), ∃ C', IsOs G F H (vs.set j v) (os.set j (.fr d)) C' ∧ C'.Sublist C := by
  induction os generalizing vs C with
  | nil => intro j; cases h; exact ⟨[], .nil, .refl _⟩
  | cons o os ih =>
    intro j
    cases h with | @cons v' _ vs _ B1 B2 h1 h2 =>
    cases j with
    | zero => exact ⟨[] ++ B2, .cons (.fr hd) h2, by simp⟩
    | succ j =>
      obtain ⟨C', r, sb⟩ := ih h2 j
      exact ⟨B1 ++ C', .cons h1 r, (List.Sublist.refl _).append sb⟩
/-- x[k] = e for a list -/
theorem ss_setL {i : Nat} {n : Str} {p spos : Pos} (hv : PE X (.Name n p) (tVar i)) (hk : PE X y (tE G cl ini (WE E) b)) (he : PE X x (tE G cl ini (WE E) a))
    (ha : ∀ v, assign (.Subscript (.Name n p) y spos) X.env v = (do
      let ov ← holding [v] (eval (.Name n p) X.env)
      let iv ← holding [v, ov] (eval y X.env)
      standAt spos
      holding [v, ov, iv] (setItem ov iv v)
      release [v, ov, iv] []) := by intro _; rfl)
    (hs : swapsWithSole [.Subscript (.Name n p) y spos] x pos.line X.env = pure false := by rfl) (hw : swappedStores [.Subscript (.Name n p) y spos] x X.env = pure none := by rfl)
    (h1 : (assignEach [.Subscript (.Name n p) y spos] X.env).map (·.2) = [assign (.Subscript (.Name n p) y spos) X.env] := by rfl) :
    PS X (.Assign [.Subscript (.Name n p) y spos] x pos) (tS G pin cl ini E (exec cl ini pin (.seti false i b a))) := by
  refine ⟨fun pins s σ H D I q => (ps_asg he (pg_sub hv hk set_list ha) hs hw h1).run pins s σ H D I ?_⟩
  obtain ⟨F, A, δ, st, o⟩ := q
  simp only [exec] at o
  refine ⟨F, A, δ, st, (out_bnd o).imp fun o1 δ1 m v F1 H1 A1 B n1 e1 i1 nd1 => ?_⟩
  obtain ⟨F2, n2, e2, d2, z⟩ := fz n1 e1 i1 nd1
  obtain ⟨ol, el, nl, m⟩ := out_liveM (out_bnd m)
  obtain ⟨w, Aw, ew, _⟩ := e2.at (nodup_app nd1) el nl
  refine ⟨w, ew, F2, A1, δ1, ⟨st.b0.trans n2.ff, n2.fh, e2, nodup_app nd1⟩, ((out_bnd m).from n2).imp fun ko δ3 m3 kv F3 H3 A3 B3 n3 e3 i3 nd3 => ?_⟩
  obtain ⟨F4, n4, e4, d4, z4⟩ := fz n3 e3 i3 nd3
  obtain ⟨o2, o3, w1, w2, m⟩ := out_atS (out_bnd m3)
  rw [if_neg (by decide)] at w2
  generalize frz ko = kd at d4 w2
  cases o2 with
  | ml os =>
    cases d4 with
    | int zi =>
      obtain ⟨j, ej, rfl⟩ := Option.map_eq_some_iff.mp (show (ixN os.length zi).map (fun j => O.ml (os.set j (.fr (frz o1)))) = some o3 from w2)
      obtain ⟨p1, vs, C, q1, q2, q3, q4, q5, q6, q7, back⟩ := ml_turn e4 n4.fh (nodup_app nd3) w1
      rw [ew] at q1
      cases q1
      obtain ⟨C', r, sb⟩ := isos_set q5 (d2.mono n4.ff) j
      obtain ⟨A', e', nd', sub⟩ := back _ _ C' r (q7.sublist sb) (fun a m => sb.subset m)
      exact ⟨p1, vs, zi, j, rfl, rfl, q3, by rw [q5.len]; exact ej, (EndF.nx (G := G) (pin := pin) (F := F) (H := H) (A := A) (σ := σ) (D0 := D) (out_ret m)) σ F4 _ A' (((n2.trans n4).trans (Nx.mut n4.fh q2 q4)).sub sub) e' nd' .refl⟩
    | _ => cases w2
  | _ => cases w2
/-! ### dicts -/
theorem put_ok {κ : Type} [DecidableEq κ] {ws : List (κ × V)} {os : List O} {C : List Addr} {k : κ} {v : V} {d : Ow.D} (h : IsOs G F H (ws.map (·.2)) os C) (hd : IsD G F v d) :
    (putK ws k v).map (·.1) = (putO (ws.map (·.1)) os k (.fr d)).1 ∧ ∃ C', IsOs G F H ((putK ws k v).map (·.2)) (putO (ws.map (·.1)) os k (.fr d)).2 C' ∧ C'.Sublist C := by
  unfold putK putO
  rw [List.any_map]
  have e : ((fun k1 => decide (k1 = k)) ∘ fun x : κ × V => x.1) = fun kv : κ × V => decide (kv.1 = k) := rfl
  rw [e]
  split
  · rename_i hany
    clear hany
    refine ⟨?_, ?_⟩
    · rw [List.map_map]
      apply List.map_congr_left
      intro p _
      simp only [Function.comp]
      split <;> rfl
    · clear e
      dsimp only
      induction ws generalizing os C with
      | nil => cases h; exact ⟨[], .nil, .refl _⟩
      | cons p ws ih =>
        cases os with
        | nil => cases h
        | cons o os =>
          cases h with | @cons _ _ _ _ B1 B2 h1 h2 =>
          obtain ⟨C', r, sb⟩ := ih h2
          rw [List.map_cons, List.map_cons, List.map_cons]
          unfold replO
          by_cases e : p.1 = k
          · rw [if_pos e, if_pos e]
            exact ⟨[] ++ C', .cons (.fr hd) r, sb.trans (List.sublist_append_right _ _)⟩
          · rw [if_neg e, if_neg e]
            exact ⟨B1 ++ C', .cons h1 r, (List.Sublist.refl _).append sb⟩
  · refine ⟨by simp, C ++ [], ?_, by simp⟩
    rw [List.map_append]
    exact isos_snoc h (.fr hd)
/-- x[k] = e for a dict -/
theorem ss_setD {i : Nat} {n : Str} {p spos : Pos} (hu : X.A.units + 1 < cLine) (hv : PE X (.Name n p) (tVar i)) (hk : PE X y (tE G cl ini (WE E) b)) (he : PE X x (tE G cl ini (WE E) a))
    (ha : ∀ v, assign (.Subscript (.Name n p) y spos) X.env v = (do
      let ov ← holding [v] (eval (.Name n p) X.env)
      let iv ← holding [v, ov] (eval y X.env)
      standAt spos
      holding [v, ov, iv] (setItem ov iv v)
      release [v, ov, iv] []) := by intro _; rfl)
    (hs : swapsWithSole [.Subscript (.Name n p) y spos] x pos.line X.env = pure false := by rfl) (hw : swappedStores [.Subscript (.Name n p) y spos] x X.env = pure none := by rfl)
    (h1 : (assignEach [.Subscript (.Name n p) y spos] X.env).map (·.2) = [assign (.Subscript (.Name n p) y spos) X.env] := by rfl) :
    PS X (.Assign [.Subscript (.Name n p) y spos] x pos) (tS G pin cl ini E (exec cl ini pin (.seti true i b a))) := by
  refine ⟨fun pins s σ H D I q => (ps_asg he (pg_sub hv hk (set_dict hu) ha) hs hw h1).run pins s σ H D I ?_⟩
  obtain ⟨F, A, δ, st, o⟩ := q
  simp only [exec] at o
  refine ⟨F, A, δ, st, (out_bnd o).imp fun o1 δ1 m v F1 H1 A1 B n1 e1 i1 nd1 => ?_⟩
  obtain ⟨F2, n2, e2, d2, z⟩ := fz n1 e1 i1 nd1
  obtain ⟨ol, el, nl, m⟩ := out_liveM (out_bnd m)
  obtain ⟨w, Aw, ew, _⟩ := e2.at (nodup_app nd1) el nl
  refine ⟨w, ew, F2, A1, δ1, ⟨st.b0.trans n2.ff, n2.fh, e2, nodup_app nd1⟩, ((out_bnd m).from n2).imp fun ko δ3 m3 kv F3 H3 A3 B3 n3 e3 i3 nd3 => ?_⟩
  obtain ⟨F4, n4, e4, d4, z4⟩ := fz n3 e3 i3 nd3
  obtain ⟨o2, o3, w1, w2, m⟩ := out_atS (out_bnd m3)
  rw [if_pos trivial] at w2
  generalize frz ko = kd at d4 w2
  have hsm := sm_size
  obtain ⟨v2, Av, q1, q2, q3, q4, back⟩ := e4.at (nodup_app nd3) w1 (fun z => by rw [z] at w2; cases w2)
  rw [ew] at q1
  cases q1
  cases q2 with
  | @md a ws os A9 f h r =>
    obtain ⟨kk, e1, w2⟩ := Option.bind_eq_some_iff.mp (show ((keyD kd).bind fun k => _) = some o3 from w2)
    split at w2
    case isFalse => cases w2
    rename_i hl
    cases w2
    obtain ⟨k1, C', k2, k3⟩ := put_ok (k := kk) r (d2.mono n4.ff)
    obtain ⟨np, n9⟩ := List.nodup_cons.mp q3
    obtain ⟨A', e', nd', sub⟩ := back F4 (upd _ a (.dK (putK ws kk v))) (.md ((putK ws kk v).map (·.1)) _) (a :: C') (.refl _) (fun b m w => ⟨upd_ne fun z => w (z ▸ List.mem_cons_self), (e4.own b m).1⟩) (.md f upd_same (k2.frame (.refl _) fun b m => ⟨upd_ne fun z => np (k3.subset (z ▸ m)), (k2.own b m).1⟩))
      (List.nodup_cons.mpr ⟨fun m => np (k3.subset m), n9.sublist k3⟩) (fun b m _ => by rcases List.mem_cons.mp m with m | m; exact m ▸ List.mem_cons_self; exact List.mem_cons_of_mem _ (k3.subset m))
    rw [k1] at e'
    refine ⟨a, _, rfl, ?_, (EndF.nx (G := G) (pin := pin) (F := F) (H := H) (A := A) (σ := σ) (D0 := D) (out_ret m)) σ F4 _ A' (((n2.trans n4).trans (Nx.mut n4.fh f (q4 a List.mem_cons_self))).sub fun b m => (sub b m).elim id fun m => q4 b ?_) e' nd' .refl⟩
    · exact .inl ⟨ws, kk, h, keyD_is d4 e1, by rw [List.length_map] at hl; omega, rfl⟩
    · rcases List.mem_cons.mp m with m | m
      · exact m ▸ List.mem_cons_self
      · exact List.mem_cons_of_mem _ (k3.subset m)
  | @mdT a ws os A9 f h r =>
    cases d4 with
    | @tup bt vs ds hb rb =>
      obtain ⟨kk, e1, w2⟩ := Option.bind_eq_some_iff.mp (show ((keysD ds).bind fun k => _) = some o3 from w2)
      split at w2
      case isFalse => cases w2
      rename_i hl
      cases w2
      obtain ⟨k1, C', k2, k3⟩ := put_ok (k := kk) r (d2.mono n4.ff)
      obtain ⟨np, n9⟩ := List.nodup_cons.mp q3
      obtain ⟨A', e', nd', sub⟩ := back F4 (upd _ a (.dT (putK ws kk v))) (.mdT ((putK ws kk v).map (·.1)) _) (a :: C') (.refl _) (fun b m w => ⟨upd_ne fun z => w (z ▸ List.mem_cons_self), (e4.own b m).1⟩) (.mdT f upd_same (k2.frame (.refl _) fun b m => ⟨upd_ne fun z => np (k3.subset (z ▸ m)), (k2.own b m).1⟩))
        (List.nodup_cons.mpr ⟨fun m => np (k3.subset m), n9.sublist k3⟩) (fun b m _ => by rcases List.mem_cons.mp m with m | m; exact m ▸ List.mem_cons_self; exact List.mem_cons_of_mem _ (k3.subset m))
      rw [k1] at e'
      refine ⟨a, _, rfl, ?_, (EndF.nx (G := G) (pin := pin) (F := F) (H := H) (A := A) (σ := σ) (D0 := D) (out_ret m)) σ F4 _ A' (((n2.trans n4).trans (Nx.mut n4.fh f (q4 a List.mem_cons_self))).sub fun b m => (sub b m).elim id fun m => q4 b ?_) e' nd' .refl⟩
      · exact .inr ⟨ws, kk, bt, h, rfl, by rw [← keysD_is rb e1]; exact n4.fh.at hb, by rw [List.length_map] at hl; omega, rfl⟩
      · rcases List.mem_cons.mp m with m | m
        · exact m ▸ List.mem_cons_self
        · exact List.mem_cons_of_mem _ (k3.subset m)
    | _ => cases w2
  | _ => cases w2
end
end Ow
end OxE_
section OxF_
set_option Elab.async false
set_option linter.all false
set_option maxRecDepth 100000
set_option maxHeartbeats 4000000
/-! Fields, counters, pairs, raise. -/
namespace Ow
open PySem PySem.Spec PyProof.Rows L2
variable [TQ]
section
variable {G : Gd} {pin : List Nat} {cl : Cl} {ini : Nat → Option Nat} {E : XK} {X : Cx} {σ σ1 : L2.St} {F F1 F2 H H1 H2 : Hp} {A A1 A2 B : List Addr} {x y z : Expr} {a b c : Ow.E} {pos : Pos} {k : Nat} {tg : Expr} {D0 : Ends} {δ : Env}
theorem setF_ok {f : Str} {v : V} {o : O} {ws : List (Str × V)} {os : List O} {C : List Addr} (h : IsOs G F H (ws.map (·.2)) os C) (hd : IsO G F H v o B) :
    (putF f v ws).map (·.1) = (setF f o (ws.map (·.1)) os).1 ∧ ∃ C' C0, IsOs G F H ((putF f v ws).map (·.2)) (setF f o (ws.map (·.1)) os).2 C' ∧ C0.Sublist C ∧ C'.Perm (C0 ++ B) := by
  induction ws generalizing os C with
  | nil =>
    cases h
    exact ⟨rfl, B ++ [], [], .cons hd .nil, .refl _, by simp⟩
  | cons p ws ih =>
    cases os with
    | nil => cases h
    | cons o1 os =>
      obtain ⟨g, w⟩ := p
      cases h with | @cons _ _ _ _ B1 B2 h1 h2 =>
      show ((if g = f then (g, v) :: ws else (g, w) :: putF f v ws).map (·.1)) = (if g = f then (g :: ws.map (·.1), o :: os) else (g :: (setF f o (ws.map (·.1)) os).1, o1 :: (setF f o (ws.map (·.1)) os).2)).1 ∧
        ∃ C' C0, IsOs G F H ((if g = f then (g, v) :: ws else (g, w) :: putF f v ws).map (·.2)) (if g = f then (g :: ws.map (·.1), o :: os) else (g :: (setF f o (ws.map (·.1)) os).1, o1 :: (setF f o (ws.map (·.1)) os).2)).2 C' ∧ C0.Sublist (B1 ++ B2) ∧ C'.Perm (C0 ++ B)
      by_cases e : g = f
      · rw [if_pos e, if_pos e]
        exact ⟨rfl, B ++ B2, B2, .cons hd h2, List.sublist_append_right _ _, List.perm_append_comm⟩
      · rw [if_neg e, if_neg e]
        obtain ⟨k1, C', C0, k2, k3, k4⟩ := ih h2
        refine ⟨by simp [k1], B1 ++ C', B1 ++ C0, .cons h1 k2, (List.Sublist.refl _).append k3, ?_⟩
        rw [List.append_assoc]
        exact k4.append_left B1
/-- x.f = e -/
theorem ss_setf {i : Nat} {f n : Str} {p apos : Pos} (hK : X.K = G.K) (hC : ∀ c, c < G.nc → Cls G.K (G.ca c) ∧ NoAttr G.K (G.ca c) f) (hv : PE X (.Name n p) (tVar i)) (he : PE X x (tE G cl ini (WE E) a))
    (hs : swapsWith x (some (.Attribute (.Name n p) f apos)) pos.line X.env = pure false := by rfl) : PS X (.Assign [.Attribute (.Name n p) f apos] x pos) (tS G pin cl ini E (exec cl ini pin (.setf i f a))) := by
  refine ⟨fun pins s σ H D I q => (ps_fld hv he hs).run pins s σ H D I ?_⟩
  obtain ⟨F, A, δ, st, o⟩ := q
  simp only [exec] at o
  refine ⟨F, A, δ, st, (out_bnd o).imp fun o1 δ1 m v F1 H1 A1 B n1 e1 i1 nd1 => ?_⟩
  obtain ⟨o2, o3, w1, w2, m⟩ := out_atS (out_bnd m)
  obtain ⟨v2, Av, q1, q2, q3, q4, back⟩ := e1.at (nodup_app nd1) w1 (fun z => by rw [z] at w2; cases w2)
  cases q2 with
  | @ob pa c dx ws os A9 hc f9 h r =>
    unfold fieldO at w2
    dsimp only at w2
    split at w2
    case isFalse => cases w2
    rename_i hl
    cases w2
    obtain ⟨g1, g2⟩ := hC c hc
    obtain ⟨k1, C', C0, k2, k3, k4⟩ := setF_ok (f := f) r i1
    obtain ⟨np, n9⟩ := List.nodup_cons.mp q3
    have hpA : pa ∈ A1 := q4 pa List.mem_cons_self
    have npB : pa ∉ B := fun m => nodup_app_ne nd1 pa m hpA
    have sub9 : ∀ b ∈ C', b ∈ A9 ∨ b ∈ B := fun b m => (List.mem_append.mp (k4.mem_iff.mp m)).imp (fun w => k3.subset w) id
    have npC : pa ∉ C' := fun m => (sub9 pa m).elim np npB
    have ndC : C'.Nodup := k4.nodup_iff.mpr (List.nodup_append.mpr ⟨n9.sublist k3, (List.nodup_append.mp nd1).2.1, fun b m b' m' z => by
      subst z
      exact nodup_app_ne nd1 b m' (q4 b (List.mem_cons_of_mem _ (k3.subset m)))⟩)
    obtain ⟨A', e', nd', sub⟩ := back F1 (upd H1 pa (.ins (G.ca c) dx (putF f v ws))) (.ob c ((putF f v ws).map (·.1)) _) (pa :: C') (.refl _) (fun b m w => ⟨upd_ne fun z => w (z ▸ List.mem_cons_self), (e1.own b m).1⟩) (.ob hc f9 upd_same (k2.frame (.refl _) fun b m => ⟨upd_ne fun z => npC (z ▸ m), (k2.own b m).1⟩))
      (List.nodup_cons.mpr ⟨npC, ndC⟩) (fun b m hb => by
        rcases List.mem_cons.mp m with m | m
        · exact m ▸ List.mem_cons_self
        · rcases sub9 b m with m | m
          · exact List.mem_cons_of_mem _ m
          · exact absurd hb (nodup_app_ne nd1 b m))
    rw [k1] at e'
    rw [hK]
    refine ⟨_, q1, pa, G.ca c, dx, ws, rfl, h, g1, g2, by rw [List.length_map] at hl; omega, (EndF.nx (G := G) (pin := pin) (F := F) (H := H) (A := A) (σ := σ) (D0 := D) (out_ret m)) σ F1 _ A' ((n1.trans (Nx.mut n1.fh f9 (List.mem_append_left _ hpA))).sub fun b m => ?_) e' nd' .refl⟩
    rcases sub b m with m | m
    · exact List.mem_append_left _ m
    · rcases List.mem_cons.mp m with m | m
      · exact m ▸ List.mem_append_left _ hpA
      · rcases sub9 b m with m | m
        · exact List.mem_append_left _ (q4 b (List.mem_cons_of_mem _ m))
        · exact List.mem_append_right _ m
  | _ => cases w2
/-- x += e, x -= e for numbers -/
theorem rd_aug {i : Nat} {sb : Bool} {D : Ends} (q : tS G pin cl ini E (exec cl ini pin (.aug i sb a)) D σ H) : tAug i (tE G cl ini (WE E) a) (ipI fun i j => if sb then i - j else i + j) D σ H := by
  obtain ⟨F, A, δ, st, o⟩ := q
  simp only [exec] at o
  have o := out_bnd o
  unfold intS at o
  split at o
  case h_2 => exact o.elim
  rename_i n e
  have o : Out G (WE E) σ F H A _ _ := o
  obtain ⟨s', A1, A2, A3, e1, e2, e3, _⟩ := st.env.split e
  cases e3 with
  | val e3 =>
    cases e3 with
    | fr e3 =>
      cases e3
      refine ⟨.int n, e1, F, A, δ, st, (out_bnd o).imp fun o1 δ1 m v F1 H1 A1 B n1 e1 i1 nd1 => ?_⟩
      obtain ⟨F2, n2, e2, d2, z⟩ := fz n1 e1 i1 nd1
      obtain ⟨o2, el, m⟩ := out_lift (out_bnd m)
      generalize frz o1 = d at d2 el
      cases d2 with
      | int j =>
        cases el
        obtain ⟨h1, h2, m⟩ := out_setS (out_bnd m)
        obtain ⟨A2, e3, nd3, sub⟩ := e2.set (nodup_app nd1) h2 (.fr (.int (if sb = true then n - j else n + j))) .nil (fun _ m => nomatch m)
        exact ⟨n, j, rfl, rfl, (EndF.nx (G := G) (pin := pin) (F := F) (H := H) (A := A) (σ := σ) (D0 := D) (out_ret m)) _ F2 H1 A2 (n2.sub fun a m => by simpa using sub a m) e3 nd3 (.set h1)⟩
      | _ => cases el
theorem ss_aug {i : Nat} {n : Str} {p : Pos} (hN : X.N.Nodup) (hi : X.N[i]? = some n) (hx : Loc X.env.scope n) (he : PE X x (tE G cl ini (WE E) a)) (hf : X.fn n = true ∨ X.env.scope.names.lookup n = some .local := by first | exact .inl rfl | exact .inr rfl | assumption) :
    PS X (.AugAssign (.Name n p) .Add x pos) (tS G pin cl ini E (exec cl ini pin (.aug i false a))) :=
  ⟨fun pins s σ H D I q => (ps_aug hN hi hx he ip_add hf).run pins s σ H D I (rd_aug q)⟩
theorem ss_augS {i : Nat} {n : Str} {p : Pos} (hN : X.N.Nodup) (hi : X.N[i]? = some n) (hx : Loc X.env.scope n) (he : PE X x (tE G cl ini (WE E) a)) (hf : X.fn n = true ∨ X.env.scope.names.lookup n = some .local := by first | exact .inl rfl | exact .inr rfl | assumption) :
    PS X (.AugAssign (.Name n p) .Sub x pos) (tS G pin cl ini E (exec cl ini pin (.aug i true a))) :=
  ⟨fun pins s σ H D I q => (ps_aug hN hi hx he ip_sub hf).run pins s σ H D I (rd_aug q)⟩
/-- x, y = e, e' -/
theorem ss_par {i j : Nat} {n n' : Str} {x' : Expr} {es : Es} {px py pt : Pos} {kt k2 pt2} (hc : X.calm = true) (hN : X.N.Nodup) (hi : X.N[i]? = some n) (hj : X.N[j]? = some n') (hij : i ≠ j)
    (hx : X.env.scope.names.lookup n = some .local) (hy : X.env.scope.names.lookup n' = some .local) (ha : PA X [x, x'] (tDs G cl ini (WE E) es))
    (hw : swappedStores [.Tuple [.Name n px, .Name n' py] kt pt] (.Tuple [x, x'] k2 pt2) X.env = pure (some [n, n']) := by rfl)
    (hs : swapsWithSole [.Tuple [.Name n px, .Name n' py] kt pt] (.Tuple [x, x'] k2 pt2) pos.line X.env = pure false := by rfl) :
    PS X (.Assign [.Tuple [.Name n px, .Name n' py] kt pt] (.Tuple [x, x'] k2 pt2) pos) (tS G pin cl ini E (exec cl ini pin (.asgs i j es))) := by
  refine ⟨fun pins s σ H D I q => (ps_par hc hN hi hj hij hx hy ha hw hs).run pins s σ H D I ?_⟩
  obtain ⟨F, A, δ, st, o⟩ := q
  simp only [exec] at o
  refine ⟨F, A, δ, st, (out_bnd o).imp fun ds δ1 m vs F1 H1 A1 n1 e1 d1 nd1 => ?_⟩
  have m := out_bnd m
  cases d1 with
  | nil => exact m.elim
  | @cons v dv vs ds d1 r =>
    cases r with
    | nil =>
      have m : Out G (WE E) σ F H A (bnd (setS pin i (.fr dv)) (fun _ => setSs pin [j] []) δ1) _ := m
      obtain ⟨_, _, m⟩ := out_setS (out_bnd m)
      exact m.elim
    | @cons v2 dv2 vs ds d2 r =>
      have m : Out G (WE E) σ F H A (bnd (setS pin i (.fr dv)) (fun _ => setSs pin [j] (dv2 :: ds)) δ1) _ := m
      obtain ⟨p1, l1, m⟩ := out_setS (out_bnd m)
      have m : Out G (WE E) σ F H A (bnd (setS pin j (.fr dv2)) (fun _ => setSs pin [] ds) (δ1.set i (.fr dv))) _ := m
      obtain ⟨p2, l2, m⟩ := out_setS (out_bnd m)
      cases r with
      | nil =>
        obtain ⟨A2, e2, nd2, sub2⟩ := e1.set nd1 l1 (.fr d1) .nil (fun _ m => nomatch m)
        obtain ⟨A3, e3, nd3, sub3⟩ := e2.set nd2 l2 (.fr d2) .nil (fun _ m => nomatch m)
        exact ⟨v, v2, rfl, (EndF.nx (G := G) (pin := pin) (F := F) (H := H) (A := A) (σ := σ) (D0 := D) m) _ F1 H1 A3 (n1.sub fun a m => by simpa using sub2 a (by simpa using sub3 a m)) e3 nd3 ((Keep.set p1).trans (.set p2))⟩
      | cons _ _ => exact m.elim
/-- raise X('m') -/
theorem ss_raise {c : Nat} (hc : X.calm = true) (tk : Takes X (WE E)) (he : PMk X x (fun _ H Q => Q (.ref (G.ca c)) none H)) : PS X (.Raise (some x) none pos) (tS G pin cl ini E (exec cl ini pin (.rs c .nil))) := by
  refine ⟨fun pins s σ H D I q => (ps_raise hc tk he).run pins s σ H D I ?_⟩
  obtain ⟨F, A, δ, st, o⟩ := q
  simp only [exec, evd] at o
  have o : EndX G (WE E) σ F H A ⟨c, []⟩ := o
  exact o _ _ F H ((Nx.refl st.ex).sub fun _ m => nomatch m) (.plain c)
end
end Ow
end OxF_
section OxDc_
set_option Elab.async false
set_option linter.all false
set_option maxRecDepth 100000
set_option maxHeartbeats 4000000
/-! Dict comprehensions, whose blocks raise nothing. -/
namespace Ow
open PySem PySem.Spec PyProof.Rows L2
variable [TQ]
def E0 : XK := fun _ _ _ => False
section
variable {G : Gd} {cl : Cl} {ini : Nat → Option Nat} {E : XK} {X : Cx} {σ : L2.St} {F F1 F2 H H1 H2 : Hp} {A A1 A2 B : List Addr} {x y z : Expr} {a b c : Ow.E} {pos : Pos} {k : Nat} {tg : Expr}
theorem out_noEx {α : Type} {σ σ' : L2.St} {m : M α} {δ : Env} {K : α → Env → Prop} (h : Out G (WE E) σ F H A (noEx m δ) K) : Out G (WE E0) σ' F H A (m δ) K := by
  unfold noEx at h
  cases e : m δ with
  | none => rw [e] at h; exact h
  | some r =>
    rw [e] at h
    cases r with
    | ex x => exact h.elim
    | ok a δ' => exact h
theorem px0 {s : Shared} {H0 : Hp} {scope : Scope} {ce : PySem.Env} {fp : List Addr} {L : Addr} {de : PySem.Env} {outer : List PySem.Env} (h1 : ce.frame = some L) (h2 : de.frame = some L) (h3 : X.stack = de :: outer) : Px (blkX X s H0 scope ce fp fun _ _ => False) E0 :=
  ⟨L, de, outer, h1, h2, h3, fun u s' ⟨a, B, sI, pins, σ, H, cls, d, e, I, nb, up, sky, na, os, ag, w⟩ => w⟩
def dcB (cl : Cl) (ini : Nat → Option Nat) (a b : Ow.E) (t : Tg) : D → M (Option (Key × D)) := fun d => bnd (wipeM t.slots) fun _ => bnd (take [] t d) fun _ => bnd (noEx (ev cl ini a)) fun ko => bnd (keyM (.fr (frz ko))) fun kk => bnd (noEx (ev cl ini b)) fun o => ret (some (kk, frz o))
def DcI (G : Gd) (E : XK) (f : D → M (Option (Key × D))) (t : Tg) (ds : List D) (σ : L2.St) (F H : Hp) (A : List Addr) (F1 : Hp) (δ1 : Env) (Q : VK) (D0 : Addr) (i : Nat) (H' : Hp) : Prop :=
  ∃ (F' : Hp) (A' : List Addr) (δ' : Env) (σ' : L2.St) (ws : List (Key × V)) (os : List O), Nx F H A F' H' (A' ++ [D0]) ∧ Ex F1 F' ∧ Agree t.slots σ σ' ∧ IsE G F' H' σ' δ' A' ∧ (A' ++ [D0]).Nodup ∧ F' D0 = none ∧ H' D0 = some (.dK ws) ∧ IsOs G F' H' (ws.map (·.2)) os [] ∧ ws.length ≤ i ∧
    Out G (WE E) σ F H A (each f (ds.drop i) δ') fun r δ2 => t.slots.all (slotD δ2) = true ∧ EndO G σ F H A (.md (dcAcc r (ws.map (·.1), os)).1 (dcAcc r (ws.map (·.1), os)).2) (backS t.slots δ1 δ2) Q
theorem putK_len {ws : List (Key × V)} {k : Key} {v : V} : (putK ws k v).length ≤ ws.length + 1 := by
  unfold putK
  split <;> simp
theorem dc_rd {t : Tg} {it : Ow.It} {Q : VK} (q : tE G cl ini (WE E) (.dc a b t it) σ H Q) : tDc (tI G cl ini (WE E) it) (gT G t) (tTs G cl ini (WE E0) .nil) (tE G cl ini (WE E0) a) (tE G cl ini (WE E0) b) t.slots σ H Q := by
  obtain ⟨F, A, δ, st, o⟩ := q
  simp only [ev] at o
  refine ⟨F, A, δ, st, (out_bnd o).imp fun ds δ1 m F1 H1 A1 J n1 e1 nd1 y D0 hD => ?_⟩
  split at m
  case isFalse => exact m.elim
  rename_i hl
  obtain ⟨a0, m⟩ := out_block m
  have m : Out G (WE E) σ F H A (bnd (each (dcB cl ini a b t) ds) (fun kds => ret (.md (dcAcc kds ([], [])).1 (dcAcc kds ([], [])).2)) (wipeS t.slots δ1)) fun a δ' => t.slots.all (slotD δ') = true ∧ EndO G σ F H A a (backS t.slots δ1 δ') Q := m
  have fD : F1 D0 = none := n1.fh.none hD
  have nD : D0 ∉ A1 := fun z => by
    obtain ⟨_, u, h⟩ := e1.own D0 z
    rw [hD] at h
    cases h
  refine ⟨fun i mm H' => mm = ds.length - i ∧ i ≤ ds.length ∧ DcI G E (dcB cl ini a b t) t ds σ F H A F1 δ1 Q D0 i H', ⟨ds.length, rfl, Nat.zero_le _, F1, A1, wipeS t.slots δ1, wipe σ t.slots, [], [], ?_, .refl _, wipe_agree σ _, ?_, nodup_snoc nd1 nD, fD, upd_same, .nil, Nat.le_refl _, ?_⟩, ?_⟩
  · exact (n1.trans (Nx.new n1.fh hD)).sub fun a m => by simpa [or_comm] using m
  · exact (e1.wipe a0).frame (.refl _) fun a m => ⟨upd_ne fun z => nD (z ▸ m), (e1.own a m).1⟩
  · exact (out_bnd m).imp fun r δ2 k => k
  · rintro i mm H2 ⟨rfl, hi, F2, A2, δ2, σ2, ws, os, n2, x2, g2, e2, nd2, f2, h2, d2, l2, o2⟩
    have nD2 : D0 ∉ A2 := fun z => (List.nodup_append.mp nd2).2.2 D0 z D0 (by simp) rfl
    rcases Nat.lt_or_ge i ds.length with hlt | hge
    · refine .inr ⟨y.go i H2 (x2.trans n2.fh) hlt, DcI G E (dcB cl ini a b t) t ds σ F H A F1 δ1 Q D0 (i + 1), fun H3 w => ⟨_, by omega, rfl, hlt, w⟩, fun x H3 yh => ?_⟩
      have hd : ds[i]? = some ds[i] := by simp [hlt]
      rw [List.drop_eq_getElem_cons hlt] at o2
      generalize ds[i] = d at hd o2
      generalize hr : ds.drop (i + 1) = rest at o2
      rw [each_cons] at o2
      have o2 := out_bnd o2
      obtain ⟨a1, o3⟩ := out_wipe (out_bnd (show Out G (WE E) σ F H A (bnd (wipeM t.slots) (fun _ => bnd (take [] t d) fun _ => bnd (noEx (ev cl ini a)) fun ko => bnd (keyM (.fr (frz ko))) fun kk => bnd (noEx (ev cl ini b)) fun o => ret (some (kk, frz o))) δ2) _ from o2))
      obtain ⟨δ3, tk, o4⟩ := take_ok (out_bnd o3)
      obtain ⟨F3, n3, dv⟩ := y.yld i H2 x H3 d F2 x2 n2.fh hd yh
      obtain ⟨h3, f3, _⟩ := n3.fr D0 _ h2 f2 (fun z => nomatch z) (fun ps z => by cases ps <;> cases z)
      have e3 := (e2.thru n3 fun _ _ z => nomatch z).wipe a1
      rw [g2.wipe_eq] at e3
      refine tgRd n3.fh e3 (List.nodup_append.mp nd2).1 dv tk fun σ4 A4 e4 nd4 sub4 g4 _ => ⟨by rw [g4.wipe_eq, (wipe_agree σ _).wipe_eq], ?_⟩
      have n4 : Nx F H A F3 H3 (A4 ++ [D0]) := (Nx.tmp (A1 := []) (B := A2 ++ [D0]) n2 n3).sub fun b m => by
        rcases List.mem_append.mp m with m | m
        · simp [sub4 b m]
        · simp at m; simp [m]
      have nD4 : D0 ∉ A4 := fun z => nD2 (sub4 _ z)
      refine ⟨F3, A4, δ3, ⟨st.b0.trans n4.ff, n4.fh, e4, nd4⟩, ?_⟩
      simp only [evt]
      refine fun F5 H5 A5 n5 e5 nd5 => ?_
      obtain ⟨f5, h5, nD5⟩ := keepD n5 f3 h3 nD4 (fun ps z => by cases ps <;> cases z)
      have n5' := n4.tmp n5
      rw [if_pos rfl]
      refine ⟨F5, A5, δ3, ⟨st.b0.trans n5'.ff, n5'.fh, e5, nd5⟩, ((out_noEx (out_bnd o4)).from n5'.left).imp fun ko δ6 m6 v F6 H6 A6 B6 n6 e6 i6 nd6 => ?_⟩
      obtain ⟨F7, n7, e7, d7, z7⟩ := fz n6 e6 i6 nd6
      obtain ⟨f7, h7, nD7⟩ := keepD n7 f5 h5 nD5 (fun ps z => by cases ps <;> cases z)
      obtain ⟨kk, ek, m6⟩ := out_lift (out_bnd m6)
      have n7' := n5'.tmp n7
      refine ⟨F7, A6, δ6, ⟨st.b0.trans n7'.ff, n7'.fh, e7, nodup_app nd6⟩, ((out_noEx (out_bnd m6)).from n7'.left).imp fun o δ8 m8 v8 F8 H8 A8 B8 n8 e8 i8 nd8 => ?_⟩
      obtain ⟨F9, n9, e9, d9, z9⟩ := fz n8 e8 i8 nd8
      obtain ⟨f9, h9, nD9⟩ := keepD n9 f7 h7 nD7 (fun ps z => by cases ps <;> cases z)
      have m8 := out_bnd (show Out G (WE E) σ F H A (bnd (each (dcB cl ini a b t) rest) (fun r => ret ((kk, frz o) :: r)) δ8) _ from m8)
      have x9 : Ex F1 F9 := (((x2.trans n3.ff).trans n5.ff).trans n7.ff).trans n9.ff
      have d9' : IsOs G F9 H8 (ws.map (·.2)) os [] := d2.frame (((n3.ff.trans n5.ff).trans n7.ff).trans n9.ff) fun _ m => nomatch m
      obtain ⟨k1, C', k2, k3⟩ := put_ok (k := kk) d9' d9
      have eC : C' = [] := List.eq_nil_of_sublist_nil k3
      subst eC
      refine ⟨ws, kk, keyD_is d7 ek, h9, by have := sm_size; omega, F9, A8, δ8, σ4, putK ws kk v8, (putO (ws.map (·.1)) os kk (.fr (frz o))).2, (n7'.tmp n9).trans (Nx.mut n9.fh f9 (by simp)), x9, (wipe_agree σ _).trans g4, e9.frame (.refl _) (fun a m => ⟨upd_ne fun z => nD9 (z ▸ m), (e9.own a m).1⟩), nodup_snoc (nodup_app nd8) nD9, f9, upd_same, k2.frame (.refl _) (fun _ m => nomatch m), by have := putK_len (ws := ws) (k := kk) (v := v8); omega, ?_⟩
      rw [hr, k1]
      exact m8.imp fun r δ9 k => k
    · refine .inl ⟨y.stop i H2 (x2.trans n2.fh) hge, ?_⟩
      rw [List.drop_of_length_le hge] at o2
      rw [each_nil] at o2
      obtain ⟨a2, o2⟩ := (show t.slots.all (slotD δ2) = true ∧ EndO G σ F H A (.md (ws.map (·.1)) os) (backS t.slots δ1 δ2) Q from out_ret o2)
      have eb := e1.back x2 (F := F2) (H := H2) a0 a2 e2
      rw [foldr_back g2] at eb
      exact o2 (.ref D0) F2 H2 A2 [D0] n2 eb (.md f2 h2 d2) nd2
theorem se_dc {t : Tg} {it : Ow.It} {iter kx vx : Expr} {scope : Scope} {own : List (Str × Nat)} (hc : X.calm = true) (hN : X.N.Nodup) (hi : PI X tg iter (tI G cl ini (WE E) it)) (ok : BlkOk X.N X.env.scope scope own) (hv : own.map (·.2) = t.slots)
    (hg : ∀ (s : Shared) (H : Hp) (C : Addr) (c : List (Str × Addr)) (fp : List Addr), PG (blkX X s H scope (compEnvC scope c C X.env) fp fun _ _ => False) tg (gT G t))
    (ht : ∀ (s : Shared) (H : Hp) (C : Addr) (c : List (Str × Addr)) (fp : List Addr), PTs (blkX X s H scope (compEnvC scope c C X.env) fp fun _ _ => False) [] (tTs G cl ini (WE E0) .nil))
    (hk : ∀ (s : Shared) (H : Hp) (C : Addr) (c : List (Str × Addr)) (fp : List Addr), PE (blkX X s H scope (compEnvC scope c C X.env) fp fun _ _ => False) kx (tE G cl ini (WE E0) a))
    (he : ∀ (s : Shared) (H : Hp) (C : Addr) (c : List (Str × Addr)) (fp : List Addr), PE (blkX X s H scope (compEnvC scope c C X.env) fp fun _ _ => False) vx (tE G cl ini (WE E0) b)) (hs : ∀ x, foldedSetIterable iter X.env x = pure x := by intro _; rfl) :
    PE X (.DictComp kx vx [⟨tg, iter, [], 0⟩] scope pos) (tE G cl ini (WE E) (.dc a b t it)) := by
  refine ⟨fun pins s σ H Q I q => (pe_dc hc hN hi ok hg ht hk he hs).run pins s σ H Q I ?_⟩
  rw [hv]
  exact dc_rd q
theorem ps_setDc {i : Nat} {n : Str} {py : Pos} {kx vx iter : Expr} {ifs : List Expr} {scope : Scope} {own : List (Str × Nat)} {pos spos : Pos} {wi : TI} {g : TG} {tt : TT} {tk tv : TE} (hc : X.calm = true) (hN : X.N.Nodup) (hy : X.N[i]? = some n) (hyl : X.env.scope.names.lookup n = some .local)
    (hsw : swapsWith (.DictComp kx vx [⟨tg, iter, ifs, 0⟩] scope pos) (some (.Name n py)) spos.line X.env = pure true) (hi : PI X tg iter wi) (ok : BlkOk X.N X.env.scope scope own)
    (hg : ∀ (s : Shared) (H : Hp) (C : Addr) (cl : List (Str × Addr)) (fp : List Addr), PG (X.blk s H scope (compEnvC scope cl C X.env) fp) tg g) (ht : ∀ (s : Shared) (H : Hp) (C : Addr) (cl : List (Str × Addr)) (fp : List Addr), PTs (X.blk s H scope (compEnvC scope cl C X.env) fp) ifs tt)
    (hk : ∀ (s : Shared) (H : Hp) (C : Addr) (cl : List (Str × Addr)) (fp : List Addr), PE (X.blk s H scope (compEnvC scope cl C X.env) fp) kx tk)
    (he : ∀ (s : Shared) (H : Hp) (C : Addr) (cl : List (Str × Addr)) (fp : List Addr), PE (X.blk s H scope (compEnvC scope cl C X.env) fp) vx tv) (hs : ∀ x, foldedSetIterable iter X.env x = pure x := by intro _; rfl) :
    PS X (.Assign [.Name n py] (.DictComp kx vx [⟨tg, iter, ifs, 0⟩] scope pos) spos) (tAsg (tDc wi g tt tk tv (own.map (·.2))) (gName i)) := by
  refine ⟨fun pins s σ H D I h => ?_⟩
  rw [exec_Assign_Name_used _ _ _ _ hsw]
  refine wpAny_bind (wpAny_standAt (wpAny_bind ?_))
  show wpAny _ X.A (do let _ ← comprehension (.DictComp kx vx [⟨tg, iter, ifs, 0⟩] scope pos) scope X.env (firstIterPos [⟨tg, iter, ifs, 0⟩] pos) newDict false (eval iter X.env) (some (assign (.Name n py) X.env))) _ _ s
  have h : tDc wi g tt tk tv (own.map (·.2)) σ H (fun x H1 => gName i x σ H1 D.nx) := h
  refine wpAny_bind (thn (dc_core (Qf := fun _ s' => SP X pins D .next s') hc hN I hi ok hg ht hk he hs h fun L C s' m H' I' q hn f => ?_) fun _ s' hq => wpAny_pure (wpAny_pure hq))
  show wpAny _ _ (assign (.Name n py) X.env (.ref L)) _ _ _
  refine wpAny_assign_Name (store_ok2 (v := V.ref L) I' hN hy (.inl hyl) rfl (fun s2 I2 ⟨a, sb, ha⟩ => ?_) (.inr hyl))
  obtain ⟨f0, f1, f2, f3, f4, f5⟩ := f
  have haC : C ≠ a := by
    rcases ha with z | z
    · rw [z]; exact f1
    · exact fun e => f4 n a z e.symm
  refine ⟨m, hn.sameBut sb haC, fun h3 sb3 => ?_⟩
  exact ⟨_, H', I2.turned (t' := s2.toks) (fun b o hb e => (sb3.2 b hb).trans e) f0 f1 f3 f4 f5, q⟩
theorem ss_setDc {pin : List Nat} {i : Nat} {n : Str} {p spos : Pos} {t : Tg} {it : Ow.It} {iter kx vx : Expr} {scope : Scope} {own : List (Str × Nat)} (hc : X.calm = true) (hN : X.N.Nodup) (hy : X.N[i]? = some n) (hyl : X.env.scope.names.lookup n = some .local)
    (hsw : swapsWith (.DictComp kx vx [⟨tg, iter, [], 0⟩] scope pos) (some (.Name n p)) spos.line X.env = pure true) (hi : PI X tg iter (tI G cl ini (WE E) it)) (ok : BlkOk X.N X.env.scope scope own) (hv : own.map (·.2) = t.slots)
    (hg : ∀ (s : Shared) (H : Hp) (C : Addr) (c : List (Str × Addr)) (fp : List Addr), PG (blkX X s H scope (compEnvC scope c C X.env) fp fun _ _ => False) tg (gT G t))
    (ht : ∀ (s : Shared) (H : Hp) (C : Addr) (c : List (Str × Addr)) (fp : List Addr), PTs (blkX X s H scope (compEnvC scope c C X.env) fp fun _ _ => False) [] (tTs G cl ini (WE E0) .nil))
    (hk : ∀ (s : Shared) (H : Hp) (C : Addr) (c : List (Str × Addr)) (fp : List Addr), PE (blkX X s H scope (compEnvC scope c C X.env) fp fun _ _ => False) kx (tE G cl ini (WE E0) a))
    (he : ∀ (s : Shared) (H : Hp) (C : Addr) (c : List (Str × Addr)) (fp : List Addr), PE (blkX X s H scope (compEnvC scope c C X.env) fp fun _ _ => False) vx (tE G cl ini (WE E0) b)) (hs : ∀ x, foldedSetIterable iter X.env x = pure x := by intro _; rfl) :
    PS X (.Assign [.Name n p] (.DictComp kx vx [⟨tg, iter, [], 0⟩] scope pos) spos) (tS G pin cl ini E (exec cl ini pin (.asg (.one i) (.dc a b t it)))) := by
  refine ⟨fun pins s σ H D I q => (ps_setDc hc hN hy hyl hsw hi ok hg ht hk he hs).run pins s σ H D I ?_⟩
  rw [hv]
  exact dc_rd (rd_set q)
end
end Ow
end OxDc_
section OxK_
set_option Elab.async false
set_option linter.all false
set_option maxRecDepth 100000
set_option maxHeartbeats 4000000
/-! A dict walked: it is locked from then on. -/
namespace Ow
open PySem PySem.Spec PyProof.Rows L2
variable [TQ]
section
variable {G : Gd} {cl : Cl} {ini : Nat → Option Nat} {W : WX} {X : Cx} {σ : L2.St} {F F1 F2 F' H H1 H2 H3 H' : Hp} {A A1 A2 B : List Addr} {x y z : Expr} {a b c : Ow.E} {pos cpos apos : Pos} {tg : Expr}
/-- a dict comes, and is locked -/
def tLk (td : TE) : TE := fun σ H Q => td σ H fun x H1 => ∃ (d : Addr) (ws : List (Key × V)), x = .ref d ∧ ((∃ o, H1 d = some (.frz o (.dK ws)) ∧ Q x H1) ∨ (H1 d = some (.dK ws) ∧ ∀ o, Q x (upd H1 d (.frz o (.dK ws)))))
theorem pe_lk {td : TE} (he : PE X x td) : PE X x (tLk td) := by
  refine ⟨fun pins s σ H Q I q => thn (he.run pins s σ H _ I q) fun v s1 ⟨y, H1, I1, r, d, ws, e, h⟩ => ?_⟩
  rcases h with ⟨o, hd, q⟩ | ⟨hd, q⟩
  · exact ⟨y, H1, I1, r, q⟩
  · obtain ⟨od, I2⟩ := I1.lock hd trivial
    exact ⟨y, _, I2, r, q od⟩
theorem lk_nx {d : Addr} {ws : List (Key × V)} {o : Obj} (e : Ex F H) (hF : F d = some (.dK ws) ∨ F d = some (.frz o (.dK ws))) (h3 : H3 d = some (.frz o (.dK ws))) (hne : ∀ b, b ≠ d → H3 b = H b) : Nx F H A (upd F d (.frz o (.dK ws))) H3 A := by
  have fd : F d ≠ none := by rcases hF with h | h <;> (rw [h]; exact fun z => nomatch z)
  refine ⟨fun b u q => ?_, fun b u q => ?_, fun b u q n m _ => ?_⟩
  · by_cases z : b = d
    · subst z
      rw [upd_same]
      rcases hF with h | h
      · rw [h] at q; cases q; exact .inr (.inl ⟨ws, o, rfl, rfl⟩)
      · rw [h] at q; cases q; exact .inl rfl
    · rw [upd_ne z]; exact .inl q
  · by_cases z : b = d
    · subst z
      rw [upd_same] at q
      cases q
      exact .inl h3
    · rw [upd_ne z] at q
      rw [hne b z]
      refine (e b u q).imp id fun z2 => z2.imp id fun ⟨ps, ps', w, q', t⟩ => ⟨ps, ps', w, q', tab_swap t (hne b z) fun c φ hc => ?_⟩
      · rw [hne c fun zc => ?_]
        · exact hc
        · rw [zc] at hc
          rcases hF with h | h
          · rcases e d _ h with y | ⟨_, _, _, y⟩ | ⟨_, _, y, _⟩
            · rw [hc] at y; cases y
            · rw [hc] at y; cases y
            · cases y
          · have y := e.at h
            rw [hc] at y; cases y
  · have z : b ≠ d := fun z => fd (z ▸ n)
    exact ⟨(hne b z).trans q, by rw [upd_ne z]; exact n, m⟩
/-- what stands behind it -/
structure Lkd (G : Gd) (σ : L2.St) (F H : Hp) (A : List Addr) (δ : Env) (v : V) (ks : List Key) (ds : List Ow.D) (Q : VK) : Prop where
  ex : ∃ d ws, v = .ref d ∧ ws.map (·.1) = ks ∧ ((∃ o, H d = some (.frz o (.dK ws)) ∧ Q v H) ∨ (H d = some (.dK ws) ∧ ∀ o, Q v (upd H d (.frz o (.dK ws)))))
theorem lk_rd {δ : Env} {v : V} {ks : List Key} {ds : List Ow.D} {Q : VK} (n : Nx F H A F1 H1 A1) (e : IsE G F1 H1 σ δ A1) (nd : A1.Nodup) (h : IsD G F1 v (.dic ks ds))
    (k : ∀ d ws o F2 H2, v = .ref d → ws.map (·.1) = ks → IsDs G F2 (ws.map (·.2)) ds → F2 d = some (.frz o (.dK ws)) → H2 d = some (.frz o (.dK ws)) → Nx F H A F2 H2 A1 → IsE G F2 H2 σ δ A1 → Q v H2) :
    ∃ (d : Addr) (ws : List (Key × V)), v = .ref d ∧ ((∃ o, H1 d = some (.frz o (.dK ws)) ∧ Q v H1) ∨ (H1 d = some (.dK ws) ∧ ∀ o, Q v (upd H1 d (.frz o (.dK ws))))) := by
  cases h with
  | @dic d ws _ hr r =>
    have fd : F1 d ≠ none := by rcases hr with h | ⟨o, h⟩ <;> (rw [h]; exact fun z => nomatch z)
    have go : ∀ o H2, (F1 d = some (.dK ws) ∨ F1 d = some (.frz o (.dK ws))) → H2 d = some (.frz o (.dK ws)) → (∀ b, b ≠ d → H2 b = H1 b) → Q (.ref d) H2 := fun o H2 hF h2 hne => by
      have n2 : Nx F1 H1 A1 (upd F1 d (.frz o (.dK ws))) H2 A1 := lk_nx n.fh hF h2 hne
      refine k d ws o _ H2 rfl rfl (r.mono n2.ff) upd_same h2 (n.trans n2) (e.frame n2.ff fun b m => ?_)
      have z : b ≠ d := fun z => fd (z ▸ (e.own b m).1)
      exact ⟨hne b z, by rw [upd_ne z]; exact (e.own b m).1⟩
    refine ⟨d, ws, rfl, ?_⟩
    rcases hr with h | ⟨o, h⟩
    · rcases n.fh _ _ h with h1 | ⟨ws', o, z, h1⟩ | ⟨_, _, z, _⟩
      · exact .inr ⟨h1, fun o => go o _ (.inl h) upd_same fun b z => upd_ne z⟩
      · cases z
        exact .inl ⟨o, h1, go o _ (.inl h) h1 fun _ _ => rfl⟩
      · cases z
    · have h1 := n.fh.at h
      exact .inl ⟨o, h1, go o _ (.inr h) h1 fun _ _ => rfl⟩
def kD : Key → Ow.D := fun k => match k with | .inl i => .int i | .inr x => .str x
theorem kD_is {k : Key} : IsD G F (kV k) (kD k) := by
  cases k with
  | inl i => exact .int i
  | inr x => exact .str x
theorem y_keys {d : Addr} {od : Obj} {ws : List (Key × V)} (h : F d = some (.frz od (.dK ws))) : Yields G (Itk d od ws) F ((ws.map (·.1)).map kD) where
  go := fun i H e hi => ⟨e.at h, by simpa using hi⟩
  stop := fun i H e hi => ⟨e.at h, by simpa using hi⟩
  yld := fun i H v H' x F1 e1 e2 hd ⟨q1, k, w, q2, q3⟩ => by
    subst q1 q3
    rw [List.getElem?_map, List.getElem?_map, q2] at hd
    cases hd
    exact ⟨F1, .refl e2, kD_is⟩
theorem y_vals {d : Addr} {od : Obj} {ws : List (Key × V)} {ds : List Ow.D} (h : F d = some (.frz od (.dK ws))) (r : IsDs G F (ws.map (·.2)) ds) : Yields G (Itd d od ws) F ds where
  go := fun i H e hi => ⟨e.at h, by have := r.len; simp at this; omega⟩
  stop := fun i H e hi => ⟨e.at h, by have := r.len; simp at this; omega⟩
  yld := fun i H v H' x F1 e1 e2 hd ⟨q1, k, q2⟩ => by
    subst q1
    obtain ⟨w, w1, w2⟩ := r.at hd
    rw [List.getElem?_map, q2] at w1
    cases w1
    exact ⟨F1, .refl e2, w2.mono e1⟩
theorem paired_get : ∀ {ks : List Key} {ds : List Ow.D} {i : Nat} {x}, (paired ks ds)[i]? = some x → ∃ k d, ks[i]? = some k ∧ ds[i]? = some d ∧ x = .tup [kD k, d]
  | [], ds, i, x, h => by simp [paired] at h
  | _ :: _, [], i, x, h => by simp [paired] at h
  | k :: ks, d :: ds, 0, x, h => by simp [paired] at h; exact ⟨k, d, rfl, rfl, h.symm⟩
  | k :: ks, d :: ds, i + 1, x, h => by
    obtain ⟨k', d', h1, h2, h3⟩ := paired_get (ks := ks) (ds := ds) (i := i) (by simpa [paired] using h)
    exact ⟨k', d', by simpa using h1, by simpa using h2, h3⟩
theorem paired_len : ∀ {ks : List Key} {ds : List Ow.D}, ks.length = ds.length → (paired ks ds).length = ks.length
  | [], [], _ => rfl
  | k :: ks, d :: ds, h => by
    have := paired_len (ks := ks) (ds := ds) (by simpa using h)
    simp [paired, this]
theorem y_items {d : Addr} {od : Obj} {ws : List (Key × V)} {ds : List Ow.D} (h : F d = some (.frz od (.dK ws))) (r : IsDs G F (ws.map (·.2)) ds) : Yields G (Iti d od ws) F (paired (ws.map (·.1)) ds) where
  go := fun i H e hi => ⟨e.at h, by have := r.len; rw [paired_len (by simpa using this)] at hi; simpa using hi⟩
  stop := fun i H e hi => ⟨e.at h, by have := r.len; rw [paired_len (by simpa using this)] at hi; simpa using hi⟩
  yld := fun i H v H' x F1 e1 e2 hd ⟨T, k, w, q1, q2, q3, q4⟩ => by
    subst q2 q4
    obtain ⟨k', d', h1, h2, rfl⟩ := paired_get hd
    rw [List.getElem?_map, q1] at h1
    cases h1
    obtain ⟨w', w1, w2⟩ := r.at h2
    rw [List.getElem?_map, q1] at w1
    cases w1
    refine ⟨_, .newF e2 q3, .tup upd_same (.cons kD_is (.cons ((w2.mono e1).mono (.new (e2.none q3))) .nil))⟩
theorem si_keys (h : PE X x (tE G cl ini W a)) : PI X tg x (tI G cl ini W (.seq .k a)) := by
  refine ⟨fun pins s σ H R I q => (pi_keys (pe_lk h)).run pins s σ H R I ?_⟩
  obtain ⟨F, A, δ, st, o⟩ := q
  simp only [evi] at o
  refine ⟨F, A, δ, st, (out_bnd o).imp fun o1 δ1 m v F1 H1 A1 B n1 e1 i1 nd1 => ?_⟩
  obtain ⟨ds, er, m⟩ := out_lift m
  obtain ⟨F2, n2, e2, d2, z⟩ := fz n1 e1 i1 nd1
  generalize frz o1 = d at d2 er
  cases d with
  | dic ks xs =>
    cases er
    exact lk_rd (Q := fun x H1 => ∃ d o, x = V.ref d ∧ ((∃ kvs, H1 d = some (.frz o (.dK kvs)) ∧ R (Itk d o kvs) H1) ∨ ∃ kvs, H1 d = some (.frz o (.dT kvs)) ∧ R (Itkt d o kvs) H1)) n2 e2 (nodup_app nd1) d2 fun d ws od F3 H3 ev ek r f3 h3 n3 e3 => ⟨d, od, ev, .inl ⟨ws, h3, m F3 H3 A1 _ n3 e3 (nodup_app nd1) (by rw [← ek]; exact y_keys f3)⟩⟩
  | _ => cases er
theorem si_vals (h : PE X x (tE G cl ini W a)) (hbase : attributeBase x "values" X.env (eval x X.env) = eval x X.env := by rfl) (hline : (apos.endLine == cpos.line) = true := by rfl) : PI X tg (.Call (.Attribute x "values" apos) [] [] cpos) (tI G cl ini W (.values a)) := by
  refine ⟨fun pins s σ H R I q => (pi_values (pe_lk h) hbase hline).run pins s σ H R I ?_⟩
  obtain ⟨F, A, δ, st, o⟩ := q
  simp only [evi] at o
  refine ⟨F, A, δ, st, (out_bnd o).imp fun o1 δ1 m v F1 H1 A1 B n1 e1 i1 nd1 => ?_⟩
  obtain ⟨ds, er, m⟩ := out_lift m
  obtain ⟨F2, n2, e2, d2, z⟩ := fz n1 e1 i1 nd1
  generalize frz o1 = d at d2 er
  cases d with
  | dic ks xs =>
    cases er
    exact lk_rd (Q := fun x H1 => ∃ d o kvs, x = V.ref d ∧ H1 d = some (.frz o (.dK kvs)) ∧ R (Itd d o kvs) H1) n2 e2 (nodup_app nd1) d2 fun d ws od F3 H3 ev ek r f3 h3 n3 e3 => ⟨d, od, ws, ev, h3, m F3 H3 A1 _ n3 e3 (nodup_app nd1) (y_vals f3 r)⟩
  | _ => cases er
theorem si_items {elts : List Expr} {kk : Nat} {tpos : Pos} (h : PE X x (tE G cl ini W a)) (hbase : attributeBase x "items" X.env (eval x X.env) = eval x X.env := by rfl) (hline : (apos.endLine == cpos.line) = true := by rfl) : PI X (.Tuple elts kk tpos) (.Call (.Attribute x "items" apos) [] [] cpos) (tI G cl ini W (.items a)) := by
  refine ⟨fun pins s σ H R I q => (pi_items (pe_lk h) hbase hline).run pins s σ H R I ?_⟩
  obtain ⟨F, A, δ, st, o⟩ := q
  simp only [evi] at o
  refine ⟨F, A, δ, st, (out_bnd o).imp fun o1 δ1 m v F1 H1 A1 B n1 e1 i1 nd1 => ?_⟩
  obtain ⟨ds, er, m⟩ := out_lift m
  obtain ⟨F2, n2, e2, d2, z⟩ := fz n1 e1 i1 nd1
  generalize frz o1 = d at d2 er
  cases d with
  | dic ks xs =>
    cases er
    exact lk_rd (Q := fun x H1 => ∃ d o kvs, x = V.ref d ∧ H1 d = some (.frz o (.dK kvs)) ∧ R (Iti d o kvs) H1) n2 e2 (nodup_app nd1) d2 fun d ws od F3 H3 ev ek r f3 h3 n3 e3 => ⟨d, od, ws, ev, h3, m F3 H3 A1 _ n3 e3 (nodup_app nd1) (by rw [← ek]; exact y_items f3 r)⟩
  | _ => cases er
end
end Ow
end OxK_
section OxL_
set_option Elab.async false
set_option linter.all false
set_option maxRecDepth 100000
set_option maxHeartbeats 4000000
/-! A few more operations. -/
namespace Ow
open PySem PySem.Spec PyProof.Rows L2
variable [TQ]
section
variable {G : Gd} {cl : Cl} {ini : Nat → Option Nat} {W : WX} {X : Cx} {σ : L2.St} {F H : Hp} {A : List Addr} {x y z : Expr} {a b c : Ow.E} {pos p p2 cpos apos : Pos}
theorem ok_neg : PrOk1 G .neg (rU fun i => .int (-i)) := by
  intro F H v1 o1 o Q e h1 q k
  have q : prNeg o1 = some o := q
  unfold prNeg at q
  split at q
  · cases q
    cases pk_int h1
    exact ⟨_, rfl, k_fr e k (.int _)⟩
  · cases q
theorem se_neg (ha : PE X x (tP G cl ini W a)) : PE X (.UnaryOp .USub x pos) (tE G cl ini W (.prim .neg (.cons a .nil))) :=
  ⟨fun pins s σ H Q I q => (pe_un un_neg ha).run pins s σ H Q I (rd_op1 ok_neg q)⟩
abbrev rToi : List V → Hp → VK → Prop := fun xs H Q => (∃ i, xs = [.int i] ∧ Q (.int i) H) ∨ ∃ k, xs = [.bl k] ∧ Q (.int (if k then 1 else 0)) H
theorem ok_toi : PrOk1 G .toi (fun x => rToi [x]) := by
  intro F H v1 o1 o Q e h1 q k
  have q : prToi o1 = some o := q
  unfold prToi at q
  split at q
  · cases q
    cases pk_int h1
    exact .inl ⟨_, rfl, k_fr e k (.int _)⟩
  · cases q
    cases pk_bl h1
    exact .inr ⟨_, rfl, k_fr e k (.int _)⟩
  · cases q
theorem strsD_is {ds : List Ow.D} {vs : List V} {ys : List Str} (h : IsDs G F vs ds) (e : strsD ds = some ys) : vs = ys.map V.str := by
  induction ds generalizing vs ys with
  | nil => cases h; cases e; rfl
  | cons d ds ih =>
    cases h with | cons h r =>
    cases d with
    | str s =>
      obtain ⟨ys, e1, rfl⟩ := Option.map_eq_some_iff.mp (show (strsD ds).map (s :: ·) = some ys from e)
      cases h
      rw [ih r e1]
      rfl
    | _ => cases e
abbrev rJoin (K : PySem.W.Frag) : V → List V → Hp → VK → Prop := fun x xs H Q => ∃ a p, ∃ ys : List Str, x = .str a ∧ xs = [.ref p] ∧ (SqL K H p (ys.map V.str) ∨ SqT K H p (ys.map V.str)) ∧ (ys.map (·.length)).sum + ys.length * a.length ≤ 16777216 ∧ Q (.str (Txt.join a ys)) H
theorem join_ok {s : Str} {v2 : V} {o2 o : O} {Q : VK} (e : Ex F H) (h2 : Pk G F H v2 o2) (q : prJoin (.fr (.str s)) o2 = some o) (k : ∀ v F' H' B, Nx F H [] F' H' B → IsO G F' H' v o B → B.Nodup → Q v H') : rJoin G.K (.str s) [v2] H Q := by
  obtain ⟨ds, e1, q⟩ := Option.bind_eq_some_iff.mp (show ((elems o2).bind fun ds => (strsD ds).bind fun ys => if (ys.map (·.length)).sum + ys.length * s.length ≤ 16777216 then some (.fr (.str (Txt.join s ys))) else none) = some o from q)
  obtain ⟨ys, e2, q⟩ := Option.bind_eq_some_iff.mp q
  split at q
  case isFalse => cases q
  rename_i hl
  cases q
  obtain ⟨a, vs, rfl, ha, ra⟩ := pk_elems rfl e h2 e1
  cases strsD_is ra e2
  exact ⟨_, _, _, rfl, rfl, ha, hl, k_fr e k (.str _)⟩
/-- 's'.join(e) -/
theorem se_join {s : Str} {j : Nat} (hK : X.K = G.K) (ha : PE X x (tP G cl ini W a))
    (hbase : attributeBase (.Constant (.str s) j p) "join" X.env (eval (.Constant (.str s) j p) X.env) = eval (.Constant (.str s) j p) X.env := by rfl)
    (hfew : ((backTo cpos (starEach [x] X.env)).all (fun x => !x.1) && (backToKw cpos (keywordEach [] X.env)).all (fun x => x.1.isSome) && decide ([x].length + ([] : List Keyword).length + (if ([] : List Keyword).isEmpty then 0 else 1) < 30)) = true := by rfl)
    (hline : (apos.endLine == cpos.line) = true := by rfl) (h0 : starEach [x] X.env = (false, eval x X.env) :: starEach [] X.env := by rfl) (hpl : (backTo cpos (starEach [] X.env)).any (·.1) = false := by rfl) :
    PE X (.Call (.Attribute (.Constant (.str s) j p) "join" apos) [x] [] cpos) (tE G cl ini W (.prim .join (.cons (.cst (.str s)) (.cons a .nil)))) := by
  refine ⟨fun pins s0 σ H Q I q => (pe_bm PySem.F.plainAttrs_str PySem.F.slot_str_join PySem.F.type_str_join mt_join pe_str (pa_cons ha pa_nil h0) hbase hfew hline h0 hpl).run pins s0 σ H Q I ⟨rfl, ?_⟩⟩
  obtain ⟨F, A, δ, st, o⟩ := q
  simp only [ev, evs] at o
  have o1 : Out G W σ F H A (bnd (bnd (pk a (ev cl ini a)) fun p => bnd (ret []) fun ps => ret (p :: ps)) (fun ps => ret (PO.vl (.fr (.str s)) :: ps)) δ) fun ps δ' => Out G W σ F H A (bnd (resM ps) (fun os => lift (pr .join os)) δ') fun o δ' => EndO G σ F H A o δ' Q := by
    have z := out_bnd (out_bnd o)
    exact z
  refine ⟨F, A, δ, st, (out_bnd (out_bnd o1)).imp fun pa δ1 m v F1 H1 A1 B1 n1 e1 p1 nd1 => ?_⟩
  have m : Out G W σ F H A (bnd (resM [PO.vl (.fr (.str s)), pa]) (fun os => lift (pr .join os)) δ1) fun o δ' => EndO G σ F H A o δ' Q := m
  obtain ⟨os, er, m4⟩ := out_res (out_bnd m)
  obtain ⟨o1, o2, rfl, r1, r2⟩ := ress2 er
  cases r1
  obtain ⟨o', eo, m5⟩ := out_lift m4
  have z := join_ok (Q := Q) n1.fh (e1.res p1 r2) eo (EndO.op m5 n1.left e1 (nodup_app nd1))
  rw [← hK] at z
  exact z
theorem se_toi (hg : Gl X "int") (hm : X.mg "int" = none) (ha : PE X x (tP G cl ini W a)) (h0 : starEach [x] X.env = (false, eval x X.env) :: starEach [] X.env := by rfl) (hpl : (backTo pos (starEach [] X.env)).any (·.1) = false := by rfl) :
    PE X (.Call (.Name "int" p) [x] [] pos) (tE G cl ini W (.prim .toi (.cons a .nil))) := se_t1 call_int1 ok_toi hg hm rfl ha (by decide) (by decide) h0 hpl
theorem index_ok {v1 v2 : V} {d : Ow.D} {l : O} {n : Nat} {Q : VK} (e : Ex F H) (h1 : Pk G F H v1 l) (h2 : IsD G H v2 d) (q : indexO d l = some n) (k : Q (.int n) H) : rIndexD G.K v1 [v2] H Q := by
  obtain ⟨ds, e1, q⟩ := Option.bind_eq_some_iff.mp (show ((lstOf l).bind fun ds => (pd d).bind fun x => (pds ds).bind fun ys => if SeqAt.shaped x && SeqAt.shaped (.list ys) then ys.findIdx? (fun z => PyData.eqv z x) else none) = some n from q)
  obtain ⟨x, e2, q⟩ := Option.bind_eq_some_iff.mp q
  obtain ⟨ys, e3, q⟩ := Option.bind_eq_some_iff.mp q
  split at q
  case isFalse => cases q
  rename_i hh
  rw [Bool.and_eq_true] at hh
  obtain ⟨a, vs, rfl, ha, ra⟩ := pk_lst e h1 e1
  obtain ⟨hlt, hp, hb⟩ := List.findIdx?_eq_some_iff_getElem.mp q
  refine ⟨a, v2, x, ys, n, ys[n], rfl, rfl, .lst (.of ha) ((ra.mono e).dp e3), h2.dp e2, hh.2, hh.1, by simp [hlt], hp, fun m z hm hz => ?_, k⟩
  obtain ⟨hl2, rfl⟩ := List.getElem?_eq_some_iff.mp hz
  simpa using hb m hm
theorem se_idxOf {i : Nat} {n : Str} (hK : X.K = G.K) (hu : X.A.units + 65 < cLine) (hv : PE X (.Name n p) (tVar i)) (he : PE X x (tE G cl ini W a))
    (hbase : attributeBase (.Name n p) "index" X.env (eval (.Name n p) X.env) = eval (.Name n p) X.env := by rfl)
    (hfew : ((backTo cpos (starEach [x] X.env)).all (fun x => !x.1) && (backToKw cpos (keywordEach [] X.env)).all (fun x => x.1.isSome) && decide ([x].length + ([] : List Keyword).length + (if ([] : List Keyword).isEmpty then 0 else 1) < 30)) = true := by rfl)
    (hline : (apos.endLine == cpos.line) = true := by rfl) (h0 : starEach [x] X.env = (false, eval x X.env) :: starEach [] X.env := by rfl) (hpl : (backTo cpos (starEach [] X.env)).any (·.1) = false := by rfl) :
    PE X (.Call (.Attribute (.Name n p) "index" apos) [x] [] cpos) (tE G cl ini W (.idxOf i a)) := by
  refine ⟨fun pins s σ H Q I q => (pe_bm PySem.F.plainAttrs_list PySem.F.slot_list_index PySem.F.type_list_index (mt_indexD hu) hv (pa_cons he pa_nil h0) hbase hfew hline h0 hpl).run pins s σ H Q I ?_⟩
  obtain ⟨F, A, δ, st, o⟩ := q
  simp only [ev] at o
  have o1 := out_bnd o
  unfold seqM at o1
  cases e0 : δ[i]? with
  | none => rw [e0] at o1; exact o1.elim
  | some l0 =>
    rw [e0] at o1
    dsimp only at o1
    split at o1
    case isFalse => exact o1.elim
    rename_i hl0
    obtain ⟨v, A2, q1, q2, _⟩ := st.env.at st.nd e0 (fun z => by rw [z] at hl0; cases hl0)
    have ty : L2.tyV X.K "list" v H := by
      cases q2 with
      | fr h =>
        cases h with
        | lst h r => exact .inl ⟨rfl, _, .of (st.ex.at h)⟩
        | _ => cases hl0
      | ml f h r => exact .inl ⟨rfl, _, .of h⟩
      | _ => cases hl0
    have o2 : Out G W σ F H A (bnd (ev cl ini a) (fun o => idxM i (frz o)) δ) fun o δ' => EndO G σ F H A o δ' Q := o1
    refine ⟨v, q1, ty, F, A, δ, st, (out_bnd o2).imp fun o3 δ3 m w F3 H3 A3 B3 n3 e3 i3 nd3 => ?_⟩
    obtain ⟨F4, n4, e4, d4, _⟩ := fz n3 e3 i3 nd3
    unfold idxM at m
    cases e5 : δ3[i]? with
    | none => rw [e5] at m; exact m.elim
    | some l =>
      rw [e5] at m
      dsimp only at m
      cases e6 : indexO (frz o3) l with
      | none => exact (by simpa [e6, Out] using m : False).elim
      | some j =>
        have m : EndO G σ F H A (.fr (.int j)) δ3 Q := by simpa [e6, Out] using m
        obtain ⟨v', A5, r1, r2, _⟩ := e4.at (nodup_app nd3) e5 (fun z => by rw [z] at e6; cases e6)
        rw [q1] at r1
        cases r1
        have z := index_ok (Q := Q) n4.fh ⟨A5, r2⟩ (d4.mono n4.fh) e6 (m.op n4 e4 (nodup_app nd3) (.int j) F4 H3 [] (.refl n4.fh) (.fr (.int _)) .nil)
        rw [← hK] at z
        exact z
/-- dict(e) -/
abbrev rDcp : List V → Hp → VK → Prop := fun xs H Q => ∃ (a : Addr) (kvs : List (Key × V)), xs = [.ref a] ∧ Rd H a (.dK kvs) ∧ ∀ p, H p = none → Q (.ref p) (upd H p (.dK kvs))
theorem k_md {ws : List (Key × V)} {ds : List Ow.D} {p : Addr} {Q : VK} (e : Ex F H) (k : ∀ v F' H' B, Nx F H [] F' H' B → IsO G F' H' v (.md (ws.map (·.1)) (ds.map .fr)) B → B.Nodup → Q v H') (h : IsDs G F (ws.map (·.2)) ds) (hp : H p = none) : Q (.ref p) (upd H p (.dK ws)) :=
  k (.ref p) F (upd H p (.dK ws)) [p] (Nx.new e hp) (.md (e.none hp) upd_same (is_frs h)) (by simp)
theorem ok_dcopy : PrOk1 G .dcopy (fun x => rDcp [x]) := by
  intro F H v1 o1 o Q e h1 q k
  have q : prDcp o1 = some o := q
  unfold prDcp at q
  obtain ⟨B, h⟩ := h1
  split at q
  · cases q
    cases h with
    | fr h =>
      cases h with
      | dic h r => exact ⟨_, _, rfl, e.rd h, fun p hp => k_md e k r hp⟩
  · obtain ⟨ds, e1, rfl⟩ := Option.map_eq_some_iff.mp q
    cases h with
    | md f h r => exact ⟨_, _, rfl, .inl h, fun p hp => k_md e k (frs_is e1 r) hp⟩
  · cases q
theorem se_dcopy (hg : Gl X "dict") (hm : X.mg "dict" = none) (ha : PE X x (tP G cl ini W a)) (h0 : starEach [x] X.env = (false, eval x X.env) :: starEach [] X.env := by rfl) (hpl : (backTo pos (starEach [] X.env)).any (·.1) = false := by rfl) :
    PE X (.Call (.Name "dict" p) [x] [] pos) (tE G cl ini W (.prim .dcopy (.cons a .nil))) := se_t1 call_dictD ok_dcopy hg hm rfl ha (by decide) (by decide) h0 hpl
end
end Ow
end OxL_
section OxG_
set_option Elab.async false
set_option linter.all false
set_option maxRecDepth 100000
set_option maxHeartbeats 4000000
/-! A def. -/
namespace Ow
open PySem PySem.Spec PyProof.Rows L2
variable [TQ]
section
variable {G : Gd} {σ σ1 : L2.St} {F F1 F2 H H1 H2 : Hp} {A A1 A2 B : List Addr} {δ : Env}
theorem ise_start {vs : List V} {os : List O} {A : List Addr} (h : IsOs G F H vs os A) (n m : Nat) (e : n = m) : IsE G F H (vs.map some ++ List.replicate n none) (os ++ List.replicate m .dead) A := by
  subst e
  induction os generalizing vs A with
  | nil =>
    cases h
    rw [List.map_nil, List.nil_append, List.nil_append]
    induction n with
    | zero => exact .nil
    | succ n ih => exact .cons (A := []) .dead ih
  | cons o os ih => cases h with | cons h1 h2 => exact .cons (.val h1) (ih h2)
/-- what a def hands back of its parameters -/
theorem fin_ok {vs : List V} {os : List O} {δ : Env} {σ' : L2.St} {os' : List O} {A A' : List Addr} (s : IsE G F1 H1 σ' δ A') (h : IsOs G F H vs os A) (x : Ex F F1) (e : fin os δ = some os') (k : ∀ (i : Nat) (o : O), os[i]? = some o → isFr o = false → σ'[i]? = (vs.map some)[i]?) :
    ∃ C, IsOs G F1 H1 vs os' C ∧ C.Sublist A' := by
  induction os generalizing vs δ σ' os' A A' with
  | nil =>
    cases h
    unfold fin at e
    cases e
    exact ⟨[], .nil, List.nil_sublist _⟩
  | cons o os ih =>
    cases h with | @cons v _ vs _ B1 B2 h1 h2 =>
    cases s with
    | nil => unfold fin at e; cases e
    | @cons sv o1 σ' δ D1 D2 s1 s2 =>
      unfold fin at e
      obtain ⟨r, e1, e2⟩ := Option.bind_eq_some_iff.mp e
      obtain ⟨C, q1, q2⟩ := ih s2 h2 e1 (fun i o hi ho => by simpa using k (i + 1) o (by simpa using hi) ho)
      split at e2
      · rename_i hf
        cases e2
        cases o <;> first | (cases hf; done) | skip
        cases h1 with
        | fr h1 => exact ⟨[] ++ C, .cons (.fr (h1.mono x)) q1, q2.trans (List.sublist_append_right _ _)⟩
      · rename_i hf
        have hv : sv = some v := by simpa using k 0 o (by simp) (by simpa using hf)
        subst hv
        cases s1 with
        | dead => cases e2
        | val s1 =>
          have e2 : some (o1 :: r) = some os' := by cases o1 <;> first | exact e2 | cases e2
          cases e2
          exact ⟨D1 ++ C, .cons s1 q1, (List.Sublist.refl _).append q2⟩
theorem pins_mem {os : List O} {i : Nat} {o : O} (h : os[i]? = some o) (f : isFr o = false) : i ∈ pins os := by
  unfold pins
  obtain ⟨hl, e⟩ := List.getElem?_eq_some_iff.mp h
  refine List.mem_filter.mpr ⟨List.mem_range.mpr hl, ?_⟩
  rw [List.getD_eq_getElem?_getD, h]
  simp [f]
theorem fin_len : ∀ {os : List O} {δ : Env} {os' : List O}, fin os δ = some os' → os'.length = os.length
  | [], _, _, e => by unfold fin at e; cases e; rfl
  | _ :: _, [], _, e => by unfold fin at e; cases e
  | o :: os, o1 :: δ, os', e => by
    unfold fin at e
    obtain ⟨r, e1, e2⟩ := Option.bind_eq_some_iff.mp e
    have := fin_len e1
    split at e2
    · cases e2; simp [this]
    · cases o1 <;> first | (cases e2; done) | (cases e2; simp [this])
theorem body_rd {cl : Cl} {p : Pg} {d : Df} {vs : List V} {N : List Str} {Q : VK} {E : XK} {os : List O} (hn : N.length = d.n) (b0 : Ex G.F0 F) (x : Ex F H) (h : IsOs G F H vs os A) (nd : A.Nodup)
    (q : match runDf cl p.ini d os with
      | none => False
      | some (.ex x) => ∀ cls d F' H', Nx F H A F' H' [] → IsX G F' H' cls d x → E cls d H'
      | some (.ok o os') => ∀ v F' H' A' B, Nx F H A F' H' (A' ++ B) → IsOs G F' H' vs os' A' → IsO G F' H' v o B → (A' ++ B).Nodup → Q v H') :
    tS G (pins os) cl p.ini E (execs cl p.ini (pins os) d.b) { nx := fun _ H' => Q .non H', rt := Q } (start N vs) H := by
  have hl : vs.length = os.length := h.len
  unfold runDf at q
  by_cases hnp : os.length = d.np
  case neg => rw [if_neg hnp] at q; exact q.elim
  rw [if_pos hnp] at q
  refine ⟨F, A, os ++ List.replicate (d.n - os.length) O.dead, ⟨b0, x, ise_start h (N.length - vs.length) (d.n - os.length) (by rw [hn, hl]), nd⟩, ?_⟩
  have key : ∀ {o : O} {os' : List O} {δ : Env} {v : V} {σ' : L2.St} {F' H' : Hp} {A' B : List Addr}, fin os δ = some os' → Nx F H A F' H' (A' ++ B) → IsE G F' H' σ' δ A' → IsO G F' H' v o B → (A' ++ B).Nodup → Keep (pins os) (start N vs) σ' →
      (∀ v F' H' A' B, Nx F H A F' H' (A' ++ B) → IsOs G F' H' vs os' A' → IsO G F' H' v o B → (A' ++ B).Nodup → Q v H') → Q v H' := by
    intro o os' δ v σ' F' H' A' B e n s i nd kp k
    obtain ⟨C, c1, c2⟩ := fin_ok s h n.ff e fun j o hj ho => by
      obtain ⟨hlt, _⟩ := List.getElem?_eq_some_iff.mp hj
      rw [kp.2 j (pins_mem hj ho)]
      show (vs.map some ++ _)[j]? = _
      rw [List.getElem?_append_left (by simpa [hl] using hlt)]
    exact k v F' H' C B (n.sub fun a m => (c2.append (.refl _)).subset m) c1 i (nd.sublist (c2.append (.refl _)))
  cases e : execs cl p.ini (pins os) d.b (os ++ List.replicate (d.n - os.length) .dead) with
  | none => rw [e] at q; exact q
  | some r =>
    rw [e] at q
    cases r with
    | ex x => exact fun cls d F' H' n i => q cls d F' H' n i
    | ok fl δ =>
      cases fl with
      | nx =>
        cases e2 : fin os δ with
        | none => exact (by simpa [e2] using q : False).elim
        | some os' =>
          have q : ∀ v F' H' A' B, Nx F H A F' H' (A' ++ B) → IsOs G F' H' vs os' A' → IsO G F' H' v (.fr .non) B → (A' ++ B).Nodup → Q v H' := by simpa [e2] using q
          exact fun σ' F' H' A' n s nd' kp => key e2 (B := []) (by rw [List.append_nil]; exact n) s (.fr .non) (by rw [List.append_nil]; exact nd') kp q
      | rt o =>
        cases e2 : fin os δ with
        | none => exact (by simpa [e2] using q : False).elim
        | some os' =>
          have q : ∀ v F' H' A' B, Nx F H A F' H' (A' ++ B) → IsOs G F' H' vs os' A' → IsO G F' H' v o B → (A' ++ B).Nodup → Q v H' := by simpa [e2] using q
          exact fun v σ' F' H' A' B n s i nd' kp => key e2 n s i nd' kp q
      | bk => exact q.elim
      | ct => exact q.elim
/-- THE RULE for a def -/
theorem fn_ok {P : Program} {w : World} {K : PySem.W.Frag} {mg : Str → Option Value} {base : Heap} {k : Nat} {fa : Addr} {name qual : Str} {params : Arguments} {body : List Stmt} {scope : Scope} {dV kV doc pm cdv ct oc : Value} {an od : Option Addr}
    {osl : Array (Option Value)} {N ps : List Str} {p : Pg} {f n : Nat} {d : Df} (hf : p.df f = some d) (hn : N.length = d.n) (hp : ps.length = d.np)
    (lk : K.lookup fa = some ⟨oc, od, .func (PySem.W.fnOf name qual params body scope dV kV doc pm an cdv ct), osl⟩) (hcd : PySem.W.codeIn K cdv qual = true) (S : FnScope N ps scope)
    (hbody : ∀ (A : Around) (outer : List PySem.Env) (s : Shared) (H : Hp) (E : XK) (pin : List Nat), Room k (A.deeper (envOfC qual scope s.heap.objs.size fa cdv)) →
      PSs (cxOf (L2.CX P w) P w K mg base N qual scope fa cdv A outer s H E) body (tS G pin (run p n) p.ini E (execs (run p n) p.ini pin d.b))) :
    FnOk P w K mg base (L2.CX P w) (k + 1) fa (PySem.W.fnOf name qual params body scope dV kV doc pm an cdv ct) ps (spF G (run p (n + 1)) f) := by
  have e : run p (n + 1) f = runDf (run p n) p.ini d := by
    funext os
    show (match p.df f with | some d => runDf (run p n) p.ini d os | none => p.own n f os) = _
    rw [hf]
  refine fn_of lk hcd S (fun vs H Q E ⟨F, A, os, b0, x, h, nd, q⟩ => ?_) fun A outer s H vs Q E hr ⟨F, A', os, b0, x, h, nd, q⟩ => ⟨_, hbody A outer s H E (pins os) hr, ?_⟩
  · rw [e] at q
    unfold runDf at q
    by_cases hl : os.length = d.np
    case neg => rw [if_neg hl] at q; exact q.elim
    rw [hp, ← hl]
    exact h.len
  · rw [e] at q
    exact body_rd hn b0 x h nd q
end
/-- what is promised of the lambda j -/
structure LamOk (G : Gd) (cl : Cl) (P : Program) (w : World) (K : PySem.W.Frag) (mg : Str → Option Value) (base : Heap) (k j : Nat) : Prop where
  run : ∀ (A : Around) (outer : List PySem.Env) (s : Shared) (H F : Hp) (a : Addr) (us : List Value) (vs : List V) (Q : VK) (E : XK), Room k A → Env0 P w K mg base A outer s H → Ex F H → G.lf j a F → Vals vs us → spF G cl (1000 + j) vs H Q E →
    codeAny (model P w) A (.call (.ref a) ⟨us, []⟩) (CR (L2.CX P w) outer P w H s Q E) s
  at_ : ∀ (a : Addr) (F H : Hp) (h : Heap), Ex F H → G.lf j a F → HOk P w H h → PySem.W.FnAt a h
end Ow
end OxG_
section OxH_
set_option Elab.async false
set_option linter.all false
set_option maxRecDepth 100000
set_option maxHeartbeats 4000000
/-! What is known of a def's context and of a block's in it. -/
namespace Ow
open PySem PySem.Spec PyProof.Rows L2
variable [TQ]
/-- a look at a block's scope -/
def ownOf (N : List Str) (is : List Nat) : List (Str × Nat) := is.filterMap fun i => (N[i]?).map fun n => (n, i)
def blkC (N : List Str) (sc scope : Scope) (own : List (Str × Nat)) : Bool :=
  decide (scope.kind = .function) && scope.names.all (fun y => decide (scope.names.lookup y.1 = some y.2)) && own.all (fun p => decide (N[p.2]? = some p.1)) &&
    scope.names.all (fun y => !decide (y.2 = .free) || (decide (sc.names.lookup y.1 = some .cell) || decide (sc.names.lookup y.1 = some .free))) &&
    scope.names.all (fun y => !(decide (y.2 = .local) || decide (y.2 = .cell)) || (decide (y.1 ∈ own.map (·.1)) || decide (y.1 ∉ N)))
theorem blk_by {N : List Str} {sc scope : Scope} {own : List (Str × Nat)} (h : blkC N sc scope own = true) : BlkOk N sc scope own := by
  unfold blkC at h
  simp only [Bool.and_eq_true, List.all_eq_true, decide_eq_true_eq, Bool.or_eq_true, Bool.not_eq_true', decide_eq_false_iff_not] at h
  obtain ⟨⟨⟨⟨h1, h2⟩, h3⟩, h4⟩, h5⟩ := h
  exact ⟨h1, h2, h3, fun y hy e => (h4 y hy).resolve_left fun z => z e, fun y hy e => (h5 y hy).resolve_left fun z => by simp at z; exact e.elim z.1 z.2⟩
/-- a program's names: its defs, methods, classes, constants, exceptions, attributes -/
structure Tb where
  fns : List (Nat × Str)
  mts : List (Nat × Nat × Str)
  mks : List (Nat × Str × Nat × List D)
  cls : List Str
  con : List (Str × D)
  exs : List (Nat × Str)
  att : List Str
  exm : Nat → Nat → Option Bool
  xtra : Program → World → PySem.W.Frag → (Str → Option Value) → Heap → Nat → Prop
/-- the built-in names that no program here binds -/
def frees : List Str := ["isinstance", "str", "len", "all", "any", "abs", "list", "tuple", "dict", "bool", "int", "range", "enumerate", "zip", "set", "sorted", "sum"]
/-- what is known of the program's names; its defs keep their promises k deep -/
structure Wd (G : Gd) (cl : Cl) (ini : Nat → Option Nat) (T : Tb) (P : Program) (w : World) (K : PySem.W.Frag) (mg : Str → Option Value) (base : Heap) (k : Nat) : Prop where
  fr : ∀ x ∈ frees, mg x = none
  con : ∀ (i : Nat) x d, T.con[i]? = some (x, d) → ∃ v u, mg x = some u ∧ RelV v u ∧ IsD G G.F0 v d
  cal : ∀ f x, T.fns.lookup f = some x → ∃ fa fd pn, FnOk P w K mg base (L2.CX P w) k fa fd pn (spF G cl f) ∧ mg x = some (.ref fa) ∧ PySem.W.keepIn K (.ref fa) = true ∧ Binds K fd pn []
  mt : ∀ f c m, T.mts.lookup f = some (c, m) → ∃ fa fd pn, Cls K (G.ca c) ∧ Meth K (G.ca c) m fa ∧ FnOk P w K mg base (L2.CX P w) k fa fd pn (spF G cl f) ∧ Binds K fd pn []
  mkr : ∀ (i : Nat) c x f ds, T.mks[i]? = some (c, x, f, ds) → ∃ fa fd pn dus dvs, c < G.nc ∧ ini c = some f ∧ Mk K (G.ca c) fa ∧ mg x = some (.ref (G.ca c)) ∧ FnOk P w K mg base (L2.CX P w) k fa fd pn (spF G cl f) ∧ Binds K fd pn dus ∧ Vals dvs dus ∧ ∀ F, IsDs G F dvs ds
  exc : ∀ (i : Nat) c x, T.exs[i]? = some (c, x) → ∃ Bs bmB newId initId, ExcBaseFacts Bs newId initId bmB ∧ PySem.W.excIn K (G.ca c) bmB newId = true ∧ mg x = some (.ref (G.ca c)) ∧ PySem.W.keepIn K (.ref (G.ca c)) = true ∧ PySem.W.subIn K (.ref (G.ca c)) (.type "BaseException") = some true ∧ PySem.W.typeIn K (.ref (G.ca c)) = some (.type "type")
  cls : ∀ c x, T.cls[c]? = some x → c < G.nc ∧ mg x = some (.ref (G.ca c))
  att : ∀ f, T.att.contains f = true → ∀ c, c < G.nc → Cls G.K (G.ca c) ∧ NoAttr G.K (G.ca c) f
  iK : InsK G
  kt : KitOk G
  exm : ∀ c1 c2 b, T.exm c1 c2 = some b → PySem.W.exmOne K (.ref (G.ca c1)) (.ref (G.ca c2)) = some b
  lam : ∀ j a F, G.lf j a F → LamOk G cl P w K mg base k j
  xtra : T.xtra P w K mg base k
/-- what the rules ask of a context -/
structure Bd (G : Gd) (cl : Cl) (ini : Nat → Option Nat) (T : Tb) (k : Nat) (E : XK) (X : Cx) : Prop where
  good : Good G (k + 1) X
  px : Px X E
  wd : Wd G cl ini T X.prog X.w X.K X.mg X.base k
section
variable {G : Gd} {cl : Cl} {ini : Nat → Option Nat} {T : Tb} {k : Nat} {E : XK} {X : Cx}
theorem Bd.hK (b : Bd G cl ini T k E X) : X.K = G.K := b.good.hK
theorem Bd.room1 (b : Bd G cl ini T k E X) : Room (k + 1) X.A := b.good.room
theorem Bd.room (b : Bd G cl ini T k E X) : Room k X.A := b.good.room.mono (Nat.le_succ k)
theorem Bd.calm (b : Bd G cl ini T k E X) : X.calm = true := b.good.calm
theorem Bd.nd (b : Bd G cl ini T k E X) : X.N.Nodup := b.good.nd
theorem Bd.u (b : Bd G cl ini T k E X) : X.A.units + 65 < cLine := b.good.u
theorem Bd.u64 (b : Bd G cl ini T k E X) : X.A.units + 64 < cLine := b.good.u64
theorem Bd.u1 (b : Bd G cl ini T k E X) : X.A.units + 1 < cLine := b.good.u1
theorem Bd.hx (b : Bd G cl ini T k E X) : Passes (L2.CX X.prog X.w) X E := b.px.passes
theorem Bd.blk {s : Shared} {H : Hp} {scope : Scope} {ce : PySem.Env} {fp : List Addr} {W : Value → Shared → Prop} (b : Bd G cl ini T k E X) (p : Px (blkX X s H scope ce fp W) E) : Bd G cl ini T k E (blkX X s H scope ce fp W) := ⟨⟨b.good.hK, b.good.room, b.good.calm, b.good.nd⟩, p, b.wd⟩
theorem bd_cx {P : Program} {w : World} {K : PySem.W.Frag} {mg : Str → Option Value} {base : Heap} {N : List Str} {qual : Str} {scope : Scope} {f : Addr} {cd : Value} {A : Around} {outer : List PySem.Env} {s : Shared} {H : Hp}
    (hK : K = G.K) (nd : N.Nodup) (hr : Room (k + 1) (A.deeper (envOfC qual scope s.heap.objs.size f cd))) (wd : Wd G cl ini T P w K mg base k) : Bd G cl ini T k E (cxOf (L2.CX P w) P w K mg base N qual scope f cd A outer s H E) :=
  ⟨⟨hK, hr, rfl, nd⟩, Px.of_takes rfl rfl (takes_of rfl rfl rfl rfl), wd⟩
theorem tk_cx {P : Program} {w : World} {K : PySem.W.Frag} {mg : Str → Option Value} {base : Heap} {N : List Str} {qual : Str} {scope : Scope} {f : Addr} {cd : Value} {A : Around} {outer : List PySem.Env} {s : Shared} {H : Hp} :
    Takes (cxOf (L2.CX P w) P w K mg base N qual scope f cd A outer s H E) (WE E) := takes_of rfl rfl rfl rfl
theorem po_cx {P : Program} {w : World} {K : PySem.W.Frag} {mg : Str → Option Value} {base : Heap} {N : List Str} {qual : Str} {scope : Scope} {f : Addr} {cd : Value} {A : Around} {outer : List PySem.Env} {s : Shared} {H : Hp} :
    PassesOwn (model (cxOf (L2.CX P w) P w K mg base N qual scope f cd A outer s H E).prog (cxOf (L2.CX P w) P w K mg base N qual scope f cd A outer s H E).w) (cxOf (L2.CX P w) P w K mg base N qual scope f cd A outer s H E).A (cxOf (L2.CX P w) P w K mg base N qual scope f cd A outer s H E).env (cxOf (L2.CX P w) P w K mg base N qual scope f cd A outer s H E).xe := passes_of rfl
variable {W : WX} {x y z : Expr} {xs : List Expr} {a b c : Ow.E} {es : Es} {pos p p2 : Pos} {tg : Expr}
/-- a name, as an operand and to be kept -/
theorem vE (i : Nat) {x : Str} {pos : Pos} (hN : X.N[i]? = some x := by rfl) (hv : Vis X.env.scope x := by first | exact Or.inl rfl | exact Or.inr (Or.inl rfl) | exact Or.inr (Or.inr rfl)) (hd : (x == ("__debug__" : Str)) = false := by decide)
    (hcd : (x == ("__classdict__" : Str)) = false := by decide) : PE X (.Name x pos) (tE G cl ini W (.var i)) := se_var (pe_var hN hv hd hcd)
theorem vP (i : Nat) {x : Str} {pos : Pos} (hN : X.N[i]? = some x := by rfl) (hv : Vis X.env.scope x := by first | exact Or.inl rfl | exact Or.inr (Or.inl rfl) | exact Or.inr (Or.inr rfl)) (hd : (x == ("__debug__" : Str)) = false := by decide)
    (hcd : (x == ("__classdict__" : Str)) = false := by decide) : PE X (.Name x pos) (tP G cl ini W (.var i)) := sp_var (pe_var hN hv hd hcd)
theorem vV (i : Nat) {x : Str} {pos : Pos} (hN : X.N[i]? = some x := by rfl) (hv : Vis X.env.scope x := by first | exact Or.inl rfl | exact Or.inr (Or.inl rfl) | exact Or.inr (Or.inr rfl)) (hd : (x == ("__debug__" : Str)) = false := by decide)
    (hcd : (x == ("__classdict__" : Str)) = false := by decide) : PE X (.Name x pos) (tVar i) := pe_var hN hv hd hcd
/-- what is no name, as an operand -/
theorem oP (hn : ∀ i, a ≠ .var i) (h : PE X x (tE G cl ini W a)) : PE X x (tP G cl ini W a) := sp_of h hn
/-! ### the rules, what they ask of the context taken from Bd -/
variable (B : Bd G cl ini T k E X)
include B
theorem r_gl (i : Nat) {n : Str} {d : D} (m : T.con[i]? = some (n, d)) (hg : Gl X n) (hd : (n == ("__debug__" : Str)) = false) : PE X (.Name n pos) (tE G cl ini W (.gl d)) := by
  obtain ⟨v, u, h1, h2, h3⟩ := B.wd.con i n d m
  exact se_gl (pe_glob hg h1 h2 hd) h3
theorem r_eq (hm : behindInMarks .Eq y = false) (ha : PE X x (tP G cl ini W a)) (hb : PE X y (tP G cl ini W b)) : PE X (.Compare x [.Eq] [y] pos) (tE G cl ini W (.prim .eq (.cons a (.cons b .nil)))) := se_cmp (op_eq2 B.hK B.u64) ok_eq hm ha hb
theorem r_ne (hm : behindInMarks .NotEq y = false) (ha : PE X x (tP G cl ini W a)) (hb : PE X y (tP G cl ini W b)) : PE X (.Compare x [.NotEq] [y] pos) (tE G cl ini W (.prim .ne (.cons a (.cons b .nil)))) := se_cmp (op_ne2 B.hK B.u64) ok_ne hm ha hb
theorem r_in (hm : behindInMarks .In y = false) (ha : PE X x (tP G cl ini W a)) (hb : PE X y (tP G cl ini W b)) : PE X (.Compare x [.In] [y] pos) (tE G cl ini W (.prim .isin (.cons a (.cons b .nil)))) := se_cmp (op_in2 B.hK B.u) ok_in hm ha hb
theorem r_nin (hm : behindInMarks .NotIn y = false) (ha : PE X x (tP G cl ini W a)) (hb : PE X y (tP G cl ini W b)) : PE X (.Compare x [.NotIn] [y] pos) (tE G cl ini W (.prim .notin (.cons a (.cons b .nil)))) := se_cmp (op_nin2 B.hK B.u) ok_nin hm ha hb
theorem s_eq (hm : behindInMarks .Eq y = false) (ha : PE X x (tP G cl ini W a)) (hb : PE X y (tP G cl ini W b)) : PT X (.Compare x [.Eq] [y] pos) (tT G cl ini W (.prim .eq (.cons a (.cons b .nil)))) := st_cmp (op_eq2 B.hK B.u64) ok_eq rfl hm ha hb
theorem s_ne (hm : behindInMarks .NotEq y = false) (ha : PE X x (tP G cl ini W a)) (hb : PE X y (tP G cl ini W b)) : PT X (.Compare x [.NotEq] [y] pos) (tT G cl ini W (.prim .ne (.cons a (.cons b .nil)))) := st_cmp (op_ne2 B.hK B.u64) ok_ne rfl hm ha hb
theorem s_in (hm : behindInMarks .In y = false) (ha : PE X x (tP G cl ini W a)) (hb : PE X y (tP G cl ini W b)) : PT X (.Compare x [.In] [y] pos) (tT G cl ini W (.prim .isin (.cons a (.cons b .nil)))) := st_cmp (op_in2 B.hK B.u) ok_in rfl hm ha hb
theorem s_nin (hm : behindInMarks .NotIn y = false) (ha : PE X x (tP G cl ini W a)) (hb : PE X y (tP G cl ini W b)) : PT X (.Compare x [.NotIn] [y] pos) (tT G cl ini W (.prim .notin (.cons a (.cons b .nil)))) := st_cmp (op_nin2 B.hK B.u) ok_nin rfl hm ha hb
theorem r_dhas (hm : behindInMarks .In y = false) (ha : PE X x (tP G cl ini W a)) (hb : PE X y (tP G cl ini W b)) : PE X (.Compare x [.In] [y] pos) (tE G cl ini W (.prim .dhas (.cons a (.cons b .nil)))) := se_dhas B.u1 ha hb hm
theorem r_dnhas (hm : behindInMarks .NotIn y = false) (ha : PE X x (tP G cl ini W a)) (hb : PE X y (tP G cl ini W b)) : PE X (.Compare x [.NotIn] [y] pos) (tE G cl ini W (.prim .dnhas (.cons a (.cons b .nil)))) := se_dnhas B.u1 ha hb hm
theorem s_dhas (hm : behindInMarks .In y = false) (ha : PE X x (tP G cl ini W a)) (hb : PE X y (tP G cl ini W b)) : PT X (.Compare x [.In] [y] pos) (tT G cl ini W (.prim .dhas (.cons a (.cons b .nil)))) := st_dhas B.u1 ha hb hm
theorem s_dnhas (hm : behindInMarks .NotIn y = false) (ha : PE X x (tP G cl ini W a)) (hb : PE X y (tP G cl ini W b)) : PT X (.Compare x [.NotIn] [y] pos) (tT G cl ini W (.prim .dnhas (.cons a (.cons b .nil)))) := st_dnhas B.u1 ha hb hm
theorem r_idx (hs : PlainIx y) (ha : PE X x (tP G cl ini W a)) (hb : PE X y (tP G cl ini W b)) : PE X (.Subscript x y pos) (tE G cl ini W (.prim .idx (.cons a (.cons b .nil)))) := se_idx B.hK ha hb hs
theorem r_dget (hs : NoSl y) (ha : PE X x (tP G cl ini W a)) (hb : PE X y (tP G cl ini W b)) : PE X (.Subscript x y pos) (tE G cl ini W (.prim .dget (.cons a (.cons b .nil)))) := se_dget B.u1 ha hb hs
theorem r_slL (ha : PE X x (tP G cl ini W a)) (hb : PE X y (tP G cl ini W b)) : PE X (.Subscript x (.Slice (some y) none none p2) pos) (tE G cl ini W (.prim (.slc true false) (.cons a (.cons b .nil)))) := se_slL B.hK ha hb
theorem r_slR (ha : PE X x (tP G cl ini W a)) (hb : PE X y (tP G cl ini W b)) : PE X (.Subscript x (.Slice none (some y) none p2) pos) (tE G cl ini W (.prim (.slc false true) (.cons a (.cons b .nil)))) := se_slR B.hK ha hb
theorem r_slB (ha : PE X x (tP G cl ini W a)) (hb : PE X y (tE G cl ini W b)) (hc : PE X z (tE G cl ini W c)) : PE X (.Subscript x (.Slice (some y) (some z) none p2) pos) (tE G cl ini W (.sl2 a b c)) := se_slB B.hK ha hb hc
theorem r_len (hg : Gl X "len") (h0 : starEach [x] X.env = (false, eval x X.env) :: starEach [] X.env) (hpl : (backTo pos (starEach [] X.env)).any (·.1) = false) (ha : PE X x (tP G cl ini W a)) : PE X (.Call (.Name "len" p) [x] [] pos) (tE G cl ini W (.prim .len (.cons a .nil))) :=
  se_b1 (call_len2 B.hK) ok_len hg (B.wd.fr _ (by decide)) rfl ha (by decide) (by decide) h0 hpl
theorem r_all (hg : Gl X "all") (h0 : starEach [x] X.env = (false, eval x X.env) :: starEach [] X.env) (hpl : (backTo pos (starEach [] X.env)).any (·.1) = false) (ha : PE X x (tP G cl ini W a)) : PE X (.Call (.Name "all" p) [x] [] pos) (tE G cl ini W (.prim .all (.cons a .nil))) :=
  se_b1 (call_all2 B.hK B.calm) ok_all hg (B.wd.fr _ (by decide)) rfl ha (by decide) (by decide) h0 hpl
theorem r_any (hg : Gl X "any") (h0 : starEach [x] X.env = (false, eval x X.env) :: starEach [] X.env) (hpl : (backTo pos (starEach [] X.env)).any (·.1) = false) (ha : PE X x (tP G cl ini W a)) : PE X (.Call (.Name "any" p) [x] [] pos) (tE G cl ini W (.prim .any (.cons a .nil))) :=
  se_b1 (call_any2 B.hK B.calm) ok_any hg (B.wd.fr _ (by decide)) rfl ha (by decide) (by decide) h0 hpl
theorem r_abs (hg : Gl X "abs") (h0 : starEach [x] X.env = (false, eval x X.env) :: starEach [] X.env) (hpl : (backTo pos (starEach [] X.env)).any (·.1) = false) (ha : PE X x (tP G cl ini W a)) : PE X (.Call (.Name "abs" p) [x] [] pos) (tE G cl ini W (.prim .abs (.cons a .nil))) :=
  se_b1 call_abs ok_abs hg (B.wd.fr _ (by decide)) rfl ha (by decide) (by decide) h0 hpl
theorem r_list (hg : Gl X "list") (h0 : starEach [x] X.env = (false, eval x X.env) :: starEach [] X.env) (hpl : (backTo pos (starEach [] X.env)).any (·.1) = false) (ha : PE X x (tP G cl ini W a)) : PE X (.Call (.Name "list" p) [x] [] pos) (tE G cl ini W (.prim .list (.cons a .nil))) :=
  se_t1 (call_list2 B.hK) ok_list hg (B.wd.fr _ (by decide)) rfl ha (by decide) (by decide) h0 hpl
theorem r_isi {kd : Kd} (hk : ∀ c, kd = .cls c → c < G.nc) (hg : Gl X "isinstance") (h1 : starEach [x, y] X.env = (false, eval x X.env) :: starEach [y] X.env) (h0 : starEach [y] X.env = (false, eval y X.env) :: starEach [] X.env)
    (hpl : (backTo pos (starEach [y] X.env)).any (·.1) = false) (ha : PE X x (tP G cl ini W a)) (hc : PE X y (tC (clV G kd))) : PE X (.Call (.Name "isinstance" p) [x, y] [] pos) (tE G cl ini W (.prim (.isi kd) (.cons a .nil))) :=
  se_isi B.hK B.wd.iK B.wd.kt hk hg (B.wd.fr _ (by decide)) ha hc h1 h0 hpl
theorem c_ty {n : Str} {v : V} {u : Value} (m : n ∈ frees) (hg : Gl X n) (hv : bootBuiltins n = some u) (r : RelV v u) (hn : n ≠ "__name__") (hd : (n == ("__debug__" : Str)) = false) : PE X (.Name n pos) (tC v) := pe_bltn hg (B.wd.fr _ m) hv r hn hd
theorem c_own {n : Str} {cc : Nat} (m : T.cls[cc]? = some n) (hg : Gl X n) (hd : (n == ("__debug__" : Str)) = false) : PE X (.Name n pos) (tC (clV G (.cls cc))) := pe_glob hg (B.wd.cls _ _ m).2 rfl hd
theorem r_attr {f : Str} (m : T.att.contains f = true) (hb : attributeBase x f X.env (eval x X.env) = eval x X.env) (ha : PE X x (tP G cl ini W a)) : PE X (.Attribute x f pos) (tE G cl ini W (.attr a f)) := se_attr B.hK (B.wd.att f m) ha hb
theorem r_call {f : Nat} {fn : Str} (m : T.fns.lookup f = some fn) (hg : Gl X fn) (hdb : (fn == ("__debug__" : Str)) = false) (he : starEach (x :: xs) X.env = (false, eval x X.env) :: starEach xs X.env) (hpl : (backTo pos (starEach xs X.env)).any (·.1) = false)
    (ha : PA X (x :: xs) (tPs G cl ini (WE E) es)) : PE X (.Call (.Name fn p) (x :: xs) [] pos) (tE G cl ini (WE E) (.call f es)) := by
  obtain ⟨fa, fd, pn, h1, h2, h3, h4⟩ := B.wd.cal f fn m
  exact se_call h1 B.room B.hx hg h2 h3 h4 ha hdb he hpl
theorem r_meth {f cc : Nat} {m : Str} {apos : Pos} {o1 : Expr} {pl : Sem Bool} (hm : T.mts.lookup f = some (cc, m)) (hst : starEach (x :: xs) X.env = (false, eval x X.env) :: starEach xs X.env) (hpl : (backTo pos (starEach xs X.env)).any (·.1) = false)
    (ht : eval (.Call (.Attribute o1 m apos) (x :: xs) [] pos) X.env = (do
      let ov ← eval o1 X.env
      standAt apos.atName
      let (f, first) ← holding [ov] (getMethod ov m pl)
      callWith pos f first (backTo pos (starEach (x :: xs) X.env)) (backToKw pos (keywordEach [] X.env))))
    (ho : PE X o1 (tP G cl ini (WE E) a)) (ha : PA X (x :: xs) (tPs G cl ini (WE E) es)) : PE X (.Call (.Attribute o1 m apos) (x :: xs) [] pos) (tE G cl ini (WE E) (.meth cc m f a es)) := by
  obtain ⟨fa, fd, pn, h1, h2, h3, h4⟩ := B.wd.mt f cc m hm
  exact se_meth h1 h2 h3 B.room B.hx h4 ho ha hst hpl (pl := pl) ht
theorem r_make (i : Nat) {f cc : Nat} {ds : List D} {fn : Str} (m : T.mks[i]? = some (cc, fn, f, ds)) (hg : Gl X fn) (hdb : (fn == ("__debug__" : Str)) = false) (he : starEach (x :: xs) X.env = (false, eval x X.env) :: starEach xs X.env) (hpl : (backTo pos (starEach xs X.env)).any (·.1) = false)
    (ha : PA X (x :: xs) (tPs G cl ini (WE E) es)) : PE X (.Call (.Name fn p) (x :: xs) [] pos) (tE G cl ini (WE E) (.make cc es ds)) := by
  obtain ⟨fa, fd, pn, dus, dvs, h1, h2, h3, h4, h5, h6, h7, h8⟩ := B.wd.mkr i cc fn f ds m
  exact se_make h3 h1 h2 h5 B.room1 B.hx hg h4 h6 h7 h8 ha hdb he hpl
theorem r_lc0 {t : Tg} {it : Ow.It} {cs : Es} {iter elt : Expr} {ifs : List Expr} {scope : Scope} {own : List (Str × Nat)} (ok : BlkOk X.N X.env.scope scope own) (hv : own.map (·.2) = t.slots) (hs : ∀ x, foldedSetIterable iter X.env x = pure x) (hi : PI X tg iter (tI G cl ini (WE E) it))
    (hg : ∀ (s : Shared) (H : Hp) (C : Addr) (c : List (Str × Addr)) (fp : List Addr) (W : Value → Shared → Prop), PG (blkX X s H scope (compEnvC scope c C X.env) fp W) tg (gT G t))
    (ht : ∀ (s : Shared) (H : Hp) (C : Addr) (c : List (Str × Addr)) (fp : List Addr) (W : Value → Shared → Prop), Bd G cl ini T k E (blkX X s H scope (compEnvC scope c C X.env) fp W) → PTs (blkX X s H scope (compEnvC scope c C X.env) fp W) ifs (tTs G cl ini (WE E) cs))
    (he : ∀ (s : Shared) (H : Hp) (C : Addr) (c : List (Str × Addr)) (fp : List Addr) (W : Value → Shared → Prop), Bd G cl ini T k E (blkX X s H scope (compEnvC scope c C X.env) fp W) → PE (blkX X s H scope (compEnvC scope c C X.env) fp W) elt (tE G cl ini (WE E) a)) :
    PE X (.ListComp elt [⟨tg, iter, ifs, 0⟩] scope pos) (tE G cl ini (WE E) (.lc a t it cs)) :=
  se_lc B.px B.calm B.nd hi ok hv hg (fun s H C c fp W p => ht s H C c fp W (B.blk p)) (fun s H C c fp W p => he s H C c fp W (B.blk p)) hs
theorem r_lc {t : Tg} {it : Ow.It} {cs : Es} {iter elt : Expr} {ifs : List Expr} {scope : Scope} (ok : blkC X.N X.env.scope scope (ownOf X.N t.slots) = true) (hv : (ownOf X.N t.slots).map (·.2) = t.slots) (hs : ∀ x, foldedSetIterable iter X.env x = pure x) (hi : PI X tg iter (tI G cl ini (WE E) it))
    (hg : ∀ (s : Shared) (H : Hp) (C : Addr) (c : List (Str × Addr)) (fp : List Addr) (W : Value → Shared → Prop), Bd G cl ini T k E X → Good G (k + 1) (blkX X s H scope (compEnvC scope c C X.env) fp W) → PG (blkX X s H scope (compEnvC scope c C X.env) fp W) tg (gT G t))
    (ht : ∀ (s : Shared) (H : Hp) (C : Addr) (c : List (Str × Addr)) (fp : List Addr) (W : Value → Shared → Prop), Bd G cl ini T k E (blkX X s H scope (compEnvC scope c C X.env) fp W) → PTs (blkX X s H scope (compEnvC scope c C X.env) fp W) ifs (tTs G cl ini (WE E) cs))
    (he : ∀ (s : Shared) (H : Hp) (C : Addr) (c : List (Str × Addr)) (fp : List Addr) (W : Value → Shared → Prop), Bd G cl ini T k E (blkX X s H scope (compEnvC scope c C X.env) fp W) → PE (blkX X s H scope (compEnvC scope c C X.env) fp W) elt (tE G cl ini (WE E) a)) :
    PE X (.ListComp elt [⟨tg, iter, ifs, 0⟩] scope pos) (tE G cl ini (WE E) (.lc a t it cs)) :=
  r_lc0 B (blk_by ok) hv hs hi (fun s H C c fp W => hg s H C c fp W B ⟨B.good.hK, B.good.room, B.good.calm, B.good.nd⟩) ht he
/-- .. put into a name, when the target's own list is swapped in -/
theorem s_lc {pin : List Nat} {i : Nat} {n : Str} {p spos : Pos} {t : Tg} {it : Ow.It} {cs : Es} {iter elt : Expr} {ifs : List Expr} {scope : Scope} (hy : X.N[i]? = some n) (hyl : X.env.scope.names.lookup n = some .local)
    (hsw : swapsWith (.ListComp elt [⟨tg, iter, ifs, 0⟩] scope pos) (some (.Name n p)) spos.line X.env = pure true) (ok : blkC X.N X.env.scope scope (ownOf X.N t.slots) = true) (hv : (ownOf X.N t.slots).map (·.2) = t.slots) (hs : ∀ x, foldedSetIterable iter X.env x = pure x) (hi : PI X tg iter (tI G cl ini (WE E) it))
    (hg : ∀ (s : Shared) (H : Hp) (C : Addr) (c : List (Str × Addr)) (fp : List Addr) (W : Value → Shared → Prop), Bd G cl ini T k E X → Good G (k + 1) (blkX X s H scope (compEnvC scope c C X.env) fp W) → PG (blkX X s H scope (compEnvC scope c C X.env) fp W) tg (gT G t))
    (ht : ∀ (s : Shared) (H : Hp) (C : Addr) (c : List (Str × Addr)) (fp : List Addr) (W : Value → Shared → Prop), Bd G cl ini T k E (blkX X s H scope (compEnvC scope c C X.env) fp W) → PTs (blkX X s H scope (compEnvC scope c C X.env) fp W) ifs (tTs G cl ini (WE E) cs))
    (he : ∀ (s : Shared) (H : Hp) (C : Addr) (c : List (Str × Addr)) (fp : List Addr) (W : Value → Shared → Prop), Bd G cl ini T k E (blkX X s H scope (compEnvC scope c C X.env) fp W) → PE (blkX X s H scope (compEnvC scope c C X.env) fp W) elt (tE G cl ini (WE E) a)) :
    PS X (.Assign [.Name n p] (.ListComp elt [⟨tg, iter, ifs, 0⟩] scope pos) spos) (tS G pin cl ini E (exec cl ini pin (.asg (.one i) (.lc a t it cs)))) :=
  ss_setLc B.px B.calm B.nd hy hyl hsw hi (blk_by ok) hv (fun s H C c fp W => hg s H C c fp W B ⟨B.good.hK, B.good.room, B.good.calm, B.good.nd⟩) (fun s H C c fp W p => ht s H C c fp W (B.blk p)) (fun s H C c fp W p => he s H C c fp W (B.blk p)) hs
omit B in
theorem Bd.blk0 {s : Shared} {H : Hp} {scope : Scope} {C : Addr} {c : List (Str × Addr)} {fp : List Addr} (b : Bd G cl ini T k E X) : Bd G cl ini T k E0 (blkX X s H scope (compEnvC scope c C X.env) fp fun _ _ => False) := by
  obtain ⟨L, de, outer, h1, h2, h3, _⟩ := b.px.ex
  exact ⟨⟨b.good.hK, b.good.room, b.good.calm, b.good.nd⟩, px0 h1 h2 h3, b.wd⟩
theorem r_dc {t : Tg} {it : Ow.It} {iter kx vx : Expr} {scope : Scope} (ok : blkC X.N X.env.scope scope (ownOf X.N t.slots) = true) (hv : (ownOf X.N t.slots).map (·.2) = t.slots) (hs : ∀ x, foldedSetIterable iter X.env x = pure x) (hi : PI X tg iter (tI G cl ini (WE E) it))
    (hg : ∀ (s : Shared) (H : Hp) (C : Addr) (c : List (Str × Addr)) (fp : List Addr), Bd G cl ini T k E X → Good G (k + 1) (blkX X s H scope (compEnvC scope c C X.env) fp fun _ _ => False) → PG (blkX X s H scope (compEnvC scope c C X.env) fp fun _ _ => False) tg (gT G t))
    (hk : ∀ (s : Shared) (H : Hp) (C : Addr) (c : List (Str × Addr)) (fp : List Addr), Bd G cl ini T k E0 (blkX X s H scope (compEnvC scope c C X.env) fp fun _ _ => False) → PE (blkX X s H scope (compEnvC scope c C X.env) fp fun _ _ => False) kx (tE G cl ini (WE E0) a))
    (he : ∀ (s : Shared) (H : Hp) (C : Addr) (c : List (Str × Addr)) (fp : List Addr), Bd G cl ini T k E0 (blkX X s H scope (compEnvC scope c C X.env) fp fun _ _ => False) → PE (blkX X s H scope (compEnvC scope c C X.env) fp fun _ _ => False) vx (tE G cl ini (WE E0) b)) :
    PE X (.DictComp kx vx [⟨tg, iter, [], 0⟩] scope pos) (tE G cl ini (WE E) (.dc a b t it)) :=
  se_dc B.calm B.nd hi (blk_by ok) hv (fun s H C c fp => hg s H C c fp B ⟨B.good.hK, B.good.room, B.good.calm, B.good.nd⟩) (fun s H C c fp => sts_nil) (fun s H C c fp => hk s H C c fp B.blk0) (fun s H C c fp => he s H C c fp B.blk0) hs
theorem s_dc {pin : List Nat} {i : Nat} {n : Str} {p spos : Pos} {t : Tg} {it : Ow.It} {iter kx vx : Expr} {scope : Scope} (hy : X.N[i]? = some n) (hyl : X.env.scope.names.lookup n = some .local)
    (hsw : swapsWith (.DictComp kx vx [⟨tg, iter, [], 0⟩] scope pos) (some (.Name n p)) spos.line X.env = pure true) (ok : blkC X.N X.env.scope scope (ownOf X.N t.slots) = true) (hv : (ownOf X.N t.slots).map (·.2) = t.slots) (hs : ∀ x, foldedSetIterable iter X.env x = pure x) (hi : PI X tg iter (tI G cl ini (WE E) it))
    (hg : ∀ (s : Shared) (H : Hp) (C : Addr) (c : List (Str × Addr)) (fp : List Addr), Bd G cl ini T k E X → Good G (k + 1) (blkX X s H scope (compEnvC scope c C X.env) fp fun _ _ => False) → PG (blkX X s H scope (compEnvC scope c C X.env) fp fun _ _ => False) tg (gT G t))
    (hk : ∀ (s : Shared) (H : Hp) (C : Addr) (c : List (Str × Addr)) (fp : List Addr), Bd G cl ini T k E0 (blkX X s H scope (compEnvC scope c C X.env) fp fun _ _ => False) → PE (blkX X s H scope (compEnvC scope c C X.env) fp fun _ _ => False) kx (tE G cl ini (WE E0) a))
    (he : ∀ (s : Shared) (H : Hp) (C : Addr) (c : List (Str × Addr)) (fp : List Addr), Bd G cl ini T k E0 (blkX X s H scope (compEnvC scope c C X.env) fp fun _ _ => False) → PE (blkX X s H scope (compEnvC scope c C X.env) fp fun _ _ => False) vx (tE G cl ini (WE E0) b)) :
    PS X (.Assign [.Name n p] (.DictComp kx vx [⟨tg, iter, [], 0⟩] scope pos) spos) (tS G pin cl ini E (exec cl ini pin (.asg (.one i) (.dc a b t it)))) :=
  ss_setDc B.calm B.nd hy hyl hsw hi (blk_by ok) hv (fun s H C c fp => hg s H C c fp B ⟨B.good.hK, B.good.room, B.good.calm, B.good.nd⟩) (fun s H C c fp => sts_nil) (fun s H C c fp => hk s H C c fp B.blk0) (fun s H C c fp => he s H C c fp B.blk0) hs
theorem q_list (h : PE X x (tE G cl ini W a)) : PI X tg x (tI G cl ini W (.seq .l a)) := si_list B.hK h
theorem q_keys (h : PE X x (tE G cl ini W a)) : PI X tg x (tI G cl ini W (.seq .k a)) := si_keys h
theorem r_toi (hg : Gl X "int") (h0 : starEach [x] X.env = (false, eval x X.env) :: starEach [] X.env) (hpl : (backTo pos (starEach [] X.env)).any (·.1) = false) (ha : PE X x (tP G cl ini W a)) : PE X (.Call (.Name "int" p) [x] [] pos) (tE G cl ini W (.prim .toi (.cons a .nil))) := se_toi hg (B.wd.fr _ (by decide)) ha h0 hpl
theorem r_join {s : Str} {j : Nat} {cpos apos : Pos} (hbase : attributeBase (.Constant (.str s) j p) "join" X.env (eval (.Constant (.str s) j p) X.env) = eval (.Constant (.str s) j p) X.env)
    (hfew : ((backTo cpos (starEach [x] X.env)).all (fun x => !x.1) && (backToKw cpos (keywordEach [] X.env)).all (fun x => x.1.isSome) && decide ([x].length + ([] : List Keyword).length + (if ([] : List Keyword).isEmpty then 0 else 1) < 30)) = true)
    (hline : (apos.endLine == cpos.line) = true) (h0 : starEach [x] X.env = (false, eval x X.env) :: starEach [] X.env) (hpl : (backTo cpos (starEach [] X.env)).any (·.1) = false) (ha : PE X x (tP G cl ini W a)) :
    PE X (.Call (.Attribute (.Constant (.str s) j p) "join" apos) [x] [] cpos) (tE G cl ini W (.prim .join (.cons (.cst (.str s)) (.cons a .nil)))) := se_join B.hK ha hbase hfew hline h0 hpl
theorem r_idxOf {i : Nat} {n : Str} {cpos apos : Pos} (hv : PE X (.Name n p) (tVar i)) (hbase : attributeBase (.Name n p) "index" X.env (eval (.Name n p) X.env) = eval (.Name n p) X.env)
    (hfew : ((backTo cpos (starEach [x] X.env)).all (fun x => !x.1) && (backToKw cpos (keywordEach [] X.env)).all (fun x => x.1.isSome) && decide ([x].length + ([] : List Keyword).length + (if ([] : List Keyword).isEmpty then 0 else 1) < 30)) = true)
    (hline : (apos.endLine == cpos.line) = true) (h0 : starEach [x] X.env = (false, eval x X.env) :: starEach [] X.env) (hpl : (backTo cpos (starEach [] X.env)).any (·.1) = false) (he : PE X x (tE G cl ini W a)) :
    PE X (.Call (.Attribute (.Name n p) "index" apos) [x] [] cpos) (tE G cl ini W (.idxOf i a)) := se_idxOf B.hK B.u hv he hbase hfew hline h0 hpl
theorem r_dcopy (hg : Gl X "dict") (h0 : starEach [x] X.env = (false, eval x X.env) :: starEach [] X.env) (hpl : (backTo pos (starEach [] X.env)).any (·.1) = false) (ha : PE X x (tP G cl ini W a)) : PE X (.Call (.Name "dict" p) [x] [] pos) (tE G cl ini W (.prim .dcopy (.cons a .nil))) := se_dcopy hg (B.wd.fr _ (by decide)) ha h0 hpl
theorem q_tup (h : PE X x (tE G cl ini W a)) : PI X tg x (tI G cl ini W (.seq .t a)) := si_tup B.hK h
theorem t_of (he : ∀ whole, isTrue x X.env whole = (do let v ← whole; standAt x.pos; holding [v] (truthy v))) (h : PE X x (tE G cl ini W a)) : PT X x (tT G cl ini W a) := st_of B.hK h he
theorem q_range1 {p : Pos} (hg : Gl X "range") (h0 : starEach [x] X.env = (false, eval x X.env) :: starEach [] X.env) (h : PE X x (tE G cl ini W a)) : PI X tg (.Call (.Name "range" p) [x] [] pos) (tI G cl ini W (.range1 a)) := si_range1 hg (B.wd.fr _ (by decide)) h h0 h0
theorem q_range2 {p : Pos} (hg : Gl X "range") (h1 : starEach [x, y] X.env = (false, eval x X.env) :: starEach [y] X.env) (h0 : starEach [y] X.env = (false, eval y X.env) :: starEach [] X.env) (h2 : starEach [x, y] X.env = [(false, eval x X.env), (false, eval y X.env)]) (h : PE X x (tE G cl ini W a)) (h' : PE X y (tE G cl ini W b)) :
    PI X tg (.Call (.Name "range" p) [x, y] [] pos) (tI G cl ini W (.range2 a b)) := si_range2 hg (B.wd.fr _ (by decide)) h h' h1 h0 h2 h0
theorem q_enum {p tpos : Pos} {elts : List Expr} {kk : Nat} (hg : Gl X "enumerate") (h0 : starEach [x] X.env = (false, eval x X.env) :: starEach [] X.env) (hs : starEach [x] X.env = [(false, eval x X.env)]) (h : PE X x (tE G cl ini W a)) : PI X (.Tuple elts kk tpos) (.Call (.Name "enumerate" p) [x] [] pos) (tI G cl ini W (.enum a 0)) :=
  si_enum B.hK hg (B.wd.fr _ (by decide)) h h0 hs
theorem r_meth0 {f cc : Nat} {m : Str} {apos : Pos} {o1 : Expr} {pl : Sem Bool} (hm : T.mts.lookup f = some (cc, m))
    (ht : eval (.Call (.Attribute o1 m apos) [] [] pos) X.env = (do
      let ov ← eval o1 X.env
      standAt apos.atName
      let (f, first) ← holding [ov] (getMethod ov m pl)
      callWith pos f first (backTo pos (starEach [] X.env)) (backToKw pos (keywordEach [] X.env))))
    (ho : PE X o1 (tP G cl ini (WE E) a)) : PE X (.Call (.Attribute o1 m apos) [] [] pos) (tE G cl ini (WE E) (.meth cc m f a .nil)) := by
  obtain ⟨fa, fd, pn, h1, h2, h3, h4⟩ := B.wd.mt f cc m hm
  exact se_meth0 h1 h2 h3 B.room B.hx h4 ho (pl := pl) ht
theorem r_exc (i : Nat) {cc : Nat} {n m : Str} {j : Nat} (h : T.exs[i]? = some (cc, n)) (hg : Gl X n) (hd : (n == ("__debug__" : Str)) = false) : PMk X (.Call (.Name n p) [.Constant (.str m) j p2] [] pos) (fun _ H Q => Q (.ref (G.ca cc)) none H) := by
  obtain ⟨Bs, bmB, newId, initId, h1, h2, h3, h4, h5, h6⟩ := B.wd.exc i cc n h
  exact pmk_own h1 h2 h3 h4 (raises_own h5 h6) hg hd
end
end Ow
end OxH_
section OyA_
set_option Elab.async false
set_option linter.all false
set_option maxRecDepth 100000
set_option maxHeartbeats 4000000
/-! Sets of texts: len(set(list of texts)). -/
namespace Ow
open PySem PySem.Spec PyProof.Rows L2
variable [TQ]
def uniqStep (acc : List Str) (y : Str) : List Str := if acc.any (· == y) then acc else acc ++ [y]
theorem uniqS_fold (ys : List Str) : uniqS ys = ys.foldl uniqStep [] := rfl
theorem uniqS_snoc (ys : List Str) (y : Str) : uniqS (ys ++ [y]) = uniqStep (uniqS ys) y := by
  rw [uniqS_fold, uniqS_fold, List.foldl_append]; rfl
theorem uniqStep_len (acc : List Str) (y : Str) : (uniqStep acc y).length = if acc.any (· == y) then acc.length else acc.length + 1 := by
  unfold uniqStep; split <;> simp
theorem uniqStep_any (acc : List Str) (y k : Str) : (uniqStep acc y).any (· == k) = (acc.any (· == k) || decide (k = y)) := by
  unfold uniqStep
  by_cases e : k = y
  · subst e
    split
    · rename_i q; simp [q]
    · simp
  · have e2 : (y == k) = false := by simpa using fun z : y = k => e z.symm
    split <;> simp [e, e2]
theorem uniqS_take (ys : List Str) (i : Nat) (h : i < ys.length) : uniqS (ys.take (i + 1)) = uniqStep (uniqS (ys.take i)) (ys.getD i Str.empty) := by
  rw [List.take_add_one, List.getElem?_eq_getElem h, List.getD_eq_getElem?_getD, List.getElem?_eq_getElem h]
  exact uniqS_snoc _ _
theorem uniqS_le (ys : List Str) : ∀ i, (uniqS (ys.take i)).length ≤ i
  | 0 => by rw [List.take_zero]; exact Nat.le_refl _
  | i + 1 => by
    by_cases h : i < ys.length
    · rw [uniqS_take ys i h, uniqStep_len]
      have := uniqS_le ys i
      split <;> omega
    · rw [List.take_of_length_le (by omega), ← List.take_of_length_le (Nat.le_of_not_lt h)]
      exact Nat.le_succ_of_le (uniqS_le ys i)
abbrev SetSt (P : Program) (w : World) (h : Heap) (S : Addr) (ys : List Str) : Prop := h.SetOf (PySem.strKind P w) S (fun k => (uniqS ys).any (· == k)) (uniqS ys).length
theorem SetSt.moved {P : Program} {w : World} {h h' : Heap} {S : Addr} {ys : List Str} (x : SetSt P w h S ys) (k : ∀ o, h.get? S = some o → h'.get? S = some o) : SetSt P w h' S ys := by
  obtain ⟨o, es, ep, t, ho, r⟩ := x
  exact ⟨o, es, ep, t, k o ho, r⟩
section
variable {P : Program} {w : World} {A : Around} {R : Result → Shared → Prop} {J : Addr} {fp wr : List Addr} {G : Array GenState → Array GenState → Prop} {n : Nat} {Pr : Nat → Value → Prop} {St : Nat → Shared → Prop}
/-- the loop that fills a set with texts -/
theorem fill_texts (W : WalksS P w A.in1 J fp wr G n Pr St) (S : Addr) (hS : S ∉ fp) (ys : List Str) (hn : ys.length = n) (hv : ∀ i v, Pr i v → ∃ t, v = .str (ys.getD i Str.empty) t) (hb : n + 1 < scanBound) : ∀ (m i : Nat) (s : Shared), m = n - i → i ≤ n → St i s → SetSt P w s.heap S (ys.take i) →
    (∀ s', Moved (S :: wr) G s s' → SetSt P w s'.heap S ys → R (.ok (.ret .none)) s') → codeAny (model P w) A (.builtin "set.update.loop" ⟨[.ref S, .ref J], []⟩) R s := by
  have hw : S ∉ wr := fun z => hS (W.sub _ z)
  intro m
  induction m with
  | zero =>
    intro i s hm hi st x k
    obtain rfl : i = n := by omega
    refine codeAny_builtin PyProof.Rows.F.entry_set_update_loop ?_
    rw [Around.under_plainId PyProof.Rows.F.plain_set_update_loop _]
    refine (show wpAny _ A.in1 (pyNext (.ref J) >>= _) _ _ s from wpAny_bind (W.done s _ _ st fun s' mv => (show wpAny _ A.in1 (PySem.ret Value.none) _ _ s' from wpAny_pure (k s' (mv.mono fun b z => List.mem_cons_of_mem _ z) ?_))))
    rw [List.take_of_length_le (by omega)] at x
    exact x.moved fun o e => mv.heap S o hw e
  | succ m ih =>
    intro i s hm hi st x k
    have hlt : i < n := by omega
    refine codeAny_builtin PyProof.Rows.F.entry_set_update_loop ?_
    rw [Around.under_plainId PyProof.Rows.F.plain_set_update_loop _]
    refine (show wpAny _ A.in1 (pyNext (.ref J) >>= _) _ _ s from wpAny_bind (W.item i s _ _ hlt st fun v s' hp st' mv => ?_))
    obtain ⟨t, rfl⟩ := hv i v hp
    have x' := x.moved fun o e => mv.heap S o hw e
    refine (show wpAny _ A.in1 (holding [Value.str (ys.getD i Str.empty) t] (setAdd S (.str (ys.getD i Str.empty) t)) >>= _) _ _ s' from wpAny_bind (wpAny_holding ?_))
    unfold setAdd
    refine wpAny_holding (wpAny_bind ((PySem.strKind P w).pyHash (k := ys.getD i Str.empty) (strKind_is _ _ _ _) ?_))
    have room : (uniqS (ys.take i)).length + 1 < scanBound := by have := uniqS_le ys i; omega
    refine wpAny_setAddHashed_of (knd := PySem.strKind P w) (s := { s' with toks := s'.toks + 1 }) (strKind_is _ _ _ _) rfl x' room fun h' sb x2 => ?_
    have x3 : SetSt P w h' S (ys.take (i + 1)) := SetOf_congr x2 (fun z => by rw [uniqS_take ys i (by omega), uniqStep_any]) (by rw [uniqS_take ys i (by omega), uniqStep_len])
    refine wpAny_pure ⟨plainId_quiet PyProof.Rows.F.plain_set_update_loop _, ih (i + 1) _ (by omega) hlt (W.frame _ s' _ _ st' (Nat.le_succ _) fun b hb' o e => (sb.2 b fun z => hS (z ▸ hb')).trans e) x3 fun s2 mv2 x4 => ?_⟩
    exact k s2 (Moved.trans W.gtrans ((mv.mono fun b z => List.mem_cons_of_mem _ z).then_heap (Nat.le_succ _) fun b o hb' e => (sb.2 b fun z => hb' (by rw [z]; exact List.mem_cons_self)).trans e) mv2) x4
end
section
variable {P : Program} {w : World} {A : Around} {E : Value → Shared → Prop} {s : Shared}
/-- an empty set just made -/
abbrev set0 (led : Bool) : Obj := { cls := .type "set", dict := none, data := .set #[] 0 (.fresh 0 0 led) }
/-- set(a list of texts) -/
theorem set_of_texts {l : Addr} {items : Array Value} {ys : List Str} {Q : Value → Shared → Prop} (hh : A.handled = none) (hl : s.heap.IsList l items) (hi : PyProof.Rows.StrsAre items.toList ys) (hb : ys.length + 1 < scanBound)
    (k : ∀ (h' : Heap) (tk : Nat), SetSt P w h' s.heap.objs.size ys → (∀ b o, s.heap.get? b = some o → h'.get? b = some o) → Q (.ref s.heap.objs.size) { s with heap := h', toks := tk }) : wpAny (model P w) A (call (.type "set") [.ref l]) Q E s := by
  have hlen : ys.length = items.size := by rw [← StrsAre.len_eq hi, Array.length_toList]
  obtain ⟨c, tl, hmro⟩ := PySem.F.called_set.mro
  have g1 := PySem.F.called_set.made
  have g2 := PySem.F.called_set.sub
  have g3 := PySem.F.called_set.notType
  have g4 := PySem.F.called_set.canCreate
  have g5 := PySem.F.typeCall_set_1 (.ref l)
  refine wpAny_call (codeAny_of_tree (show wpAny _ _ (callAny (.type "set") _) _ _ _ from wpAny_pure ⟨Code.quiet_builtin _ (by decide +kernel), codeAny_builtin F.entry_type_call ?_⟩))
  rw [Around.under_plain (weight_type_call_type "set" [.ref l] []) rfl]
  repeat (any_goals (first | assumption | wp_step))
  refine codeAny_mono (code_set_new_1 (.ref l) (E := E) (Q₁ := fun o s1 => ∃ led : Bool, o = .ref s.heap.objs.size ∧ s1 = { s with heap := s.heap.push (set0 led) }) fun led => ⟨led, rfl, rfl⟩) fun r s1 hr => ?_
  cases r with
  | error e => exact hr
  | ok fl =>
    cases fl with
    | next => exact hr.elim
    | brk => exact hr.elim
    | cont => exact hr.elim
    | ret o =>
      obtain ⟨led, rfl, rfl⟩ := hr
      have at0 : (s.heap.push (set0 led)).get? s.heap.objs.size = some (set0 led) := Heap.get?_push_size _ rfl
      have ty : Shared.TypeIs { s with heap := s.heap.push (set0 led) } (.ref s.heap.objs.size) "set" := ⟨_, at0, rfl⟩
      have g6 := PySem.F.called_set.init.lookup
      have g7 := PySem.F.called_set.init.bind (.ref s.heap.objs.size)
      repeat (any_goals (first | assumption | wp_step))
      refine codeAny_mono (codeAny_call_builtin (R := wants (fun r s2 => r = .none ∧ ∃ h' tk, s2 = { s with heap := h', toks := tk } ∧ SetSt P w h' s.heap.objs.size ys ∧ ∀ b o, s.heap.get? b = some o → h'.get? b = some o) E) PySem.F.called_set.init.plain PySem.F.entry_set_init (check_set_init_1 ty ?_)) fun r2 s2 hr2 => ?_
      · obtain ⟨ol, hol, hcl, nl, hdl⟩ := hl
        obtain ⟨oc, od, odt, osl⟩ := ol
        dsimp only at hcl hdl
        subst hcl hdl
        have hol2 : (s.heap.push (set0 led)).get? l = some { cls := .type "list", dict := od, data := .seq items nl, slots := osl } := Heap.get?_push_of_some _ hol
        have l1 : (s.heap.push (set0 led)).IsList l items := ⟨_, hol2, rfl, nl, rfl⟩
        have g8 := PySem.F.sub_list_set
        have g9 := PySem.F.sub_list_frozenset
        have g10 : (Value.type "list" == Value.type "dict") = false := by decide
        unfold Builtin.«set.__init__» noKeywords Builtin.Frozenset.updateFrom
        generalize hPI : pyIter = PI
        wp_walk
        subst hPI
        have lS : l < s.heap.objs.size := Heap.lt_size hol
        have h3 : A.in1.in1.in1.handled = none := by simp [hh]
        have sz : (s.heap.push (set0 led)).objs.size = s.heap.objs.size + 1 := Heap.size_push ..
        refine wpAny_pyIter_list l1 (wpAny_bind (wpAny_runValue ?_))
        refine fill_texts ((Walks.list h3 _ l (by rw [sz]; exact Nat.ne_of_lt (Nat.lt_succ_of_lt lS)) items).toS) s.heap.objs.size (by rw [sz]; simp only [List.mem_cons, List.not_mem_nil, or_false, not_or]; exact ⟨Nat.ne_of_lt (Nat.lt_succ_self _), Nat.ne_of_gt lS⟩) ys hlen (fun i v hv => SS.strs_at hi i v (by rw [Array.getElem?_toList]; exact hv)) (by rw [← hlen]; exact hb) (items.size - 0) 0 _ rfl (Nat.zero_le _) ⟨⟨_, Heap.get?_push_size _ rfl, rfl, rfl⟩, l1.push _⟩ ?_ ?_
        · exact SetOf_congr ((setObjOf_fresh (knd := PySem.strKind P w) led).setOf (Heap.get?_push_of_some _ at0) (by unfold scanBound; omega)) (fun _ => rfl) rfl
        · intro s' mv x
          obtain ⟨h', g', d', tk', os'⟩ := s'
          obtain rfl : g' = s.gens := mv.gens
          obtain rfl : d' = s.drawn := mv.drawn
          obtain rfl : os' = s.os := mv.os
          refine (show wpAny _ _ _ _ _ _ from wpAny_pure (show wpAny _ _ (PySem.ret Value.none) _ _ _ from wpAny_pure ⟨rfl, h', tk', rfl, x, fun b o e => ?_⟩))
          have lt := Heap.lt_size e
          exact mv.heap b o (by rw [sz]; simp only [List.mem_cons, List.not_mem_nil, or_false, not_or]; exact ⟨Nat.ne_of_lt lt, Nat.ne_of_lt (Nat.lt_succ_of_lt lt)⟩) (Heap.get?_push_of_some _ (Heap.get?_push_of_some _ e))
      · cases r2 with
        | error e => exact hr2
        | ok fl =>
          cases fl with
          | next => exact hr2.elim
          | brk => exact hr2.elim
          | cont => exact hr2.elim
          | ret v =>
            obtain ⟨rfl, h', tk, rfl, x, kp⟩ := hr2
            repeat (any_goals (first | assumption | wp_step))
            exact k _ _ x kp
end
end Ow
end OyA_
section OyB_
set_option Elab.async false
set_option linter.all false
set_option maxRecDepth 100000
set_option maxHeartbeats 4000000
namespace Ow
open PySem PySem.Spec PyProof.Rows L2
variable [TQ]
section
variable {G : Gd} {cl : Cl} {ini : Nat → Option Nat} {W : WX} {X : Cx} {a : Expr} {ea : Ow.E} {p p2 q pos : Pos}
def rNset (K : PySem.W.Frag) : V → Hp → VK → Prop := fun v H Q => ∃ (l : Addr) (ys : List Str), v = .ref l ∧ SqL K H l (ys.map V.str) ∧ ys.length ≤ 4000 ∧ Q (.int (uniqS ys).length) H
theorem ok_nset : PrOk1 G .nset (rNset G.K) := by
  intro F H v o1 o Q e h q k
  obtain ⟨ds, e1, q⟩ := Option.bind_eq_some_iff.mp (show ((lstOf o1).bind fun ds => (strsD ds).bind fun ys => if ys.length ≤ 4000 then some (O.fr (.int (uniqS ys).length)) else none) = some o from q)
  obtain ⟨ys, e2, q⟩ := Option.bind_eq_some_iff.mp q
  split at q
  case isFalse => cases q
  rename_i hl
  cases q
  obtain ⟨l, vs, rfl, ha, ra⟩ := pk_lst e h e1
  cases strsD_is ra e2
  exact ⟨l, ys, rfl, .of ha, hl, k_fr e k (.int _)⟩
theorem se_nset (hK : X.K = G.K) (hc : X.calm = true) (hg : Gl X "len") (hm : X.mg "len" = none) (hg2 : Gl X "set") (hm2 : X.mg "set" = none) (ha : PE X a (tP G cl ini W ea)) (na : starEach [a] X.env = (false, eval a X.env) :: starEach [] X.env := by rfl) :
    PE X (.Call (.Name "len" p) [.Call (.Name "set" p2) [a] [] q] [] pos) (tE G cl ini W (.prim .nset (.cons ea .nil))) := by
  refine ⟨fun pins s σ H Q I h => ?_⟩
  have h := rd_op1 ok_nset h
  refine Call_ (ld_blt I hg hm boot_len (PyProof.Rows.callWith_builtin1 (PyProof.Rows.args_cons ?_ rfl) rfl rfl))
  refine Call_ (ld_blt I hg2 hm2 boot_set (PyProof.Rows.callWith_type1 (PyProof.Rows.args_cons (thn (ha.run pins s σ H _ I h) fun v s1 ⟨x, H1, I1, r1, q1⟩ => PyProof.Rows.args_nil ?_) na) na rfl))
  obtain ⟨l, ys, rfl, hq, hl, q1⟩ := q1
  cases r1
  rw [← hK] at hq
  obtain ⟨its, r, pl, hz⟩ := I1.list hq
  refine set_of_texts (I1.ok.hd hc) pl.isList (by simpa using L2.strsAre_of r) (by unfold scanBound; omega) fun h' tk x kp => ?_
  refine PyProof.Rows.args_nil ?_
  obtain ⟨o, es, ep, t, ho, hex, hd, _, _, _, hf, hn⟩ := x
  have I2 : Inv X pins σ H1 { s1 with heap := h', toks := tk } := I1.kept kp
  have hle : (uniqS ys).length ≤ ys.length := by
    have z := uniqS_le ys ys.length
    rwa [List.take_length] at z
  exact call_len_set ho hex hd hf (by rw [hn] <;> omega) ⟨.int (uniqS ys).length, H1, I2.tok _, ⟨_, by rw [hn]⟩, q1⟩
end
end Ow
end OyB_
section OyC_
set_option Elab.async false
set_option linter.all false
set_option maxRecDepth 100000
set_option maxHeartbeats 4000000
/-! Calls whose exceptions are wished for at the frame's slots; lambdas called; try. -/
namespace Ow
open PySem PySem.Spec PyProof.Rows L2
variable [TQ]
section
variable {G : Gd} {cl : Cl} {ini : Nat → Option Nat} {W : WX} {X : Cx} {x : Expr} {xs : List Expr} {es : Es} {p pos : Pos} {k f : Nat} {fa : Addr} {fd : FuncData} {pn : List Str} {fn : Str}
abbrev PassW (X : Cx) (W : WX) : Prop := ∀ σ, L2.PassesAt (L2.CX X.prog X.w) X σ (fun c d H => W c d σ H)
theorem passW {X : Cx} {W : WX} (tk : Takes X W) : PassW X W := fun σ => L2.passAt tk σ
theorem se_callW (Fn : FnOk X.prog X.w X.K X.mg X.base (L2.CX X.prog X.w) k fa fd pn (spF G cl f)) (hr : Room k X.A) (hx : PassW X W) (hg : Gl X fn) (hm : X.mg fn = some (.ref fa)) (hk : PySem.W.keepIn X.K (.ref fa) = true) (hb : Binds X.K fd pn [])
    (ha : PA X (x :: xs) (tPs G cl ini W es)) (hdb : (fn == ("__debug__" : Str)) = false := by decide) (he : starEach (x :: xs) X.env = (false, eval x X.env) :: starEach xs X.env := by rfl) (hpl : (backTo pos (starEach xs X.env)).any (·.1) = false := by rfl) :
    PE X (.Call (.Name fn p) (x :: xs) [] pos) (tE G cl ini W (.call f es)) := by
  refine ⟨fun pins s σ H Q I q => (pe_callS (E := fun σ c d H => W c d σ H) Fn hr hg hm hk hb hx ha hdb he hpl).run pins s σ H Q I ?_⟩
  obtain ⟨F, A, δ, st, o⟩ := q
  simp only [ev] at o
  refine ⟨F, A, δ, st, (out_bnd o).imp fun ps δ1 m vs F1 H1 A1 B1 n1 e1 i1 nd1 => ?_⟩
  obtain ⟨os, er, nl, m⟩ := out_call m
  exact rd_call st.b0 st.ex n1 e1 i1 nd1 er nl m
theorem se_callv {i : Nat} (L : ∀ j a F, G.lf j a F → LamOk G cl X.prog X.w X.K X.mg X.base k j) (hr : Room k X.A) (hx : PassW X W) (hN : X.N[i]? = some fn) (hv : Vis X.env.scope fn) (ha : PA X (x :: xs) (tPs G cl ini W es))
    (hdb : (fn == ("__debug__" : Str)) = false := by decide) (hcd : (fn == ("__classdict__" : Str)) = false := by decide) (he : starEach (x :: xs) X.env = (false, eval x X.env) :: starEach xs X.env := by rfl) (hpl : (backTo pos (starEach xs X.env)).any (·.1) = false := by rfl) :
    PE X (.Call (.Name fn p) (x :: xs) [] pos) (tE G cl ini W (.callv i es)) := by
  refine ⟨fun pins s σ H Q I q => ?_⟩
  obtain ⟨F, A, δ, st, o⟩ := q
  simp only [ev] at o
  have o1 := out_bnd o
  unfold lamM at o1
  cases e : δ[i]? with
  | none => rw [e] at o1; exact o1.elim
  | some o2 =>
    rw [e] at o1
    obtain ⟨s', A1, A2, A3, w1, _, w3, _⟩ := st.env.split e
    have key : ∀ j, o2 = .fr (.lam j) → Out G W σ F H A (bnd (evs cl ini es) (fun ps => callM cl (1000 + j) ps) δ) (fun o δ' => EndO G σ F H A o δ' Q) → wpAny (model X.prog X.w) X.A (eval (.Call (.Name fn p) (x :: xs) [] pos) X.env) (EP X pins σ Q) X.xe s := by
      intro j ej o3
      subst ej
      cases w3 with
      | val w3 =>
      cases w3 with
      | fr w3 =>
      cases w3 with
      | @lam a _ hl =>
        have LK := L j a F hl
        refine wpAny_Call_Name_kw (thn ((pe_var (pos := p) hN hv hdb hcd).run pins s σ H (fun v H1 => v = .ref a ∧ H1 = H) I ⟨.ref a, w1, rfl, rfl⟩) fun u s1 ⟨v, H1, I1, r1, q1⟩ => ?_)
        obtain ⟨rfl, rfl⟩ := q1
        obtain rfl : u = Value.ref a := r1
        refine PySem.W.callWith_F (first := []) (LK.at_ a F H1 _ st.ex hl I1.hok) (thn (ha.run pos pins s1 σ H1 (fun vs H2 => ∃ F2, Ex F2 H2 ∧ G.lf j a F2 ∧ spF G cl (1000 + j) vs H2 Q (fun c d H => W c d σ H)) I1 ⟨F, A, δ, st, (out_bnd o3).imp fun ps δ1 m vs F1 H1 A1 B1 n1 e1 i1 nd1 => ?_⟩) fun us s2 ⟨vs, H2, I2, r, F2, q1, q2, q3⟩ => ⟨LK.at_ a F2 H2 _ q1 q2 I2.hok, ?_⟩) he hpl
        · obtain ⟨os, er, nl, m⟩ := out_call m
          exact ⟨F1, n1.fh, G.lfm _ _ _ _ n1.ff hl, rd_call st.b0 st.ex n1 e1 i1 nd1 er nl m⟩
        · refine wpAny_call (codeAny_mono (LK.run X.A X.stack s2 H2 F2 a us vs Q (fun c d H => W c d σ H) hr I2.env0 q1 q2 r q3) fun r s' hq => ?_)
          cases r with
          | error e => exact hx σ pins H2 s2 e s' I2 hq
          | ok fl =>
            cases fl with
            | ret u => exact I2.after hq
            | next => exact False.elim hq
            | brk => exact False.elim hq
            | cont => exact False.elim hq
    split at o1
    · rename_i j h
      cases h
      exact key j rfl o1
    · exact o1.elim
end
/-! ### try -/
section
variable {G : Gd} {cl : Cl} {ini : Nat → Option Nat} {E : XK} {X : Cx} {σ : L2.St} {F F1 F2 H H1 H2 : Hp} {A A1 A2 B : List Addr} {δ : Env} {pin : List Nat}
theorem IsE.frO (e : Ex F F1) {σ δ A} (h : IsE G F H σ δ A) : IsE G F1 H1 σ (δ.map frOnly) [] := by
  induction h with
  | nil => exact .nil
  | cons h _ ih =>
    rw [List.map_cons]
    refine IsE.cons (A := []) ?_ ih
    cases h with
    | dead => exact .dead
    | val h => cases h with
      | fr h => exact .val (.fr (h.mono e))
      | _ => exact .dead
theorem IsE.setDead {σ δ A} (h : IsE G F H σ δ A) : ∀ {i : Nat} {v : Option V}, A = [] → IsE G F H (σ.set i v) (δ.set i .dead) [] := by
  induction h with
  | nil => intro i v _; exact .nil
  | @cons s o σ δ A B h r ih =>
    intro i v e
    obtain ⟨rfl, rfl⟩ := List.append_eq_nil_iff.mp e
    cases i with
    | zero => exact IsE.cons (A := []) .dead r
    | succ i => exact IsE.cons (A := []) h (ih rfl)
theorem IsE.setN {σ δ A} (h : IsE G F H σ δ A) : ∀ {i : Nat} {v : Option V}, δ[i]? = some .dead → IsE G F H (σ.set i v) δ A := by
  induction h with
  | nil => intro i v e; simp at e
  | @cons s o σ δ A B h r ih =>
    intro i v e
    cases i with
    | zero =>
      simp only [List.getElem?_cons_zero, Option.some.injEq] at e
      subst e
      cases h with
      | dead => exact IsE.cons (A := []) .dead r
      | val h => cases h
    | succ i => exact IsE.cons h (ih (by simpa using e))
/-- the reading of a try's body: a call, kept in a name or not -/
def tB (G : Gd) (cl : Cl) (ini : Nat → Option Nat) (tg : Option Nat) (e : Ow.E) (W : WX) : TS := fun D σ H => tE G cl ini W e σ H fun v H' => match tg with | none => D.nx σ H' | some j => D.nx (σ.set j (some v)) H'
/-- the reading of an except suite -/
def tU (G : Gd) (pin : List Nat) (i : Nat) (h : XV → Env → Option (Rs Fl)) (a : Addr) (cls : Value) (d : Option Addr) : TS := fun D σ H => ∃ F δ x, Ex G.F0 F ∧ Ex F H ∧ IsE G F H σ δ [] ∧ σ[i]? = some (some (.ref a)) ∧ δ[i]? = some .dead ∧ H a = none ∧ IsX G F H cls d x ∧
  match h x δ with
  | some (.ok fl δ') => EndF G pin F H [] σ fl δ' D
  | _ => False
variable {cn n : Str} {i : Nat} {tg : Option Nat} {e : Ow.E} {c : Nat → Option Bool} {h : List Nat → XV → Env → Option (Rs Fl)} {body suite : List Stmt} {b0 : Stmt} {CB : Addr} {np hpos pos : Pos}
theorem ss_try (hs : X.stack = X.env :: X.outer) (hf : X.env.frame = some X.env.locals) (nd : X.N.Nodup) (hi : X.N[i]? = some n) (hln : X.env.kindOf n = some .local) (hc : Names X cn (.ref CB)) (tk : Takes X (WE E))
    (hcl : ∀ F H cls d x b, IsX G F H cls d x → c x.c = some b → PySem.W.exmOne X.K cls (.ref CB) = some b) (htg : ∀ j, tg = some j → j ≠ i)
    (hb : ∀ (W : WX) (pn : List (Addr × Obj)) (xe : Value → Shared → Prop), Takes (X.tr pn xe) W → PSs (X.tr pn xe) body (tB G cl ini tg e W))
    (hsu : ∀ (a : Addr) (oe : Obj) (cls : Value) (d : Option Addr) (pn : List (Addr × Obj)), Zc cls d oe → (∃ vs, oe.data = .fields vs) → PSs (X.suite a ((a, oe) :: pn)) (b0 :: suite) (tU G pin i (h pin) a cls d)) :
    PS X (.Try body [.ExceptHandler (some (.Name cn np)) (some n) (b0 :: suite) hpos] [] [] pos) (tS G pin cl ini E (exec cl ini pin (.tr tg e i c h))) := by
  refine ⟨fun pins s σ H D I q => (ps_try_as (tb := tB G cl ini tg e) (ts := tU G pin i (h pin)) (Wout := WE E) hs hf nd hi hln hc tk (fun W pn xe t _ => hb W pn xe t) hsu).run pins s σ H D I ?_⟩
  obtain ⟨F, A, δ, st, o⟩ := q
  simp only [exec] at o
  cases e1 : ev cl ini e δ with
  | none => rw [e1] at o; exact o.elim
  | some r =>
    rw [e1] at o
    cases r with
    | ok v δ1 =>
      refine ⟨F, A, δ, st, ?_⟩
      rw [e1]
      intro u F1 H1 A1 B1 n1 s1 u1 nd1
      cases tg with
      | none =>
        have o : Out G (WE E) σ F H A (ret Fl.nx δ1) (fun fl δ' => EndF G pin F H A σ fl δ' D) := o
        exact (out_ret o).nx σ F1 H1 A1 n1.left s1 (nodup_app nd1) .refl
      | some j =>
        have o : Out G (WE E) σ F H A (bnd (setS pin j v) (fun _ => ret Fl.nx) δ1) (fun fl δ' => EndF G pin F H A σ fl δ' D) := o
        have o1 := out_bnd o
        unfold setS at o1
        split at o1
        · exact o1.elim
        · rename_i hj
          simp only [Bool.or_eq_true, Bool.not_eq_true', decide_eq_false_iff_not, not_or, Bool.not_eq_true, Decidable.not_not] at hj
          have m : EndN G pin F H A σ (δ1.set j v) D.nx := (out_ret (show Out G (WE E) σ F H A (ret Fl.nx (δ1.set j v)) (fun fl δ' => EndF G pin F H A σ fl δ' D) from o1)).nx
          obtain ⟨sv, C1, C2, C3, w1, w2, w3, back⟩ := s1.split (i := j) (o := δ1[j]'hj.2) (by rw [List.getElem?_eq_getElem])
          have z := back F1 H1 (some u) v B1 (.refl _) (fun a ma => ⟨rfl, (s1.own a (by rw [w2]; rcases List.mem_append.mp ma with ma | ma <;> simp [ma])).1⟩) (.val u1)
          refine m (σ.set j (some u)) F1 H1 _ (n1.sub fun a ma => ?_) z ?_ (.set fun w => by simp [w] at hj)
          · rw [w2]
            simp only [List.mem_append] at ma ⊢
            rcases ma with ma | ma | ma <;> simp [ma]
          · rw [w2] at nd1
            rw [List.nodup_append] at nd1
            obtain ⟨q1, q2, q3⟩ := nd1
            have q4 := List.nodup_append.mp q1
            have q5 := List.nodup_append.mp q4.2.1
            refine List.nodup_append.mpr ⟨q4.1, List.nodup_append.mpr ⟨q2, q5.2.1, fun a ma b mb z => q3 b (by simp [mb]) a ma z.symm⟩, fun a ma b mb z => ?_⟩
            rcases List.mem_append.mp mb with mb | mb
            · exact q3 a (by simp [ma]) b mb z
            · exact q4.2.2 a ma b (by simp [mb]) z
    | ex x =>
      refine ⟨F, A, δ, st, ?_⟩
      rw [e1]
      intro cls d F1 H1 n1 ix
      have o : Out G (WE E) σ F H A (match c x.c with | none => none | some false => some (.ex x) | some true => suiteM pin i (h pin x) δ) (fun fl δ' => EndF G pin F H A σ fl δ' D) := o
      cases ec : c x.c with
      | none => rw [ec] at o; exact o.elim
      | some b =>
        rw [ec] at o
        refine ⟨b, hcl F1 H1 cls d x b ix ec, fun hb a na => ?_, fun hb => ?_⟩
        · subst hb
          have o : Out G (WE E) σ F H A (suiteM pin i (h pin x) δ) (fun fl δ' => EndF G pin F H A σ fl δ' D) := o
          unfold suiteM at o
          split at o
          · exact o.elim
          · rename_i hp
            have hp : i ∉ pin := by simpa using hp
            have len := st.env.len
            have hlt : i < σ.length := by rw [I.len]; exact (List.getElem?_eq_some_iff.mp hi).1
            have e0 : IsE G F1 H1 (σ.set i (some (.ref a))) ((δ.map frOnly).set i .dead) [] := (IsE.frO n1.ff st.env).setDead rfl
            refine ⟨F1, (δ.map frOnly).set i .dead, x, st.b0.trans n1.ff, n1.fh, e0, List.getElem?_set_self hlt, List.getElem?_set_self (by rw [List.length_map, ← len]; exact hlt), na, ix, ?_⟩
            cases eh : h pin x ((δ.map frOnly).set i .dead) with
            | none => rw [eh] at o; exact o.elim
            | some r =>
              rw [eh] at o
              cases r with
              | ex _ => exact o.elim
              | ok fl δ2 =>
                dsimp only at o ⊢
                split at o
                case h_2 => exact o.elim
                rename_i hd
                have o : EndF G pin F H A σ fl δ2 D := o
                have nx : ∀ {R : L2.St → Hp → Prop}, EndN G pin F H A σ δ2 R → EndN G pin F1 H1 [] (σ.set i (some (.ref a))) δ2 fun σ' H' => R (σ'.set i none) H' := fun {R} m σ' F' H' A' n' e' nd' k' =>
                  m (σ'.set i none) F' H' A' (n1.trans n') (e'.setN hd) nd' ((Keep.set hp).trans (k'.trans (Keep.set hp)))
                cases fl with
                | nx => exact nx o
                | bk => exact nx o
                | ct => exact nx o
                | rt o2 => exact fun v σ' F' H' A' B' n' e' i' nd' k' => (show EndR G pin F H A σ o2 δ2 D.rt from o) v (σ'.set i none) F' H' A' B' (n1.trans n') (e'.setN hd) i' nd' ((Keep.set hp).trans (k'.trans (Keep.set hp)))
        · subst hb
          exact (show EndX G (WE E) σ F H A x from o) cls d F1 H1 n1 ix
end
end Ow
end OyC_
section OyD_
set_option Elab.async false
set_option linter.all false
set_option maxRecDepth 100000
set_option maxHeartbeats 4000000
/-! Lambdas: made, and what is promised of them. -/
namespace Ow
open PySem PySem.Spec PyProof.Rows L2
variable [TQ]
/-- a lambda of the text: its qualified name, its words, its parameters and slots, its term -/
structure LamD where
  q : Str
  params : Arguments
  body : Expr
  scope : Scope
  ps : List Str
  N : List Str
  e : Ow.E
/-- the object at a is the lambda L with these cells, its code object at c -/
def LamO (a : Addr) (L : LamD) (cls : List (Str × Addr)) (c : Addr) : HO := .ext fun h => ∃ (od : Option Addr) (sl : Array (Option Value)) (pm ctv : Value), h.get? a = some (⟨.type "function", od, .func (PySem.W.kla_fn "<lambda>" L.q L.params L.body L.scope cls pm (.ref c) ctv), sl⟩ : Obj)
theorem lamO_at {P : Program} {w : World} {H : Hp} {h : Heap} {a c : Addr} {L : LamD} {cls : List (Str × Addr)} (hok : HOk P w H h) (e : H a = some (LamO a L cls c)) :
    ∃ (od : Option Addr) (sl : Array (Option Value)) (pm ctv : Value), h.get? a = some (⟨.type "function", od, .func (PySem.W.kla_fn "<lambda>" L.q L.params L.body L.scope cls pm (.ref c) ctv), sl⟩ : Obj) := (hok a _ e).1
/-- lambdas without cells: what the j-th one's object is -/
def lfOf (ls : List LamD) (j : Nat) (a : Addr) (F : Hp) : Prop := ∃ L c, ls[j]? = some L ∧ F a = some (LamO a L [] c) ∧ F c = some (LamX.CodeO c L.q)
theorem ext_ne {φ : Heap → Prop} : (∀ ws : List (Key × V), HO.ext φ ≠ .dK ws) ∧ ∀ ps : Array Value, HO.ext φ ≠ .tbl ps := ⟨(by intro _ z; cases z), (by intro _ z; cases z)⟩
theorem lfOf_mono (ls : List LamD) (j : Nat) (a : Addr) (F F' : Hp) (e : Ex F F') : lfOf ls j a F → lfOf ls j a F' := fun ⟨L, c, h1, h2, h3⟩ => ⟨L, c, h1, e.at h2 ext_ne.1 ext_ne.2, e.at h3 ext_ne.1 ext_ne.2⟩
section
variable {X : Cx} {pins : List (Addr × Obj)} {σ : L2.St} {H : Hp} {s : Shared} {L : LamD} {c P : Addr} {pos : Pos} {E : Value → Shared → Prop} {Q : Value → Shared → Prop}
theorem lam_known {c' : Addr} {pm ctv : Value} {cls : List (Str × Addr)} {t' : Nat} (I : Inv X pins σ H s) : Inv X pins σ (upd H s.heap.objs.size (LamO s.heap.objs.size L cls c')) { s with heap := s.heap.push (PySem.W.kla_obj "<lambda>" L.q L.params L.body L.scope cls pm c' ctv), toks := t' } := by
  refine I.laid (a := s.heap.objs.size) (fun b u e => Heap.get?_push_of_some _ e) (Nat.le_refl _) ?_
  have e : (s.heap.push (PySem.W.kla_obj "<lambda>" L.q L.params L.body L.scope cls pm c' ctv)).get? s.heap.objs.size = some (PySem.W.kla_obj "<lambda>" L.q L.params L.body L.scope cls pm c' ctv) := Heap.get?_push_size _ rfl
  exact ⟨⟨_, _, pm, ctv, e⟩, ⟨_, e⟩, fun h1 h2 ⟨od, sl, p, t, z⟩ st => ⟨od, sl, p, t, st _ z⟩⟩
/-- a lambda is made -/
theorem lam_new (I : Inv X pins σ H s) (TB : LamX.TabB X.base X.mg c P) (hcode : X.env.code = .ref c) (tS : LamX.TabS H P L.q) (hq : X.env.qual ++ "<lambda>" = L.q) (hdef : defaultsOf L.params X.env = ([], []))
    (hfree : ∀ y ∈ L.scope.names, y.2 = .free → ∃ c, X.env.cells.lookup y.1 = some c)
    (k : ∀ (f c' : Addr) (H1 : Hp) (s' : Shared), Inv X pins σ H1 s' → H1 f = some (LamO f L (cloFrom X.env.cells L.scope.names []) c') → H1 c' = some (LamX.CodeO c' L.q) → H f = none → (H c' = none ∨ H c' = some (LamX.CodeO c' L.q)) → LamX.TabS H1 P L.q → (∀ b, b ≠ f → b ≠ c' → b ≠ P → H1 b = H b) → f ≠ c' → Q (.ref f) s') :
    wpAny (model X.prog X.w) X.A (eval (.Lambda L.params L.body L.scope pos) X.env) Q E s := by
  obtain ⟨ps, hP, ht, ha⟩ := id tS
  refine PySem.W.kla_eval hdef ?_
  rw [hq]
  have bP := TB.bm.keeps I.bk
  have gP : s.heap.get? P = some { cls := .none, data := .fields ps } := I.hok P _ hP
  have nf : H s.heap.objs.size = none := I.hok.fresh (Nat.le_refl _)
  cases hc : codeAmong pos ps.toList with
  | none =>
    refine PySem.W.kla_makeFunction (mg := X.mg) (c := c) (P := P) (ps := ps) (closure_ok hfree) I.ok.glob (I.mod.glob.keeps I.bk) hcode (TB.code.keeps I.bk) gP ht hc TB.gP bP fun c' ctv h' tk hx hge hlt hrec htb => ?_
    obtain ⟨c2, oc, vs, t, e2, hoc, hd, hv⟩ := hrec
    cases e2
    have nC : H c' = none := I.hok.fresh hge
    have hsz := Nat.le_trans hge (Nat.le_of_lt hlt)
    have I1 := LamX.inv_table (t' := tk) (more := #[rawInt pos.line, rawInt pos.col, .ref c']) (h' := h') I hP (fun b o hb e => hx b o hb e) htb hge ⟨oc, vs, t, hoc, hd, hv⟩
    have I2 := lam_known (L := L) (cls := cloFrom X.env.cells L.scope.names []) (c' := c') (pm := (X.mg "__name__").getD .none) (ctv := ctv) (t' := tk) I1
    have nf : H h'.objs.size = none := I.hok.fresh hsz
    have n1 : c' ≠ h'.objs.size := Nat.ne_of_lt hlt
    have n2 : P ≠ c' := ne_of_none hP nC
    have n3 : P ≠ h'.objs.size := ne_of_none hP nf
    have at_c : upd (upd (upd H P (.tbl (ps ++ #[rawInt pos.line, rawInt pos.col, .ref c']))) c' (LamX.CodeO c' L.q)) h'.objs.size (LamO h'.objs.size L (cloFrom X.env.cells L.scope.names []) c') c' = some (LamX.CodeO c' L.q) := by rw [upd_ne n1, upd_same]
    refine k _ c' _ _ I2 upd_same at_c nf (.inl nC) ⟨_, by rw [upd_ne n3, upd_ne n2, upd_same], ?_, fun p' cv hcv => ?_⟩ (fun b h1 h2 h3 => by rw [upd_ne h1, upd_ne h2, upd_ne h3]) n1.symm
    · have eL : (ps ++ #[rawInt pos.line, rawInt pos.col, .ref c']).toList = ps.toList ++ [rawInt pos.line, rawInt pos.col, .ref c'] := by simp
      rw [eL]
      exact PySem.TriplesOk_snoc _ _ _ _ ht
    · have eL : (ps ++ #[rawInt pos.line, rawInt pos.col, .ref c']).toList = ps.toList ++ [rawInt pos.line, rawInt pos.col, .ref c'] := by simp
      rw [eL] at hcv
      rcases LamX.among_app _ ht hcv with z | z
      · obtain ⟨c0, e1, e2⟩ := ha p' cv z
        refine ⟨c0, e1, ?_⟩
        rw [upd_ne (ne_of_none e2 nf), upd_ne (ne_of_none e2 nC), upd_ne fun y => ?_]
        · exact e2
        · rw [y, hP] at e2
          unfold LamX.CodeO at e2
          cases e2
      · exact ⟨c', z, at_c⟩
  | some cv =>
    obtain ⟨c', rfl, hco⟩ := ha pos cv hc
    refine PySem.W.kla_makeFunctionHit (mg := X.mg) (c := c) (P := P) (ps := ps) (closure_ok hfree) I.ok.glob (I.mod.glob.keeps I.bk) hcode (TB.code.keeps I.bk) gP ht hc bP fun ctv h' tk hx hsz => ?_
    have I1 : Inv X pins σ H { s with heap := h', toks := tk } := I.kept hx
    have I2 := lam_known (L := L) (cls := cloFrom X.env.cells L.scope.names []) (c' := c') (pm := (X.mg "__name__").getD .none) (ctv := ctv) (t' := tk) I1
    have nf : H h'.objs.size = none := I.hok.fresh hsz
    have n1 : c' ≠ h'.objs.size := ne_of_none hco nf
    refine k _ c' _ _ I2 upd_same (by rw [upd_ne n1]; exact hco) nf (.inr hco) ⟨ps, by rw [upd_ne (ne_of_none hP nf)]; exact hP, ht, fun p' cv hcv => ?_⟩ (fun b h1 h2 h3 => upd_ne h1) n1.symm
    obtain ⟨c0, e1, e2⟩ := ha p' cv hcv
    exact ⟨c0, e1, by rw [upd_ne (ne_of_none e2 nf)]; exact e2⟩
end
section
variable {G : Gd} {cl : Cl} {ini : Nat → Option Nat} {W : WX} {X : Cx} {L : LamD} {pos : Pos} {j : Nat}
/-- what the making of a lambda asks of the def that makes it -/
def MkL (G : Gd) (mg : Str → Option Value) (base : Heap) (cd : Value) (q : Str) : Prop := ∃ c P, cd = .ref c ∧ LamX.TabB base mg c P ∧ TQ.tq P = q ∧ G.F0 P = some (.tbl #[])
theorem se_lam (ml : MkL G X.mg X.base X.env.code L.q) (hlf : ∀ a F c, F a = some (LamO a L [] c) → F c = some (LamX.CodeO c L.q) → G.lf j a F) (hq : X.env.qual ++ "<lambda>" = L.q) (hdef : defaultsOf L.params X.env = ([], []))
    (hfr : ∀ y ∈ L.scope.names, y.2 ≠ .free) (hcl : cloFrom X.env.cells L.scope.names [] = []) : PE X (.Lambda L.params L.body L.scope pos) (tE G cl ini W (.lam j)) := by
  refine ⟨fun pins s σ H Q I q => ?_⟩
  obtain ⟨F, A, δ, st, o⟩ := q
  obtain ⟨c, P, hc, TB, hP, h0⟩ := ml
  have tS : LamX.TabS H P L.q := by
    have z := st.ex.tab (st.b0.tab (a := P) (LamX.TabS.nil h0))
    rw [hP] at z
    exact z
  refine lam_new I TB hc tS hq hdef (fun y hy e => absurd e (hfr y hy)) fun f c' H1 s' I1 h1 h2 h3 h4 h5 h6 nfc => ?_
  rw [hcl] at h1
  have fF : F f = none := st.ex.none h3
  obtain ⟨psF, qF, _, _⟩ := id tS
  have nPf : P ≠ f := ne_of_none qF h3
  have nPc : P ≠ c' := fun z => by
    rcases h4 with h4 | h4
    · rw [← z, qF] at h4; cases h4
    · rw [← z, qF] at h4; unfold LamX.CodeO at h4; cases h4
  have hcd : ∀ o, F c' = some o → o = LamX.CodeO c' L.q := fun o e => by
    rcases h4 with h4 | h4
    · rw [st.ex.none h4] at e; cases e
    · rcases st.ex c' o e with z | ⟨_, _, _, z⟩ | ⟨_, _, _, z, _⟩
      · rw [h4] at z; exact (Option.some.inj z).symm
      · rw [h4] at z; unfold LamX.CodeO at z; cases z
      · rw [h4] at z; unfold LamX.CodeO at z; cases z
  have hH : ∀ b o, H b = some o → (∀ ps, o ≠ .tbl ps) → H1 b = some o := fun b o e n => by
    have b1 : b ≠ f := ne_of_none e h3
    have b3 : b ≠ P := fun z => by rw [z, qF] at e; exact n _ (Option.some.inj e).symm
    by_cases b2 : b = c'
    · rw [b2] at e ⊢
      rcases h4 with h4 | h4
      · rw [h4] at e; cases e
      · rw [h2, ← h4, e]
    · rw [h6 b b1 b2 b3]; exact e
  have fF1 : upd (upd F c' (LamX.CodeO c' L.q)) f (LamO f L [] c') f = some (LamO f L [] c') := upd_same
  have cF1 : upd (upd F c' (LamX.CodeO c' L.q)) f (LamO f L [] c') c' = some (LamX.CodeO c' L.q) := by rw [upd_ne nfc.symm, upd_same]
  have ff : Ex F (upd (upd F c' (LamX.CodeO c' L.q)) f (LamO f L [] c')) := fun b o e => by
    refine .inl ?_
    have b1 : b ≠ f := ne_of_none e fF
    by_cases b2 : b = c'
    · rw [b2] at e ⊢; rw [cF1, hcd o e]
    · rw [upd_ne b1, upd_ne b2]; exact e
  have fh : Ex (upd (upd F c' (LamX.CodeO c' L.q)) f (LamO f L [] c')) H1 := fun b o e => by
    by_cases b1 : b = f
    · rw [b1] at e ⊢
      rw [fF1] at e; cases e
      exact .inl h1
    · by_cases b2 : b = c'
      · rw [b2] at e ⊢
        rw [cF1] at e; cases e
        exact .inl h2
      · rw [upd_ne b1, upd_ne b2] at e
        by_cases b3 : b = P
        · subst b3
          rcases st.ex b o e with z | ⟨_, _, _, z⟩ | ⟨ps, _, z, _, _⟩
          · rw [qF] at z; cases z
            obtain ⟨ps', g1, g2⟩ := id h5
            exact .inr (.inr ⟨_, ps', rfl, g1, by rw [hP]; exact h5⟩)
          · rw [qF] at z; cases z
          · obtain ⟨ps', g1, g2⟩ := id h5
            exact .inr (.inr ⟨_, ps', z, g1, by rw [hP]; exact h5⟩)
        · rw [h6 b b1 b2 b3]
          refine (st.ex b o e).imp id fun z => z.imp id fun ⟨ps, ps', w, q', t⟩ => ⟨ps, ps', w, q', tab_swap t (h6 b b1 b2 b3) fun c φ hc => hH c _ hc fun ps z => by cases z⟩
  have kp : ∀ a u, H a = some u → F a = none → (∀ ps, u ≠ spc ps) → H1 a = some u ∧ upd (upd F c' (LamX.CodeO c' L.q)) f (LamO f L [] c') a = none := fun a u q n t => by
    have q1 := hH a u q fun ps z => t (.tbl ps) z
    refine ⟨q1, ?_⟩
    have b1 : a ≠ f := ne_of_none q h3
    have b2 : a ≠ c' := fun z => by
      rw [z, h2] at q1
      exact t (.ext _) (Option.some.inj q1).symm
    rw [upd_ne b1, upd_ne b2]
    exact n
  have nx : Nx F H A (upd (upd F c' (LamX.CodeO c' L.q)) f (LamO f L [] c')) H1 A := ⟨ff, fh, fun a u q n m t => ⟨(kp a u q n t).1, (kp a u q n t).2, m⟩⟩
  have env := st.env.frame ff (H' := H1) fun a m => by
    obtain ⟨n, u, q⟩ := st.env.own a m
    obtain ⟨w1, w2⟩ := kp a u q n fun ps z => st.env.notbl a m ps (by rw [q, z])
    exact ⟨w1.trans q.symm, w2⟩
  refine ⟨.ref f, H1, I1, rfl, ?_⟩
  have o : EndO G σ F H A (.fr (.lam j)) δ Q := o
  refine o (.ref f) _ H1 A [] (by rw [List.append_nil]; exact nx) env (.fr (.lam (hlf f _ c' fF1 cF1))) (by rw [List.append_nil]; exact st.nd)
end
section
variable {G : Gd} {cl : Cl} {ini : Nat → Option Nat} {E : XK} {pin : List Nat}
theorem rd_rt {e : Ow.E} {D : Ends} {σ : L2.St} {H : Hp} (q : tS G pin cl ini E (execs cl ini pin (.cons (.rt false e) .nil)) D σ H) : tE G cl ini (WE E) e σ H D.rt := by
  obtain ⟨F, A, δ, st, o⟩ := q
  simp only [execs, exec] at o
  have o : Out G (WE E) σ F H A (bnd (bnd (ev cl ini e) fun o => ret (Fl.rt o)) (fun fl => match fl with | .nx => ret Fl.nx | fl => ret fl) δ) (fun fl δ' => EndF G pin F H A σ fl δ' D) := o
  refine ⟨F, A, δ, st, (out_bnd (out_bnd o)).imp fun o1 δ1 m v F' H' A' B n s i nd => ?_⟩
  have m : EndF G pin F H A σ (.rt o1) δ1 D := m
  exact (show EndR G pin F H A σ o1 δ1 D.rt from m) v σ F' H' A' B n s i nd .refl
variable {P : Program} {w : World} {K : PySem.W.Frag} {mg : Str → Option Value} {base : Heap} {k j n : Nat} {p : Pg} {L : LamD} {d : Df}
abbrev lamF (L : LamD) (c : Addr) : NdefX.NF := ⟨"<lambda>", L.q, L.params, [], L.scope, [], c⟩
/-- a lambda by its body -/
theorem lam_ok (ls : List LamD) (hlf : ∀ a F, G.lf j a F → lfOf ls j a F) (hj : ls[j]? = some L) (hf : p.df (1000 + j) = some d) (hd : d.b = .cons (.rt false L.e) .nil) (hn : L.N.length = d.n) (hp : L.ps.length = d.np) (S : NdefX.NScope L.N L.ps [] L.scope)
    (hbind : ∀ (pm cv ctv : Value) (us : List Value), us.length = L.ps.length → bindArgs (PySem.W.kla_fn "<lambda>" L.q L.params L.body L.scope [] pm cv ctv) ⟨us, []⟩ = pure (L.ps.zip us))
    (hbody : ∀ (A : Around) (outer : List PySem.Env) (s : Shared) (H : Hp) (E : XK) (f c : Addr), Room k (A.deeper (NdefX.envF (lamF L c) f s.heap.objs.size)) → PE (NdefX.ncx (L2.CX P w) P w K mg base L.N (lamF L c) f A outer s H E) L.body (tE G (run p n) p.ini (WE E) L.e)) :
    LamOk G (run p (n + 1)) P w K mg base (k + 1) j := by
  refine ⟨fun A outer s H F a us vs Q E hr e0 x hl rv hsp => ?_, fun a F H h x hl hok => ?_⟩
  · obtain ⟨L', c, h0, h1, h2⟩ := hlf a F hl
    rw [hj] at h0
    cases h0
    have g1 := x.at h1 ext_ne.1 ext_ne.2
    have g2 := x.at h2 ext_ne.1 ext_ne.2
    obtain ⟨od, sl, pm, ctv, ho⟩ := lamO_at e0.hok g1
    have lim : s.heap.NoLimit := e0.mod.nolimit.keeps fun b o e => (e0.bs b o e).1
    have er : run p (n + 1) (1000 + j) = runDf (run p n) p.ini d := by
      funext os
      show (match p.df (1000 + j) with | some d => runDf (run p n) p.ini d os | none => p.own n (1000 + j) os) = _
      rw [hf]
    obtain ⟨F1, A1, os, b0, x1, ho1, nd, q⟩ := hsp
    rw [er] at q
    have hlen : vs.length = L.ps.length := by
      have q := q
      unfold runDf at q
      by_cases hl : os.length = d.np
      case neg => rw [if_neg hl] at q; exact q.elim
      rw [hp, ← hl]
      exact ho1.len
    refine PySem.W.kla_callFunE hr.depth ho rfl S.co S.gen rfl (NdefX.codeO_at e0.hok g2) ?_
    rw [hbind pm (.ref c) ctv us (by rw [← rv.length]; exact hlen)]
    refine wpAny_pure (wpAny_newFunctionEnv S.nocell (fun ⟨n, _⟩ hy => S.par n (List.of_mem_zip hy).1) (fun h₁ hns hsb => ⟨lim.fresh _ hsb, ?_⟩) S.kind)
    show codeAny _ _ (.expr L.body (NdefX.envF (lamF L c) a s.heap.objs.size)) _ _
    have kp : ∀ b o, s.heap.get? b = some o → h₁.get? b = some o := fun b o e => hsb.extBut b o (Nat.ne_of_lt (Heap.lt_size e)) (Heap.get?_push_of_some _ e)
    have C : NdefX.CellsAt (lamF L c).cl [] [] s.heap H := ⟨rfl, fun y c e => (nomatch e), fun x y c e => (nomatch e), fun i y e => (nomatch e)⟩
    have I : Inv (NdefX.ncx (L2.CX P w) P w K mg base L.N (lamF L c) a A outer s H E) [] (NdefX.startF L.N vs []) H { s with heap := h₁, toks := s.toks + (L.ps.zip us).length } := NdefX.inv_startN S hr.hd e0 hlen rv C hns kp
    have hq := body_rd (N := L.N) (cl := run p n) (p := p) hn b0 x1 ho1 nd q
    rw [hd] at hq
    refine PySem.W.kla_codeExpr (wpAny_mono ((hbody A outer s H E a c (hr.deeper _)).run [] _ _ H Q I (rd_rt hq)) (fun v s' hq => ?_) fun e s' hq => hq)
    obtain ⟨w', H', J', rv, q⟩ := hq
    exact ⟨w', H', J'.os, J'.bare, J'.base, J'.hok, rv, q⟩
  · obtain ⟨L', c, h0, h1, h2⟩ := hlf a F hl
    obtain ⟨od, sl, pm, ctv, ho⟩ := lamO_at hok (x.at h1 ext_ne.1 ext_ne.2)
    exact ⟨_, od, _, sl, ho⟩
end
end Ow
end OyD_
section OyE_
set_option Elab.async false
set_option linter.all false
set_option maxRecDepth 100000
set_option maxHeartbeats 4000000
/-! A def that looks at the exception in hand: called in an except suite, raises nothing. -/
namespace Ow
open PySem PySem.Spec PyProof.Rows L2
variable [TQ]
abbrev E0' : XK := fun _ _ _ => False
structure FnS (P : Program) (w : World) (K : PySem.W.Frag) (mg : Str → Option Value) (base : Heap) (k : Nat) (f : Addr) (fd : FuncData) (ps : List Str) (sp : Addr × Obj → List V → Hp → VK → Prop) : Prop where
  len : ∀ p vs H Q, sp p vs H Q → vs.length = ps.length
  run : ∀ (A : Around) (outer : List PySem.Env) (s : Shared) (H : Hp) (args : Args) (us : List Value) (vs : List V) (Q : VK) (p : Addr × Obj), L2H.RoomH k A → L2H.PinOk outer H s p → Env0 P w K mg base A outer s H → BindsTo s fd args (ps.zip us) → Vals vs us → sp p vs H Q →
    codeAny (model P w) A (.call (.ref f) args) (CR (L2.CX P w) outer P w H s Q E0') s
theorem fnS_of {P : Program} {w : World} {K : PySem.W.Frag} {mg : Str → Option Value} {base : Heap} {k : Nat} {f : Addr} {name qual : Str} {params : Arguments} {body : List Stmt} {scope : Scope} {dV kV doc pm cdv ct oc : Value} {an od : Option Addr}
    {osl : Array (Option Value)} {N ps : List Str} {sp : Addr × Obj → List V → Hp → VK → Prop} (lk : K.lookup f = some ⟨oc, od, .func (PySem.W.fnOf name qual params body scope dV kV doc pm an cdv ct), osl⟩) (hcd : PySem.W.codeIn K cdv qual = true) (S : FnScope N ps scope)
    (len : ∀ p vs H Q, sp p vs H Q → vs.length = ps.length)
    (hbody : ∀ (A : Around) (outer : List PySem.Env) (s : Shared) (H : Hp) (vs : List V) (Q : VK) (p : Addr × Obj), L2H.RoomH k (A.deeper (envOfC qual scope s.heap.objs.size f cdv)) → sp p vs H Q →
      ∃ t, PSs (L2H.cxH (L2.CX P w) P w K mg base N qual scope f cdv A outer s H E0' p) body t ∧ t { nx := fun _ H' => Q .non H', rt := Q } (L2.start N vs) H) :
    FnS P w K mg base (k + 1) f (PySem.W.fnOf name qual params body scope dV kV doc pm an cdv ct) ps sp := by
  refine ⟨len, fun A outer s H args us vs Q p hr hpin e0 hb r hsp => ?_⟩
  have hl := len _ _ _ _ hsp
  have KX : K.In s.heap := e0.mod.kin.keeps fun b o e => (e0.bs b o e).1
  have lim : s.heap.NoLimit := e0.mod.nolimit.keeps fun b o e => (e0.bs b o e).1
  refine codeAny_call_function hr.depth (KX _ _ lk) rfl S.co S.gen rfl (PySem.W.codeRec_of KX hcd) (hb _ _ _ _ (wpAny_newFunctionEnv_cells S.kind (fun ⟨n, v⟩ hy => ?_) fun env he s1 x => ?_))
  · rcases S.par n (List.of_mem_zip hy).1 with q | q
    · exact .inl q
    · exact .inr ⟨q, PySem.W.cellsFrom_some _ _ _ (.inl q)⟩
  · subst he
    refine ⟨lim.keeps x.toInCall.keep, codeAny_func ?_⟩
    obtain ⟨t, ht, hq⟩ := hbody A outer s H vs Q p (hr.deeper _) hsp
    refine wpAny_mono (ht.run [] s1 (L2.start N vs) H _ (L2H.inv_startH S hpin e0 hl r x) hq) (fun fl s' hs => ?_) fun e s' hs => hs
    cases fl with
    | ret u =>
      obtain ⟨v, σ', H', J, rv, q⟩ := hs
      exact ⟨v, H', J.os, J.bare, J.base, J.hok, rv, q⟩
    | next =>
      obtain ⟨σ', H', J, q⟩ := hs
      exact ⟨V.non, H', J.os, J.bare, J.base, J.hok, rfl, q⟩
    | brk =>
      obtain ⟨_, _, _, q⟩ := hs
      exact False.elim q
    | cont =>
      obtain ⟨_, _, _, q⟩ := hs
      exact False.elim q
section
variable {X : Cx} {k : Nat} {f : Addr} {fd : FuncData} {ps : List Str} {sp : Addr × Obj → List V → Hp → VK → Prop} {x : Str} {q pos : Pos} {e : Expr} {es : List Expr} {t : TA} {p : Addr × Obj}
/-- its call -/
theorem pe_callS' (F : FnS X.prog X.w X.K X.mg X.base k f fd ps sp) (hr : L2H.RoomH k X.A) (hp : p ∈ X.pn) (hg : Gl X x) (hm : X.mg x = some (.ref f)) (hk : PySem.W.keepIn X.K (.ref f) = true) (hb : Binds X.K fd ps [])
    (ha : PA X (e :: es) t) (hdb : (x == ("__debug__" : Str)) = false := by decide) (he : starEach (e :: es) X.env = (false, eval e X.env) :: starEach es X.env := by rfl) (hpl : (backTo pos (starEach es X.env)).any (·.1) = false := by rfl) :
    PE X (.Call (.Name x q) (e :: es) [] pos) (fun σ H Q => t σ H fun vs H1 => sp p vs H1 Q) := by
  refine ⟨fun pins s σ H Q I h => ?_⟩
  refine wpAny_Call_Name_kw (ld_glob I hg hm (PySem.W.callWith_K (h₀ := X.base) I.ok.mod.kin hk (thn (ha.run pos pins s σ H _ I h) fun us s1 ⟨vs, H1, I1, r, z⟩ => ⟨I1.kIn, ?_⟩) he hpl) hdb)
  show wpAny _ _ (call (.ref f) us) _ _ _
  have hl : us.length = ps.length := by rw [← r.length]; exact F.len _ _ _ _ z
  have b := hb s1 us I1.kIn (by rw [List.append_nil]; exact hl)
  rw [List.append_nil] at b
  have P1 := I1.pin p (List.mem_append_left _ hp)
  refine wpAny_call (codeAny_mono (F.run X.A X.stack s1 H1 ⟨us, []⟩ us vs Q p hr ⟨P1.1, P1.2.1, fun hm => (List.mem_cons.mp (I1.stkSub p.1 hm)).elim P1.2.2.1 P1.2.2.2.1, P1.2.2.2.2⟩ I1.env0 b r z) fun r s' hq => ?_)
  cases r with
  | error e =>
    obtain ⟨_, _, _, _, _, _, _, _, _, _, _, _, z⟩ := hq
    exact z.elim
  | ok fl =>
    cases fl with
    | ret u => exact I1.after hq
    | next => exact False.elim hq
    | brk => exact False.elim hq
    | cont => exact False.elim hq
end
section
variable {X : Cx} {a D : Addr} {oe : Obj} {y : Expr} {n : Str} {i : Nat} {v : V} {cv : Value} {b : Bool} {p p2 pos : Pos}
/-- isinstance(e, c), e a pinned exception -/
theorem call_isP (C : ExcC X.K D) (hp : (a, oe) ∈ X.pn) (hz : Zc (.ref D) none oe) (hf : ∃ vs, oe.data = .fields vs) : CallR X (.builtin "isinstance") (rIsE X.K D a) := by
  intro pins s σ H xs us Q I r h
  obtain ⟨c, cv, b, rfl, hcv, e, q⟩ := h
  cases r with
  | cons rx rr =>
    cases rr with
    | cons rt rr =>
      cases rr
      cases rx
      obtain rfl := hcv _ rt
      have g := (I.pin (a, oe) (List.mem_append_left _ hp)).1
      obtain ⟨vs, hv⟩ := hf
      have J : PySem.W.InstAt s.heap a oe D none := by
        obtain ⟨oc, od, oda, osl⟩ := oe
        obtain ⟨h1, h2⟩ := hz
        dsimp only at h1 h2 hv
        subst h1 h2 hv
        exact ⟨g, rfl, rfl, trivial⟩
      exact PySem.W.kia_one (PySem.W.handS_kitx_exc C.hg C.hk C.hs C.hd C.ha C.hn C.ht C.hm) I.kIn J e (fun z => nomatch z) fun tk => ⟨.bl b, H, I.kept (t' := tk) fun _ _ z => z, rfl, q⟩
/-- what is known for it -/
structure Pin1 (X : Cx) (a D : Addr) (i : Nat) (n : Str) : Prop where
  c : CallR X (.builtin "isinstance") (rIsE X.K D a)
  hN : X.N[i]? = some n
  hv : Vis X.env.scope n
  hg : Gl X "isinstance"
  hm : X.mg "isinstance" = none
  hd : (n == ("__debug__" : Str)) = false
  hcd : (n == ("__classdict__" : Str)) = false
theorem pe_isP (Z : Pin1 X a D i n) (hc : PE X y (tC v)) (hv : ∀ u, RelV v u → u = cv) (e : PySem.W.kitOne X.K (.ref D) cv = some b) (h1 : starEach [Expr.Name n p2, y] X.env = (false, eval (.Name n p2) X.env) :: starEach [y] X.env := by rfl)
    (h0 : starEach [y] X.env = (false, eval y X.env) :: starEach [] X.env := by rfl) (hpl : (backTo pos (starEach [y] X.env)).any (·.1) = false := by rfl) :
    PE X (.Call (.Name "isinstance" p) [.Name n p2, y] [] pos) (fun σ H Q => σ[i]? = some (some (.ref a)) ∧ Q (.bl b) H) :=
  ⟨fun pins s σ H Q I h => (pe_callB Z.c Z.hg Z.hm (by decide +kernel) (pa_cons (pe_var Z.hN Z.hv Z.hd Z.hcd) (pa_cons hc pa_nil h0) h1) (by decide) (by decide) h1 hpl).run pins s σ H Q I ⟨_, h.1, _, cv, b, rfl, hv, e, h.2⟩⟩
end
section
variable {G : Gd} {cl : Cl} {ini : Nat → Option Nat} {T : Tb} {k : Nat} {E : XK} {X : Cx}
theorem bd_ncx {P : Program} {w : World} {K : PySem.W.Frag} {mg : Str → Option Value} {base : Heap} {N : List Str} {F : NdefX.NF} {f : Addr} {A : Around} {outer : List PySem.Env} {s : Shared} {H : Hp}
    (hK : K = G.K) (nd : N.Nodup) (hr : Room (k + 1) (A.deeper (NdefX.envF F f s.heap.objs.size))) (wd : Wd G cl ini T P w K mg base k) : Bd G cl ini T k E (NdefX.ncx (L2.CX P w) P w K mg base N F f A outer s H E) :=
  ⟨⟨hK, hr, rfl, nd⟩, Px.of_takes rfl rfl (takes_of rfl rfl rfl rfl), wd⟩
theorem Bd.pw (b : Bd G cl ini T k E X) : PassW X (WE E) := fun σ pins H s e s' I c => b.hx pins σ H s e s' I c
variable (B : Bd G cl ini T k E X) {x : Expr} {xs : List Expr} {a : Ow.E} {es : Es} {p p2 q pos : Pos} {fn : Str}
include B
theorem r_nset (hg : Gl X "len") (hg2 : Gl X "set") (na : starEach [x] X.env = (false, eval x X.env) :: starEach [] X.env) (ha : PE X x (tP G cl ini (WE E) a)) :
    PE X (.Call (.Name "len" p) [.Call (.Name "set" p2) [x] [] q] [] pos) (tE G cl ini (WE E) (.prim .nset (.cons a .nil))) := se_nset B.hK B.calm hg (B.wd.fr _ (by decide)) hg2 (B.wd.fr _ (by decide)) ha na
theorem r_callv {i : Nat} (hN : X.N[i]? = some fn) (hv : Vis X.env.scope fn) (hdb : (fn == ("__debug__" : Str)) = false) (hcd : (fn == ("__classdict__" : Str)) = false) (he : starEach (x :: xs) X.env = (false, eval x X.env) :: starEach xs X.env) (hpl : (backTo pos (starEach xs X.env)).any (·.1) = false)
    (ha : PA X (x :: xs) (tPs G cl ini (WE E) es)) : PE X (.Call (.Name fn p) (x :: xs) [] pos) (tE G cl ini (WE E) (.callv i es)) := se_callv B.wd.lam B.room B.pw hN hv ha hdb hcd he hpl
end
/-! ### the kinds of an exception, told by a def -/
def blsO (bs : List Bool) : O := .ml (bs.map fun b => .fr (.bl b))
def spKd (G : Gd) (kd : Nat → Option (List Bool)) (p : Addr × Obj) (vs : List V) (H : Hp) (Q : VK) : Prop := ∃ F c bs, Ex F H ∧ vs = [.ref p.1] ∧ Zc (.ref (G.ca c)) none p.2 ∧ (∃ fs, p.2.data = .fields fs) ∧ kd c = some bs ∧ ∀ v F' H' B, Nx F H [] F' H' B → IsO G F' H' v (blsO bs) B → B.Nodup → Q v H'
def hKinds (j : Nat) (kd : Nat → Option (List Bool)) (pin : List Nat) (x : XV) (δ : Env) : Option (Rs Fl) := if x.xs.isEmpty then match kd x.c with
  | some bs => bnd (setS pin j (blsO bs)) (fun _ => ret Fl.nx) δ
  | none => none
  else none
section
variable {G : Gd} {X : Cx} {a : Addr} {oe : Obj} {cls : Value} {d : Option Addr} {pn : List (Addr × Obj)} {pin : List Nat} {kd : Nat → Option (List Bool)} {k i j : Nat} {fk : Addr} {fdk : FuncData} {psk : List Str} {n nj fnk : Str} {pj q qn pos spos : Pos}
theorem su_kinds (hz : Zc cls d oe) (hf : ∃ fs, oe.data = .fields fs) (FK : FnS X.prog X.w X.K X.mg X.base k fk fdk psk (spKd G kd)) (room : Room k X.A) (hx : ∀ c bs, kd c = some bs → G.xn c ≠ []) (nd : X.N.Nodup) (hi : X.N[i]? = some n) (hvi : Vis X.env.scope n) (hj : X.N[j]? = some nj) (hvj : Loc X.env.scope nj) (hij : i ≠ j)
    (hlj : X.env.scope.names.lookup nj = some .local) (hg : Gl X fnk) (hm : X.mg fnk = some (.ref fk)) (hk : PySem.W.keepIn X.K (.ref fk) = true) (hb : Binds X.K fdk psk []) (hd1 : (n == ("__debug__" : Str)) = false) (hd2 : (n == ("__classdict__" : Str)) = false) (hd3 : (fnk == ("__debug__" : Str)) = false)
    (hsw : swapsWith (.Call (.Name fnk q) [.Name n qn] [] pos) (some (.Name nj pj)) spos.line X.env = pure false) (h0 : starEach [Expr.Name n qn] X.env = (false, eval (.Name n qn) X.env) :: starEach [] X.env) (hpl : (backTo pos (starEach [] X.env)).any (·.1) = false) :
    PSs (X.suite a ((a, oe) :: pn)) [.Assign [.Name nj pj] (.Call (.Name fnk q) [.Name n qn] [] pos) spos] (tU G pin i (hKinds j kd pin) a cls d) := by
  have ps := ps_set (X := X.suite a ((a, oe) :: pn)) (pos' := pj) (pos := spos) nd hj hvj (pe_callS' (X := X.suite a ((a, oe) :: pn)) (p := (a, oe)) (q := q) (pos := pos) FK ⟨room.dp, room.un⟩ List.mem_cons_self hg hm hk hb (pa_cons (pe_var (X := X.suite a ((a, oe) :: pn)) (pos := qn) hi hvi hd1 hd2) pa_nil h0) hd3 h0 hpl) hsw (.inr hlj)
  refine ⟨fun pins s σ H D I h => (pss_one ps).run pins s σ H D I ?_⟩
  obtain ⟨F, δ, x, b0, ex, env, h1, h2, na, ix, m⟩ := h
  unfold hKinds at m
  by_cases hxs : x.xs.isEmpty = true
  case neg => rw [if_neg hxs] at m; exact m.elim
  rw [if_pos hxs] at m
  cases ek : kd x.c with
  | none => rw [ek] at m; exact m.elim
  | some bs =>
    rw [ek] at m
    cases ix with
    | @flds c d ws xs g1 g2 g3 =>
      have z := hx c bs ek
      cases ws with
      | nil => exact absurd g2.symm z
      | cons w ws =>
        cases g3 with
        | cons _ _ => cases hxs
    | plain c =>
      refine ⟨.ref a, h1, F, c, bs, ex, rfl, hz, hf, ek, fun v F' H' B n1 io nb => ?_⟩
      have m : match bnd (setS pin j (blsO bs)) (fun _ => ret Fl.nx) δ with | some (.ok fl δ') => EndF G pin F H [] σ fl δ' D | _ => False := m
      unfold bnd setS at m
      by_cases hp : (pin.contains j || !decide (j < δ.length)) = true
      · rw [if_pos hp] at m; exact m.elim
      · rw [if_neg hp] at m
        simp only [Bool.or_eq_true, Bool.not_eq_true', decide_eq_false_iff_not, not_or, Bool.not_eq_true, Decidable.not_not] at hp
        have m : EndN G pin F H [] σ (δ.set j (blsO bs)) D.nx := m
        obtain ⟨sv, C1, C2, C3, w1, w2, w3, back⟩ := env.split (i := j) (o := δ[j]'hp.2) (by rw [List.getElem?_eq_getElem])
        obtain ⟨rfl, e2⟩ := List.append_eq_nil_iff.mp w2.symm
        obtain ⟨rfl, rfl⟩ := List.append_eq_nil_iff.mp e2
        have z := back F' H' (some v) (blsO bs) B n1.ff (fun a ma => by simp at ma) (.val io)
        rw [List.nil_append, List.append_nil] at z
        exact m (σ.set j (some v)) F' H' B n1 z nb (.set fun w => by simp [w] at hp)
end
end Ow
end OyE_
section OyF_
set_option Elab.async false
set_option linter.all false
set_option maxRecDepth 100000
set_option maxHeartbeats 4000000
/-! What the generated texts use. -/
namespace Ow
open PySem PySem.Spec PyProof.Rows L2
variable [TQ]
def fnBody : Stmt → List Stmt
  | .FunctionDef (body := b) .. => b
  | _ => []
def fnArgs : Stmt → Arguments
  | .FunctionDef (args := a) .. => a
  | _ => ⟨[], [], none, [], [], none, []⟩
def fnScope : Stmt → Scope
  | .FunctionDef (scope := s) .. => s
  | _ => ⟨.function, [], false, false, []⟩
def inCls : Stmt → Nat → Stmt
  | .ClassDef (body := b) .., i => b.getD i (.Pass ⟨0, 0, 0, 0⟩)
  | s, _ => s
def noE : Expr := .Constant .none 0 ⟨0, 0, 0, 0⟩
def sbod : Stmt → Nat → Stmt
  | .FunctionDef (body := b) .., i => b.getD i (.Pass ⟨0, 0, 0, 0⟩)
  | .If _ b _ _, i => b.getD i (.Pass ⟨0, 0, 0, 0⟩)
  | s, _ => s
def sexp : Stmt → Expr
  | .If t _ _ _ => t
  | .Return (some e) _ => e
  | .Assign _ e _ => e
  | .Expr e _ => e
  | _ => noE
def ekid : Expr → Nat → Expr
  | .UnaryOp _ e _, _ => e
  | .Call _ as _ _, i => as.getD i noE
  | .List es _, i => es.getD i noE
  | .BoolOp _ es _, i => es.getD i noE
  | .BinOp a _ b _, i => if i = 0 then a else b
  | e, _ => e
def lamD (q : Str) (ps : List Str) (e : Ow.E) : Expr → LamD
  | .Lambda p b s _ => ⟨q, p, b, s, ps, ps, e⟩
  | x => ⟨q, ⟨[], [], none, [], [], none, []⟩, x, ⟨.function, [], false, false, []⟩, ps, ps, e⟩
/-- the def that tells an exception's kinds is there -/
def xKinds (G : Gd) (kd : Nat → Option (List Bool)) (P : Program) (w : World) (K : PySem.W.Frag) (mg : Str → Option Value) (base : Heap) (k : Nat) : Prop :=
  (∀ c bs, kd c = some bs → G.xn c ≠ []) ∧ ∃ fk fdk psk, FnS P w K mg base k fk fdk psk (spKd G kd) ∧ mg "_law_kinds" = some (.ref fk) ∧ PySem.W.keepIn K (.ref fk) = true ∧ Binds K fdk psk []
section
variable {G : Gd} {cl : Cl} {ini : Nat → Option Nat} {T : Tb} {k : Nat} {E : XK} {X : Cx} {pin : List Nat} {e : Ow.E} {i j : Nat} {n nj cn : Str} {pj q qn pos np hpos spos tpos epos : Pos} {x : Expr} {kd : Nat → Option (List Bool)} {exm : Nat → Nat → Option Bool}
theorem s_try_kinds (b : Bd G cl ini T k E X) (hs : X.stack = X.env :: X.outer) (hf : X.env.frame = some X.env.locals) (hi : X.N[i]? = some n) (hln : X.env.kindOf n = some .local) (ie : Nat) {cc : Nat} (he : T.exs[ie]? = some (cc, cn)) (hem : T.exm = exm) (hg : Gl X cn) (hd : (cn == ("__debug__" : Str)) = false)
    (hx : T.xtra = xKinds G kd) (tk : Takes X (WE E)) (hij : i ≠ j) (hj : X.N[j]? = some nj) (hvj : Loc X.env.scope nj) (hlj : X.env.scope.names.lookup nj = some .local) (hvi : X.env.scope.names.lookup n = some .local) (hgk : Gl X "_law_kinds")
    (hd1 : (n == ("__debug__" : Str)) = false) (hd2 : (n == ("__classdict__" : Str)) = false)
    (hsw : swapsWith (.Call (.Name "_law_kinds" q) [.Name n qn] [] pos) (some (.Name nj pj)) spos.line X.env = pure false) (h0 : starEach [Expr.Name n qn] X.env = (false, eval (.Name n qn) X.env) :: starEach [] X.env) (hpl : (backTo pos (starEach [] X.env)).any (·.1) = false)
    (hse : ∀ (pn : List (Addr × Obj)) (xe : Value → Shared → Prop), swapsWith x none epos.line (X.tr pn xe).env = pure false)
    (hb : ∀ (W : WX) (pn : List (Addr × Obj)) (xe : Value → Shared → Prop), Takes (X.tr pn xe) W → PE (X.tr pn xe) x (tE G cl ini W e)) :
    PS X (.Try [.Expr x epos] [.ExceptHandler (some (.Name cn np)) (some n) [.Assign [.Name nj pj] (.Call (.Name "_law_kinds" q) [.Name n qn] [] pos) spos] hpos] [] [] tpos) (tS G pin cl ini E (exec cl ini pin (.tr none e i (fun x => exm x cc) (hKinds j kd)))) := by
  obtain ⟨Bs, bmB, newId, initId, h1, h2, h3, h4, h5, h6⟩ := b.wd.exc ie cc cn he
  have hx' := b.wd.xtra
  rw [hx] at hx'
  obtain ⟨hxn, fk, fdk, psk, FK, hm, hk, hbi⟩ := hx'
  refine ss_try hs hf b.nd hi hln ⟨hg, hd, .inl h3⟩ tk (fun F H cls d x c ix ec => ?_) (fun j z => by cases z) (fun W pn xe t => ?_) fun a oe cls d pn hz hfl => ?_
  · cases ix with
    | plain c => exact b.wd.exm _ _ _ (by rw [hem]; exact ec)
    | flds c _ _ _ => exact b.wd.exm _ _ _ (by rw [hem]; exact ec)
  · refine pss_one (⟨fun pins s σ H D I q => (ps_expr (hb W pn xe t) (hse pn xe)).run pins s σ H D I q⟩)
  · exact su_kinds hz hfl FK b.room hxn b.nd hi (.inl hvi) hj hvj hij hlj hgk hm hk hbi hd1 hd2 rfl hsw h0 hpl
end
end Ow
end OyF_
section PB_
set_option Elab.async false
set_option linter.all false
set_option maxRecDepth 100000
/-! The terms of the program. -/
namespace Ow.PB
open PySem
def b_Book_init : Ss := (.cons (.exp (.call 8 (.cons (.var 1) .nil))) (.cons (.setf 0 "pages" (.prim .list (.cons (.var 1) .nil))) .nil))
def d_Book_init : Df := ⟨2, 2, b_Book_init⟩
def b_Book_line : Ss := (.cons (.asg (.one 2) (.meth 1 "page" 104 (.var 0) (.cons (.var 1) .nil))) (.cons (.asg (.one 3) (.lst (.cons (.attr (.var 2) "name") .nil))) (.cons (.wh (.prim .notN (.cons (.attr (.var 2) "elder") .nil)) (.cons (.asg (.one 2) (.meth 1 "page" 104 (.var 0) (.cons (.attr (.var 2) "elder") .nil))) (.cons (.app 3 (.attr (.var 2) "name")) .nil))) (.cons (.rt false (.var 3)) .nil))))
def d_Book_line : Df := ⟨4, 2, b_Book_line⟩
def b_Book_names : Ss := (.cons (.rt false (.lc (.attr (.var 1) "name") (.one 1) (.seq .l (.attr (.var 0) "pages")) .nil)) .nil)
def d_Book_names : Df := ⟨2, 1, b_Book_names⟩
def b_Book_page : Ss := (.cons (.ife (.prim (.isi .str) (.cons (.var 1) .nil)) (.cons (.fo (.one 2) (.seq .l (.attr (.var 0) "pages")) (.cons (.ife (.prim .eq (.cons (.attr (.var 2) "name") (.cons (.var 1) .nil))) (.cons (.rt false (.var 2)) .nil) .nil) .nil)) .nil) .nil) (.cons (.rs 103 .nil) .nil))
def d_Book_page : Df := ⟨3, 2, b_Book_page⟩
def b_Made_init : Ss := (.cons (.setf 0 "text" (.var 1)) (.cons (.setf 0 "pieces" (.lc (.tup (.cons (.var 3) (.cons (.var 4) (.cons (.prim .list (.cons (.var 5) .nil)) .nil)))) (.many [3, 4, 5]) (.seq .l (.var 2)) .nil)) .nil))
def d_Made_init : Df := ⟨6, 3, b_Made_init⟩
def b_Made_shows : Ss := (.cons (.asg (.many [4, 5]) (.call 26 (.cons (.var 1) (.cons (.var 2) (.cons (.var 3) .nil))))) (.cons (.ife (.or_ (.prim .ne (.cons (.attr (.var 0) "text") (.cons (.var 4) .nil))) (.prim .ne (.cons (.attr (.var 0) "pieces") (.cons (.var 5) .nil)))) (.cons (.rt false (.cst (.bl false))) .nil) .nil) (.cons (.rt false (.not_ (.call 38 (.cons (.attr (.var 0) "pieces") .nil)))) .nil)))
def d_Made_shows : Df := ⟨6, 4, b_Made_shows⟩
def b_Page_init : Ss := (.cons (.ife (.not_ (.call 0 (.cons (.var 1) .nil))) (.cons (.rs 101 .nil) .nil) .nil) (.cons (.ife (.and_ (.prim .notN (.cons (.var 3) .nil)) (.not_ (.call 0 (.cons (.var 3) .nil)))) (.cons (.rs 101 .nil) .nil) .nil) (.cons (.setf 0 "name" (.var 1)) (.cons (.setf 0 "rows" (.call 4 (.cons (.var 2) .nil))) (.cons (.setf 0 "elder" (.var 3)) .nil)))))
def d_Page_init : Df := ⟨4, 4, b_Page_init⟩
def b_Page_told : Ss := (.cons (.rt false (.tup (.cons (.attr (.var 0) "name") (.cons (.call 5 (.cons (.attr (.var 0) "rows") .nil)) (.cons (.attr (.var 0) "elder") .nil))))) .nil)
def d_Page_told : Df := ⟨1, 1, b_Page_told⟩
def b_add_reached : Ss := (.cons (.fo (.one 4) (.seq .l (.var 0)) (.cons (.app 3 (.tup (.cons (.var 4) (.cons (.var 1) (.cons (.var 2) .nil))))) (.cons (.asg (.one 5) (.prim .idx (.cons (.var 4) (.cons (.cst (.int 1)) .nil)))) (.cons (.ife (.prim .eq (.cons (.prim .idx (.cons (.var 4) (.cons (.cst (.int 0)) .nil))) (.cons (.cst (.str "filling")) .nil))) (.cons (.exp (.call 29 (.cons (.prim .idx (.cons (.var 4) (.cons (.cst (.int 3)) .nil))) (.cons (.var 1) (.cons (.var 2) (.cons (.var 3) .nil)))))) .nil) (.cons (.ife (.prim .eq (.cons (.prim .idx (.cons (.var 4) (.cons (.cst (.int 0)) .nil))) (.cons (.cst (.str "choice")) .nil))) (.cons (.ife (.prim .notin (.cons (.var 5) (.cons (.var 2) .nil))) (.cons (.exp (.call 29 (.cons (.prim .idx (.cons (.var 4) (.cons (.cst (.int 2)) .nil))) (.cons (.call 28 (.cons (.var 1) (.cons (.var 5) .nil))) (.cons (.var 2) (.cons (.var 3) .nil)))))) .nil) .nil) (.cons (.ife (.prim .notin (.cons (.var 5) (.cons (.var 1) .nil))) (.cons (.exp (.call 29 (.cons (.prim .idx (.cons (.var 4) (.cons (.cst (.int 3)) .nil))) (.cons (.var 1) (.cons (.call 28 (.cons (.var 2) (.cons (.var 5) .nil))) (.cons (.var 3) .nil)))))) .nil) .nil) .nil)) .nil) .nil)) .nil)))) .nil)
def d_add_reached : Df := ⟨6, 4, b_add_reached⟩
def b_add_shown : Ss := (.cons (.fo (.one 3) (.seq .l (.var 0)) (.cons (.ife (.prim .eq (.cons (.prim .idx (.cons (.var 3) (.cons (.cst (.int 0)) .nil))) (.cons (.cst (.str "text")) .nil))) (.cons (.app 2 (.tup (.cons (.prim .idx (.cons (.var 3) (.cons (.cst (.int 1)) .nil))) (.cons (.prim .idx (.cons (.var 3) (.cons (.cst (.int 2)) .nil))) (.cons (.prim .idx (.cons (.var 3) (.cons (.cst (.int 3)) .nil))) .nil))))) .nil) (.cons (.ife (.prim .eq (.cons (.prim .idx (.cons (.var 3) (.cons (.cst (.int 0)) .nil))) (.cons (.cst (.str "name")) .nil))) (.cons (.app 2 (.tup (.cons (.call 22 (.cons (.var 1) (.cons (.prim .idx (.cons (.var 3) (.cons (.cst (.int 1)) .nil))) .nil))) (.cons (.prim .idx (.cons (.var 3) (.cons (.cst (.int 2)) .nil))) (.cons (.prim .idx (.cons (.var 3) (.cons (.cst (.int 3)) .nil))) .nil))))) .nil) (.cons (.exp (.call 24 (.cons (.call 23 (.cons (.var 3) (.cons (.var 1) .nil))) (.cons (.var 1) (.cons (.var 2) .nil))))) .nil)) .nil)) .nil)) .nil)
def d_add_shown : Df := ⟨4, 3, b_add_shown⟩
def b_asked : Ss := (.cons (.rt false (.call 31 (.cons (.call 20 (.cons (.var 0) (.cons (.var 1) .nil))) .nil))) .nil)
def d_asked : Df := ⟨2, 2, b_asked⟩
def b_blocks_of : Ss := (.cons (.asg (.one 2) (.lst .nil)) (.cons (.fo (.many [3, 4]) (.enum (.var 0) 0) (.cons (.asg (.one 5) (.prim .add (.cons (.var 1) (.cons (.lst (.cons (.var 3) .nil)) .nil)))) (.cons (.ife (.prim .eq (.cons (.prim .idx (.cons (.var 4) (.cons (.cst (.int 0)) .nil))) (.cons (.cst (.str "block")) .nil))) (.cons (.app 2 (.tup (.cons (.prim .idx (.cons (.var 4) (.cons (.cst (.int 1)) .nil))) (.cons (.prim .idx (.cons (.var 4) (.cons (.cst (.int 2)) .nil))) (.cons (.var 5) .nil))))) .nil) .nil) (.cons (.ext 2 (.call 11 (.cons (.call 10 (.cons (.var 4) .nil)) (.cons (.var 5) .nil)))) .nil)))) (.cons (.rt false (.var 2)) .nil)))
def d_blocks_of : Df := ⟨6, 2, b_blocks_of⟩
def b_check_line : Ss := (.cons (.asg (.one 2) (.lst .nil)) (.cons (.wh (.prim .notN (.cons (.var 1) .nil)) (.cons (.ife (.prim .dnhas (.cons (.var 1) (.cons (.var 0) .nil))) (.cons (.rs 102 .nil) .nil) .nil) (.cons (.ife (.prim .isin (.cons (.var 1) (.cons (.var 2) .nil))) (.cons (.rs 102 .nil) .nil) .nil) (.cons (.app 2 (.var 1)) (.cons (.asg (.one 1) (.prim .dget (.cons (.var 0) (.cons (.var 1) .nil)))) .nil))))) .nil))
def d_check_line : Df := ⟨3, 2, b_check_line⟩
def b_check_pages : Ss := (.cons (.ife (.or_ (.not_ (.prim (.isi .list) (.cons (.var 0) .nil))) (.not_ (.chain .le .le (.cst (.int 1)) (.prim .len (.cons (.var 0) .nil)) (.gl (.int 6))))) (.cons (.rs 102 .nil) .nil) .nil) (.cons (.fo (.one 1) (.seq .l (.var 0)) (.cons (.ife (.not_ (.prim (.isi (.cls 0)) (.cons (.var 1) .nil))) (.cons (.rs 102 .nil) .nil) .nil) .nil)) (.cons (.asg (.one 2) (.dc (.attr (.var 1) "name") (.attr (.var 1) "elder") (.one 1) (.seq .l (.var 0)))) (.cons (.ife (.prim .lt (.cons (.prim .len (.cons (.var 2) .nil)) (.cons (.prim .len (.cons (.var 0) .nil)) .nil))) (.cons (.rs 102 .nil) .nil) .nil) (.cons (.fo (.one 3) (.seq .k (.var 2)) (.cons (.exp (.call 7 (.cons (.var 2) (.cons (.var 3) .nil)))) .nil)) .nil)))))
def d_check_pages : Df := ⟨4, 1, b_check_pages⟩
def b_copied_handed : Ss := (.cons (.ife (.not_ (.prim (.isi .dict) (.cons (.var 0) .nil))) (.cons (.rs 104 .nil) .nil) .nil) (.cons (.asg (.one 1) (.dnew false)) (.cons (.fo (.many [2, 3]) (.items (.var 0)) (.cons (.ife (.or_ (.not_ (.call 0 (.cons (.var 2) .nil))) (.not_ (.call 1 (.cons (.var 3) .nil)))) (.cons (.rs 104 .nil) .nil) .nil) (.cons (.seti false 1 (.var 2) (.var 3)) .nil))) (.cons (.rt false (.var 1)) .nil))))
def d_copied_handed : Df := ⟨4, 1, b_copied_handed⟩
def b_copied_items : Ss := (.cons (.asg (.one 1) (.lst .nil)) (.cons (.fo (.one 2) (.seq .l (.var 0)) (.cons (.ife (.prim .eq (.cons (.prim .idx (.cons (.var 2) (.cons (.cst (.int 0)) .nil))) (.cons (.cst (.str "block")) .nil))) (.cons (.app 1 (.tup (.cons (.cst (.str "block")) (.cons (.prim .idx (.cons (.var 2) (.cons (.cst (.int 1)) .nil))) (.cons (.call 5 (.cons (.prim .idx (.cons (.var 2) (.cons (.cst (.int 2)) .nil))) .nil)) .nil))))) .nil) (.cons (.ife (.prim .eq (.cons (.prim .idx (.cons (.var 2) (.cons (.cst (.int 0)) .nil))) (.cons (.cst (.str "choice")) .nil))) (.cons (.app 1 (.tup (.cons (.cst (.str "choice")) (.cons (.prim .idx (.cons (.var 2) (.cons (.cst (.int 1)) .nil))) (.cons (.call 5 (.cons (.prim .idx (.cons (.var 2) (.cons (.cst (.int 2)) .nil))) .nil)) (.cons (.call 5 (.cons (.prim .idx (.cons (.var 2) (.cons (.cst (.int 3)) .nil))) .nil)) .nil)))))) .nil) (.cons (.app 1 (.var 2)) .nil)) .nil)) .nil)) (.cons (.rt false (.var 1)) .nil)))
def d_copied_items : Df := ⟨3, 1, b_copied_items⟩
def b_flat : Ss := (.cons (.rt false (.call 6 (.cons (.var 1) (.cons (.call 27 (.cons (.call 20 (.cons (.var 0) (.cons (.var 1) .nil))) .nil)) .nil)))) .nil)
def d_flat : Df := ⟨2, 2, b_flat⟩
def b_flat_items : Ss := (.cons (.asg (.one 1) (.lst .nil)) (.cons (.fo (.one 2) (.seq .l (.var 0)) (.cons (.ife (.prim .eq (.cons (.prim .idx (.cons (.var 2) (.cons (.cst (.int 0)) .nil))) (.cons (.cst (.str "filling")) .nil))) (.cons (.ext 1 (.call 27 (.cons (.prim .idx (.cons (.var 2) (.cons (.cst (.int 3)) .nil))) .nil))) .nil) (.cons (.ife (.prim .eq (.cons (.prim .idx (.cons (.var 2) (.cons (.cst (.int 0)) .nil))) (.cons (.cst (.str "choice")) .nil))) (.cons (.app 1 (.tup (.cons (.cst (.str "choice")) (.cons (.prim .idx (.cons (.var 2) (.cons (.cst (.int 1)) .nil))) (.cons (.call 27 (.cons (.prim .idx (.cons (.var 2) (.cons (.cst (.int 2)) .nil))) .nil)) (.cons (.call 27 (.cons (.prim .idx (.cons (.var 2) (.cons (.cst (.int 3)) .nil))) .nil)) .nil)))))) .nil) (.cons (.app 1 (.tup (.cons (.prim .idx (.cons (.var 2) (.cons (.cst (.int 0)) .nil))) (.cons (.prim .idx (.cons (.var 2) (.cons (.cst (.int 1)) .nil))) .nil)))) .nil)) .nil)) .nil)) (.cons (.rt false (.var 1)) .nil)))
def d_flat_items : Df := ⟨3, 1, b_flat_items⟩
def b_flattened_page : Ss := (.cons (.asg (.one 2) (.make 0 (.cons (.var 0) (.cons (.lst .nil) .nil)) [.non])) (.cons (.setf 2 "rows" (.var 1)) (.cons (.rt false (.var 2)) .nil)))
def d_flattened_page : Df := ⟨3, 2, b_flattened_page⟩
def b_has_truth : Ss := (.cons (.fo (.many [1, 2, 3]) (.seq .l (.var 0)) (.cons (.ife (.prim .any (.cons (.lc (.prim (.isi .bool) (.cons (.var 4) .nil)) (.one 4) (.seq .l (.prim .add (.cons (.lst (.cons (.var 1) .nil)) (.cons (.var 3) .nil)))) .nil) .nil)) (.cons (.rt false (.cst (.bl true))) .nil) .nil) .nil)) (.cons (.rt false (.cst (.bl false))) .nil))
def d_has_truth : Df := ⟨5, 1, b_has_truth⟩
def b_idle : Ss := (.cons (.asg (.one 2) (.dnew false)) (.cons (.fo (.many [3, 4, 4]) (.seq .l (.call 30 (.cons (.call 20 (.cons (.var 0) (.cons (.var 1) .nil))) .nil))) (.cons (.ife (.prim .eq (.cons (.prim .idx (.cons (.var 3) (.cons (.cst (.int 0)) .nil))) (.cons (.cst (.str "filling")) .nil))) (.cons (.seti true 2 (.tup (.cons (.prim .idx (.cons (.var 3) (.cons (.cst (.int 2)) .nil))) (.cons (.prim .idx (.cons (.var 3) (.cons (.cst (.int 1)) .nil))) .nil))) (.cst (.bl true))) .nil) .nil) .nil)) (.cons (.asg (.one 5) (.lst .nil)) (.cons (.fo (.one 6) (.seq .l (.call 9 (.cons (.var 0) (.cons (.var 1) .nil)))) (.cons (.fo (.many [7, 4, 4]) (.seq .l (.call 11 (.cons (.attr (.var 6) "rows") (.cons (.lst .nil) .nil)))) (.cons (.app 5 (.tup (.cons (.attr (.var 6) "name") (.cons (.var 7) .nil)))) .nil)) .nil)) (.cons (.rt false (.lc (.var 8) (.one 8) (.seq .l (.var 5)) (.cons (.prim .dnhas (.cons (.var 8) (.cons (.var 2) .nil))) .nil))) .nil)))))
def d_idle : Df := ⟨9, 2, b_idle⟩
def b_is_filling : Ss := (.cons (.rt false (.prim .lt (.cons (.prim .idx (.cons (.var 1) (.cons (.cst (.int 1)) .nil))) (.cons (.prim .len (.cons (.prim .dget (.cons (.var 0) (.cons (.prim .idx (.cons (.var 1) (.cons (.cst (.int 0)) .nil))) .nil))) .nil)) .nil)))) .nil)
def d_is_filling : Df := ⟨2, 2, b_is_filling⟩
def b_is_name : Ss := (.cons (.ife (.or_ (.not_ (.prim (.isi .str) (.cons (.var 0) .nil))) (.not_ (.chain .le .le (.cst (.int 1)) (.prim .len (.cons (.var 0) .nil)) (.gl (.int 8))))) (.cons (.rt false (.cst (.bl false))) .nil) .nil) (.cons (.rt false (.prim .all (.cons (.lc (.chain .le .le (.cst (.str "a")) (.var 1) (.cst (.str "z"))) (.one 1) (.seq .s (.var 0)) .nil) .nil))) .nil))
def d_is_name : Df := ⟨2, 1, b_is_name⟩
def b_is_text : Ss := (.cons (.ife (.or_ (.not_ (.prim (.isi .str) (.cons (.var 0) .nil))) (.prim .gt (.cons (.prim .len (.cons (.var 0) .nil)) (.cons (.gl (.int 60)) .nil)))) (.cons (.rt false (.cst (.bl false))) .nil) .nil) (.cons (.rt false (.prim .all (.cons (.lc (.or_ (.chain .le .le (.cst (.str " ")) (.var 1) (.cst (.str "~"))) (.prim .eq (.cons (.var 1) (.cons (.cst (.str "\n")) .nil)))) (.one 1) (.seq .s (.var 0)) .nil) .nil))) .nil))
def d_is_text : Df := ⟨2, 1, b_is_text⟩
def b_items_within : Ss := (.cons (.ife (.prim .eq (.cons (.prim .idx (.cons (.var 0) (.cons (.cst (.int 0)) .nil))) (.cons (.cst (.str "block")) .nil))) (.cons (.rt false (.prim .idx (.cons (.var 0) (.cons (.cst (.int 2)) .nil)))) .nil) .nil) (.cons (.ife (.prim .eq (.cons (.prim .idx (.cons (.var 0) (.cons (.cst (.int 0)) .nil))) (.cons (.cst (.str "choice")) .nil))) (.cons (.rt false (.prim .add (.cons (.prim .idx (.cons (.var 0) (.cons (.cst (.int 2)) .nil))) (.cons (.prim .idx (.cons (.var 0) (.cons (.cst (.int 3)) .nil))) .nil)))) .nil) .nil) (.cons (.rt false (.lst .nil)) .nil)))
def d_items_within : Df := ⟨1, 1, b_items_within⟩
def b_key_laid : Ss := (.cons (.ife (.prim .eq (.cons (.prim .idx (.cons (.var 0) (.cons (.cst (.int 0)) .nil))) (.cons (.cst (.str "block")) .nil))) (.cons (.rt false (.tup (.cons (.prim .idx (.cons (.var 0) (.cons (.cst (.int 1)) .nil))) (.cons (.cst (.int 0)) .nil)))) .nil) .nil) (.cons (.rt false (.tup (.cons (.prim .idx (.cons (.var 1) (.cons (.cst (.int 0)) .nil))) (.cons (.prim .add (.cons (.prim .idx (.cons (.var 1) (.cons (.cst (.int 1)) .nil))) (.cons (.cst (.int 1)) .nil))) .nil)))) .nil))
def d_key_laid : Df := ⟨2, 2, b_key_laid⟩
def b_laid_filling : Ss := (.cons (.asg (.many [2, 3, 4]) (.prim .idx (.cons (.prim .dget (.cons (.var 0) (.cons (.prim .idx (.cons (.var 1) (.cons (.cst (.int 0)) .nil))) .nil))) (.cons (.prim .idx (.cons (.var 1) (.cons (.cst (.int 1)) .nil))) .nil)))) (.cons (.rt false (.tup (.cons (.cst (.str "filling")) (.cons (.prim .idx (.cons (.var 1) (.cons (.cst (.int 0)) .nil))) (.cons (.var 2) (.cons (.call 18 (.cons (.var 0) (.cons (.var 1) (.cons (.var 3) (.cons (.var 4) (.cons (.cst (.int 0)) .nil)))))) .nil)))))) .nil))
def d_laid_filling : Df := ⟨5, 2, b_laid_filling⟩
def b_line_pages : Ss := (.cons (.ife (.not_ (.prim (.isi (.cls 1)) (.cons (.var 0) .nil))) (.cons (.rs 103 .nil) .nil) .nil) (.cons (.rt false (.lc (.meth 1 "page" 104 (.var 0) (.cons (.var 2) .nil)) (.one 2) (.seq .l (.meth 1 "line" 105 (.var 0) (.cons (.var 1) .nil))) .nil)) .nil))
def d_line_pages : Df := ⟨3, 2, b_line_pages⟩
def b_made : Ss := (.cons (.asg (.many [3, 4]) (.call 26 (.cons (.var 0) (.cons (.var 1) (.cons (.var 2) .nil))))) (.cons (.rt false (.make 3 (.cons (.var 3) (.cons (.var 4) .nil)) [])) .nil))
def d_made : Df := ⟨5, 3, b_made⟩
def b_nodes_within : Ss := (.cons (.ife (.prim .eq (.cons (.prim .idx (.cons (.var 0) (.cons (.cst (.int 0)) .nil))) (.cons (.cst (.str "filling")) .nil))) (.cons (.rt false (.prim .idx (.cons (.var 0) (.cons (.cst (.int 3)) .nil)))) .nil) .nil) (.cons (.ife (.call 22 (.cons (.var 1) (.cons (.prim .idx (.cons (.var 0) (.cons (.cst (.int 1)) .nil))) .nil))) (.cons (.rt false (.prim .idx (.cons (.var 0) (.cons (.cst (.int 2)) .nil)))) .nil) .nil) (.cons (.rt false (.prim .idx (.cons (.var 0) (.cons (.cst (.int 3)) .nil)))) .nil)))
def d_nodes_within : Df := ⟨2, 2, b_nodes_within⟩
def b_own_items : Ss := (.cons (.asg (.one 1) (.lst .nil)) (.cons (.fo (.one 2) (.seq .l (.var 0)) (.cons (.app 1 (.var 2)) (.cons (.ife (.prim .eq (.cons (.prim .idx (.cons (.var 2) (.cons (.cst (.int 0)) .nil))) (.cons (.cst (.str "choice")) .nil))) (.cons (.ext 1 (.call 15 (.cons (.call 10 (.cons (.var 2) .nil)) .nil))) .nil) .nil) .nil))) (.cons (.rt false (.var 1)) .nil)))
def d_own_items : Df := ⟨3, 1, b_own_items⟩
def b_pair_of : Ss := (.cons (.rt false (.tup (.cons (.prim .idx (.cons (.var 1) (.cons (.cst (.int 0)) .nil))) (.cons (.prim .idx (.cons (.prim .idx (.cons (.prim .dget (.cons (.var 0) (.cons (.prim .idx (.cons (.var 1) (.cons (.cst (.int 0)) .nil))) .nil))) (.cons (.prim .idx (.cons (.var 1) (.cons (.cst (.int 1)) .nil))) .nil))) (.cons (.cst (.int 0)) .nil))) .nil)))) .nil)
def d_pair_of : Df := ⟨2, 2, b_pair_of⟩
def b_reached : Ss := (.cons (.asg (.one 1) (.lst .nil)) (.cons (.exp (.call 29 (.cons (.var 0) (.cons (.lst .nil) (.cons (.lst .nil) (.cons (.var 1) .nil)))))) (.cons (.rt false (.var 1)) .nil)))
def d_reached : Df := ⟨2, 1, b_reached⟩
def b_read_item : Ss := (.cons (.app 3 (.var 0)) (.cons (.ife (.or_ (.prim .gt (.cons (.var 1) (.cons (.gl (.int 6)) .nil))) (.prim .gt (.cons (.prim .len (.cons (.var 3) .nil)) (.cons (.gl (.int 30)) .nil)))) (.cons (.rs 101 .nil) .nil) .nil) (.cons (.ife (.or_ (.not_ (.prim (.isi .tuple) (.cons (.var 0) .nil))) (.or_ (.not_ (.var 0)) (.not_ (.prim (.isi .str) (.cons (.prim .idx (.cons (.var 0) (.cons (.cst (.int 0)) .nil))) .nil))))) (.cons (.rs 101 .nil) .nil) .nil) (.cons (.asg (.one 4) (.tup (.cons (.prim .idx (.cons (.var 0) (.cons (.cst (.int 0)) .nil))) (.cons (.prim .len (.cons (.var 0) .nil)) .nil)))) (.cons (.ife (.and_ (.prim .eq (.cons (.var 4) (.cons (.tup (.cons (.cst (.str "elder")) (.cons (.cst (.int 1)) .nil))) .nil))) (.var 2)) (.cons (.rt false (.tup (.cons (.cst (.str "elder")) .nil))) .nil) .nil) (.cons (.ife (.and_ (.prim .eq (.cons (.var 4) (.cons (.tup (.cons (.cst (.str "text")) (.cons (.cst (.int 2)) .nil))) .nil))) (.call 1 (.cons (.prim .idx (.cons (.var 0) (.cons (.cst (.int 1)) .nil))) .nil))) (.cons (.rt false (.tup (.cons (.cst (.str "text")) (.cons (.prim .idx (.cons (.var 0) (.cons (.cst (.int 1)) .nil))) .nil)))) .nil) .nil) (.cons (.ife (.and_ (.prim .eq (.cons (.var 4) (.cons (.tup (.cons (.cst (.str "name")) (.cons (.cst (.int 2)) .nil))) .nil))) (.call 0 (.cons (.prim .idx (.cons (.var 0) (.cons (.cst (.int 1)) .nil))) .nil))) (.cons (.rt false (.tup (.cons (.cst (.str "name")) (.cons (.prim .idx (.cons (.var 0) (.cons (.cst (.int 1)) .nil))) .nil)))) .nil) .nil) (.cons (.ife (.and_ (.prim .eq (.cons (.var 4) (.cons (.tup (.cons (.cst (.str "block")) (.cons (.cst (.int 3)) .nil))) .nil))) (.call 0 (.cons (.prim .idx (.cons (.var 0) (.cons (.cst (.int 1)) .nil))) .nil))) (.cons (.rt false (.tup (.cons (.cst (.str "block")) (.cons (.prim .idx (.cons (.var 0) (.cons (.cst (.int 1)) .nil))) (.cons (.call 2 (.cons (.prim .idx (.cons (.var 0) (.cons (.cst (.int 2)) .nil))) (.cons (.prim .add (.cons (.var 1) (.cons (.cst (.int 1)) .nil))) (.cons (.cst (.bl true)) (.cons (.var 3) .nil))))) .nil))))) .nil) .nil) (.cons (.ife (.and_ (.prim .eq (.cons (.var 4) (.cons (.tup (.cons (.cst (.str "choice")) (.cons (.cst (.int 4)) .nil))) .nil))) (.call 0 (.cons (.prim .idx (.cons (.var 0) (.cons (.cst (.int 1)) .nil))) .nil))) (.cons (.asg (.one 5) (.call 2 (.cons (.prim .idx (.cons (.var 0) (.cons (.cst (.int 2)) .nil))) (.cons (.prim .add (.cons (.var 1) (.cons (.cst (.int 1)) .nil))) (.cons (.var 2) (.cons (.var 3) .nil)))))) (.cons (.rt false (.tup (.cons (.cst (.str "choice")) (.cons (.prim .idx (.cons (.var 0) (.cons (.cst (.int 1)) .nil))) (.cons (.var 5) (.cons (.call 2 (.cons (.prim .idx (.cons (.var 0) (.cons (.cst (.int 3)) .nil))) (.cons (.prim .add (.cons (.var 1) (.cons (.cst (.int 1)) .nil))) (.cons (.var 2) (.cons (.var 3) .nil))))) .nil)))))) .nil)) .nil) (.cons (.rs 101 .nil) .nil))))))))))
def d_read_item : Df := ⟨6, 4, b_read_item⟩
def b_read_items : Ss := (.cons (.ife (.not_ (.prim (.isi .list) (.cons (.var 0) .nil))) (.cons (.rs 101 .nil) .nil) .nil) (.cons (.rt false (.lc (.call 3 (.cons (.var 4) (.cons (.var 1) (.cons (.var 2) (.cons (.var 3) .nil))))) (.one 4) (.seq .l (.var 0)) .nil)) .nil))
def d_read_items : Df := ⟨5, 4, b_read_items⟩
def b_read_page_items : Ss := (.cons (.asg (.one 1) (.lst .nil)) (.cons (.asg (.one 2) (.call 2 (.cons (.var 0) (.cons (.cst (.int 1)) (.cons (.cst (.bl false)) (.cons (.var 1) .nil)))))) (.cons (.asg (.one 3) (.lc (.prim .idx (.cons (.var 4) (.cons (.cst (.int 1)) .nil))) (.one 4) (.seq .l (.var 1)) (.cons (.prim .eq (.cons (.prim .idx (.cons (.var 4) (.cons (.cst (.int 0)) .nil))) (.cons (.cst (.str "block")) .nil))) .nil))) (.cons (.ife (.prim .lt (.cons (.prim .nset (.cons (.var 3) .nil)) (.cons (.prim .len (.cons (.var 3) .nil)) .nil))) (.cons (.rs 101 .nil) .nil) .nil) (.cons (.rt false (.var 2)) .nil)))))
def d_read_page_items : Df := ⟨5, 1, b_read_page_items⟩
def b_text_and_pieces : Ss := (.cons (.asg (.one 3) (.call 20 (.cons (.var 0) (.cons (.var 1) .nil)))) (.cons (.asg (.one 4) (.lst .nil)) (.cons (.exp (.call 24 (.cons (.var 3) (.cons (.call 21 (.cons (.var 2) .nil)) (.cons (.var 4) .nil))))) (.cons (.asg (.one 5) (.prim .join (.cons (.cst (.str "")) (.cons (.lc (.var 6) (.many [6, 7, 7]) (.seq .l (.var 4)) .nil) .nil)))) (.cons (.rt false (.tup (.cons (.var 5) (.cons (.lc (.tup (.cons (.prim .len (.cons (.var 6) .nil)) (.cons (.var 8) (.cons (.var 9) .nil)))) (.many [6, 8, 9]) (.seq .l (.var 4)) (.cons (.var 6) .nil)) .nil)))) .nil)))))
def d_text_and_pieces : Df := ⟨10, 3, b_text_and_pieces⟩
end Ow.PB
end PB_
section D7_
set_option Elab.async false
set_option linter.all false
set_option maxRecDepth 100000
set_option maxHeartbeats 4000000
namespace Ow.RW7
open PySem PySem.Spec PyProof.Rows L2
open Ow.PB
variable [TQ]

def top (i : Nat) : Stmt := PySem.Challenge.pw_blockpages_k07_refused_pages.main.body.getD i (.Pass ⟨0, 0, 0, 0⟩)
def kd (c : Nat) : Option (List Bool) := if ([101, 102, 103, 104, 107, 108] : List Nat).contains c then some ((List.range 8).map (fun i => c == 101 + i) ++ [true]) else none
def exm (a b : Nat) : Option Bool := if 100 ≤ a ∧ a < 109 ∧ 100 ≤ b ∧ b < 109 then some (decide (a = b) || decide (b = 100)) else none
def T (G : Gd) : Tb := ⟨(([(0, "is_name"), (1, "is_text"), (2, "read_items"), (3, "read_item"), (4, "read_page_items"), (5, "copied_items"), (7, "check_line"), (8, "check_pages"), (50, "_law_cell_at"), (51, "_law_kinds"), (52, "_law_refused"), (53, "_law_all"), (54, "_law_no_items"), (55, "_law_within"), (56, "_law_pages_right"), (57, "_law_books_right"), (58, "law")] : List (Nat × Str))), (([(101, 0, "told"), (103, 1, "names"), (104, 1, "page"), (105, 1, "line")] : List (Nat × Nat × Str))), (([(0, "Page", 100, []), (0, "Page", 100, [.non]), (1, "Book", 102, [])] : List (Nat × Str × Nat × List D))), ((["Page", "Book"] : List (Str))), (([("MOST_LETTERS", (.int 8)), ("MOST_SIGNS", (.int 60)), ("MOST_ITEMS", (.int 30)), ("MOST_DEEP", (.int 6)), ("MOST_PAGES", (.int 6))] : List (Str × D))), (([(100, "PageError"), (101, "BadPage"), (102, "BadBook"), (103, "BadName"), (104, "BadHanded"), (107, "TooMany"), (108, "Unlike")] : List (Nat × Str))), ((["elder", "name", "pages", "ring", "rows"] : List (Str))), exm, xKinds G kd⟩
section
variable {G : Gd} {cl : Cl} {ini : Nat → Option Nat} {pin : List Nat} {P : Program} {w : World} {K : PySem.W.Frag} {mg : Str → Option Value} {base : Heap} {fa : Addr} {cd : Value} {A : Around} {outer : List PySem.Env} {s : Shared} {H : Hp} {E : XK} {k : Nat}
abbrev s_is_name : Stmt := (top 16)
def N_is_name : List Str := ((["value", "letter"] : List (Str)))
abbrev s_is_text : Stmt := (top 17)
def N_is_text : List Str := ((["value", "sign"] : List (Str)))
abbrev s_read_items : Stmt := (top 18)
def N_read_items : List Str := ((["items", "deep", "inside", "seen", "item"] : List (Str)))
abbrev s_read_item : Stmt := (top 19)
def N_read_item : List Str := ((["item", "deep", "inside", "seen", "form", "first"] : List (Str)))
abbrev s_read_page_items : Stmt := (top 20)
def N_read_page_items : List Str := ((["items", "seen", "rows", "names", "item"] : List (Str)))
abbrev s_copied_items : Stmt := (top 21)
def N_copied_items : List Str := ((["items", "copied", "item"] : List (Str)))
abbrev s_check_line : Stmt := (top 23)
def N_check_line : List Str := ((["elders", "name", "passed"] : List (Str)))
abbrev s_check_pages : Stmt := (top 24)
def N_check_pages : List Str := ((["pages", "page", "elders", "name"] : List (Str)))
abbrev s__law_cell_at : Stmt := (top 27)
def N__law_cell_at : List Str := ((["_law_script", "_law_k"] : List (Str)))
abbrev s__law_kinds : Stmt := (top 28)
abbrev s__law_refused : Stmt := (top 29)
def N__law_refused : List Str := ((["_law_ask", "_law_thing", "_law_which", "_law_sorts", "_law_error", "_law_at"] : List (Str)))
abbrev s__law_all : Stmt := (top 30)
def N__law_all : List Str := ((["_law_asks", "_law_things", "_law_which", "_law_ask", "_law_thing"] : List (Str)))
abbrev s__law_no_items : Stmt := (top 31)
def N__law_no_items : List Str := ((["_law_far", "_law_one", "_law_found"] : List (Str)))
abbrev s__law_within : Stmt := (top 32)
def N__law_within : List Str := ((["_law_item", "_law_at", "_law_one", "_law_lots"] : List (Str)))
abbrev s__law_pages_right : Stmt := (top 33)
def N__law_pages_right : List Str := ((["_law_far", "_law_at", "_law_one", "_law_names", "_law_bad", "_law_some", "_law_item", "_law_inner", "_law_k", "_law_deep", "_law_turn"] : List (Str)))
def e_L0 : Ow.E := (.make 0 (.cons (.var 0) (.cons (.lst .nil) .nil)) [.non])
def L_0 : LamD := lamD "_law_pages_right.<locals>.<lambda>" ((["_law_a"] : List (Str))) e_L0 (ekid (ekid (ekid (sexp (sbod (top 33) 2)) 0) 0) 0)
def e_L1 : Ow.E := (.make 0 (.cons (.cst (.str "a")) (.cons (.lst .nil) (.cons (.var 0) .nil))) [])
def L_1 : LamD := lamD "_law_pages_right.<locals>.<lambda>" ((["_law_b"] : List (Str))) e_L1 (ekid (ekid (ekid (sexp (sbod (top 33) 2)) 0) 0) 1)
def e_L2 : Ow.E := (.make 0 (.cons (.cst (.str "a")) (.cons (.var 0) .nil)) [.non])
def L_2 : LamD := lamD "_law_pages_right.<locals>.<lambda>" ((["_law_a"] : List (Str))) e_L2 (ekid (ekid (ekid (sexp (sbod (top 33) 12)) 0) 0) 0)
abbrev s__law_books_right : Stmt := (top 34)
def N__law_books_right : List Str := ((["_law_far", "_law_page", "_law_names", "_law_some", "_law_name", "_law_at"] : List (Str)))
def e_L3 : Ow.E := (.make 1 (.cons (.var 0) .nil) [])
def L_3 : LamD := lamD "_law_books_right.<locals>.<lambda>" ((["_law_a"] : List (Str))) e_L3 (ekid (ekid (sexp (sbod (top 34) 7)) 0) 0)
abbrev s_law : Stmt := (top 35)
def N_law : List Str := ((["_law_script", "_law_cell", "_law_far", "_law_book", "_law_at", "_law_late"] : List (Str)))
abbrev s_Page_init : Stmt := (inCls (top 22) 0)
def N_Page_init : List Str := ((["self", "name", "items", "elder"] : List (Str)))
abbrev s_Page_told : Stmt := (inCls (top 22) 1)
def N_Page_told : List Str := ((["self"] : List (Str)))
abbrev s_Book_init : Stmt := (inCls (top 25) 0)
def N_Book_init : List Str := ((["self", "pages"] : List (Str)))
abbrev s_Book_names : Stmt := (inCls (top 25) 1)
def N_Book_names : List Str := ((["self", "page"] : List (Str)))
abbrev s_Book_page : Stmt := (inCls (top 25) 2)
def N_Book_page : List Str := ((["self", "name", "page"] : List (Str)))
abbrev s_Book_line : Stmt := (inCls (top 25) 3)
def N_Book_line : List Str := ((["self", "name", "page", "names"] : List (Str)))
def LAMS : List LamD := [L_0, L_1, L_2, L_3]
theorem h_is_name (b : Bd G cl ini (T G) k E (cxOf (L2.CX P w) P w K mg base N_is_name "is_name" (fnScope s_is_name) fa cd A outer s H E)) : PSs (cxOf (L2.CX P w) P w K mg base N_is_name "is_name" (fnScope s_is_name) fa cd A outer s H E) (fnBody s_is_name) (tS G pin cl ini E (execs cl ini pin b_is_name)) := by
  refine sss_cons ?_ ?_
  refine ss_if ?_ ?_ ?_
  refine PW.pt (sw_or ?_ ?_)
  refine st_not ?_
  refine t_of b (by intro _; rfl) ?_
  refine r_isi b (fun _ z => nomatch z) rfl rfl rfl rfl ?_ ?_
  exact vP 0
  exact c_ty b (by decide) rfl rfl rfl (by decide) rfl
  refine sw_or1 ?_
  refine st_not ?_
  refine st_chain op_le2 op_le2 ok_le ok_le rfl rfl ?_ ?_ ?_
  exact se_int
  refine r_len b rfl rfl rfl ?_
  exact vP 0
  exact r_gl b 0 rfl rfl rfl
  refine sss_cons ?_ ?_
  refine ss_ret ?_
  exact se_bl
  exact sss_nil
  exact sss_nil
  refine sss_cons ?_ ?_
  refine ss_ret ?_
  refine r_all b rfl rfl rfl ?_
  refine oP (by intro _ z; cases z) ?_
  refine r_lc b rfl rfl (by intro _; rfl) ?_ (fun s H C c fp W _ g1 => ?_) (fun s H C c fp W b1 => ?_) (fun s H C c fp W b1 => ?_)
  refine si_str ?_
  exact vE 0
  exact tg_one g1.nd rfl (by first | exact Or.inl rfl | exact Or.inr rfl) (by first | exact .inr rfl | exact .inl rfl)
  exact sts_nil
  refine se_chain op_le2 op_le2 ok_le ok_le rfl ?_ ?_ ?_
  exact se_str
  exact vE 1
  exact se_str
  exact sss_nil
theorem h_is_text (b : Bd G cl ini (T G) k E (cxOf (L2.CX P w) P w K mg base N_is_text "is_text" (fnScope s_is_text) fa cd A outer s H E)) : PSs (cxOf (L2.CX P w) P w K mg base N_is_text "is_text" (fnScope s_is_text) fa cd A outer s H E) (fnBody s_is_text) (tS G pin cl ini E (execs cl ini pin b_is_text)) := by
  refine sss_cons ?_ ?_
  refine ss_if ?_ ?_ ?_
  refine PW.pt (sw_or ?_ ?_)
  refine st_not ?_
  refine t_of b (by intro _; rfl) ?_
  refine r_isi b (fun _ z => nomatch z) rfl rfl rfl rfl ?_ ?_
  exact vP 0
  exact c_ty b (by decide) rfl rfl rfl (by decide) rfl
  refine sw_or1 ?_
  refine st_cmp op_gt ok_gt rfl (by first | exact nobehind _ (by decide) (by decide) | rfl) ?_ ?_
  refine oP (by intro _ z; cases z) ?_
  refine r_len b rfl rfl rfl ?_
  exact vP 0
  refine oP (by intro _ z; cases z) ?_
  exact r_gl b 1 rfl rfl rfl
  refine sss_cons ?_ ?_
  refine ss_ret ?_
  exact se_bl
  exact sss_nil
  exact sss_nil
  refine sss_cons ?_ ?_
  refine ss_ret ?_
  refine r_all b rfl rfl rfl ?_
  refine oP (by intro _ z; cases z) ?_
  refine r_lc b rfl rfl (by intro _; rfl) ?_ (fun s H C c fp W _ g1 => ?_) (fun s H C c fp W b1 => ?_) (fun s H C c fp W b1 => ?_)
  refine si_str ?_
  exact vE 0
  exact tg_one g1.nd rfl (by first | exact Or.inl rfl | exact Or.inr rfl) (by first | exact .inr rfl | exact .inl rfl)
  exact sts_nil
  refine se_or b1.hK ?_ ?_
  refine se_chain op_le2 op_le2 ok_le ok_le rfl ?_ ?_ ?_
  exact se_str
  exact vE 1
  exact se_str
  refine se_one ?_
  refine r_eq b1 (by first | exact nobehind _ (by decide) (by decide) | rfl) ?_ ?_
  exact vP 1
  refine oP (by intro _ z; cases z) ?_
  exact se_str
  exact sss_nil
theorem h_read_items (b : Bd G cl ini (T G) k E (cxOf (L2.CX P w) P w K mg base N_read_items "read_items" (fnScope s_read_items) fa cd A outer s H E)) : PSs (cxOf (L2.CX P w) P w K mg base N_read_items "read_items" (fnScope s_read_items) fa cd A outer s H E) (fnBody s_read_items) (tS G pin cl ini E (execs cl ini pin b_read_items)) := by
  refine sss_cons ?_ ?_
  refine ss_if ?_ ?_ ?_
  refine st_not ?_
  refine t_of b (by intro _; rfl) ?_
  refine r_isi b (fun _ z => nomatch z) rfl rfl rfl rfl ?_ ?_
  exact vP 0
  exact c_ty b (by decide) rfl rfl rfl (by decide) rfl
  refine sss_cons ?_ ?_
  refine ss_raise rfl tk_cx ?_
  exact r_exc b 1 rfl rfl rfl
  exact sss_nil
  exact sss_nil
  refine sss_cons ?_ ?_
  refine ss_ret ?_
  refine r_lc b rfl rfl (by intro _; rfl) ?_ (fun s H C c fp W _ g1 => ?_) (fun s H C c fp W b1 => ?_) (fun s H C c fp W b1 => ?_)
  refine q_list b ?_
  exact vE 0
  exact tg_one g1.nd rfl (by first | exact Or.inl rfl | exact Or.inr rfl) (by first | exact .inr rfl | exact .inl rfl)
  exact sts_nil
  refine r_call b1 rfl rfl rfl rfl rfl ?_
  refine sps_cons ?_ ?_
  exact vP 4
  refine sps_cons ?_ ?_
  exact vP 1
  refine sps_cons ?_ ?_
  exact vP 2
  refine sps_cons ?_ ?_
  exact vP 3
  exact sps_nil
  exact sss_nil
theorem h_read_item (b : Bd G cl ini (T G) k E (cxOf (L2.CX P w) P w K mg base N_read_item "read_item" (fnScope s_read_item) fa cd A outer s H E)) : PSs (cxOf (L2.CX P w) P w K mg base N_read_item "read_item" (fnScope s_read_item) fa cd A outer s H E) (fnBody s_read_item) (tS G pin cl ini E (execs cl ini pin b_read_item)) := by
  refine sss_cons ?_ ?_
  refine ss_app b.hK (vV 3) ?_
  exact vE 0
  refine sss_cons ?_ ?_
  refine ss_if ?_ ?_ ?_
  refine PW.pt (sw_or ?_ ?_)
  refine st_cmp op_gt ok_gt rfl (by first | exact nobehind _ (by decide) (by decide) | rfl) ?_ ?_
  exact vP 1
  refine oP (by intro _ z; cases z) ?_
  exact r_gl b 3 rfl rfl rfl
  refine sw_or1 ?_
  refine st_cmp op_gt ok_gt rfl (by first | exact nobehind _ (by decide) (by decide) | rfl) ?_ ?_
  refine oP (by intro _ z; cases z) ?_
  refine r_len b rfl rfl rfl ?_
  exact vP 3
  refine oP (by intro _ z; cases z) ?_
  exact r_gl b 2 rfl rfl rfl
  refine sss_cons ?_ ?_
  refine ss_raise rfl tk_cx ?_
  exact r_exc b 1 rfl rfl rfl
  exact sss_nil
  exact sss_nil
  refine sss_cons ?_ ?_
  refine ss_if ?_ ?_ ?_
  refine PW.pt (sw_or ?_ ?_)
  refine st_not ?_
  refine t_of b (by intro _; rfl) ?_
  refine r_isi b (fun _ z => nomatch z) rfl rfl rfl rfl ?_ ?_
  exact vP 0
  exact c_ty b (by decide) rfl rfl rfl (by decide) rfl
  refine sw_or ?_ ?_
  refine st_not ?_
  refine t_of b (by intro _; rfl) ?_
  exact vE 0
  refine sw_or1 ?_
  refine st_not ?_
  refine t_of b (by intro _; rfl) ?_
  refine r_isi b (fun _ z => nomatch z) rfl rfl rfl rfl ?_ ?_
  refine oP (by intro _ z; cases z) ?_
  refine r_idx b (by intro _ _; rfl) ?_ ?_
  exact vP 0
  refine oP (by intro _ z; cases z) ?_
  exact se_int
  exact c_ty b (by decide) rfl rfl rfl (by decide) rfl
  refine sss_cons ?_ ?_
  refine ss_raise rfl tk_cx ?_
  exact r_exc b 1 rfl rfl rfl
  exact sss_nil
  exact sss_nil
  refine sss_cons ?_ ?_
  refine ss_set b.nd rfl (by first | exact Or.inl rfl | exact Or.inr rfl) ?_
  refine se_tup ?_
  refine sd_cons ?_ ?_
  refine r_idx b (by intro _ _; rfl) ?_ ?_
  exact vP 0
  refine oP (by intro _ z; cases z) ?_
  exact se_int
  refine sd_cons ?_ ?_
  refine r_len b rfl rfl rfl ?_
  exact vP 0
  exact sd_nil
  refine sss_cons ?_ ?_
  refine ss_if ?_ ?_ ?_
  refine PW.pt (sw_and ?_ ?_)
  refine s_eq b (by first | exact nobehind _ (by decide) (by decide) | rfl) ?_ ?_
  exact vP 4
  refine oP (by intro _ z; cases z) ?_
  refine se_tup ?_
  refine sd_cons ?_ ?_
  exact se_str
  refine sd_cons ?_ ?_
  exact se_int
  exact sd_nil
  refine sw_and1 ?_
  refine t_of b (by intro _; rfl) ?_
  exact vE 2
  refine sss_cons ?_ ?_
  refine ss_ret ?_
  refine se_tup ?_
  refine sd_cons ?_ ?_
  exact se_str
  exact sd_nil
  exact sss_nil
  exact sss_nil
  refine sss_cons ?_ ?_
  refine ss_if ?_ ?_ ?_
  refine PW.pt (sw_and ?_ ?_)
  refine s_eq b (by first | exact nobehind _ (by decide) (by decide) | rfl) ?_ ?_
  exact vP 4
  refine oP (by intro _ z; cases z) ?_
  refine se_tup ?_
  refine sd_cons ?_ ?_
  exact se_str
  refine sd_cons ?_ ?_
  exact se_int
  exact sd_nil
  refine sw_and1 ?_
  refine t_of b (by intro _; rfl) ?_
  refine r_call b rfl rfl rfl rfl rfl ?_
  refine sps_cons ?_ ?_
  refine oP (by intro _ z; cases z) ?_
  refine r_idx b (by intro _ _; rfl) ?_ ?_
  exact vP 0
  refine oP (by intro _ z; cases z) ?_
  exact se_int
  exact sps_nil
  refine sss_cons ?_ ?_
  refine ss_ret ?_
  refine se_tup ?_
  refine sd_cons ?_ ?_
  exact se_str
  refine sd_cons ?_ ?_
  refine r_idx b (by intro _ _; rfl) ?_ ?_
  exact vP 0
  refine oP (by intro _ z; cases z) ?_
  exact se_int
  exact sd_nil
  exact sss_nil
  exact sss_nil
  refine sss_cons ?_ ?_
  refine ss_if ?_ ?_ ?_
  refine PW.pt (sw_and ?_ ?_)
  refine s_eq b (by first | exact nobehind _ (by decide) (by decide) | rfl) ?_ ?_
  exact vP 4
  refine oP (by intro _ z; cases z) ?_
  refine se_tup ?_
  refine sd_cons ?_ ?_
  exact se_str
  refine sd_cons ?_ ?_
  exact se_int
  exact sd_nil
  refine sw_and1 ?_
  refine t_of b (by intro _; rfl) ?_
  refine r_call b rfl rfl rfl rfl rfl ?_
  refine sps_cons ?_ ?_
  refine oP (by intro _ z; cases z) ?_
  refine r_idx b (by intro _ _; rfl) ?_ ?_
  exact vP 0
  refine oP (by intro _ z; cases z) ?_
  exact se_int
  exact sps_nil
  refine sss_cons ?_ ?_
  refine ss_ret ?_
  refine se_tup ?_
  refine sd_cons ?_ ?_
  exact se_str
  refine sd_cons ?_ ?_
  refine r_idx b (by intro _ _; rfl) ?_ ?_
  exact vP 0
  refine oP (by intro _ z; cases z) ?_
  exact se_int
  exact sd_nil
  exact sss_nil
  exact sss_nil
  refine sss_cons ?_ ?_
  refine ss_if ?_ ?_ ?_
  refine PW.pt (sw_and ?_ ?_)
  refine s_eq b (by first | exact nobehind _ (by decide) (by decide) | rfl) ?_ ?_
  exact vP 4
  refine oP (by intro _ z; cases z) ?_
  refine se_tup ?_
  refine sd_cons ?_ ?_
  exact se_str
  refine sd_cons ?_ ?_
  exact se_int
  exact sd_nil
  refine sw_and1 ?_
  refine t_of b (by intro _; rfl) ?_
  refine r_call b rfl rfl rfl rfl rfl ?_
  refine sps_cons ?_ ?_
  refine oP (by intro _ z; cases z) ?_
  refine r_idx b (by intro _ _; rfl) ?_ ?_
  exact vP 0
  refine oP (by intro _ z; cases z) ?_
  exact se_int
  exact sps_nil
  refine sss_cons ?_ ?_
  refine ss_ret ?_
  refine se_tup ?_
  refine sd_cons ?_ ?_
  exact se_str
  refine sd_cons ?_ ?_
  refine r_idx b (by intro _ _; rfl) ?_ ?_
  exact vP 0
  refine oP (by intro _ z; cases z) ?_
  exact se_int
  refine sd_cons ?_ ?_
  refine r_call b rfl rfl rfl rfl rfl ?_
  refine sps_cons ?_ ?_
  refine oP (by intro _ z; cases z) ?_
  refine r_idx b (by intro _ _; rfl) ?_ ?_
  exact vP 0
  refine oP (by intro _ z; cases z) ?_
  exact se_int
  refine sps_cons ?_ ?_
  refine oP (by intro _ z; cases z) ?_
  refine se_bin op_add3 ok_add ?_ ?_
  exact vP 1
  refine oP (by intro _ z; cases z) ?_
  exact se_int
  refine sps_cons ?_ ?_
  refine oP (by intro _ z; cases z) ?_
  exact se_bl
  refine sps_cons ?_ ?_
  exact vP 3
  exact sps_nil
  exact sd_nil
  exact sss_nil
  exact sss_nil
  refine sss_cons ?_ ?_
  refine ss_if ?_ ?_ ?_
  refine PW.pt (sw_and ?_ ?_)
  refine s_eq b (by first | exact nobehind _ (by decide) (by decide) | rfl) ?_ ?_
  exact vP 4
  refine oP (by intro _ z; cases z) ?_
  refine se_tup ?_
  refine sd_cons ?_ ?_
  exact se_str
  refine sd_cons ?_ ?_
  exact se_int
  exact sd_nil
  refine sw_and1 ?_
  refine t_of b (by intro _; rfl) ?_
  refine r_call b rfl rfl rfl rfl rfl ?_
  refine sps_cons ?_ ?_
  refine oP (by intro _ z; cases z) ?_
  refine r_idx b (by intro _ _; rfl) ?_ ?_
  exact vP 0
  refine oP (by intro _ z; cases z) ?_
  exact se_int
  exact sps_nil
  refine sss_cons ?_ ?_
  refine ss_set b.nd rfl (by first | exact Or.inl rfl | exact Or.inr rfl) ?_
  refine r_call b rfl rfl rfl rfl rfl ?_
  refine sps_cons ?_ ?_
  refine oP (by intro _ z; cases z) ?_
  refine r_idx b (by intro _ _; rfl) ?_ ?_
  exact vP 0
  refine oP (by intro _ z; cases z) ?_
  exact se_int
  refine sps_cons ?_ ?_
  refine oP (by intro _ z; cases z) ?_
  refine se_bin op_add3 ok_add ?_ ?_
  exact vP 1
  refine oP (by intro _ z; cases z) ?_
  exact se_int
  refine sps_cons ?_ ?_
  exact vP 2
  refine sps_cons ?_ ?_
  exact vP 3
  exact sps_nil
  refine sss_cons ?_ ?_
  refine ss_ret ?_
  refine se_tup ?_
  refine sd_cons ?_ ?_
  exact se_str
  refine sd_cons ?_ ?_
  refine r_idx b (by intro _ _; rfl) ?_ ?_
  exact vP 0
  refine oP (by intro _ z; cases z) ?_
  exact se_int
  refine sd_cons ?_ ?_
  exact vE 5
  refine sd_cons ?_ ?_
  refine r_call b rfl rfl rfl rfl rfl ?_
  refine sps_cons ?_ ?_
  refine oP (by intro _ z; cases z) ?_
  refine r_idx b (by intro _ _; rfl) ?_ ?_
  exact vP 0
  refine oP (by intro _ z; cases z) ?_
  exact se_int
  refine sps_cons ?_ ?_
  refine oP (by intro _ z; cases z) ?_
  refine se_bin op_add3 ok_add ?_ ?_
  exact vP 1
  refine oP (by intro _ z; cases z) ?_
  exact se_int
  refine sps_cons ?_ ?_
  exact vP 2
  refine sps_cons ?_ ?_
  exact vP 3
  exact sps_nil
  exact sd_nil
  exact sss_nil
  exact sss_nil
  refine sss_cons ?_ ?_
  refine ss_raise rfl tk_cx ?_
  exact r_exc b 1 rfl rfl rfl
  exact sss_nil
theorem h_read_page_items (b : Bd G cl ini (T G) k E (cxOf (L2.CX P w) P w K mg base N_read_page_items "read_page_items" (fnScope s_read_page_items) fa cd A outer s H E)) : PSs (cxOf (L2.CX P w) P w K mg base N_read_page_items "read_page_items" (fnScope s_read_page_items) fa cd A outer s H E) (fnBody s_read_page_items) (tS G pin cl ini E (execs cl ini pin b_read_page_items)) := by
  refine sss_cons ?_ ?_
  refine ss_set b.nd rfl (by first | exact Or.inl rfl | exact Or.inr rfl) ?_
  refine se_lst ?_
  exact sd_nil
  refine sss_cons ?_ ?_
  refine ss_set b.nd rfl (by first | exact Or.inl rfl | exact Or.inr rfl) ?_
  refine r_call b rfl rfl rfl rfl rfl ?_
  refine sps_cons ?_ ?_
  exact vP 0
  refine sps_cons ?_ ?_
  refine oP (by intro _ z; cases z) ?_
  exact se_int
  refine sps_cons ?_ ?_
  refine oP (by intro _ z; cases z) ?_
  exact se_bl
  refine sps_cons ?_ ?_
  exact vP 1
  exact sps_nil
  refine sss_cons ?_ ?_
  first | refine s_lc b rfl rfl rfl rfl rfl (by intro _; rfl) ?_ (fun s H C c fp W _ g1 => ?_) (fun s H C c fp W b1 => ?_) (fun s H C c fp W b1 => ?_) | (refine ss_set b.nd rfl (by first | exact Or.inl rfl | exact Or.inr rfl) ?_; refine r_lc b rfl rfl (by intro _; rfl) ?_ (fun s H C c fp W _ g1 => ?_) (fun s H C c fp W b1 => ?_) (fun s H C c fp W b1 => ?_))
  refine q_list b ?_
  exact vE 1
  exact tg_one g1.nd rfl (by first | exact Or.inl rfl | exact Or.inr rfl) (by first | exact .inr rfl | exact .inl rfl)
  refine sts_one ?_
  refine s_eq b1 (by first | exact nobehind _ (by decide) (by decide) | rfl) ?_ ?_
  refine oP (by intro _ z; cases z) ?_
  refine r_idx b1 (by intro _ _; rfl) ?_ ?_
  exact vP 4
  refine oP (by intro _ z; cases z) ?_
  exact se_int
  refine oP (by intro _ z; cases z) ?_
  exact se_str
  refine r_idx b1 (by intro _ _; rfl) ?_ ?_
  exact vP 4
  refine oP (by intro _ z; cases z) ?_
  exact se_int
  refine sss_cons ?_ ?_
  refine ss_if ?_ ?_ ?_
  refine st_cmp op_lt ok_lt rfl (by first | exact nobehind _ (by decide) (by decide) | rfl) ?_ ?_
  refine oP (by intro _ z; cases z) ?_
  refine r_nset b rfl rfl rfl ?_
  exact vP 3
  refine oP (by intro _ z; cases z) ?_
  refine r_len b rfl rfl rfl ?_
  exact vP 3
  refine sss_cons ?_ ?_
  refine ss_raise rfl tk_cx ?_
  exact r_exc b 1 rfl rfl rfl
  exact sss_nil
  exact sss_nil
  refine sss_cons ?_ ?_
  refine ss_ret ?_
  exact vE 2
  exact sss_nil
theorem h_copied_items (b : Bd G cl ini (T G) k E (cxOf (L2.CX P w) P w K mg base N_copied_items "copied_items" (fnScope s_copied_items) fa cd A outer s H E)) : PSs (cxOf (L2.CX P w) P w K mg base N_copied_items "copied_items" (fnScope s_copied_items) fa cd A outer s H E) (fnBody s_copied_items) (tS G pin cl ini E (execs cl ini pin b_copied_items)) := by
  refine sss_cons ?_ ?_
  refine ss_set b.nd rfl (by first | exact Or.inl rfl | exact Or.inr rfl) ?_
  refine se_lst ?_
  exact sd_nil
  refine sss_cons ?_ ?_
  refine ss_for po_cx rfl ?_ ?_ ?_
  refine q_list b ?_
  exact vE 0
  exact tg_one b.good.nd rfl (by first | exact Or.inl rfl | exact Or.inr rfl) (by first | exact .inr rfl | exact .inl rfl)
  refine sss_cons ?_ ?_
  refine ss_if ?_ ?_ ?_
  refine s_eq b (by first | exact nobehind _ (by decide) (by decide) | rfl) ?_ ?_
  refine oP (by intro _ z; cases z) ?_
  refine r_idx b (by intro _ _; rfl) ?_ ?_
  exact vP 2
  refine oP (by intro _ z; cases z) ?_
  exact se_int
  refine oP (by intro _ z; cases z) ?_
  exact se_str
  refine sss_cons ?_ ?_
  refine ss_app b.hK (vV 1) ?_
  refine se_tup ?_
  refine sd_cons ?_ ?_
  exact se_str
  refine sd_cons ?_ ?_
  refine r_idx b (by intro _ _; rfl) ?_ ?_
  exact vP 2
  refine oP (by intro _ z; cases z) ?_
  exact se_int
  refine sd_cons ?_ ?_
  refine r_call b rfl rfl rfl rfl rfl ?_
  refine sps_cons ?_ ?_
  refine oP (by intro _ z; cases z) ?_
  refine r_idx b (by intro _ _; rfl) ?_ ?_
  exact vP 2
  refine oP (by intro _ z; cases z) ?_
  exact se_int
  exact sps_nil
  exact sd_nil
  exact sss_nil
  refine sss_cons ?_ ?_
  refine ss_if ?_ ?_ ?_
  refine s_eq b (by first | exact nobehind _ (by decide) (by decide) | rfl) ?_ ?_
  refine oP (by intro _ z; cases z) ?_
  refine r_idx b (by intro _ _; rfl) ?_ ?_
  exact vP 2
  refine oP (by intro _ z; cases z) ?_
  exact se_int
  refine oP (by intro _ z; cases z) ?_
  exact se_str
  refine sss_cons ?_ ?_
  refine ss_app b.hK (vV 1) ?_
  refine se_tup ?_
  refine sd_cons ?_ ?_
  exact se_str
  refine sd_cons ?_ ?_
  refine r_idx b (by intro _ _; rfl) ?_ ?_
  exact vP 2
  refine oP (by intro _ z; cases z) ?_
  exact se_int
  refine sd_cons ?_ ?_
  refine r_call b rfl rfl rfl rfl rfl ?_
  refine sps_cons ?_ ?_
  refine oP (by intro _ z; cases z) ?_
  refine r_idx b (by intro _ _; rfl) ?_ ?_
  exact vP 2
  refine oP (by intro _ z; cases z) ?_
  exact se_int
  exact sps_nil
  refine sd_cons ?_ ?_
  refine r_call b rfl rfl rfl rfl rfl ?_
  refine sps_cons ?_ ?_
  refine oP (by intro _ z; cases z) ?_
  refine r_idx b (by intro _ _; rfl) ?_ ?_
  exact vP 2
  refine oP (by intro _ z; cases z) ?_
  exact se_int
  exact sps_nil
  exact sd_nil
  exact sss_nil
  refine sss_cons ?_ ?_
  refine ss_app b.hK (vV 1) ?_
  exact vE 2
  exact sss_nil
  exact sss_nil
  exact sss_nil
  refine sss_cons ?_ ?_
  refine ss_ret ?_
  exact vE 1
  exact sss_nil
theorem h_check_line (b : Bd G cl ini (T G) k E (cxOf (L2.CX P w) P w K mg base N_check_line "check_line" (fnScope s_check_line) fa cd A outer s H E)) : PSs (cxOf (L2.CX P w) P w K mg base N_check_line "check_line" (fnScope s_check_line) fa cd A outer s H E) (fnBody s_check_line) (tS G pin cl ini E (execs cl ini pin b_check_line)) := by
  refine sss_cons ?_ ?_
  refine ss_set b.nd rfl (by first | exact Or.inl rfl | exact Or.inr rfl) ?_
  refine se_lst ?_
  exact sd_nil
  refine sss_cons ?_ ?_
  refine ss_while po_cx ?_ ?_
  refine st_isN op_notN ok_notN rfl rfl ?_
  exact vP 1
  refine sss_cons ?_ ?_
  refine ss_if ?_ ?_ ?_
  refine s_dnhas b rfl ?_ ?_
  exact vP 1
  exact vP 0
  refine sss_cons ?_ ?_
  refine ss_raise rfl tk_cx ?_
  exact r_exc b 2 rfl rfl rfl
  exact sss_nil
  exact sss_nil
  refine sss_cons ?_ ?_
  refine ss_if ?_ ?_ ?_
  refine s_in b rfl ?_ ?_
  exact vP 1
  exact vP 2
  refine sss_cons ?_ ?_
  refine ss_raise rfl tk_cx ?_
  exact r_exc b 2 rfl rfl rfl
  exact sss_nil
  exact sss_nil
  refine sss_cons ?_ ?_
  refine ss_app b.hK (vV 2) ?_
  exact vE 1
  refine sss_cons ?_ ?_
  refine ss_set b.nd rfl (by first | exact Or.inl rfl | exact Or.inr rfl) ?_
  refine r_dget b (by intro _ _; rfl) ?_ ?_
  exact vP 0
  exact vP 1
  exact sss_nil
  exact sss_nil
theorem h_check_pages (b : Bd G cl ini (T G) k E (cxOf (L2.CX P w) P w K mg base N_check_pages "check_pages" (fnScope s_check_pages) fa cd A outer s H E)) : PSs (cxOf (L2.CX P w) P w K mg base N_check_pages "check_pages" (fnScope s_check_pages) fa cd A outer s H E) (fnBody s_check_pages) (tS G pin cl ini E (execs cl ini pin b_check_pages)) := by
  refine sss_cons ?_ ?_
  refine ss_if ?_ ?_ ?_
  refine PW.pt (sw_or ?_ ?_)
  refine st_not ?_
  refine t_of b (by intro _; rfl) ?_
  refine r_isi b (fun _ z => nomatch z) rfl rfl rfl rfl ?_ ?_
  exact vP 0
  exact c_ty b (by decide) rfl rfl rfl (by decide) rfl
  refine sw_or1 ?_
  refine st_not ?_
  refine st_chain op_le2 op_le2 ok_le ok_le rfl rfl ?_ ?_ ?_
  exact se_int
  refine r_len b rfl rfl rfl ?_
  exact vP 0
  exact r_gl b 4 rfl rfl rfl
  refine sss_cons ?_ ?_
  refine ss_raise rfl tk_cx ?_
  exact r_exc b 2 rfl rfl rfl
  exact sss_nil
  exact sss_nil
  refine sss_cons ?_ ?_
  refine ss_for po_cx rfl ?_ ?_ ?_
  refine q_list b ?_
  exact vE 0
  exact tg_one b.good.nd rfl (by first | exact Or.inl rfl | exact Or.inr rfl) (by first | exact .inr rfl | exact .inl rfl)
  refine sss_cons ?_ ?_
  refine ss_if ?_ ?_ ?_
  refine st_not ?_
  refine t_of b (by intro _; rfl) ?_
  refine r_isi b (fun _ z => by cases z; exact (b.wd.cls _ _ rfl).1) rfl rfl rfl rfl ?_ ?_
  exact vP 1
  exact c_own b rfl rfl rfl
  refine sss_cons ?_ ?_
  refine ss_raise rfl tk_cx ?_
  exact r_exc b 2 rfl rfl rfl
  exact sss_nil
  exact sss_nil
  exact sss_nil
  refine sss_cons ?_ ?_
  first | refine s_dc b rfl rfl rfl rfl rfl (by intro _; rfl) ?_ (fun s H C c fp _ g1 => ?_) (fun s H C c fp b1 => ?_) (fun s H C c fp b1 => ?_) | (refine ss_set b.nd rfl (by first | exact Or.inl rfl | exact Or.inr rfl) ?_; refine r_dc b rfl rfl (by intro _; rfl) ?_ (fun s H C c fp _ g1 => ?_) (fun s H C c fp b1 => ?_) (fun s H C c fp b1 => ?_))
  refine q_list b ?_
  exact vE 0
  exact tg_one g1.nd rfl (by first | exact Or.inl rfl | exact Or.inr rfl) (by first | exact .inr rfl | exact .inl rfl)
  refine r_attr b1 rfl rfl ?_
  exact vP 1
  refine r_attr b1 rfl rfl ?_
  exact vP 1
  refine sss_cons ?_ ?_
  refine ss_if ?_ ?_ ?_
  refine st_cmp op_lt ok_lt rfl (by first | exact nobehind _ (by decide) (by decide) | rfl) ?_ ?_
  refine oP (by intro _ z; cases z) ?_
  refine r_len b rfl rfl rfl ?_
  exact vP 2
  refine oP (by intro _ z; cases z) ?_
  refine r_len b rfl rfl rfl ?_
  exact vP 0
  refine sss_cons ?_ ?_
  refine ss_raise rfl tk_cx ?_
  exact r_exc b 2 rfl rfl rfl
  exact sss_nil
  exact sss_nil
  refine sss_cons ?_ ?_
  refine ss_for po_cx rfl ?_ ?_ ?_
  refine q_keys b ?_
  exact vE 2
  exact tg_one b.good.nd rfl (by first | exact Or.inl rfl | exact Or.inr rfl) (by first | exact .inr rfl | exact .inl rfl)
  refine sss_cons ?_ ?_
  refine ss_exp ?_
  refine r_call b rfl rfl rfl rfl rfl ?_
  refine sps_cons ?_ ?_
  exact vP 2
  refine sps_cons ?_ ?_
  exact vP 3
  exact sps_nil
  exact sss_nil
  exact sss_nil
def b__law_cell_at : Ss := (.cons (.ife (.prim .lt (.cons (.var 1) (.cons (.prim .len (.cons (.var 0) .nil)) .nil))) (.cons (.rt false (.prim .idx (.cons (.var 0) (.cons (.var 1) .nil)))) .nil) .nil) (.cons (.rt false (.cst (.int 0))) .nil))
theorem h__law_cell_at (b : Bd G cl ini (T G) k E (cxOf (L2.CX P w) P w K mg base N__law_cell_at "_law_cell_at" (fnScope s__law_cell_at) fa cd A outer s H E)) : PSs (cxOf (L2.CX P w) P w K mg base N__law_cell_at "_law_cell_at" (fnScope s__law_cell_at) fa cd A outer s H E) (fnBody s__law_cell_at) (tS G pin cl ini E (execs cl ini pin b__law_cell_at)) := by
  refine sss_cons ?_ ?_
  refine ss_if ?_ ?_ ?_
  refine st_cmp op_lt ok_lt rfl (by first | exact nobehind _ (by decide) (by decide) | rfl) ?_ ?_
  exact vP 1
  refine oP (by intro _ z; cases z) ?_
  refine r_len b rfl rfl rfl ?_
  exact vP 0
  refine sss_cons ?_ ?_
  refine ss_ret ?_
  refine r_idx b (by intro _ _; rfl) ?_ ?_
  exact vP 0
  exact vP 1
  exact sss_nil
  exact sss_nil
  refine sss_cons ?_ ?_
  refine ss_ret ?_
  exact se_int
  exact sss_nil
def b__law_refused : Ss := (.cons (.asg (.one 3) (.lst .nil)) (.cons (.tr none (.callv 0 (.cons (.var 1) .nil)) 4 (fun x => exm x 100) (hKinds 3 kd)) (.cons (.rt false (.prim .eq (.cons (.var 3) (.cons (.prim .add (.cons (.lc (.prim .eq (.cons (.var 5) (.cons (.var 2) .nil))) (.one 5) (.range1 (.cst (.int 8))) .nil) (.cons (.lst (.cons (.cst (.bl true)) .nil)) .nil))) .nil)))) .nil)))
theorem h__law_refused (b : Bd G cl ini (T G) k E (cxOf (L2.CX P w) P w K mg base N__law_refused "_law_refused" (fnScope s__law_refused) fa cd A outer s H E)) : PSs (cxOf (L2.CX P w) P w K mg base N__law_refused "_law_refused" (fnScope s__law_refused) fa cd A outer s H E) (fnBody s__law_refused) (tS G pin cl ini E (execs cl ini pin b__law_refused)) := by
  refine sss_cons ?_ ?_
  refine ss_set b.nd rfl (by first | exact Or.inl rfl | exact Or.inr rfl) ?_
  refine se_lst ?_
  exact sd_nil
  refine sss_cons ?_ ?_
  refine s_try_kinds b rfl rfl rfl rfl 0 rfl rfl rfl (by decide) rfl tk_cx (by decide) rfl (Or.inl rfl) rfl rfl rfl (by decide) (by decide) rfl rfl rfl (fun _ _ => rfl) (fun W pn xe tk => ?_)
  refine se_callv b.wd.lam b.room (passW tk) rfl (by first | exact Or.inl rfl | exact Or.inr (Or.inl rfl)) ?_
  refine sps_cons ?_ ?_
  exact vP 1
  exact sps_nil
  refine sss_cons ?_ ?_
  refine ss_ret ?_
  refine r_eq b (by first | exact nobehind _ (by decide) (by decide) | rfl) ?_ ?_
  exact vP 3
  refine oP (by intro _ z; cases z) ?_
  refine se_bin op_add3 ok_add ?_ ?_
  refine oP (by intro _ z; cases z) ?_
  refine r_lc b rfl rfl (by intro _; rfl) ?_ (fun s H C c fp W _ g1 => ?_) (fun s H C c fp W b1 => ?_) (fun s H C c fp W b1 => ?_)
  refine q_range1 b rfl rfl ?_
  exact se_int
  exact tg_one g1.nd rfl (by first | exact Or.inl rfl | exact Or.inr rfl) (by first | exact .inr rfl | exact .inl rfl)
  exact sts_nil
  refine r_eq b1 (by first | exact nobehind _ (by decide) (by decide) | rfl) ?_ ?_
  exact vP 5
  exact vP 2
  refine oP (by intro _ z; cases z) ?_
  refine se_lst ?_
  refine sd_cons ?_ ?_
  exact se_bl
  exact sd_nil
  exact sss_nil
def b__law_all : Ss := (.cons (.fo (.one 3) (.seq .l (.var 0)) (.cons (.ife (.not_ (.prim .all (.cons (.lc (.call 52 (.cons (.var 3) (.cons (.var 4) (.cons (.var 2) .nil)))) (.one 4) (.seq .l (.var 1)) .nil) .nil))) (.cons (.rt false (.cst (.bl false))) .nil) .nil) .nil)) (.cons (.rt false (.cst (.bl true))) .nil))
theorem h__law_all (b : Bd G cl ini (T G) k E (cxOf (L2.CX P w) P w K mg base N__law_all "_law_all" (fnScope s__law_all) fa cd A outer s H E)) : PSs (cxOf (L2.CX P w) P w K mg base N__law_all "_law_all" (fnScope s__law_all) fa cd A outer s H E) (fnBody s__law_all) (tS G pin cl ini E (execs cl ini pin b__law_all)) := by
  refine sss_cons ?_ ?_
  refine ss_for po_cx rfl ?_ ?_ ?_
  refine q_list b ?_
  exact vE 0
  exact tg_one b.good.nd rfl (by first | exact Or.inl rfl | exact Or.inr rfl) (by first | exact .inr rfl | exact .inl rfl)
  refine sss_cons ?_ ?_
  refine ss_if ?_ ?_ ?_
  refine st_not ?_
  refine t_of b (by intro _; rfl) ?_
  refine r_all b rfl rfl rfl ?_
  refine oP (by intro _ z; cases z) ?_
  refine r_lc b rfl rfl (by intro _; rfl) ?_ (fun s H C c fp W _ g1 => ?_) (fun s H C c fp W b1 => ?_) (fun s H C c fp W b1 => ?_)
  refine q_list b ?_
  exact vE 1
  exact tg_one g1.nd rfl (by first | exact Or.inl rfl | exact Or.inr rfl) (by first | exact .inr rfl | exact .inl rfl)
  exact sts_nil
  refine r_call b1 rfl rfl rfl rfl rfl ?_
  refine sps_cons ?_ ?_
  exact vP 3
  refine sps_cons ?_ ?_
  exact vP 4
  refine sps_cons ?_ ?_
  exact vP 2
  exact sps_nil
  refine sss_cons ?_ ?_
  refine ss_ret ?_
  exact se_bl
  exact sss_nil
  exact sss_nil
  exact sss_nil
  refine sss_cons ?_ ?_
  refine ss_ret ?_
  exact se_bl
  exact sss_nil
def b__law_no_items : Ss := (.cons (.asg (.one 1) (.lst (.cons (.tup (.cons (.cst (.str "text")) (.cons (.cst (.str "a")) .nil))) .nil))) (.cons (.asg (.one 2) (.lst (.cons (.cst .non) (.cons (.cst (.int 5)) (.cons (.cst (.str "text")) (.cons (.tup .nil) (.cons (.lst (.cons (.cst (.str "text")) (.cons (.cst (.str "a")) .nil))) (.cons (.tup (.cons (.cst (.str "text")) .nil)) (.cons (.tup (.cons (.cst (.str "text")) (.cons (.cst (.str "a")) (.cons (.cst (.str "b")) .nil)))) (.cons (.tup (.cons (.cst (.str "text")) (.cons (.cst (.int 5)) .nil))) .nil)))))))))) (.cons (.asg (.one 2) (.prim .add (.cons (.var 2) (.cons (.lst (.cons (.tup (.cons (.cst (.str "text")) (.cons (.cst (.str "\t")) .nil))) (.cons (.tup (.cons (.cst (.str "text")) (.cons (.cst .non) .nil))) .nil))) .nil)))) (.cons (.asg (.one 2) (.prim .add (.cons (.var 2) (.cons (.lst (.cons (.tup (.cons (.cst (.str "text")) (.cons (.prim .mul (.cons (.cst (.str "a")) (.cons (.cst (.int 61)) .nil))) .nil))) (.cons (.tup (.cons (.cst (.str "text")) (.cons (.prim .mul (.cons (.cst (.str "a")) (.cons (.prim .add (.cons (.cst (.int 61)) (.cons (.prim .mod (.cons (.var 0) (.cons (.cst (.int 99)) .nil))) .nil))) .nil))) .nil))) (.cons (.tup (.cons (.cst (.str "text")) (.cons (.lst (.cons (.cst (.str "a")) .nil)) .nil))) (.cons (.tup (.cons (.cst (.str "name")) .nil)) (.cons (.tup (.cons (.cst (.str "name")) (.cons (.cst (.str "A")) .nil))) .nil)))))) .nil)))) (.cons (.asg (.one 2) (.prim .add (.cons (.var 2) (.cons (.lst (.cons (.tup (.cons (.cst (.str "name")) (.cons (.cst (.str "")) .nil))) (.cons (.tup (.cons (.cst (.str "name")) (.cons (.cst (.str "abcdefghi")) .nil))) (.cons (.tup (.cons (.cst (.str "name")) (.cons (.cst (.int 5)) .nil))) (.cons (.tup (.cons (.cst (.str "name")) (.cons (.cst (.str "a")) (.cons (.cst (.str "b")) .nil)))) .nil))))) .nil)))) (.cons (.asg (.one 2) (.prim .add (.cons (.var 2) (.cons (.lst (.cons (.tup (.cons (.cst (.str "elder")) .nil)) (.cons (.tup (.cons (.cst (.str "elder")) (.cons (.cst (.str "a")) .nil))) .nil))) .nil)))) (.cons (.asg (.one 2) (.prim .add (.cons (.var 2) (.cons (.lst (.cons (.tup (.cons (.cst (.str "block")) (.cons (.cst (.str "a")) .nil))) (.cons (.tup (.cons (.cst (.str "block")) (.cons (.cst (.str "A")) (.cons (.var 1) .nil)))) (.cons (.tup (.cons (.cst (.str "block")) (.cons (.cst (.str "a")) (.cons (.var 1) (.cons (.var 1) .nil))))) .nil)))) .nil)))) (.cons (.asg (.one 2) (.prim .add (.cons (.var 2) (.cons (.lst (.cons (.tup (.cons (.cst (.str "block")) (.cons (.cst (.str "a")) (.cons (.cst .non) .nil)))) (.cons (.tup (.cons (.cst (.str "block")) (.cons (.cst (.str "a")) (.cons (.tup (.cons (.cst (.str "x")) .nil)) .nil)))) .nil))) .nil)))) (.cons (.asg (.one 2) (.prim .add (.cons (.var 2) (.cons (.lst (.cons (.tup (.cons (.cst (.str "block")) (.cons (.cst (.str "a")) (.cons (.cst (.str "text")) .nil)))) (.cons (.tup (.cons (.cst (.str "block")) (.cons (.cst (.str "a")) (.cons (.lst (.cons (.cst .non) .nil)) .nil)))) (.cons (.tup (.cons (.cst (.str "block")) (.cons (.cst (.str "a")) (.cons (.lst (.cons (.tup (.cons (.cst (.str "text")) (.cons (.cst (.int 5)) .nil))) .nil)) .nil)))) .nil)))) .nil)))) (.cons (.asg (.one 2) (.prim .add (.cons (.var 2) (.cons (.lst (.cons (.tup (.cons (.cst (.str "choice")) (.cons (.cst (.str "x")) (.cons (.var 1) .nil)))) .nil)) .nil)))) (.cons (.asg (.one 2) (.prim .add (.cons (.var 2) (.cons (.lst (.cons (.tup (.cons (.cst (.str "choice")) (.cons (.cst (.str "X")) (.cons (.var 1) (.cons (.var 1) .nil))))) (.cons (.tup (.cons (.cst (.str "choice")) (.cons (.cst (.str "x")) (.cons (.var 1) (.cons (.cst .non) .nil))))) .nil))) .nil)))) (.cons (.asg (.one 2) (.prim .add (.cons (.var 2) (.cons (.lst (.cons (.tup (.cons (.cst (.str "choice")) (.cons (.cst (.str "x")) (.cons (.var 1) (.cons (.var 1) (.cons (.var 1) .nil)))))) (.cons (.tup (.cons (.cst (.str "Text")) (.cons (.cst (.str "a")) .nil))) .nil))) .nil)))) (.cons (.asg (.one 2) (.prim .add (.cons (.var 2) (.cons (.lst (.cons (.tup (.cons (.cst (.str "choice")) (.cons (.cst (.str "x")) (.cons (.tup .nil) (.cons (.var 1) .nil))))) (.cons (.tup (.cons (.cst (.str "choice")) (.cons (.cst (.str "x")) (.cons (.lst (.cons (.tup (.cons (.cst (.str "elder")) .nil)) .nil)) (.cons (.lst .nil) .nil))))) (.cons (.tup (.cons (.cst (.str "page")) (.cons (.cst (.str "a")) .nil))) .nil)))) .nil)))) (.cons (.asg (.one 2) (.prim .add (.cons (.var 2) (.cons (.lst (.cons (.tup (.cons (.cst .non) (.cons (.cst (.str "a")) .nil))) (.cons (.tup (.cons (.cst (.str "items")) (.cons (.var 1) .nil))) .nil))) .nil)))) (.cons (.rt false (.prim .add (.cons (.var 2) (.cons (.lst (.cons (.tup (.cons (.cst (.str "block")) (.cons (.cst (.str "a")) (.cons (.lst (.cons (.tup (.cons (.cst (.str "block")) (.cons (.cst (.str "a")) (.cons (.lst .nil) .nil)))) .nil)) .nil)))) (.cons (.tup (.cons (.cst (.str "block")) (.cons (.cst (.str "a")) (.cons (.lst (.cons (.tup (.cons (.cst (.str "choice")) (.cons (.cst (.str "x")) (.cons (.lst .nil) (.cons (.lst (.cons (.tup (.cons (.cst (.str "elder")) (.cons (.cst (.int 1)) .nil))) .nil)) .nil))))) .nil)) .nil)))) .nil))) .nil)))) .nil)))))))))))))))
theorem h__law_no_items (b : Bd G cl ini (T G) k E (cxOf (L2.CX P w) P w K mg base N__law_no_items "_law_no_items" (fnScope s__law_no_items) fa cd A outer s H E)) : PSs (cxOf (L2.CX P w) P w K mg base N__law_no_items "_law_no_items" (fnScope s__law_no_items) fa cd A outer s H E) (fnBody s__law_no_items) (tS G pin cl ini E (execs cl ini pin b__law_no_items)) := by
  refine sss_cons ?_ ?_
  refine ss_set b.nd rfl (by first | exact Or.inl rfl | exact Or.inr rfl) ?_
  refine se_lst ?_
  refine sd_cons ?_ ?_
  refine se_tup ?_
  refine sd_cons ?_ ?_
  exact se_str
  refine sd_cons ?_ ?_
  exact se_str
  exact sd_nil
  exact sd_nil
  refine sss_cons ?_ ?_
  refine ss_set b.nd rfl (by first | exact Or.inl rfl | exact Or.inr rfl) ?_
  refine se_lst ?_
  refine sd_cons ?_ ?_
  exact se_non
  refine sd_cons ?_ ?_
  exact se_int
  refine sd_cons ?_ ?_
  exact se_str
  refine sd_cons ?_ ?_
  refine se_tup ?_
  exact sd_nil
  refine sd_cons ?_ ?_
  refine se_lst ?_
  refine sd_cons ?_ ?_
  exact se_str
  refine sd_cons ?_ ?_
  exact se_str
  exact sd_nil
  refine sd_cons ?_ ?_
  refine se_tup ?_
  refine sd_cons ?_ ?_
  exact se_str
  exact sd_nil
  refine sd_cons ?_ ?_
  refine se_tup ?_
  refine sd_cons ?_ ?_
  exact se_str
  refine sd_cons ?_ ?_
  exact se_str
  refine sd_cons ?_ ?_
  exact se_str
  exact sd_nil
  refine sd_cons ?_ ?_
  refine se_tup ?_
  refine sd_cons ?_ ?_
  exact se_str
  refine sd_cons ?_ ?_
  exact se_int
  exact sd_nil
  exact sd_nil
  refine sss_cons ?_ ?_
  refine ss_set b.nd rfl (by first | exact Or.inl rfl | exact Or.inr rfl) ?_
  refine se_bin op_add3 ok_add ?_ ?_
  exact vP 2
  refine oP (by intro _ z; cases z) ?_
  refine se_lst ?_
  refine sd_cons ?_ ?_
  refine se_tup ?_
  refine sd_cons ?_ ?_
  exact se_str
  refine sd_cons ?_ ?_
  exact se_str
  exact sd_nil
  refine sd_cons ?_ ?_
  refine se_tup ?_
  refine sd_cons ?_ ?_
  exact se_str
  refine sd_cons ?_ ?_
  exact se_non
  exact sd_nil
  exact sd_nil
  refine sss_cons ?_ ?_
  refine ss_set b.nd rfl (by first | exact Or.inl rfl | exact Or.inr rfl) ?_
  refine se_bin op_add3 ok_add ?_ ?_
  exact vP 2
  refine oP (by intro _ z; cases z) ?_
  refine se_lst ?_
  refine sd_cons ?_ ?_
  refine se_tup ?_
  refine sd_cons ?_ ?_
  exact se_str
  refine sd_cons ?_ ?_
  refine se_bin op_mul3 ok_mul ?_ ?_
  refine oP (by intro _ z; cases z) ?_
  exact se_str
  refine oP (by intro _ z; cases z) ?_
  exact se_int
  exact sd_nil
  refine sd_cons ?_ ?_
  refine se_tup ?_
  refine sd_cons ?_ ?_
  exact se_str
  refine sd_cons ?_ ?_
  refine se_bin op_mul3 ok_mul ?_ ?_
  refine oP (by intro _ z; cases z) ?_
  exact se_str
  refine oP (by intro _ z; cases z) ?_
  refine se_bin op_add3 ok_add ?_ ?_
  refine oP (by intro _ z; cases z) ?_
  exact se_int
  refine oP (by intro _ z; cases z) ?_
  refine se_bin op_modN ok_mod ?_ ?_
  exact vP 0
  refine oP (by intro _ z; cases z) ?_
  exact se_int
  exact sd_nil
  refine sd_cons ?_ ?_
  refine se_tup ?_
  refine sd_cons ?_ ?_
  exact se_str
  refine sd_cons ?_ ?_
  refine se_lst ?_
  refine sd_cons ?_ ?_
  exact se_str
  exact sd_nil
  exact sd_nil
  refine sd_cons ?_ ?_
  refine se_tup ?_
  refine sd_cons ?_ ?_
  exact se_str
  exact sd_nil
  refine sd_cons ?_ ?_
  refine se_tup ?_
  refine sd_cons ?_ ?_
  exact se_str
  refine sd_cons ?_ ?_
  exact se_str
  exact sd_nil
  exact sd_nil
  refine sss_cons ?_ ?_
  refine ss_set b.nd rfl (by first | exact Or.inl rfl | exact Or.inr rfl) ?_
  refine se_bin op_add3 ok_add ?_ ?_
  exact vP 2
  refine oP (by intro _ z; cases z) ?_
  refine se_lst ?_
  refine sd_cons ?_ ?_
  refine se_tup ?_
  refine sd_cons ?_ ?_
  exact se_str
  refine sd_cons ?_ ?_
  exact se_str
  exact sd_nil
  refine sd_cons ?_ ?_
  refine se_tup ?_
  refine sd_cons ?_ ?_
  exact se_str
  refine sd_cons ?_ ?_
  exact se_str
  exact sd_nil
  refine sd_cons ?_ ?_
  refine se_tup ?_
  refine sd_cons ?_ ?_
  exact se_str
  refine sd_cons ?_ ?_
  exact se_int
  exact sd_nil
  refine sd_cons ?_ ?_
  refine se_tup ?_
  refine sd_cons ?_ ?_
  exact se_str
  refine sd_cons ?_ ?_
  exact se_str
  refine sd_cons ?_ ?_
  exact se_str
  exact sd_nil
  exact sd_nil
  refine sss_cons ?_ ?_
  refine ss_set b.nd rfl (by first | exact Or.inl rfl | exact Or.inr rfl) ?_
  refine se_bin op_add3 ok_add ?_ ?_
  exact vP 2
  refine oP (by intro _ z; cases z) ?_
  refine se_lst ?_
  refine sd_cons ?_ ?_
  refine se_tup ?_
  refine sd_cons ?_ ?_
  exact se_str
  exact sd_nil
  refine sd_cons ?_ ?_
  refine se_tup ?_
  refine sd_cons ?_ ?_
  exact se_str
  refine sd_cons ?_ ?_
  exact se_str
  exact sd_nil
  exact sd_nil
  refine sss_cons ?_ ?_
  refine ss_set b.nd rfl (by first | exact Or.inl rfl | exact Or.inr rfl) ?_
  refine se_bin op_add3 ok_add ?_ ?_
  exact vP 2
  refine oP (by intro _ z; cases z) ?_
  refine se_lst ?_
  refine sd_cons ?_ ?_
  refine se_tup ?_
  refine sd_cons ?_ ?_
  exact se_str
  refine sd_cons ?_ ?_
  exact se_str
  exact sd_nil
  refine sd_cons ?_ ?_
  refine se_tup ?_
  refine sd_cons ?_ ?_
  exact se_str
  refine sd_cons ?_ ?_
  exact se_str
  refine sd_cons ?_ ?_
  exact vE 1
  exact sd_nil
  refine sd_cons ?_ ?_
  refine se_tup ?_
  refine sd_cons ?_ ?_
  exact se_str
  refine sd_cons ?_ ?_
  exact se_str
  refine sd_cons ?_ ?_
  exact vE 1
  refine sd_cons ?_ ?_
  exact vE 1
  exact sd_nil
  exact sd_nil
  refine sss_cons ?_ ?_
  refine ss_set b.nd rfl (by first | exact Or.inl rfl | exact Or.inr rfl) ?_
  refine se_bin op_add3 ok_add ?_ ?_
  exact vP 2
  refine oP (by intro _ z; cases z) ?_
  refine se_lst ?_
  refine sd_cons ?_ ?_
  refine se_tup ?_
  refine sd_cons ?_ ?_
  exact se_str
  refine sd_cons ?_ ?_
  exact se_str
  refine sd_cons ?_ ?_
  exact se_non
  exact sd_nil
  refine sd_cons ?_ ?_
  refine se_tup ?_
  refine sd_cons ?_ ?_
  exact se_str
  refine sd_cons ?_ ?_
  exact se_str
  refine sd_cons ?_ ?_
  refine se_tup ?_
  refine sd_cons ?_ ?_
  exact se_str
  exact sd_nil
  exact sd_nil
  exact sd_nil
  refine sss_cons ?_ ?_
  refine ss_set b.nd rfl (by first | exact Or.inl rfl | exact Or.inr rfl) ?_
  refine se_bin op_add3 ok_add ?_ ?_
  exact vP 2
  refine oP (by intro _ z; cases z) ?_
  refine se_lst ?_
  refine sd_cons ?_ ?_
  refine se_tup ?_
  refine sd_cons ?_ ?_
  exact se_str
  refine sd_cons ?_ ?_
  exact se_str
  refine sd_cons ?_ ?_
  exact se_str
  exact sd_nil
  refine sd_cons ?_ ?_
  refine se_tup ?_
  refine sd_cons ?_ ?_
  exact se_str
  refine sd_cons ?_ ?_
  exact se_str
  refine sd_cons ?_ ?_
  refine se_lst ?_
  refine sd_cons ?_ ?_
  exact se_non
  exact sd_nil
  exact sd_nil
  refine sd_cons ?_ ?_
  refine se_tup ?_
  refine sd_cons ?_ ?_
  exact se_str
  refine sd_cons ?_ ?_
  exact se_str
  refine sd_cons ?_ ?_
  refine se_lst ?_
  refine sd_cons ?_ ?_
  refine se_tup ?_
  refine sd_cons ?_ ?_
  exact se_str
  refine sd_cons ?_ ?_
  exact se_int
  exact sd_nil
  exact sd_nil
  exact sd_nil
  exact sd_nil
  refine sss_cons ?_ ?_
  refine ss_set b.nd rfl (by first | exact Or.inl rfl | exact Or.inr rfl) ?_
  refine se_bin op_add3 ok_add ?_ ?_
  exact vP 2
  refine oP (by intro _ z; cases z) ?_
  refine se_lst ?_
  refine sd_cons ?_ ?_
  refine se_tup ?_
  refine sd_cons ?_ ?_
  exact se_str
  refine sd_cons ?_ ?_
  exact se_str
  refine sd_cons ?_ ?_
  exact vE 1
  exact sd_nil
  exact sd_nil
  refine sss_cons ?_ ?_
  refine ss_set b.nd rfl (by first | exact Or.inl rfl | exact Or.inr rfl) ?_
  refine se_bin op_add3 ok_add ?_ ?_
  exact vP 2
  refine oP (by intro _ z; cases z) ?_
  refine se_lst ?_
  refine sd_cons ?_ ?_
  refine se_tup ?_
  refine sd_cons ?_ ?_
  exact se_str
  refine sd_cons ?_ ?_
  exact se_str
  refine sd_cons ?_ ?_
  exact vE 1
  refine sd_cons ?_ ?_
  exact vE 1
  exact sd_nil
  refine sd_cons ?_ ?_
  refine se_tup ?_
  refine sd_cons ?_ ?_
  exact se_str
  refine sd_cons ?_ ?_
  exact se_str
  refine sd_cons ?_ ?_
  exact vE 1
  refine sd_cons ?_ ?_
  exact se_non
  exact sd_nil
  exact sd_nil
  refine sss_cons ?_ ?_
  refine ss_set b.nd rfl (by first | exact Or.inl rfl | exact Or.inr rfl) ?_
  refine se_bin op_add3 ok_add ?_ ?_
  exact vP 2
  refine oP (by intro _ z; cases z) ?_
  refine se_lst ?_
  refine sd_cons ?_ ?_
  refine se_tup ?_
  refine sd_cons ?_ ?_
  exact se_str
  refine sd_cons ?_ ?_
  exact se_str
  refine sd_cons ?_ ?_
  exact vE 1
  refine sd_cons ?_ ?_
  exact vE 1
  refine sd_cons ?_ ?_
  exact vE 1
  exact sd_nil
  refine sd_cons ?_ ?_
  refine se_tup ?_
  refine sd_cons ?_ ?_
  exact se_str
  refine sd_cons ?_ ?_
  exact se_str
  exact sd_nil
  exact sd_nil
  refine sss_cons ?_ ?_
  refine ss_set b.nd rfl (by first | exact Or.inl rfl | exact Or.inr rfl) ?_
  refine se_bin op_add3 ok_add ?_ ?_
  exact vP 2
  refine oP (by intro _ z; cases z) ?_
  refine se_lst ?_
  refine sd_cons ?_ ?_
  refine se_tup ?_
  refine sd_cons ?_ ?_
  exact se_str
  refine sd_cons ?_ ?_
  exact se_str
  refine sd_cons ?_ ?_
  refine se_tup ?_
  exact sd_nil
  refine sd_cons ?_ ?_
  exact vE 1
  exact sd_nil
  refine sd_cons ?_ ?_
  refine se_tup ?_
  refine sd_cons ?_ ?_
  exact se_str
  refine sd_cons ?_ ?_
  exact se_str
  refine sd_cons ?_ ?_
  refine se_lst ?_
  refine sd_cons ?_ ?_
  refine se_tup ?_
  refine sd_cons ?_ ?_
  exact se_str
  exact sd_nil
  exact sd_nil
  refine sd_cons ?_ ?_
  refine se_lst ?_
  exact sd_nil
  exact sd_nil
  refine sd_cons ?_ ?_
  refine se_tup ?_
  refine sd_cons ?_ ?_
  exact se_str
  refine sd_cons ?_ ?_
  exact se_str
  exact sd_nil
  exact sd_nil
  refine sss_cons ?_ ?_
  refine ss_set b.nd rfl (by first | exact Or.inl rfl | exact Or.inr rfl) ?_
  refine se_bin op_add3 ok_add ?_ ?_
  exact vP 2
  refine oP (by intro _ z; cases z) ?_
  refine se_lst ?_
  refine sd_cons ?_ ?_
  refine se_tup ?_
  refine sd_cons ?_ ?_
  exact se_non
  refine sd_cons ?_ ?_
  exact se_str
  exact sd_nil
  refine sd_cons ?_ ?_
  refine se_tup ?_
  refine sd_cons ?_ ?_
  exact se_str
  refine sd_cons ?_ ?_
  exact vE 1
  exact sd_nil
  exact sd_nil
  refine sss_cons ?_ ?_
  refine ss_ret ?_
  refine se_bin op_add3 ok_add ?_ ?_
  exact vP 2
  refine oP (by intro _ z; cases z) ?_
  refine se_lst ?_
  refine sd_cons ?_ ?_
  refine se_tup ?_
  refine sd_cons ?_ ?_
  exact se_str
  refine sd_cons ?_ ?_
  exact se_str
  refine sd_cons ?_ ?_
  refine se_lst ?_
  refine sd_cons ?_ ?_
  refine se_tup ?_
  refine sd_cons ?_ ?_
  exact se_str
  refine sd_cons ?_ ?_
  exact se_str
  refine sd_cons ?_ ?_
  refine se_lst ?_
  exact sd_nil
  exact sd_nil
  exact sd_nil
  exact sd_nil
  refine sd_cons ?_ ?_
  refine se_tup ?_
  refine sd_cons ?_ ?_
  exact se_str
  refine sd_cons ?_ ?_
  exact se_str
  refine sd_cons ?_ ?_
  refine se_lst ?_
  refine sd_cons ?_ ?_
  refine se_tup ?_
  refine sd_cons ?_ ?_
  exact se_str
  refine sd_cons ?_ ?_
  exact se_str
  refine sd_cons ?_ ?_
  refine se_lst ?_
  exact sd_nil
  refine sd_cons ?_ ?_
  refine se_lst ?_
  refine sd_cons ?_ ?_
  refine se_tup ?_
  refine sd_cons ?_ ?_
  exact se_str
  refine sd_cons ?_ ?_
  exact se_int
  exact sd_nil
  exact sd_nil
  exact sd_nil
  exact sd_nil
  exact sd_nil
  exact sd_nil
  exact sss_nil
def b__law_within : Ss := (.cons (.asg (.one 2) (.tup (.cons (.cst (.str "text")) (.cons (.cst (.str "a")) .nil)))) (.cons (.asg (.one 3) (.lst (.cons (.tup (.cons (.cst (.str "choice")) (.cons (.cst (.str "x")) (.cons (.lst (.cons (.var 2) (.cons (.var 0) .nil))) (.cons (.lst .nil) .nil))))) (.cons (.tup (.cons (.cst (.str "choice")) (.cons (.cst (.str "x")) (.cons (.lst .nil) (.cons (.lst (.cons (.var 0) (.cons (.var 2) .nil))) .nil))))) (.cons (.tup (.cons (.cst (.str "block")) (.cons (.cst (.str "b")) (.cons (.lst (.cons (.var 2) (.cons (.var 0) (.cons (.var 2) .nil)))) .nil)))) .nil))))) (.cons (.rt false (.prim .idx (.cons (.prim .add (.cons (.var 3) (.cons (.lst (.cons (.tup (.cons (.cst (.str "choice")) (.cons (.cst (.str "y")) (.cons (.lst (.cons (.tup (.cons (.cst (.str "block")) (.cons (.cst (.str "c")) (.cons (.lst (.cons (.var 0) .nil)) .nil)))) .nil)) (.cons (.lst (.cons (.var 2) .nil)) .nil))))) .nil)) .nil))) (.cons (.prim .mod (.cons (.var 1) (.cons (.cst (.int 4)) .nil))) .nil)))) .nil)))
theorem h__law_within (b : Bd G cl ini (T G) k E (cxOf (L2.CX P w) P w K mg base N__law_within "_law_within" (fnScope s__law_within) fa cd A outer s H E)) : PSs (cxOf (L2.CX P w) P w K mg base N__law_within "_law_within" (fnScope s__law_within) fa cd A outer s H E) (fnBody s__law_within) (tS G pin cl ini E (execs cl ini pin b__law_within)) := by
  refine sss_cons ?_ ?_
  refine ss_set b.nd rfl (by first | exact Or.inl rfl | exact Or.inr rfl) ?_
  refine se_tup ?_
  refine sd_cons ?_ ?_
  exact se_str
  refine sd_cons ?_ ?_
  exact se_str
  exact sd_nil
  refine sss_cons ?_ ?_
  refine ss_set b.nd rfl (by first | exact Or.inl rfl | exact Or.inr rfl) ?_
  refine se_lst ?_
  refine sd_cons ?_ ?_
  refine se_tup ?_
  refine sd_cons ?_ ?_
  exact se_str
  refine sd_cons ?_ ?_
  exact se_str
  refine sd_cons ?_ ?_
  refine se_lst ?_
  refine sd_cons ?_ ?_
  exact vE 2
  refine sd_cons ?_ ?_
  exact vE 0
  exact sd_nil
  refine sd_cons ?_ ?_
  refine se_lst ?_
  exact sd_nil
  exact sd_nil
  refine sd_cons ?_ ?_
  refine se_tup ?_
  refine sd_cons ?_ ?_
  exact se_str
  refine sd_cons ?_ ?_
  exact se_str
  refine sd_cons ?_ ?_
  refine se_lst ?_
  exact sd_nil
  refine sd_cons ?_ ?_
  refine se_lst ?_
  refine sd_cons ?_ ?_
  exact vE 0
  refine sd_cons ?_ ?_
  exact vE 2
  exact sd_nil
  exact sd_nil
  refine sd_cons ?_ ?_
  refine se_tup ?_
  refine sd_cons ?_ ?_
  exact se_str
  refine sd_cons ?_ ?_
  exact se_str
  refine sd_cons ?_ ?_
  refine se_lst ?_
  refine sd_cons ?_ ?_
  exact vE 2
  refine sd_cons ?_ ?_
  exact vE 0
  refine sd_cons ?_ ?_
  exact vE 2
  exact sd_nil
  exact sd_nil
  exact sd_nil
  refine sss_cons ?_ ?_
  refine ss_ret ?_
  refine r_idx b (by intro _ _; rfl) ?_ ?_
  refine oP (by intro _ z; cases z) ?_
  refine se_bin op_add3 ok_add ?_ ?_
  exact vP 3
  refine oP (by intro _ z; cases z) ?_
  refine se_lst ?_
  refine sd_cons ?_ ?_
  refine se_tup ?_
  refine sd_cons ?_ ?_
  exact se_str
  refine sd_cons ?_ ?_
  exact se_str
  refine sd_cons ?_ ?_
  refine se_lst ?_
  refine sd_cons ?_ ?_
  refine se_tup ?_
  refine sd_cons ?_ ?_
  exact se_str
  refine sd_cons ?_ ?_
  exact se_str
  refine sd_cons ?_ ?_
  refine se_lst ?_
  refine sd_cons ?_ ?_
  exact vE 0
  exact sd_nil
  exact sd_nil
  exact sd_nil
  refine sd_cons ?_ ?_
  refine se_lst ?_
  refine sd_cons ?_ ?_
  exact vE 2
  exact sd_nil
  exact sd_nil
  exact sd_nil
  refine oP (by intro _ z; cases z) ?_
  refine se_bin op_modN ok_mod ?_ ?_
  exact vP 1
  refine oP (by intro _ z; cases z) ?_
  exact se_int
  exact sss_nil
def b__law_pages_right : Ss := (.cons (.asg (.many [1, 2]) (.tup (.cons (.prim .mod (.cons (.var 0) (.cons (.cst (.int 30)) .nil))) (.cons (.tup (.cons (.cst (.str "text")) (.cons (.cst (.str "a")) .nil))) .nil)))) (.cons (.asg (.one 3) (.lst (.cons (.cst .non) (.cons (.cst (.int 5)) (.cons (.cst (.str "")) (.cons (.cst (.str "A")) (.cons (.cst (.str "a b")) (.cons (.cst (.str "abcdefghi")) (.cons (.cst (.str "a1")) (.cons (.lst (.cons (.cst (.str "a")) .nil)) (.cons (.tup (.cons (.cst (.str "a")) .nil)) (.cons (.cst (.bl true)) (.cons (.cst (.str "a\n")) .nil))))))))))))) (.cons (.ife (.not_ (.call 53 (.cons (.lst (.cons (.lam 0) (.cons (.lam 1) .nil))) (.cons (.prim .add (.cons (.prim (.slc true false) (.cons (.var 3) (.cons (.cst (.int 1)) .nil))) (.cons (.lst (.cons (.cst (.str "_")) .nil)) .nil))) (.cons (.cst (.int 0)) .nil))))) (.cons (.rt false (.cst (.bl false))) .nil) .nil) (.cons (.asg (.one 4) (.call 54 (.cons (.var 0) .nil))) (.cons (.asg (.one 5) (.prim .add (.cons (.lst (.cons (.cst .non) (.cons (.cst (.int 5)) (.cons (.cst (.str "text")) (.cons (.tup (.cons (.var 2) .nil)) (.cons (.dnew false) (.cons (.cst (.bl true)) (.cons (.prim .mul (.cons (.lst (.cons (.var 2) .nil)) (.cons (.cst (.int 31)) .nil))) (.cons (.prim .mul (.cons (.lst (.cons (.var 2) .nil)) (.cons (.prim .add (.cons (.cst (.int 31)) (.cons (.prim .mod (.cons (.var 0) (.cons (.cst (.int 9)) .nil))) .nil))) .nil))) .nil))))))))) (.cons (.lc (.lst (.cons (.var 6) .nil)) (.one 6) (.seq .l (.var 4)) .nil) .nil)))) (.cons (.asg (.one 5) (.prim .add (.cons (.var 5) (.cons (.lc (.prim .add (.cons (.prim .add (.cons (.prim .mul (.cons (.lst (.cons (.var 2) .nil)) (.cons (.var 1) .nil))) (.cons (.lst (.cons (.var 6) .nil)) .nil))) (.cons (.prim .mul (.cons (.lst (.cons (.var 2) .nil)) (.cons (.prim .sub (.cons (.cst (.int 29)) (.cons (.var 1) .nil))) .nil))) .nil))) (.one 6) (.seq .l (.var 4)) .nil) .nil)))) (.cons (.asg (.one 7) (.lc (.var 6) (.one 6) (.seq .l (.var 4)) (.cons (.and_ (.prim .ne (.cons (.var 6) (.cons (.tup (.cons (.cst (.str "elder")) .nil)) .nil))) (.prim .ne (.cons (.var 6) (.cons (.tup (.cons (.cst (.str "choice")) (.cons (.cst (.str "x")) (.cons (.lst (.cons (.tup (.cons (.cst (.str "elder")) .nil)) .nil)) (.cons (.lst .nil) .nil))))) .nil)))) .nil))) (.cons (.asg (.one 5) (.prim .add (.cons (.var 5) (.cons (.lc (.lst (.cons (.call 55 (.cons (.var 6) (.cons (.prim .add (.cons (.var 0) (.cons (.var 8) .nil))) .nil))) .nil)) (.many [8, 6]) (.enum (.var 7) 0) .nil) .nil)))) (.cons (.asg (.one 5) (.prim .add (.cons (.var 5) (.cons (.lst (.cons (.lst (.cons (.tup (.cons (.cst (.str "block")) (.cons (.cst (.str "a")) (.cons (.lst .nil) .nil)))) (.cons (.var 2) (.cons (.tup (.cons (.cst (.str "block")) (.cons (.cst (.str "a")) (.cons (.lst .nil) .nil)))) .nil)))) .nil)) .nil)))) (.cons (.asg (.one 5) (.prim .add (.cons (.var 5) (.cons (.lst (.cons (.lst (.cons (.tup (.cons (.cst (.str "block")) (.cons (.cst (.str "b")) (.cons (.lst .nil) .nil)))) (.cons (.tup (.cons (.cst (.str "choice")) (.cons (.cst (.str "x")) (.cons (.lst .nil) (.cons (.lst (.cons (.tup (.cons (.cst (.str "block")) (.cons (.cst (.str "b")) (.cons (.lst .nil) .nil)))) .nil)) .nil))))) .nil))) .nil)) .nil)))) (.cons (.asg (.one 9) (.lst (.cons (.var 2) .nil))) (.cons (.fo (.one 10) (.range1 (.cst (.int 6))) (.cons (.asg (.one 9) (.ite (.prim .eq (.cons (.prim .mod (.cons (.prim .add (.cons (.var 0) (.cons (.var 10) .nil))) (.cons (.cst (.int 2)) .nil))) (.cons (.cst (.int 0)) .nil))) (.lst (.cons (.tup (.cons (.cst (.str "choice")) (.cons (.cst (.str "x")) (.cons (.var 9) (.cons (.lst .nil) .nil))))) .nil)) (.lst (.cons (.tup (.cons (.cst (.str "choice")) (.cons (.cst (.str "x")) (.cons (.lst .nil) (.cons (.var 9) .nil))))) .nil)))) .nil)) (.cons (.rt false (.and_ (.call 53 (.cons (.lst (.cons (.lam 2) .nil)) (.cons (.prim .add (.cons (.var 5) (.cons (.lst (.cons (.var 9) .nil)) .nil))) (.cons (.cst (.int 0)) .nil)))) (.prim .eq (.cons (.prim .len (.cons (.meth 0 "told" 101 (.make 0 (.cons (.cst (.str "a")) (.cons (.prim .add (.cons (.prim .idx (.cons (.prim .idx (.cons (.var 9) (.cons (.cst (.int 0)) .nil))) (.cons (.cst (.int 2)) .nil))) (.cons (.prim .idx (.cons (.prim .idx (.cons (.var 9) (.cons (.cst (.int 0)) .nil))) (.cons (.cst (.int 3)) .nil))) .nil))) .nil)) [.non]) .nil) .nil)) (.cons (.cst (.int 3)) .nil))))) .nil)))))))))))))
theorem h__law_pages_right (ml : MkL G mg base cd ("_law_pages_right" ++ ".<locals>.<lambda>")) (hlf : ∀ j L, LAMS[j]? = some L → ∀ a F c, F a = some (LamO a L [] c) → F c = some (LamX.CodeO c L.q) → G.lf j a F) (b : Bd G cl ini (T G) k E (cxOf (L2.CX P w) P w K mg base N__law_pages_right "_law_pages_right" (fnScope s__law_pages_right) fa cd A outer s H E)) : PSs (cxOf (L2.CX P w) P w K mg base N__law_pages_right "_law_pages_right" (fnScope s__law_pages_right) fa cd A outer s H E) (fnBody s__law_pages_right) (tS G pin cl ini E (execs cl ini pin b__law_pages_right)) := by
  refine sss_cons ?_ ?_
  refine ss_asg ?_ ?_
  refine se_tup ?_
  refine sd_cons ?_ ?_
  refine se_bin op_modN ok_mod ?_ ?_
  exact vP 0
  refine oP (by intro _ z; cases z) ?_
  exact se_int
  refine sd_cons ?_ ?_
  refine se_tup ?_
  refine sd_cons ?_ ?_
  exact se_str
  refine sd_cons ?_ ?_
  exact se_str
  exact sd_nil
  exact sd_nil
  exact tg_many b.good.hK b.good.calm (pgs_cons (pg_name b.good.nd rfl (by first | exact Or.inl rfl | exact Or.inr rfl) (by first | exact .inr rfl | exact .inl rfl)) (pgs_cons (pg_name b.good.nd rfl (by first | exact Or.inl rfl | exact Or.inr rfl) (by first | exact .inr rfl | exact .inl rfl)) pgs_nil))
  refine sss_cons ?_ ?_
  refine ss_set b.nd rfl (by first | exact Or.inl rfl | exact Or.inr rfl) ?_
  refine se_lst ?_
  refine sd_cons ?_ ?_
  exact se_non
  refine sd_cons ?_ ?_
  exact se_int
  refine sd_cons ?_ ?_
  exact se_str
  refine sd_cons ?_ ?_
  exact se_str
  refine sd_cons ?_ ?_
  exact se_str
  refine sd_cons ?_ ?_
  exact se_str
  refine sd_cons ?_ ?_
  exact se_str
  refine sd_cons ?_ ?_
  refine se_lst ?_
  refine sd_cons ?_ ?_
  exact se_str
  exact sd_nil
  refine sd_cons ?_ ?_
  refine se_tup ?_
  refine sd_cons ?_ ?_
  exact se_str
  exact sd_nil
  refine sd_cons ?_ ?_
  exact se_bl
  refine sd_cons ?_ ?_
  exact se_str
  exact sd_nil
  refine sss_cons ?_ ?_
  refine ss_if ?_ ?_ ?_
  refine st_not ?_
  refine t_of b (by intro _; rfl) ?_
  refine r_call b rfl rfl rfl rfl rfl ?_
  refine sps_cons ?_ ?_
  refine oP (by intro _ z; cases z) ?_
  refine se_lst ?_
  refine sd_cons ?_ ?_
  exact se_lam (L := L_0) ml (hlf 0 _ rfl) rfl rfl (by decide) rfl
  refine sd_cons ?_ ?_
  exact se_lam (L := L_1) ml (hlf 1 _ rfl) rfl rfl (by decide) rfl
  exact sd_nil
  refine sps_cons ?_ ?_
  refine oP (by intro _ z; cases z) ?_
  refine se_bin op_add3 ok_add ?_ ?_
  refine oP (by intro _ z; cases z) ?_
  refine r_slL b ?_ ?_
  exact vP 3
  refine oP (by intro _ z; cases z) ?_
  exact se_int
  refine oP (by intro _ z; cases z) ?_
  refine se_lst ?_
  refine sd_cons ?_ ?_
  exact se_str
  exact sd_nil
  refine sps_cons ?_ ?_
  refine oP (by intro _ z; cases z) ?_
  exact se_int
  exact sps_nil
  refine sss_cons ?_ ?_
  refine ss_ret ?_
  exact se_bl
  exact sss_nil
  exact sss_nil
  refine sss_cons ?_ ?_
  refine ss_set b.nd rfl (by first | exact Or.inl rfl | exact Or.inr rfl) ?_
  refine r_call b rfl rfl rfl rfl rfl ?_
  refine sps_cons ?_ ?_
  exact vP 0
  exact sps_nil
  refine sss_cons ?_ ?_
  refine ss_set b.nd rfl (by first | exact Or.inl rfl | exact Or.inr rfl) ?_
  refine se_bin op_add3 ok_add ?_ ?_
  refine oP (by intro _ z; cases z) ?_
  refine se_lst ?_
  refine sd_cons ?_ ?_
  exact se_non
  refine sd_cons ?_ ?_
  exact se_int
  refine sd_cons ?_ ?_
  exact se_str
  refine sd_cons ?_ ?_
  refine se_tup ?_
  refine sd_cons ?_ ?_
  exact vE 2
  exact sd_nil
  refine sd_cons ?_ ?_
  exact se_dnew
  refine sd_cons ?_ ?_
  exact se_bl
  refine sd_cons ?_ ?_
  refine se_bin op_mul3 ok_mul ?_ ?_
  refine oP (by intro _ z; cases z) ?_
  refine se_lst ?_
  refine sd_cons ?_ ?_
  exact vE 2
  exact sd_nil
  refine oP (by intro _ z; cases z) ?_
  exact se_int
  refine sd_cons ?_ ?_
  refine se_bin op_mul3 ok_mul ?_ ?_
  refine oP (by intro _ z; cases z) ?_
  refine se_lst ?_
  refine sd_cons ?_ ?_
  exact vE 2
  exact sd_nil
  refine oP (by intro _ z; cases z) ?_
  refine se_bin op_add3 ok_add ?_ ?_
  refine oP (by intro _ z; cases z) ?_
  exact se_int
  refine oP (by intro _ z; cases z) ?_
  refine se_bin op_modN ok_mod ?_ ?_
  exact vP 0
  refine oP (by intro _ z; cases z) ?_
  exact se_int
  exact sd_nil
  refine oP (by intro _ z; cases z) ?_
  refine r_lc b rfl rfl (by intro _; rfl) ?_ (fun s H C c fp W _ g1 => ?_) (fun s H C c fp W b1 => ?_) (fun s H C c fp W b1 => ?_)
  refine q_list b ?_
  exact vE 4
  exact tg_one g1.nd rfl (by first | exact Or.inl rfl | exact Or.inr rfl) (by first | exact .inr rfl | exact .inl rfl)
  exact sts_nil
  refine se_lst ?_
  refine sd_cons ?_ ?_
  exact vE 6
  exact sd_nil
  refine sss_cons ?_ ?_
  refine ss_set b.nd rfl (by first | exact Or.inl rfl | exact Or.inr rfl) ?_
  refine se_bin op_add3 ok_add ?_ ?_
  exact vP 5
  refine oP (by intro _ z; cases z) ?_
  refine r_lc b rfl rfl (by intro _; rfl) ?_ (fun s H C c fp W _ g1 => ?_) (fun s H C c fp W b1 => ?_) (fun s H C c fp W b1 => ?_)
  refine q_list b ?_
  exact vE 4
  exact tg_one g1.nd rfl (by first | exact Or.inl rfl | exact Or.inr rfl) (by first | exact .inr rfl | exact .inl rfl)
  exact sts_nil
  refine se_bin op_add3 ok_add ?_ ?_
  refine oP (by intro _ z; cases z) ?_
  refine se_bin op_add3 ok_add ?_ ?_
  refine oP (by intro _ z; cases z) ?_
  refine se_bin op_mul3 ok_mul ?_ ?_
  refine oP (by intro _ z; cases z) ?_
  refine se_lst ?_
  refine sd_cons ?_ ?_
  exact vE 2
  exact sd_nil
  exact vP 1
  refine oP (by intro _ z; cases z) ?_
  refine se_lst ?_
  refine sd_cons ?_ ?_
  exact vE 6
  exact sd_nil
  refine oP (by intro _ z; cases z) ?_
  refine se_bin op_mul3 ok_mul ?_ ?_
  refine oP (by intro _ z; cases z) ?_
  refine se_lst ?_
  refine sd_cons ?_ ?_
  exact vE 2
  exact sd_nil
  refine oP (by intro _ z; cases z) ?_
  refine se_bin op_sub ok_sub ?_ ?_
  refine oP (by intro _ z; cases z) ?_
  exact se_int
  exact vP 1
  refine sss_cons ?_ ?_
  first | refine s_lc b rfl rfl rfl rfl rfl (by intro _; rfl) ?_ (fun s H C c fp W _ g1 => ?_) (fun s H C c fp W b1 => ?_) (fun s H C c fp W b1 => ?_) | (refine ss_set b.nd rfl (by first | exact Or.inl rfl | exact Or.inr rfl) ?_; refine r_lc b rfl rfl (by intro _; rfl) ?_ (fun s H C c fp W _ g1 => ?_) (fun s H C c fp W b1 => ?_) (fun s H C c fp W b1 => ?_))
  refine q_list b ?_
  exact vE 4
  exact tg_one g1.nd rfl (by first | exact Or.inl rfl | exact Or.inr rfl) (by first | exact .inr rfl | exact .inl rfl)
  refine sts_one ?_
  refine PW.pt (sw_and ?_ ?_)
  refine s_ne b1 (by first | exact nobehind _ (by decide) (by decide) | rfl) ?_ ?_
  exact vP 6
  refine oP (by intro _ z; cases z) ?_
  refine se_tup ?_
  refine sd_cons ?_ ?_
  exact se_str
  exact sd_nil
  refine sw_and1 ?_
  refine s_ne b1 (by first | exact nobehind _ (by decide) (by decide) | rfl) ?_ ?_
  exact vP 6
  refine oP (by intro _ z; cases z) ?_
  refine se_tup ?_
  refine sd_cons ?_ ?_
  exact se_str
  refine sd_cons ?_ ?_
  exact se_str
  refine sd_cons ?_ ?_
  refine se_lst ?_
  refine sd_cons ?_ ?_
  refine se_tup ?_
  refine sd_cons ?_ ?_
  exact se_str
  exact sd_nil
  exact sd_nil
  refine sd_cons ?_ ?_
  refine se_lst ?_
  exact sd_nil
  exact sd_nil
  exact vE 6
  refine sss_cons ?_ ?_
  refine ss_set b.nd rfl (by first | exact Or.inl rfl | exact Or.inr rfl) ?_
  refine se_bin op_add3 ok_add ?_ ?_
  exact vP 5
  refine oP (by intro _ z; cases z) ?_
  refine r_lc b rfl rfl (by intro _; rfl) ?_ (fun s H C c fp W _ g1 => ?_) (fun s H C c fp W b1 => ?_) (fun s H C c fp W b1 => ?_)
  refine q_enum b rfl rfl rfl ?_
  exact vE 7
  exact tg_many g1.hK g1.calm (pgs_cons (pg_name g1.nd rfl (by first | exact Or.inl rfl | exact Or.inr rfl) (by first | exact .inr rfl | exact .inl rfl)) (pgs_cons (pg_name g1.nd rfl (by first | exact Or.inl rfl | exact Or.inr rfl) (by first | exact .inr rfl | exact .inl rfl)) pgs_nil))
  exact sts_nil
  refine se_lst ?_
  refine sd_cons ?_ ?_
  refine r_call b1 rfl rfl rfl rfl rfl ?_
  refine sps_cons ?_ ?_
  exact vP 6
  refine sps_cons ?_ ?_
  refine oP (by intro _ z; cases z) ?_
  refine se_bin op_add3 ok_add ?_ ?_
  exact vP 0
  exact vP 8
  exact sps_nil
  exact sd_nil
  refine sss_cons ?_ ?_
  refine ss_set b.nd rfl (by first | exact Or.inl rfl | exact Or.inr rfl) ?_
  refine se_bin op_add3 ok_add ?_ ?_
  exact vP 5
  refine oP (by intro _ z; cases z) ?_
  refine se_lst ?_
  refine sd_cons ?_ ?_
  refine se_lst ?_
  refine sd_cons ?_ ?_
  refine se_tup ?_
  refine sd_cons ?_ ?_
  exact se_str
  refine sd_cons ?_ ?_
  exact se_str
  refine sd_cons ?_ ?_
  refine se_lst ?_
  exact sd_nil
  exact sd_nil
  refine sd_cons ?_ ?_
  exact vE 2
  refine sd_cons ?_ ?_
  refine se_tup ?_
  refine sd_cons ?_ ?_
  exact se_str
  refine sd_cons ?_ ?_
  exact se_str
  refine sd_cons ?_ ?_
  refine se_lst ?_
  exact sd_nil
  exact sd_nil
  exact sd_nil
  exact sd_nil
  refine sss_cons ?_ ?_
  refine ss_set b.nd rfl (by first | exact Or.inl rfl | exact Or.inr rfl) ?_
  refine se_bin op_add3 ok_add ?_ ?_
  exact vP 5
  refine oP (by intro _ z; cases z) ?_
  refine se_lst ?_
  refine sd_cons ?_ ?_
  refine se_lst ?_
  refine sd_cons ?_ ?_
  refine se_tup ?_
  refine sd_cons ?_ ?_
  exact se_str
  refine sd_cons ?_ ?_
  exact se_str
  refine sd_cons ?_ ?_
  refine se_lst ?_
  exact sd_nil
  exact sd_nil
  refine sd_cons ?_ ?_
  refine se_tup ?_
  refine sd_cons ?_ ?_
  exact se_str
  refine sd_cons ?_ ?_
  exact se_str
  refine sd_cons ?_ ?_
  refine se_lst ?_
  exact sd_nil
  refine sd_cons ?_ ?_
  refine se_lst ?_
  refine sd_cons ?_ ?_
  refine se_tup ?_
  refine sd_cons ?_ ?_
  exact se_str
  refine sd_cons ?_ ?_
  exact se_str
  refine sd_cons ?_ ?_
  refine se_lst ?_
  exact sd_nil
  exact sd_nil
  exact sd_nil
  exact sd_nil
  exact sd_nil
  exact sd_nil
  refine sss_cons ?_ ?_
  refine ss_set b.nd rfl (by first | exact Or.inl rfl | exact Or.inr rfl) ?_
  refine se_lst ?_
  refine sd_cons ?_ ?_
  exact vE 2
  exact sd_nil
  refine sss_cons ?_ ?_
  refine ss_for po_cx rfl ?_ ?_ ?_
  refine q_range1 b rfl rfl ?_
  exact se_int
  exact tg_one b.good.nd rfl (by first | exact Or.inl rfl | exact Or.inr rfl) (by first | exact .inr rfl | exact .inl rfl)
  refine sss_cons ?_ ?_
  refine ss_set b.nd rfl (by first | exact Or.inl rfl | exact Or.inr rfl) ?_
  refine se_ite ?_ ?_ ?_
  refine s_eq b (by first | exact nobehind _ (by decide) (by decide) | rfl) ?_ ?_
  refine oP (by intro _ z; cases z) ?_
  refine se_bin op_modN ok_mod ?_ ?_
  refine oP (by intro _ z; cases z) ?_
  refine se_bin op_add3 ok_add ?_ ?_
  exact vP 0
  exact vP 10
  refine oP (by intro _ z; cases z) ?_
  exact se_int
  refine oP (by intro _ z; cases z) ?_
  exact se_int
  refine se_lst ?_
  refine sd_cons ?_ ?_
  refine se_tup ?_
  refine sd_cons ?_ ?_
  exact se_str
  refine sd_cons ?_ ?_
  exact se_str
  refine sd_cons ?_ ?_
  exact vE 9
  refine sd_cons ?_ ?_
  refine se_lst ?_
  exact sd_nil
  exact sd_nil
  exact sd_nil
  refine se_lst ?_
  refine sd_cons ?_ ?_
  refine se_tup ?_
  refine sd_cons ?_ ?_
  exact se_str
  refine sd_cons ?_ ?_
  exact se_str
  refine sd_cons ?_ ?_
  refine se_lst ?_
  exact sd_nil
  refine sd_cons ?_ ?_
  exact vE 9
  exact sd_nil
  exact sd_nil
  exact sss_nil
  refine sss_cons ?_ ?_
  refine ss_ret ?_
  refine se_and b.hK ?_ ?_
  refine r_call b rfl rfl rfl rfl rfl ?_
  refine sps_cons ?_ ?_
  refine oP (by intro _ z; cases z) ?_
  refine se_lst ?_
  refine sd_cons ?_ ?_
  exact se_lam (L := L_2) ml (hlf 2 _ rfl) rfl rfl (by decide) rfl
  exact sd_nil
  refine sps_cons ?_ ?_
  refine oP (by intro _ z; cases z) ?_
  refine se_bin op_add3 ok_add ?_ ?_
  exact vP 5
  refine oP (by intro _ z; cases z) ?_
  refine se_lst ?_
  refine sd_cons ?_ ?_
  exact vE 9
  exact sd_nil
  refine sps_cons ?_ ?_
  refine oP (by intro _ z; cases z) ?_
  exact se_int
  exact sps_nil
  refine se_one ?_
  refine r_eq b (by first | exact nobehind _ (by decide) (by decide) | rfl) ?_ ?_
  refine oP (by intro _ z; cases z) ?_
  refine r_len b rfl rfl rfl ?_
  refine oP (by intro _ z; cases z) ?_
  refine r_meth0 b rfl rfl ?_
  refine oP (by intro _ z; cases z) ?_
  refine r_make b 1 rfl rfl rfl rfl rfl ?_
  refine sps_cons ?_ ?_
  refine oP (by intro _ z; cases z) ?_
  exact se_str
  refine sps_cons ?_ ?_
  refine oP (by intro _ z; cases z) ?_
  refine se_bin op_add3 ok_add ?_ ?_
  refine oP (by intro _ z; cases z) ?_
  refine r_idx b (by intro _ _; rfl) ?_ ?_
  refine oP (by intro _ z; cases z) ?_
  refine r_idx b (by intro _ _; rfl) ?_ ?_
  exact vP 9
  refine oP (by intro _ z; cases z) ?_
  exact se_int
  refine oP (by intro _ z; cases z) ?_
  exact se_int
  refine oP (by intro _ z; cases z) ?_
  refine r_idx b (by intro _ _; rfl) ?_ ?_
  refine oP (by intro _ z; cases z) ?_
  refine r_idx b (by intro _ _; rfl) ?_ ?_
  exact vP 9
  refine oP (by intro _ z; cases z) ?_
  exact se_int
  refine oP (by intro _ z; cases z) ?_
  exact se_int
  exact sps_nil
  refine oP (by intro _ z; cases z) ?_
  exact se_int
  exact sss_nil
def b__law_books_right : Ss := (.cons (.asg (.many [1, 2]) (.tup (.cons (.make 0 (.cons (.cst (.str "a")) (.cons (.lst .nil) .nil)) [.non]) (.cons (.cst (.str "abcdefghij")) .nil)))) (.cons (.asg (.one 3) (.lst (.cons (.cst .non) (.cons (.cst (.int 5)) (.cons (.var 1) (.cons (.tup (.cons (.var 1) .nil)) (.cons (.lst .nil) (.cons (.dnew false) (.cons (.lst (.cons (.cst (.str "a")) .nil)) (.cons (.lst (.cons (.var 1) (.cons (.cst .non) .nil))) (.cons (.lst (.cons (.var 1) (.cons (.var 1) .nil))) .nil))))))))))) (.cons (.asg (.one 3) (.prim .add (.cons (.var 3) (.cons (.lst (.cons (.lst (.cons (.make 0 (.cons (.cst (.str "a")) (.cons (.lst .nil) (.cons (.cst (.str "a")) .nil))) []) .nil)) (.cons (.lst (.cons (.make 0 (.cons (.cst (.str "a")) (.cons (.lst .nil) (.cons (.cst (.str "b")) .nil))) []) .nil)) .nil))) .nil)))) (.cons (.app 3 (.lc (.make 0 (.cons (.var 4) (.cons (.lst .nil) .nil)) [.non]) (.one 4) (.seq .s (.prim (.slc false true) (.cons (.var 2) (.cons (.cst (.int 7)) .nil)))) .nil)) (.cons (.app 3 (.lc (.make 0 (.cons (.prim .idx (.cons (.var 2) (.cons (.var 5) .nil))) (.cons (.lst .nil) (.cons (.prim .idx (.cons (.var 2) (.cons (.prim .mod (.cons (.prim .add (.cons (.var 5) (.cons (.cst (.int 1)) .nil))) (.cons (.cst (.int 6)) .nil))) .nil))) .nil))) []) (.one 5) (.range1 (.cst (.int 6))) .nil)) (.cons (.app 3 (.lst (.cons (.var 1) (.cons (.make 0 (.cons (.cst (.str "b")) (.cons (.lst .nil) (.cons (.cst (.str "c")) .nil))) []) (.cons (.make 0 (.cons (.cst (.str "c")) (.cons (.lst .nil) (.cons (.cst (.str "d")) .nil))) []) (.cons (.make 0 (.cons (.cst (.str "d")) (.cons (.lst .nil) (.cons (.cst (.str "b")) .nil))) []) .nil)))))) (.cons (.app 3 (.lc (.make 0 (.cons (.var 4) (.cons (.lst .nil) .nil)) [.non]) (.one 4) (.seq .s (.prim (.slc false true) (.cons (.var 2) (.cons (.prim .add (.cons (.cst (.int 7)) (.cons (.prim .mod (.cons (.var 0) (.cons (.cst (.int 3)) .nil))) .nil))) .nil)))) .nil)) (.cons (.rt false (.call 53 (.cons (.lst (.cons (.lam 3) .nil)) (.cons (.var 3) (.cons (.cst (.int 1)) .nil))))) .nil))))))))
theorem h__law_books_right (ml : MkL G mg base cd ("_law_books_right" ++ ".<locals>.<lambda>")) (hlf : ∀ j L, LAMS[j]? = some L → ∀ a F c, F a = some (LamO a L [] c) → F c = some (LamX.CodeO c L.q) → G.lf j a F) (b : Bd G cl ini (T G) k E (cxOf (L2.CX P w) P w K mg base N__law_books_right "_law_books_right" (fnScope s__law_books_right) fa cd A outer s H E)) : PSs (cxOf (L2.CX P w) P w K mg base N__law_books_right "_law_books_right" (fnScope s__law_books_right) fa cd A outer s H E) (fnBody s__law_books_right) (tS G pin cl ini E (execs cl ini pin b__law_books_right)) := by
  refine sss_cons ?_ ?_
  refine ss_asg ?_ ?_
  refine se_tup ?_
  refine sd_cons ?_ ?_
  refine r_make b 1 rfl rfl rfl rfl rfl ?_
  refine sps_cons ?_ ?_
  refine oP (by intro _ z; cases z) ?_
  exact se_str
  refine sps_cons ?_ ?_
  refine oP (by intro _ z; cases z) ?_
  refine se_lst ?_
  exact sd_nil
  exact sps_nil
  refine sd_cons ?_ ?_
  exact se_str
  exact sd_nil
  exact tg_many b.good.hK b.good.calm (pgs_cons (pg_name b.good.nd rfl (by first | exact Or.inl rfl | exact Or.inr rfl) (by first | exact .inr rfl | exact .inl rfl)) (pgs_cons (pg_name b.good.nd rfl (by first | exact Or.inl rfl | exact Or.inr rfl) (by first | exact .inr rfl | exact .inl rfl)) pgs_nil))
  refine sss_cons ?_ ?_
  refine ss_set b.nd rfl (by first | exact Or.inl rfl | exact Or.inr rfl) ?_
  refine se_lst ?_
  refine sd_cons ?_ ?_
  exact se_non
  refine sd_cons ?_ ?_
  exact se_int
  refine sd_cons ?_ ?_
  exact vE 1
  refine sd_cons ?_ ?_
  refine se_tup ?_
  refine sd_cons ?_ ?_
  exact vE 1
  exact sd_nil
  refine sd_cons ?_ ?_
  refine se_lst ?_
  exact sd_nil
  refine sd_cons ?_ ?_
  exact se_dnew
  refine sd_cons ?_ ?_
  refine se_lst ?_
  refine sd_cons ?_ ?_
  exact se_str
  exact sd_nil
  refine sd_cons ?_ ?_
  refine se_lst ?_
  refine sd_cons ?_ ?_
  exact vE 1
  refine sd_cons ?_ ?_
  exact se_non
  exact sd_nil
  refine sd_cons ?_ ?_
  refine se_lst ?_
  refine sd_cons ?_ ?_
  exact vE 1
  refine sd_cons ?_ ?_
  exact vE 1
  exact sd_nil
  exact sd_nil
  refine sss_cons ?_ ?_
  refine ss_set b.nd rfl (by first | exact Or.inl rfl | exact Or.inr rfl) ?_
  refine se_bin op_add3 ok_add ?_ ?_
  exact vP 3
  refine oP (by intro _ z; cases z) ?_
  refine se_lst ?_
  refine sd_cons ?_ ?_
  refine se_lst ?_
  refine sd_cons ?_ ?_
  refine r_make b 0 rfl rfl rfl rfl rfl ?_
  refine sps_cons ?_ ?_
  refine oP (by intro _ z; cases z) ?_
  exact se_str
  refine sps_cons ?_ ?_
  refine oP (by intro _ z; cases z) ?_
  refine se_lst ?_
  exact sd_nil
  refine sps_cons ?_ ?_
  refine oP (by intro _ z; cases z) ?_
  exact se_str
  exact sps_nil
  exact sd_nil
  refine sd_cons ?_ ?_
  refine se_lst ?_
  refine sd_cons ?_ ?_
  refine r_make b 0 rfl rfl rfl rfl rfl ?_
  refine sps_cons ?_ ?_
  refine oP (by intro _ z; cases z) ?_
  exact se_str
  refine sps_cons ?_ ?_
  refine oP (by intro _ z; cases z) ?_
  refine se_lst ?_
  exact sd_nil
  refine sps_cons ?_ ?_
  refine oP (by intro _ z; cases z) ?_
  exact se_str
  exact sps_nil
  exact sd_nil
  exact sd_nil
  refine sss_cons ?_ ?_
  refine ss_app b.hK (vV 3) ?_
  refine r_lc b rfl rfl (by intro _; rfl) ?_ (fun s H C c fp W _ g1 => ?_) (fun s H C c fp W b1 => ?_) (fun s H C c fp W b1 => ?_)
  refine si_str ?_
  refine r_slR b ?_ ?_
  exact vP 2
  refine oP (by intro _ z; cases z) ?_
  exact se_int
  exact tg_one g1.nd rfl (by first | exact Or.inl rfl | exact Or.inr rfl) (by first | exact .inr rfl | exact .inl rfl)
  exact sts_nil
  refine r_make b1 1 rfl rfl rfl rfl rfl ?_
  refine sps_cons ?_ ?_
  exact vP 4
  refine sps_cons ?_ ?_
  refine oP (by intro _ z; cases z) ?_
  refine se_lst ?_
  exact sd_nil
  exact sps_nil
  refine sss_cons ?_ ?_
  refine ss_app b.hK (vV 3) ?_
  refine r_lc b rfl rfl (by intro _; rfl) ?_ (fun s H C c fp W _ g1 => ?_) (fun s H C c fp W b1 => ?_) (fun s H C c fp W b1 => ?_)
  refine q_range1 b rfl rfl ?_
  exact se_int
  exact tg_one g1.nd rfl (by first | exact Or.inl rfl | exact Or.inr rfl) (by first | exact .inr rfl | exact .inl rfl)
  exact sts_nil
  refine r_make b1 0 rfl rfl rfl rfl rfl ?_
  refine sps_cons ?_ ?_
  refine oP (by intro _ z; cases z) ?_
  refine r_idx b1 (by intro _ _; rfl) ?_ ?_
  exact vP 2
  exact vP 5
  refine sps_cons ?_ ?_
  refine oP (by intro _ z; cases z) ?_
  refine se_lst ?_
  exact sd_nil
  refine sps_cons ?_ ?_
  refine oP (by intro _ z; cases z) ?_
  refine r_idx b1 (by intro _ _; rfl) ?_ ?_
  exact vP 2
  refine oP (by intro _ z; cases z) ?_
  refine se_bin op_modN ok_mod ?_ ?_
  refine oP (by intro _ z; cases z) ?_
  refine se_bin op_add3 ok_add ?_ ?_
  exact vP 5
  refine oP (by intro _ z; cases z) ?_
  exact se_int
  refine oP (by intro _ z; cases z) ?_
  exact se_int
  exact sps_nil
  refine sss_cons ?_ ?_
  refine ss_app b.hK (vV 3) ?_
  refine se_lst ?_
  refine sd_cons ?_ ?_
  exact vE 1
  refine sd_cons ?_ ?_
  refine r_make b 0 rfl rfl rfl rfl rfl ?_
  refine sps_cons ?_ ?_
  refine oP (by intro _ z; cases z) ?_
  exact se_str
  refine sps_cons ?_ ?_
  refine oP (by intro _ z; cases z) ?_
  refine se_lst ?_
  exact sd_nil
  refine sps_cons ?_ ?_
  refine oP (by intro _ z; cases z) ?_
  exact se_str
  exact sps_nil
  refine sd_cons ?_ ?_
  refine r_make b 0 rfl rfl rfl rfl rfl ?_
  refine sps_cons ?_ ?_
  refine oP (by intro _ z; cases z) ?_
  exact se_str
  refine sps_cons ?_ ?_
  refine oP (by intro _ z; cases z) ?_
  refine se_lst ?_
  exact sd_nil
  refine sps_cons ?_ ?_
  refine oP (by intro _ z; cases z) ?_
  exact se_str
  exact sps_nil
  refine sd_cons ?_ ?_
  refine r_make b 0 rfl rfl rfl rfl rfl ?_
  refine sps_cons ?_ ?_
  refine oP (by intro _ z; cases z) ?_
  exact se_str
  refine sps_cons ?_ ?_
  refine oP (by intro _ z; cases z) ?_
  refine se_lst ?_
  exact sd_nil
  refine sps_cons ?_ ?_
  refine oP (by intro _ z; cases z) ?_
  exact se_str
  exact sps_nil
  exact sd_nil
  refine sss_cons ?_ ?_
  refine ss_app b.hK (vV 3) ?_
  refine r_lc b rfl rfl (by intro _; rfl) ?_ (fun s H C c fp W _ g1 => ?_) (fun s H C c fp W b1 => ?_) (fun s H C c fp W b1 => ?_)
  refine si_str ?_
  refine r_slR b ?_ ?_
  exact vP 2
  refine oP (by intro _ z; cases z) ?_
  refine se_bin op_add3 ok_add ?_ ?_
  refine oP (by intro _ z; cases z) ?_
  exact se_int
  refine oP (by intro _ z; cases z) ?_
  refine se_bin op_modN ok_mod ?_ ?_
  exact vP 0
  refine oP (by intro _ z; cases z) ?_
  exact se_int
  exact tg_one g1.nd rfl (by first | exact Or.inl rfl | exact Or.inr rfl) (by first | exact .inr rfl | exact .inl rfl)
  exact sts_nil
  refine r_make b1 1 rfl rfl rfl rfl rfl ?_
  refine sps_cons ?_ ?_
  exact vP 4
  refine sps_cons ?_ ?_
  refine oP (by intro _ z; cases z) ?_
  refine se_lst ?_
  exact sd_nil
  exact sps_nil
  refine sss_cons ?_ ?_
  refine ss_ret ?_
  refine r_call b rfl rfl rfl rfl rfl ?_
  refine sps_cons ?_ ?_
  refine oP (by intro _ z; cases z) ?_
  refine se_lst ?_
  refine sd_cons ?_ ?_
  exact se_lam (L := L_3) ml (hlf 3 _ rfl) rfl rfl (by decide) rfl
  exact sd_nil
  refine sps_cons ?_ ?_
  exact vP 3
  refine sps_cons ?_ ?_
  refine oP (by intro _ z; cases z) ?_
  exact se_int
  exact sps_nil
  exact sss_nil
def b_law : Ss := (.cons (.fo (.one 1) (.seq .l (.prim .add (.cons (.lst (.cons (.cst (.int 0)) .nil)) (.cons (.prim (.slc false true) (.cons (.var 0) (.cons (.cst (.int 2)) .nil))) .nil)))) (.cons (.asg (.one 2) (.prim .mod (.cons (.prim .abs (.cons (.var 1) .nil)) (.cons (.prim .pow (.cons (.cst (.int 10)) (.cons (.cst (.int 20)) .nil))) .nil)))) (.cons (.ife (.or_ (.not_ (.call 56 (.cons (.var 2) .nil))) (.not_ (.call 57 (.cons (.var 2) .nil)))) (.cons (.rt false (.cst (.bl false))) .nil) .nil) .nil))) (.cons (.asg (.one 3) (.make 1 (.cons (.lc (.make 0 (.cons (.prim .idx (.cons (.cst (.str "abcdef")) (.cons (.var 4) .nil))) (.cons (.prim .mul (.cons (.lst (.cons (.tup (.cons (.cst (.str "text")) (.cons (.prim .mul (.cons (.cst (.str "a")) (.cons (.cst (.int 60)) .nil))) .nil))) .nil)) (.cons (.cst (.int 30)) .nil))) (.cons (.or_ (.sl2 (.cst (.str "abcdef")) (.prim .add (.cons (.var 4) (.cons (.cst (.int 1)) .nil))) (.prim .add (.cons (.var 4) (.cons (.cst (.int 2)) .nil)))) (.cst .non)) .nil))) []) (.one 4) (.range1 (.cst (.int 6))) .nil) .nil) [])) (.cons (.asg (.one 5) (.make 0 (.cons (.cst (.str "abcdefgh")) (.cons (.lst .nil) (.cons (.cst (.str "b")) .nil))) [])) (.cons (.rt false (.and_ (.prim .eq (.cons (.meth 1 "line" 105 (.var 3) (.cons (.cst (.str "a")) .nil)) (.cons (.lst (.cons (.cst (.str "a")) (.cons (.cst (.str "b")) (.cons (.cst (.str "c")) (.cons (.cst (.str "d")) (.cons (.cst (.str "e")) (.cons (.cst (.str "f")) .nil))))))) .nil))) (.prim .eq (.cons (.meth 0 "told" 101 (.var 5) .nil) (.cons (.tup (.cons (.cst (.str "abcdefgh")) (.cons (.lst .nil) (.cons (.cst (.str "b")) .nil)))) .nil))))) .nil))))
theorem h_law (b : Bd G cl ini (T G) k E (cxOf (L2.CX P w) P w K mg base N_law "law" (fnScope s_law) fa cd A outer s H E)) : PSs (cxOf (L2.CX P w) P w K mg base N_law "law" (fnScope s_law) fa cd A outer s H E) (fnBody s_law) (tS G pin cl ini E (execs cl ini pin b_law)) := by
  refine sss_cons ?_ ?_
  refine ss_for po_cx rfl ?_ ?_ ?_
  refine q_list b ?_
  refine se_bin op_add3 ok_add ?_ ?_
  refine oP (by intro _ z; cases z) ?_
  refine se_lst ?_
  refine sd_cons ?_ ?_
  exact se_int
  exact sd_nil
  refine oP (by intro _ z; cases z) ?_
  refine r_slR b ?_ ?_
  exact vP 0
  refine oP (by intro _ z; cases z) ?_
  exact se_int
  exact tg_one b.good.nd rfl (by first | exact Or.inl rfl | exact Or.inr rfl) (by first | exact .inr rfl | exact .inl rfl)
  refine sss_cons ?_ ?_
  refine ss_set b.nd rfl (by first | exact Or.inl rfl | exact Or.inr rfl) ?_
  refine se_bin op_modN ok_mod ?_ ?_
  refine oP (by intro _ z; cases z) ?_
  refine r_abs b rfl rfl rfl ?_
  exact vP 1
  refine oP (by intro _ z; cases z) ?_
  refine se_bin op_pow ok_pow ?_ ?_
  refine oP (by intro _ z; cases z) ?_
  exact se_int
  refine oP (by intro _ z; cases z) ?_
  exact se_int
  refine sss_cons ?_ ?_
  refine ss_if ?_ ?_ ?_
  refine PW.pt (sw_or ?_ ?_)
  refine st_not ?_
  refine t_of b (by intro _; rfl) ?_
  refine r_call b rfl rfl rfl rfl rfl ?_
  refine sps_cons ?_ ?_
  exact vP 2
  exact sps_nil
  refine sw_or1 ?_
  refine st_not ?_
  refine t_of b (by intro _; rfl) ?_
  refine r_call b rfl rfl rfl rfl rfl ?_
  refine sps_cons ?_ ?_
  exact vP 2
  exact sps_nil
  refine sss_cons ?_ ?_
  refine ss_ret ?_
  exact se_bl
  exact sss_nil
  exact sss_nil
  exact sss_nil
  refine sss_cons ?_ ?_
  refine ss_set b.nd rfl (by first | exact Or.inl rfl | exact Or.inr rfl) ?_
  refine r_make b 2 rfl rfl rfl rfl rfl ?_
  refine sps_cons ?_ ?_
  refine oP (by intro _ z; cases z) ?_
  refine r_lc b rfl rfl (by intro _; rfl) ?_ (fun s H C c fp W _ g1 => ?_) (fun s H C c fp W b1 => ?_) (fun s H C c fp W b1 => ?_)
  refine q_range1 b rfl rfl ?_
  exact se_int
  exact tg_one g1.nd rfl (by first | exact Or.inl rfl | exact Or.inr rfl) (by first | exact .inr rfl | exact .inl rfl)
  exact sts_nil
  refine r_make b1 0 rfl rfl rfl rfl rfl ?_
  refine sps_cons ?_ ?_
  refine oP (by intro _ z; cases z) ?_
  refine r_idx b1 (by intro _ _; rfl) ?_ ?_
  refine oP (by intro _ z; cases z) ?_
  exact se_str
  exact vP 4
  refine sps_cons ?_ ?_
  refine oP (by intro _ z; cases z) ?_
  refine se_bin op_mul3 ok_mul ?_ ?_
  refine oP (by intro _ z; cases z) ?_
  refine se_lst ?_
  refine sd_cons ?_ ?_
  refine se_tup ?_
  refine sd_cons ?_ ?_
  exact se_str
  refine sd_cons ?_ ?_
  refine se_bin op_mul3 ok_mul ?_ ?_
  refine oP (by intro _ z; cases z) ?_
  exact se_str
  refine oP (by intro _ z; cases z) ?_
  exact se_int
  exact sd_nil
  exact sd_nil
  refine oP (by intro _ z; cases z) ?_
  exact se_int
  refine sps_cons ?_ ?_
  refine oP (by intro _ z; cases z) ?_
  refine se_or b1.hK ?_ ?_
  refine r_slB b1 ?_ ?_ ?_
  refine oP (by intro _ z; cases z) ?_
  exact se_str
  refine se_bin op_add3 ok_add ?_ ?_
  exact vP 4
  refine oP (by intro _ z; cases z) ?_
  exact se_int
  refine se_bin op_add3 ok_add ?_ ?_
  exact vP 4
  refine oP (by intro _ z; cases z) ?_
  exact se_int
  refine se_one ?_
  exact se_non
  exact sps_nil
  exact sps_nil
  refine sss_cons ?_ ?_
  refine ss_set b.nd rfl (by first | exact Or.inl rfl | exact Or.inr rfl) ?_
  refine r_make b 0 rfl rfl rfl rfl rfl ?_
  refine sps_cons ?_ ?_
  refine oP (by intro _ z; cases z) ?_
  exact se_str
  refine sps_cons ?_ ?_
  refine oP (by intro _ z; cases z) ?_
  refine se_lst ?_
  exact sd_nil
  refine sps_cons ?_ ?_
  refine oP (by intro _ z; cases z) ?_
  exact se_str
  exact sps_nil
  refine sss_cons ?_ ?_
  refine ss_ret ?_
  refine se_and b.hK ?_ ?_
  refine r_eq b (by first | exact nobehind _ (by decide) (by decide) | rfl) ?_ ?_
  refine oP (by intro _ z; cases z) ?_
  refine r_meth b rfl rfl rfl rfl ?_ ?_
  exact vP 3
  refine sps_cons ?_ ?_
  refine oP (by intro _ z; cases z) ?_
  exact se_str
  exact sps_nil
  refine oP (by intro _ z; cases z) ?_
  refine se_lst ?_
  refine sd_cons ?_ ?_
  exact se_str
  refine sd_cons ?_ ?_
  exact se_str
  refine sd_cons ?_ ?_
  exact se_str
  refine sd_cons ?_ ?_
  exact se_str
  refine sd_cons ?_ ?_
  exact se_str
  refine sd_cons ?_ ?_
  exact se_str
  exact sd_nil
  refine se_one ?_
  refine r_eq b (by first | exact nobehind _ (by decide) (by decide) | rfl) ?_ ?_
  refine oP (by intro _ z; cases z) ?_
  refine r_meth0 b rfl rfl ?_
  exact vP 5
  refine oP (by intro _ z; cases z) ?_
  refine se_tup ?_
  refine sd_cons ?_ ?_
  exact se_str
  refine sd_cons ?_ ?_
  refine se_lst ?_
  exact sd_nil
  refine sd_cons ?_ ?_
  exact se_str
  exact sd_nil
  exact sss_nil
theorem h_Page_init (b : Bd G cl ini (T G) k E (cxOf (L2.CX P w) P w K mg base N_Page_init "Page.__init__" (fnScope s_Page_init) fa cd A outer s H E)) : PSs (cxOf (L2.CX P w) P w K mg base N_Page_init "Page.__init__" (fnScope s_Page_init) fa cd A outer s H E) (fnBody s_Page_init) (tS G pin cl ini E (execs cl ini pin b_Page_init)) := by
  refine sss_cons ?_ ?_
  refine ss_if ?_ ?_ ?_
  refine st_not ?_
  refine t_of b (by intro _; rfl) ?_
  refine r_call b rfl rfl rfl rfl rfl ?_
  refine sps_cons ?_ ?_
  exact vP 1
  exact sps_nil
  refine sss_cons ?_ ?_
  refine ss_raise rfl tk_cx ?_
  exact r_exc b 1 rfl rfl rfl
  exact sss_nil
  exact sss_nil
  refine sss_cons ?_ ?_
  refine ss_if ?_ ?_ ?_
  refine PW.pt (sw_and ?_ ?_)
  refine st_isN op_notN ok_notN rfl rfl ?_
  exact vP 3
  refine sw_and1 ?_
  refine st_not ?_
  refine t_of b (by intro _; rfl) ?_
  refine r_call b rfl rfl rfl rfl rfl ?_
  refine sps_cons ?_ ?_
  exact vP 3
  exact sps_nil
  refine sss_cons ?_ ?_
  refine ss_raise rfl tk_cx ?_
  exact r_exc b 1 rfl rfl rfl
  exact sss_nil
  exact sss_nil
  refine sss_cons ?_ ?_
  refine ss_setf b.hK (b.wd.att _ rfl) (vV 0) ?_
  exact vE 1
  refine sss_cons ?_ ?_
  refine ss_setf b.hK (b.wd.att _ rfl) (vV 0) ?_
  refine r_call b rfl rfl rfl rfl rfl ?_
  refine sps_cons ?_ ?_
  exact vP 2
  exact sps_nil
  refine sss_cons ?_ ?_
  refine ss_setf b.hK (b.wd.att _ rfl) (vV 0) ?_
  exact vE 3
  exact sss_nil
theorem h_Page_told (b : Bd G cl ini (T G) k E (cxOf (L2.CX P w) P w K mg base N_Page_told "Page.told" (fnScope s_Page_told) fa cd A outer s H E)) : PSs (cxOf (L2.CX P w) P w K mg base N_Page_told "Page.told" (fnScope s_Page_told) fa cd A outer s H E) (fnBody s_Page_told) (tS G pin cl ini E (execs cl ini pin b_Page_told)) := by
  refine sss_cons ?_ ?_
  refine ss_ret ?_
  refine se_tup ?_
  refine sd_cons ?_ ?_
  refine r_attr b rfl rfl ?_
  exact vP 0
  refine sd_cons ?_ ?_
  refine r_call b rfl rfl rfl rfl rfl ?_
  refine sps_cons ?_ ?_
  refine oP (by intro _ z; cases z) ?_
  refine r_attr b rfl rfl ?_
  exact vP 0
  exact sps_nil
  refine sd_cons ?_ ?_
  refine r_attr b rfl rfl ?_
  exact vP 0
  exact sd_nil
  exact sss_nil
theorem h_Book_init (b : Bd G cl ini (T G) k E (cxOf (L2.CX P w) P w K mg base N_Book_init "Book.__init__" (fnScope s_Book_init) fa cd A outer s H E)) : PSs (cxOf (L2.CX P w) P w K mg base N_Book_init "Book.__init__" (fnScope s_Book_init) fa cd A outer s H E) (fnBody s_Book_init) (tS G pin cl ini E (execs cl ini pin b_Book_init)) := by
  refine sss_cons ?_ ?_
  refine ss_exp ?_
  refine r_call b rfl rfl rfl rfl rfl ?_
  refine sps_cons ?_ ?_
  exact vP 1
  exact sps_nil
  refine sss_cons ?_ ?_
  refine ss_setf b.hK (b.wd.att _ rfl) (vV 0) ?_
  refine r_list b rfl rfl rfl ?_
  exact vP 1
  exact sss_nil
theorem h_Book_names (b : Bd G cl ini (T G) k E (cxOf (L2.CX P w) P w K mg base N_Book_names "Book.names" (fnScope s_Book_names) fa cd A outer s H E)) : PSs (cxOf (L2.CX P w) P w K mg base N_Book_names "Book.names" (fnScope s_Book_names) fa cd A outer s H E) (fnBody s_Book_names) (tS G pin cl ini E (execs cl ini pin b_Book_names)) := by
  refine sss_cons ?_ ?_
  refine ss_ret ?_
  refine r_lc b rfl rfl (by intro _; rfl) ?_ (fun s H C c fp W _ g1 => ?_) (fun s H C c fp W b1 => ?_) (fun s H C c fp W b1 => ?_)
  refine q_list b ?_
  refine r_attr b rfl rfl ?_
  exact vP 0
  exact tg_one g1.nd rfl (by first | exact Or.inl rfl | exact Or.inr rfl) (by first | exact .inr rfl | exact .inl rfl)
  exact sts_nil
  refine r_attr b1 rfl rfl ?_
  exact vP 1
  exact sss_nil
theorem h_Book_page (b : Bd G cl ini (T G) k E (cxOf (L2.CX P w) P w K mg base N_Book_page "Book.page" (fnScope s_Book_page) fa cd A outer s H E)) : PSs (cxOf (L2.CX P w) P w K mg base N_Book_page "Book.page" (fnScope s_Book_page) fa cd A outer s H E) (fnBody s_Book_page) (tS G pin cl ini E (execs cl ini pin b_Book_page)) := by
  refine sss_cons ?_ ?_
  refine ss_if ?_ ?_ ?_
  refine t_of b (by intro _; rfl) ?_
  refine r_isi b (fun _ z => nomatch z) rfl rfl rfl rfl ?_ ?_
  exact vP 1
  exact c_ty b (by decide) rfl rfl rfl (by decide) rfl
  refine sss_cons ?_ ?_
  refine ss_for po_cx rfl ?_ ?_ ?_
  refine q_list b ?_
  refine r_attr b rfl rfl ?_
  exact vP 0
  exact tg_one b.good.nd rfl (by first | exact Or.inl rfl | exact Or.inr rfl) (by first | exact .inr rfl | exact .inl rfl)
  refine sss_cons ?_ ?_
  refine ss_if ?_ ?_ ?_
  refine s_eq b (by first | exact nobehind _ (by decide) (by decide) | rfl) ?_ ?_
  refine oP (by intro _ z; cases z) ?_
  refine r_attr b rfl rfl ?_
  exact vP 2
  exact vP 1
  refine sss_cons ?_ ?_
  refine ss_ret ?_
  exact vE 2
  exact sss_nil
  exact sss_nil
  exact sss_nil
  exact sss_nil
  exact sss_nil
  refine sss_cons ?_ ?_
  refine ss_raise rfl tk_cx ?_
  exact r_exc b 3 rfl rfl rfl
  exact sss_nil
theorem h_Book_line (b : Bd G cl ini (T G) k E (cxOf (L2.CX P w) P w K mg base N_Book_line "Book.line" (fnScope s_Book_line) fa cd A outer s H E)) : PSs (cxOf (L2.CX P w) P w K mg base N_Book_line "Book.line" (fnScope s_Book_line) fa cd A outer s H E) (fnBody s_Book_line) (tS G pin cl ini E (execs cl ini pin b_Book_line)) := by
  refine sss_cons ?_ ?_
  refine ss_set b.nd rfl (by first | exact Or.inl rfl | exact Or.inr rfl) ?_
  refine r_meth b rfl rfl rfl rfl ?_ ?_
  exact vP 0
  refine sps_cons ?_ ?_
  exact vP 1
  exact sps_nil
  refine sss_cons ?_ ?_
  refine ss_set b.nd rfl (by first | exact Or.inl rfl | exact Or.inr rfl) ?_
  refine se_lst ?_
  refine sd_cons ?_ ?_
  refine r_attr b rfl rfl ?_
  exact vP 2
  exact sd_nil
  refine sss_cons ?_ ?_
  refine ss_while po_cx ?_ ?_
  refine st_isN op_notN ok_notN rfl rfl ?_
  refine oP (by intro _ z; cases z) ?_
  refine r_attr b rfl rfl ?_
  exact vP 2
  refine sss_cons ?_ ?_
  refine ss_set b.nd rfl (by first | exact Or.inl rfl | exact Or.inr rfl) ?_
  refine r_meth b rfl rfl rfl rfl ?_ ?_
  exact vP 0
  refine sps_cons ?_ ?_
  refine oP (by intro _ z; cases z) ?_
  refine r_attr b rfl rfl ?_
  exact vP 2
  exact sps_nil
  refine sss_cons ?_ ?_
  refine ss_app b.hK (vV 3) ?_
  refine r_attr b rfl rfl ?_
  exact vP 2
  exact sss_nil
  refine sss_cons ?_ ?_
  refine ss_ret ?_
  exact vE 3
  exact sss_nil
theorem hl_0 {f c : Addr} (b : Bd G cl ini (T G) k E (NdefX.ncx (L2.CX P w) P w K mg base L_0.N (lamF L_0 c) f A outer s H E)) : PE (NdefX.ncx (L2.CX P w) P w K mg base L_0.N (lamF L_0 c) f A outer s H E) L_0.body (tE G cl ini (WE E) L_0.e) := by
  refine r_make b 1 rfl rfl rfl rfl rfl ?_
  refine sps_cons ?_ ?_
  exact vP 0
  refine sps_cons ?_ ?_
  refine oP (by intro _ z; cases z) ?_
  refine se_lst ?_
  exact sd_nil
  exact sps_nil
theorem hl_1 {f c : Addr} (b : Bd G cl ini (T G) k E (NdefX.ncx (L2.CX P w) P w K mg base L_1.N (lamF L_1 c) f A outer s H E)) : PE (NdefX.ncx (L2.CX P w) P w K mg base L_1.N (lamF L_1 c) f A outer s H E) L_1.body (tE G cl ini (WE E) L_1.e) := by
  refine r_make b 0 rfl rfl rfl rfl rfl ?_
  refine sps_cons ?_ ?_
  refine oP (by intro _ z; cases z) ?_
  exact se_str
  refine sps_cons ?_ ?_
  refine oP (by intro _ z; cases z) ?_
  refine se_lst ?_
  exact sd_nil
  refine sps_cons ?_ ?_
  exact vP 0
  exact sps_nil
theorem hl_2 {f c : Addr} (b : Bd G cl ini (T G) k E (NdefX.ncx (L2.CX P w) P w K mg base L_2.N (lamF L_2 c) f A outer s H E)) : PE (NdefX.ncx (L2.CX P w) P w K mg base L_2.N (lamF L_2 c) f A outer s H E) L_2.body (tE G cl ini (WE E) L_2.e) := by
  refine r_make b 1 rfl rfl rfl rfl rfl ?_
  refine sps_cons ?_ ?_
  refine oP (by intro _ z; cases z) ?_
  exact se_str
  refine sps_cons ?_ ?_
  exact vP 0
  exact sps_nil
theorem hl_3 {f c : Addr} (b : Bd G cl ini (T G) k E (NdefX.ncx (L2.CX P w) P w K mg base L_3.N (lamF L_3 c) f A outer s H E)) : PE (NdefX.ncx (L2.CX P w) P w K mg base L_3.N (lamF L_3 c) f A outer s H E) L_3.body (tE G cl ini (WE E) L_3.e) := by
  refine r_make b 2 rfl rfl rfl rfl rfl ?_
  refine sps_cons ?_ ?_
  exact vP 0
  exact sps_nil
end
def df : Nat → Option Df
  | 0 => some d_is_name
  | 1 => some d_is_text
  | 2 => some d_read_items
  | 3 => some d_read_item
  | 4 => some d_read_page_items
  | 5 => some d_copied_items
  | 7 => some d_check_line
  | 8 => some d_check_pages
  | 50 => some ⟨2, 2, b__law_cell_at⟩
  | 52 => some ⟨6, 3, b__law_refused⟩
  | 53 => some ⟨5, 3, b__law_all⟩
  | 54 => some ⟨3, 1, b__law_no_items⟩
  | 55 => some ⟨4, 2, b__law_within⟩
  | 1000 => some ⟨1, 1, .cons (.rt false e_L0) .nil⟩
  | 1001 => some ⟨1, 1, .cons (.rt false e_L1) .nil⟩
  | 1002 => some ⟨1, 1, .cons (.rt false e_L2) .nil⟩
  | 56 => some ⟨11, 1, b__law_pages_right⟩
  | 1003 => some ⟨1, 1, .cons (.rt false e_L3) .nil⟩
  | 57 => some ⟨6, 1, b__law_books_right⟩
  | 58 => some ⟨6, 1, b_law⟩
  | 100 => some d_Page_init
  | 101 => some d_Page_told
  | 102 => some d_Book_init
  | 103 => some d_Book_names
  | 104 => some d_Book_page
  | 105 => some d_Book_line
  | _ => none
end Ow.RW7
end D7_
section OyG_
set_option Elab.async false
set_option linter.all false
set_option maxRecDepth 100000
set_option maxHeartbeats 4000000
/-! What is looked at behind the top, by Bools. -/
namespace Ow
open PySem PySem.Spec PyProof.Rows L2
/-- a list of things known by number -/
theorem at_lt {α : Type} {l : List α} {i : Nat} {a : α} (h : l[i]? = some a) : i < l.length := (List.getElem?_eq_some_iff.mp h).1
theorem mem_lk {α : Type} {f : Nat} {a : α} : ∀ {l : List (Nat × α)}, l.lookup f = some a → (f, a) ∈ l
  | [], h => by cases h
  | (g, b) :: r, h => by
    rw [List.lookup_cons] at h
    split at h
    · rename_i q
      cases h
      rw [beq_iff_eq] at q
      rw [q]; exact List.mem_cons_self
    · exact List.mem_cons_of_mem _ (mem_lk h)
def caOf (K : PySem.W.Frag) (cls excs : List Str) (c : Nat) : Addr := if c < 100 then He.ga K (cls.getD c Str.empty) else He.ga K (excs.getD (c - 100) Str.empty)
def kds (nc : Nat) : List Kd := [.non, .bool, .int, .str, .list, .tuple, .dict] ++ (List.range nc).map .cls
def tyA (ca : Nat → Addr) : Kd → Value
  | .non => .type "NoneType" | .bool => .type "bool" | .int => .type "int" | .str => .type "str" | .list => .type "list" | .tuple => .type "tuple" | .dict => .type "dict" | .cls c => .ref (ca c) | .fn => .type "function"
def kitB (K : PySem.W.Frag) (ca : Nat → Addr) (nc : Nat) : Bool := (kds nc).all fun j => (kds nc).all fun k => match isOfK j k with
  | some b => decide (PySem.W.kitOne K (tyA ca j) (tyA ca k) = some b)
  | none => true
def insB (K : PySem.W.Frag) (ca : Nat → Addr) (nc : Nat) : Bool := (List.range nc).all (fun c => He.eqO (PySem.W.findIn K (.ref (ca c)) "__class__") (some (some (.builtin "object.__class__"))) && decide (PySem.W.mroIn K (ca c) (.type "object") = some true)) &&
  (He.eqO (PySem.W.specialIn K (.builtin "object.__class__") "__get__") (some (some (.builtin "getset_descriptor.__get__"))) && decide (PySem.W.takesIn K (.builtin "object.__class__") = some true))
def attB (K : PySem.W.Frag) (ca : Nat → Addr) (nc : Nat) (as : List Str) : Bool := (List.range nc).all fun c => as.all fun f => He.eqO (PySem.W.findIn K (.ref (ca c)) f) (some none)
def exmB (K : PySem.W.Frag) (ca : Nat → Addr) (n : Nat) : Bool := (List.range n).all fun a => (List.range n).all fun b => decide (PySem.W.exmOne K (.ref (ca (100 + a))) (.ref (ca (100 + b))) = some (decide (100 + a = 100 + b) || decide (100 + b = 100)))
def excCB (K : PySem.W.Frag) (D : Addr) : Bool := He.eqO (PySem.W.findIn K (.ref D) "__getattribute__") (some (some (.builtin "BaseException.__getattribute__"))) && (He.eqO (PySem.W.findIn K (.ref D) "__getattr__") (some none) &&
  (decide (PySem.W.subIn K (.ref D) (.type "BaseException") = some true) && (PySem.W.hasDictIn K D && (He.eqO (PySem.W.findIn K (.ref D) "__class__") (some (some (.builtin "object.__class__"))) &&
  (He.eqO (PySem.W.specialIn K (.builtin "object.__class__") "__get__") (some (some (.builtin "getset_descriptor.__get__"))) && (decide (PySem.W.takesIn K (.builtin "object.__class__") = some true) && decide (PySem.W.mroIn K D (.type "object") = some true)))))))
def kindB (K : PySem.W.Frag) (ca : Nat → Addr) (cs : List Nat) : Bool := cs.all fun c => excCB K (ca c) && ((List.range 8).all (fun i => decide (PySem.W.kitOne K (.ref (ca c)) (.ref (ca (101 + i))) = some (c == 101 + i))) && decide (PySem.W.kitOne K (.ref (ca c)) (.type "ValueError") = some true))
theorem kitB_at {K : PySem.W.Frag} {ca : Nat → Addr} {nc : Nat} (h : kitB K ca nc = true) {j k : Kd} {b : Bool} (e : isOfK j k = some b) (hj : j ∈ kds nc) (hk : k ∈ kds nc) : PySem.W.kitOne K (tyA ca j) (tyA ca k) = some b := by
  have z := List.all_eq_true.mp (List.all_eq_true.mp h j hj) k hk
  rw [e] at z
  exact of_decide_eq_true z
theorem kds_mem {nc : Nat} {k : Kd} (hf : k ≠ .fn) (h : ∀ c, k = .cls c → c < nc) : k ∈ kds nc := by
  unfold kds
  cases k with
  | cls c => exact List.mem_append.mpr (.inr (List.mem_map.mpr ⟨c, List.mem_range.mpr (h c rfl), rfl⟩))
  | fn => exact absurd rfl hf
  | _ => simp
theorem excCB_ok {K : PySem.W.Frag} {D : Addr} (h : excCB K D = true) : ExcC K D := by
  obtain ⟨h1, h⟩ := He.ba h
  obtain ⟨h2, h⟩ := He.ba h
  obtain ⟨h3, h⟩ := He.ba h
  obtain ⟨h4, h⟩ := He.ba h
  obtain ⟨h5, h⟩ := He.ba h
  obtain ⟨h6, h⟩ := He.ba h
  obtain ⟨h7, h8⟩ := He.ba h
  exact ⟨He.eqO_ok h1, He.eqO_ok h2, of_decide_eq_true h3, h4, He.eqO_ok h5, He.eqO_ok h6, of_decide_eq_true h7, of_decide_eq_true h8⟩
theorem kindB_at {K : PySem.W.Frag} {ca : Nat → Addr} {cs : List Nat} (h : kindB K ca cs = true) {c : Nat} (hc : c ∈ cs) : ExcC K (ca c) ∧ (∀ i, i < 8 → PySem.W.kitOne K (.ref (ca c)) (.ref (ca (101 + i))) = some (c == 101 + i)) ∧ PySem.W.kitOne K (.ref (ca c)) (.type "ValueError") = some true := by
  obtain ⟨h1, h⟩ := He.ba (List.all_eq_true.mp h c hc)
  obtain ⟨h2, h3⟩ := He.ba h
  exact ⟨excCB_ok h1, fun i hi => of_decide_eq_true (List.all_eq_true.mp h2 i (List.mem_range.mpr hi)), of_decide_eq_true h3⟩
theorem exmB_at {K : PySem.W.Frag} {ca : Nat → Addr} {n a b : Nat} (h : exmB K ca n = true) (ha : a < n) (hb : b < n) : PySem.W.exmOne K (.ref (ca (100 + a))) (.ref (ca (100 + b))) = some (decide (100 + a = 100 + b) || decide (100 + b = 100)) :=
  of_decide_eq_true (List.all_eq_true.mp (List.all_eq_true.mp h a (List.mem_range.mpr ha)) b (List.mem_range.mpr hb))
theorem attB_at {K : PySem.W.Frag} {ca : Nat → Addr} {nc : Nat} {as : List Str} (h : attB K ca nc as = true) {c : Nat} {f : Str} (hc : c < nc) (hf : as.contains f = true) : NoAttr K (ca c) f := by
  refine He.eqO_ok (List.all_eq_true.mp (List.all_eq_true.mp h c (List.mem_range.mpr hc)) f ?_)
  rw [List.contains_iff_mem] at hf
  exact hf
variable [TQ]
section
variable {G : Gd}
theorem tyA_eq (k : Kd) : tyV G k = tyA G.ca k := by cases k <;> rfl
theorem kit_ok (h : kitB G.K G.ca G.nc = true) : KitOk G := fun j k b e hj hk => by
  rw [tyA_eq, tyA_eq]
  refine kitB_at h e (kds_mem (fun z => ?_) hj) (kds_mem (fun z => ?_) hk)
  · subst z
    unfold isOfK at e
    split at e <;> cases e
  · subst z
    cases e
theorem ins_ok (h : insB G.K G.ca G.nc = true) (hc : ∀ c, c < G.nc → Cls G.K (G.ca c)) : InsK G := by
  obtain ⟨h1, h⟩ := He.ba h
  obtain ⟨h2, h3⟩ := He.ba h
  refine ⟨fun c hl => ?_, He.eqO_ok h2, of_decide_eq_true h3⟩
  obtain ⟨h4, h5⟩ := He.ba (List.all_eq_true.mp h1 c (List.mem_range.mpr hl))
  exact ⟨hc c hl, He.eqO_ok h4, of_decide_eq_true h5⟩
end
/-- the ground of a program -/
def xnOf (excs : List Str) (c : Nat) : List Str := if excs.getD (c - 100) Str.empty = "Lacks" then ["name"] else if excs.getD (c - 100) Str.empty = "Endless" then ["ring"] else ["-"]
def gdOf (K : PySem.W.Frag) (cls excs : List Str) (ls : List LamD) (tabs : List Addr) : Gd where
  K := K
  ca := caOf K cls excs
  xn := xnOf excs
  lf := lfOf ls
  F0 := fun a => if a ∈ tabs then some (.tbl #[]) else none
  nc := cls.length
  lfm := lfOf_mono ls
theorem xnOf_ne {excs : List Str} {c : Nat} : xnOf excs c ≠ [] := by
  unfold xnOf
  split
  · exact List.cons_ne_nil _ _
  · split <;> exact List.cons_ne_nil _ _
section
variable {G : Gd} {P : Program} {w : World} {K : PySem.W.Frag} {mg : Str → Option Value} {base : Heap} {k n fi : Nat} {p : Pg} {d : Df} {x qual : Str} {params : Arguments} {body : List Stmt} {scope : Scope} {dvs : List V} {kws : List (Str × V)} {f : Addr} {fd : FuncData} {N ps : List Str} {cl : Cl}
theorem fn_none (h : ∀ os, cl fi os = none) : FnOk P w K mg base (L2.CX P w) k f fd ps (spF G cl fi) :=
  ⟨fun vs H Q E ⟨F, A, os, _, _, _, _, q⟩ => by rw [h os] at q; exact q.elim, fun A outer s H args us vs Q E _ _ _ _ ⟨F, A', os, _, _, _, _, q⟩ => by rw [h os] at q; exact q.elim⟩
theorem fun_ok (F : FunD K x qual params body scope dvs kws f fd) (S : FnScope N ps scope) (hf : p.df fi = some d) (hn : N.length = d.n) (hp : ps.length = d.np)
    (hbody : ∀ (cdv : Value), PySem.W.codeIn K cdv qual = true → fd.code = cdv → ∀ (A : Around) (outer : List PySem.Env) (s : Shared) (H : Hp) (E : XK) (pin : List Nat), Room k (A.deeper (envOfC qual scope s.heap.objs.size f cdv)) →
      PSs (cxOf (L2.CX P w) P w K mg base N qual scope f cdv A outer s H E) body (tS G pin (run p n) p.ini E (execs (run p n) p.ini pin d.b))) : FnOk P w K mg base (L2.CX P w) (k + 1) f fd ps (spF G (run p (n + 1)) fi) := by
  obtain ⟨oc, od, dV, kV, doc, pm, an, cdv, ct, osl, rfl, lk, hcd, _, _⟩ := F.ex
  exact fn_ok hf hn hp lk hcd S (hbody cdv hcd rfl)
end
theorem code_at {K : PySem.W.Frag} {x qual : Str} {params : Arguments} {body : List Stmt} {scope : Scope} {dvs : List V} {kws : List (Str × V)} {a : Str × Option Str} {fd : FuncData} (F : FunD K x qual params body scope dvs kws (He.fAd K a) fd) : fd.code = .ref (He.codeOf K a) := by
  obtain ⟨oc, od, dV, kV, doc, pm, an, cdv, ct, osl, rfl, lk, hcd, _, _⟩ := F.ex
  obtain ⟨c, rfl⟩ := He.codeIn_ref hcd
  rw [He.codeOf_eq (c := c) lk rfl]
theorem lam_none {K : PySem.W.Frag} {cls excs : List Str} {ls : List LamD} {tabs : List Addr} {cl : Cl} {P : Program} {w : World} {mg : Str → Option Value} {base : Heap} {k j : Nat} {a : Addr} {F : Hp} (h : ∀ os, cl (1000 + j) os = none) (hl : (gdOf K cls excs ls tabs).lf j a F) : LamOk (gdOf K cls excs ls tabs) cl P w K mg base k j := by
  refine ⟨fun A outer s H F a us vs Q E _ _ _ _ _ ⟨F1, A1, os, _, _, _, _, q⟩ => by rw [h os] at q; exact q.elim, fun a F H h x hl hok => ?_⟩
  obtain ⟨L', c, h0, h1, h2⟩ := hl
  obtain ⟨od, sl, pm, ctv, ho⟩ := lamO_at hok (x.at h1 ext_ne.1 ext_ne.2)
  exact ⟨_, od, _, sl, ho⟩
theorem isos_bls {G : Gd} {F H : Hp} : ∀ bs : List Bool, IsOs G F H (bs.map V.bl) (bs.map fun b => O.fr (.bl b)) []
  | [] => .nil
  | b :: bs => IsOs.cons (A := []) (.fr (.bl b)) (isos_bls bs)
theorem nx_tmp {F H : Hp} {q : Addr} {o : HO} {H0 : Hp} (n : Nx F H0 [] F H []) (h : H q = none) : Nx F H0 [] F (upd H q o) [] := n.trans ((Nx.new n.fh h).sub fun _ m => nomatch m)
theorem upd_two {H : Hp} {a b : Addr} {o u : HO} (h : upd H a o b = none) : upd (upd H a o) b u a = some o := (upd_ne (ne_of_none upd_same h)).trans upd_same
theorem bls_end {G : Gd} {F H H0 : Hp} {q : Addr} {Q : VK} (bs : List Bool) (n : Nx F H0 [] F H []) (h : H q = none) (kq : ∀ v F' H' B, Nx F H0 [] F' H' B → IsO G F' H' v (blsO bs) B → B.Nodup → Q v H') : Q (.ref q) (upd H q (.lst (bs.map V.bl))) :=
  kq _ F _ [q] (n.trans (Nx.new n.fh h)) (.ml (n.fh.none h) upd_same (isos_bls _)) (by simp)
end Ow
end OyG_
section A7h_
set_option Elab.async false
set_option linter.all false
set_option maxRecDepth 100000
set_option maxHeartbeats 0
namespace Ow.A7
open PySem PySem.Spec PyProof.Rows L2
open Ow.RW7 Ow.PB
def mk (at_ : Str × Option Str) (qual : Str) (dfl : List He.Dv) : Stmt → He.DefD
  | .FunctionDef n a b _ _ _ sc _ _ _ => ⟨at_, n, qual, a, b, sc, dfl, []⟩
  | _ => ⟨at_, "", qual, ⟨[], [], none, [], [], none, []⟩, [], ⟨.function, [], false, false, []⟩, [], []⟩
abbrev CLS : List Str := ((["Page", "Book"] : List (Str)))
abbrev EXC : List Str := ((["PageError", "BadPage", "BadBook", "BadName", "BadHanded", "Lacks", "Endless", "TooMany", "Unlike"] : List (Str)))
abbrev ca (K : PySem.W.Frag) : Nat → Addr := caOf K CLS EXC
def d0 : He.DefD := ⟨("Lacks", some "__init__"), "__init__", "Lacks.__init__", fnArgs (inCls (top 6) 0), fnBody (inCls (top 6) 0), fnScope (inCls (top 6) 0), [], []⟩
def d1 : He.DefD := ⟨("Endless", some "__init__"), "__init__", "Endless.__init__", fnArgs (inCls (top 7) 0), fnBody (inCls (top 7) 0), fnScope (inCls (top 7) 0), [], []⟩
def d2 : He.DefD := ⟨("is_name", none), "is_name", "is_name", fnArgs (top 16), fnBody (top 16), fnScope (top 16), [], []⟩
def d3 : He.DefD := ⟨("is_text", none), "is_text", "is_text", fnArgs (top 17), fnBody (top 17), fnScope (top 17), [], []⟩
def d4 : He.DefD := ⟨("read_items", none), "read_items", "read_items", fnArgs (top 18), fnBody (top 18), fnScope (top 18), [], []⟩
def d5 : He.DefD := ⟨("read_item", none), "read_item", "read_item", fnArgs (top 19), fnBody (top 19), fnScope (top 19), [], []⟩
def d6 : He.DefD := ⟨("read_page_items", none), "read_page_items", "read_page_items", fnArgs (top 20), fnBody (top 20), fnScope (top 20), [], []⟩
def d7 : He.DefD := ⟨("copied_items", none), "copied_items", "copied_items", fnArgs (top 21), fnBody (top 21), fnScope (top 21), [], []⟩
def d8 : He.DefD := ⟨("Page", some "__init__"), "__init__", "Page.__init__", fnArgs (inCls (top 22) 0), fnBody (inCls (top 22) 0), fnScope (inCls (top 22) 0), [.non], []⟩
def d9 : He.DefD := ⟨("Page", some "told"), "told", "Page.told", fnArgs (inCls (top 22) 1), fnBody (inCls (top 22) 1), fnScope (inCls (top 22) 1), [], []⟩
def d10 : He.DefD := ⟨("check_line", none), "check_line", "check_line", fnArgs (top 23), fnBody (top 23), fnScope (top 23), [], []⟩
def d11 : He.DefD := ⟨("check_pages", none), "check_pages", "check_pages", fnArgs (top 24), fnBody (top 24), fnScope (top 24), [], []⟩
def d12 : He.DefD := ⟨("Book", some "__init__"), "__init__", "Book.__init__", fnArgs (inCls (top 25) 0), fnBody (inCls (top 25) 0), fnScope (inCls (top 25) 0), [], []⟩
def d13 : He.DefD := ⟨("Book", some "names"), "names", "Book.names", fnArgs (inCls (top 25) 1), fnBody (inCls (top 25) 1), fnScope (inCls (top 25) 1), [], []⟩
def d14 : He.DefD := ⟨("Book", some "page"), "page", "Book.page", fnArgs (inCls (top 25) 2), fnBody (inCls (top 25) 2), fnScope (inCls (top 25) 2), [], []⟩
def d15 : He.DefD := ⟨("Book", some "line"), "line", "Book.line", fnArgs (inCls (top 25) 3), fnBody (inCls (top 25) 3), fnScope (inCls (top 25) 3), [], []⟩
def d16 : He.DefD := ⟨("_law_cell_at", none), "_law_cell_at", "_law_cell_at", fnArgs (top 27), fnBody (top 27), fnScope (top 27), [], []⟩
def d17 : He.DefD := ⟨("_law_kinds", none), "_law_kinds", "_law_kinds", fnArgs (top 28), fnBody (top 28), fnScope (top 28), [], []⟩
def d18 : He.DefD := ⟨("_law_refused", none), "_law_refused", "_law_refused", fnArgs (top 29), fnBody (top 29), fnScope (top 29), [], []⟩
def d19 : He.DefD := ⟨("_law_all", none), "_law_all", "_law_all", fnArgs (top 30), fnBody (top 30), fnScope (top 30), [], []⟩
def d20 : He.DefD := ⟨("_law_no_items", none), "_law_no_items", "_law_no_items", fnArgs (top 31), fnBody (top 31), fnScope (top 31), [], []⟩
def d21 : He.DefD := ⟨("_law_within", none), "_law_within", "_law_within", fnArgs (top 32), fnBody (top 32), fnScope (top 32), [], []⟩
def d22 : He.DefD := ⟨("_law_pages_right", none), "_law_pages_right", "_law_pages_right", fnArgs (top 33), fnBody (top 33), fnScope (top 33), [], []⟩
def d23 : He.DefD := ⟨("_law_books_right", none), "_law_books_right", "_law_books_right", fnArgs (top 34), fnBody (top 34), fnScope (top 34), [], []⟩
def d24 : He.DefD := ⟨("law", none), "law", "law", fnArgs (top 35), fnBody (top 35), fnScope (top 35), [], []⟩
def fn : List He.DefD := (([d0, d1, d2, d3, d4, d5, d6, d7, d8, d9, d10, d11, d12, d13, d14, d15, d16, d17, d18, d19, d20, d21, d22, d23] : List (He.DefD)) ++ ([d24] : List (He.DefD)))
def fa : List He.Fa := (([.free "isinstance", .free "str", .free "len", .free "all", .free "any", .free "abs", .free "list", .free "tuple", .free "dict", .free "bool", .free "int", .free "range", .free "enumerate", .free "zip", .free "set", .free "sorted", .free "sum", .free "ValueError", .glo "is_name", .glo "is_text", .glo "read_items", .glo "read_item", .glo "read_page_items", .glo "copied_items"] : List (He.Fa)) ++ ([.glo "check_line", .glo "check_pages", .glo "_law_cell_at", .glo "_law_kinds", .glo "_law_refused", .glo "_law_all", .glo "_law_no_items", .glo "_law_within", .glo "_law_pages_right", .glo "_law_books_right", .glo "law", .glo "Page", .glo "Book", .glo "PageError", .glo "BadPage", .glo "BadBook", .glo "BadName", .glo "BadHanded", .glo "Lacks", .glo "Endless", .glo "TooMany", .glo "Unlike", .int "MOST_LETTERS" 8, .int "MOST_SIGNS" 60] : List (He.Fa)) ++ ([.int "MOST_ITEMS" 30, .int "MOST_DEEP" 6, .int "MOST_PAGES" 6, .cls "Page", .mkr "Page", .meth "Page" "told", .cls "Book", .mkr "Book", .meth "Book" "names", .meth "Book" "page", .meth "Book" "line", .exc "PageError", .exc "BadPage", .exc "BadBook", .exc "BadName", .exc "BadHanded", .exc "TooMany", .exc "Unlike"] : List (He.Fa)))
def tf : List He.Defn := (([("_law_pages_right", none), ("_law_books_right", none)] : List (He.Defn)))
abbrev tab (K : PySem.W.Frag) (i : Nat) : Addr := (He.cT K (tf.getD i ("", none))).2
def ATT : List Str := ((["elder", "name", "pages", "ring", "rows"] : List (Str)))
def PLAIN : List Nat := [101, 102, 103, 104, 107, 108]
def ex (K : PySem.W.Frag) : Bool := kitB K (ca K) 2 && (insB K (ca K) 2 && (attB K (ca K) 2 ATT && (exmB K (ca K) 9 && (kindB K (ca K) PLAIN && (decide (([tab K 0, tab K 1] : List Addr).Nodup))))))
def loose : List Str := ((["is_name", "is_text", "read_items", "read_item", "read_page_items", "copied_items", "check_line", "check_pages", "_law_cell_at", "_law_kinds", "_law_refused", "_law_all", "_law_no_items", "_law_within", "_law_pages_right", "_law_books_right", "Page", "Book", "PageError", "BadPage", "BadBook", "BadName", "BadHanded", "Lacks"] : List (Str)) ++ (["Endless", "TooMany", "Unlike", "MOST_LETTERS", "MOST_SIGNS", "MOST_ITEMS", "MOST_DEEP", "MOST_PAGES"] : List (Str)))
abbrev R : PySem.W.OpenRow := PySem.W.OpenLaw.row PySem.Challenge.rw_blockpages_k07_refused_pages
abbrev hk : PySem.W.Hook := He.hookX 6 fa fn [] tf ex
def ob (s : PySem.W.SharedT) : He.AlX := He.obsX 6 fa fn [] tf ex (HandSHeadRun.getT s)
theorem ob_eq (s : PySem.W.SharedT) : ob s = hk.obs s.abs := He.obsX_eq (HandSHeadRun.getT_eq s)
theorem hrun (w : World) : HandSHeadRun.RunEq R (PySem.W.view R.prog [35]) hk ob 20000 loose w := by
  intro os
  kernel_rfl

end Ow.A7
end A7h_
section A7_
set_option Elab.async false
set_option linter.all false
set_option maxRecDepth 100000
set_option maxHeartbeats 8000000
namespace Ow.A7
open PySem PySem.Spec PyProof.Rows L2
open Ow.RW7 Ow.PB
abbrev tqI (K : PySem.W.Frag) : TQ := ⟨fun P => if P = tab K 0 then "_law_pages_right.<locals>.<lambda>" else if P = tab K 1 then "_law_books_right.<locals>.<lambda>" else Str.empty⟩
section
variable (K : PySem.W.Frag)
abbrev tabs : List Addr := [tab K 0, tab K 1]
abbrev G [TQ] : Gd := gdOf K CLS EXC LAMS (tabs K)
def ini (c : Nat) : Option Nat := match c with
  | 0 => some 100
  | 1 => some 102
  | _ => none
def pg : Pg := ⟨df, ini, fun _ _ _ => none⟩
end
def DT : List (He.DefD × Nat × List Str) := (([(d0, 200, ((["self", "name"] : List (Str)))), (d1, 201, ((["self", "ring"] : List (Str)))), (d2, 0, ((["value"] : List (Str)))), (d3, 1, ((["value"] : List (Str)))), (d4, 2, ((["items", "deep", "inside", "seen"] : List (Str)))), (d5, 3, ((["item", "deep", "inside", "seen"] : List (Str)))), (d6, 4, ((["items"] : List (Str)))), (d7, 5, ((["items"] : List (Str)))), (d8, 100, ((["self", "name", "items", "elder"] : List (Str)))), (d9, 101, ((["self"] : List (Str)))), (d10, 7, ((["elders", "name"] : List (Str)))), (d11, 8, ((["pages"] : List (Str)))), (d12, 102, ((["self", "pages"] : List (Str)))), (d13, 103, ((["self"] : List (Str)))), (d14, 104, ((["self", "name"] : List (Str)))), (d15, 105, ((["self", "name"] : List (Str)))), (d16, 50, ((["_law_script", "_law_k"] : List (Str)))), (d17, 51, ((["_law_error"] : List (Str)))), (d18, 52, ((["_law_ask", "_law_thing", "_law_which"] : List (Str)))), (d19, 53, ((["_law_asks", "_law_things", "_law_which"] : List (Str)))), (d20, 54, ((["_law_far"] : List (Str)))), (d21, 55, ((["_law_item", "_law_at"] : List (Str)))), (d22, 56, ((["_law_far"] : List (Str)))), (d23, 57, ((["_law_far"] : List (Str))))] : List (He.DefD × Nat × List Str)) ++ ([(d24, 58, ((["_law_script"] : List (Str))))] : List (He.DefD × Nat × List Str)))
theorem fr_all {K : PySem.W.Frag} {h : Heap} {mg : Str → Option Value} (X : K.In h) (Z : h.Ns mainGlobals mg) (c : He.SaysD fa fn K) : ∀ x ∈ frees, mg x = none := by
  intro x hx
  obtain ⟨i, hi⟩ := List.mem_iff_getElem?.mp hx
  have hl : i < 17 := at_lt hi
  by_cases e0 : i = 0
  · subst e0; cases hi; exact He.free_ok X Z (c.fact 0 rfl)
  by_cases e1 : i = 1
  · subst e1; cases hi; exact He.free_ok X Z (c.fact 1 rfl)
  by_cases e2 : i = 2
  · subst e2; cases hi; exact He.free_ok X Z (c.fact 2 rfl)
  by_cases e3 : i = 3
  · subst e3; cases hi; exact He.free_ok X Z (c.fact 3 rfl)
  by_cases e4 : i = 4
  · subst e4; cases hi; exact He.free_ok X Z (c.fact 4 rfl)
  by_cases e5 : i = 5
  · subst e5; cases hi; exact He.free_ok X Z (c.fact 5 rfl)
  by_cases e6 : i = 6
  · subst e6; cases hi; exact He.free_ok X Z (c.fact 6 rfl)
  by_cases e7 : i = 7
  · subst e7; cases hi; exact He.free_ok X Z (c.fact 7 rfl)
  by_cases e8 : i = 8
  · subst e8; cases hi; exact He.free_ok X Z (c.fact 8 rfl)
  by_cases e9 : i = 9
  · subst e9; cases hi; exact He.free_ok X Z (c.fact 9 rfl)
  by_cases e10 : i = 10
  · subst e10; cases hi; exact He.free_ok X Z (c.fact 10 rfl)
  by_cases e11 : i = 11
  · subst e11; cases hi; exact He.free_ok X Z (c.fact 11 rfl)
  by_cases e12 : i = 12
  · subst e12; cases hi; exact He.free_ok X Z (c.fact 12 rfl)
  by_cases e13 : i = 13
  · subst e13; cases hi; exact He.free_ok X Z (c.fact 13 rfl)
  by_cases e14 : i = 14
  · subst e14; cases hi; exact He.free_ok X Z (c.fact 14 rfl)
  by_cases e15 : i = 15
  · subst e15; cases hi; exact He.free_ok X Z (c.fact 15 rfl)
  by_cases e16 : i = 16
  · subst e16; cases hi; exact He.free_ok X Z (c.fact 16 rfl)
  omega
section
variable [TQ] {K : PySem.W.Frag} {P : Program} {w : World} {mg : Str → Option Value} {base : Heap} {cl : Cl} {k : Nat}
theorem wd_mk (X : K.In base) (Z : base.Ns mainGlobals mg) (c : He.SaysD fa fn K) (hx : ex K = true)
    (ok : ∀ (i : Nat) (d : He.DefD) (f : Nat) (ps : List Str), DT[i]? = some (d, f, ps) → ∀ fd, FunD K d.name d.qual d.params d.body d.scope (d.dvs K) (d.kws K) (He.fAd K d.at_) fd → FnOk P w K mg base (L2.CX P w) k (He.fAd K d.at_) fd ps (spF (G K) cl f))
    (lam : ∀ j a F, (G K).lf j a F → LamOk (G K) cl P w K mg base k j) (xt : (T (G K)).xtra P w K mg base k) : Wd (G K) cl ini (T (G K)) P w K mg base k := by
  obtain ⟨x1, hx⟩ := He.ba hx
  obtain ⟨x2, hx⟩ := He.ba hx
  obtain ⟨x3, hx⟩ := He.ba hx
  obtain ⟨x4, hx⟩ := He.ba hx
  have cls : ∀ c1, c1 < 2 → Cls K (ca K c1) := by
    intro c1 h
    by_cases e0 : c1 = 0
    · subst e0; exact He.cls_ok (x := "Page") (c.fact 51 rfl)
    by_cases e1 : c1 = 1
    · subst e1; exact He.cls_ok (x := "Book") (c.fact 54 rfl)
    omega
  refine ⟨fr_all X Z c, ?con, ?cal, ?mt, ?mkr, ?exc, ?cls, ?att, ins_ok x2 cls, kit_ok x1, ?exm, lam, xt⟩
  case con =>
    intro i x d h
    have hl : i < 5 := at_lt h
    by_cases e0 : i = 0
    · subst e0; cases h; obtain ⟨t, e⟩ := He.int_ok X Z (c.fact 46 rfl); exact ⟨.int _, _, e, ⟨t, rfl⟩, .int _⟩
    by_cases e1 : i = 1
    · subst e1; cases h; obtain ⟨t, e⟩ := He.int_ok X Z (c.fact 47 rfl); exact ⟨.int _, _, e, ⟨t, rfl⟩, .int _⟩
    by_cases e2 : i = 2
    · subst e2; cases h; obtain ⟨t, e⟩ := He.int_ok X Z (c.fact 48 rfl); exact ⟨.int _, _, e, ⟨t, rfl⟩, .int _⟩
    by_cases e3 : i = 3
    · subst e3; cases h; obtain ⟨t, e⟩ := He.int_ok X Z (c.fact 49 rfl); exact ⟨.int _, _, e, ⟨t, rfl⟩, .int _⟩
    by_cases e4 : i = 4
    · subst e4; cases h; obtain ⟨t, e⟩ := He.int_ok X Z (c.fact 50 rfl); exact ⟨.int _, _, e, ⟨t, rfl⟩, .int _⟩
    omega
  case cal =>
    intro f x h
    obtain ⟨i, hi⟩ := List.mem_iff_getElem?.mp (mem_lk h)
    have hl : i < 17 := at_lt hi
    by_cases e0 : i = 0
    · subst e0; cases hi; obtain ⟨fd, F⟩ := c.def_ 2 (d := d2) rfl; exact ⟨_, fd, _, ok 2 d2 0 _ rfl fd F, He.glo_ok X Z (x := "is_name") (c.fact 18 rfl), F.kp, F.bindsN (ps := ((["value"] : List (Str)))) fun _ _ _ _ _ _ us hl => match us, hl with | [_], _ => rfl⟩
    by_cases e1 : i = 1
    · subst e1; cases hi; obtain ⟨fd, F⟩ := c.def_ 3 (d := d3) rfl; exact ⟨_, fd, _, ok 3 d3 1 _ rfl fd F, He.glo_ok X Z (x := "is_text") (c.fact 19 rfl), F.kp, F.bindsN (ps := ((["value"] : List (Str)))) fun _ _ _ _ _ _ us hl => match us, hl with | [_], _ => rfl⟩
    by_cases e2 : i = 2
    · subst e2; cases hi; obtain ⟨fd, F⟩ := c.def_ 4 (d := d4) rfl; exact ⟨_, fd, _, ok 4 d4 2 _ rfl fd F, He.glo_ok X Z (x := "read_items") (c.fact 20 rfl), F.kp, F.bindsN (ps := ((["items", "deep", "inside", "seen"] : List (Str)))) fun _ _ _ _ _ _ us hl => match us, hl with | [_, _, _, _], _ => rfl⟩
    by_cases e3 : i = 3
    · subst e3; cases hi; obtain ⟨fd, F⟩ := c.def_ 5 (d := d5) rfl; exact ⟨_, fd, _, ok 5 d5 3 _ rfl fd F, He.glo_ok X Z (x := "read_item") (c.fact 21 rfl), F.kp, F.bindsN (ps := ((["item", "deep", "inside", "seen"] : List (Str)))) fun _ _ _ _ _ _ us hl => match us, hl with | [_, _, _, _], _ => rfl⟩
    by_cases e4 : i = 4
    · subst e4; cases hi; obtain ⟨fd, F⟩ := c.def_ 6 (d := d6) rfl; exact ⟨_, fd, _, ok 6 d6 4 _ rfl fd F, He.glo_ok X Z (x := "read_page_items") (c.fact 22 rfl), F.kp, F.bindsN (ps := ((["items"] : List (Str)))) fun _ _ _ _ _ _ us hl => match us, hl with | [_], _ => rfl⟩
    by_cases e5 : i = 5
    · subst e5; cases hi; obtain ⟨fd, F⟩ := c.def_ 7 (d := d7) rfl; exact ⟨_, fd, _, ok 7 d7 5 _ rfl fd F, He.glo_ok X Z (x := "copied_items") (c.fact 23 rfl), F.kp, F.bindsN (ps := ((["items"] : List (Str)))) fun _ _ _ _ _ _ us hl => match us, hl with | [_], _ => rfl⟩
    by_cases e6 : i = 6
    · subst e6; cases hi; obtain ⟨fd, F⟩ := c.def_ 10 (d := d10) rfl; exact ⟨_, fd, _, ok 10 d10 7 _ rfl fd F, He.glo_ok X Z (x := "check_line") (c.fact 24 rfl), F.kp, F.bindsN (ps := ((["elders", "name"] : List (Str)))) fun _ _ _ _ _ _ us hl => match us, hl with | [_, _], _ => rfl⟩
    by_cases e7 : i = 7
    · subst e7; cases hi; obtain ⟨fd, F⟩ := c.def_ 11 (d := d11) rfl; exact ⟨_, fd, _, ok 11 d11 8 _ rfl fd F, He.glo_ok X Z (x := "check_pages") (c.fact 25 rfl), F.kp, F.bindsN (ps := ((["pages"] : List (Str)))) fun _ _ _ _ _ _ us hl => match us, hl with | [_], _ => rfl⟩
    by_cases e8 : i = 8
    · subst e8; cases hi; obtain ⟨fd, F⟩ := c.def_ 16 (d := d16) rfl; exact ⟨_, fd, _, ok 16 d16 50 _ rfl fd F, He.glo_ok X Z (x := "_law_cell_at") (c.fact 26 rfl), F.kp, F.bindsN (ps := ((["_law_script", "_law_k"] : List (Str)))) fun _ _ _ _ _ _ us hl => match us, hl with | [_, _], _ => rfl⟩
    by_cases e9 : i = 9
    · subst e9; cases hi; obtain ⟨fd, F⟩ := c.def_ 17 (d := d17) rfl; exact ⟨_, fd, _, ok 17 d17 51 _ rfl fd F, He.glo_ok X Z (x := "_law_kinds") (c.fact 27 rfl), F.kp, F.bindsN (ps := ((["_law_error"] : List (Str)))) fun _ _ _ _ _ _ us hl => match us, hl with | [_], _ => rfl⟩
    by_cases e10 : i = 10
    · subst e10; cases hi; obtain ⟨fd, F⟩ := c.def_ 18 (d := d18) rfl; exact ⟨_, fd, _, ok 18 d18 52 _ rfl fd F, He.glo_ok X Z (x := "_law_refused") (c.fact 28 rfl), F.kp, F.bindsN (ps := ((["_law_ask", "_law_thing", "_law_which"] : List (Str)))) fun _ _ _ _ _ _ us hl => match us, hl with | [_, _, _], _ => rfl⟩
    by_cases e11 : i = 11
    · subst e11; cases hi; obtain ⟨fd, F⟩ := c.def_ 19 (d := d19) rfl; exact ⟨_, fd, _, ok 19 d19 53 _ rfl fd F, He.glo_ok X Z (x := "_law_all") (c.fact 29 rfl), F.kp, F.bindsN (ps := ((["_law_asks", "_law_things", "_law_which"] : List (Str)))) fun _ _ _ _ _ _ us hl => match us, hl with | [_, _, _], _ => rfl⟩
    by_cases e12 : i = 12
    · subst e12; cases hi; obtain ⟨fd, F⟩ := c.def_ 20 (d := d20) rfl; exact ⟨_, fd, _, ok 20 d20 54 _ rfl fd F, He.glo_ok X Z (x := "_law_no_items") (c.fact 30 rfl), F.kp, F.bindsN (ps := ((["_law_far"] : List (Str)))) fun _ _ _ _ _ _ us hl => match us, hl with | [_], _ => rfl⟩
    by_cases e13 : i = 13
    · subst e13; cases hi; obtain ⟨fd, F⟩ := c.def_ 21 (d := d21) rfl; exact ⟨_, fd, _, ok 21 d21 55 _ rfl fd F, He.glo_ok X Z (x := "_law_within") (c.fact 31 rfl), F.kp, F.bindsN (ps := ((["_law_item", "_law_at"] : List (Str)))) fun _ _ _ _ _ _ us hl => match us, hl with | [_, _], _ => rfl⟩
    by_cases e14 : i = 14
    · subst e14; cases hi; obtain ⟨fd, F⟩ := c.def_ 22 (d := d22) rfl; exact ⟨_, fd, _, ok 22 d22 56 _ rfl fd F, He.glo_ok X Z (x := "_law_pages_right") (c.fact 32 rfl), F.kp, F.bindsN (ps := ((["_law_far"] : List (Str)))) fun _ _ _ _ _ _ us hl => match us, hl with | [_], _ => rfl⟩
    by_cases e15 : i = 15
    · subst e15; cases hi; obtain ⟨fd, F⟩ := c.def_ 23 (d := d23) rfl; exact ⟨_, fd, _, ok 23 d23 57 _ rfl fd F, He.glo_ok X Z (x := "_law_books_right") (c.fact 33 rfl), F.kp, F.bindsN (ps := ((["_law_far"] : List (Str)))) fun _ _ _ _ _ _ us hl => match us, hl with | [_], _ => rfl⟩
    by_cases e16 : i = 16
    · subst e16; cases hi; obtain ⟨fd, F⟩ := c.def_ 24 (d := d24) rfl; exact ⟨_, fd, _, ok 24 d24 58 _ rfl fd F, He.glo_ok X Z (x := "law") (c.fact 34 rfl), F.kp, F.bindsN (ps := ((["_law_script"] : List (Str)))) fun _ _ _ _ _ _ us hl => match us, hl with | [_], _ => rfl⟩
    omega
  case mt =>
    intro f c1 m h
    have hm : (f, c1, m) ∈ (T (G K)).mts := mem_lk h
    obtain ⟨i, hi⟩ := List.mem_iff_getElem?.mp hm
    have hl : i < 4 := at_lt hi
    
    by_cases e0 : i = 0
    · subst e0; cases hi; obtain ⟨fd, F⟩ := c.def_ 9 (d := d9) rfl; exact ⟨_, fd, _, cls 0 (by decide), He.meth_ok (x := "Page") (m := "told") (c.fact 53 rfl), ok 9 d9 101 _ rfl fd F, F.bindsN (ps := ((["self"] : List (Str)))) fun _ _ _ _ _ _ us hl => match us, hl with | [_], _ => rfl⟩
    by_cases e1 : i = 1
    · subst e1; cases hi; obtain ⟨fd, F⟩ := c.def_ 13 (d := d13) rfl; exact ⟨_, fd, _, cls 1 (by decide), He.meth_ok (x := "Book") (m := "names") (c.fact 56 rfl), ok 13 d13 103 _ rfl fd F, F.bindsN (ps := ((["self"] : List (Str)))) fun _ _ _ _ _ _ us hl => match us, hl with | [_], _ => rfl⟩
    by_cases e2 : i = 2
    · subst e2; cases hi; obtain ⟨fd, F⟩ := c.def_ 14 (d := d14) rfl; exact ⟨_, fd, _, cls 1 (by decide), He.meth_ok (x := "Book") (m := "page") (c.fact 57 rfl), ok 14 d14 104 _ rfl fd F, F.bindsN (ps := ((["self", "name"] : List (Str)))) fun _ _ _ _ _ _ us hl => match us, hl with | [_, _], _ => rfl⟩
    by_cases e3 : i = 3
    · subst e3; cases hi; obtain ⟨fd, F⟩ := c.def_ 15 (d := d15) rfl; exact ⟨_, fd, _, cls 1 (by decide), He.meth_ok (x := "Book") (m := "line") (c.fact 58 rfl), ok 15 d15 105 _ rfl fd F, F.bindsN (ps := ((["self", "name"] : List (Str)))) fun _ _ _ _ _ _ us hl => match us, hl with | [_, _], _ => rfl⟩
    omega
  case mkr =>
    intro i c1 x f ds h
    have hl : i < 3 := at_lt h
    by_cases e0 : i = 0
    · subst e0; cases h; obtain ⟨fd, F⟩ := c.def_ 8 (d := d8) rfl
      obtain ⟨dus, hv, hb⟩ := FunD.binds1 (ps := ((["self", "name", "items", "elder"] : List (Str)))) F 4 1 (fun z => by cases z) rfl fun _ _ _ _ _ _ _ us its h1 h2 => match us, its, h1, h2 with | [_, _, _, _], [_], _, _ => ⟨_, rfl, rfl⟩
      exact ⟨_, fd, _, dus, _, (show 0 < 2 by decide), rfl, He.mkr_ok (x := "Page") (c.fact 52 rfl), He.glo_ok X Z (x := "Page") (c.fact 35 rfl), ok 8 d8 100 _ rfl fd F, hb, hv, fun F => .nil⟩
    by_cases e1 : i = 1
    · subst e1; cases h; obtain ⟨fd, F⟩ := c.def_ 8 (d := d8) rfl
      obtain ⟨dus, hv, hb⟩ := FunD.binds1 (ps := ((["self", "name", "items", "elder"] : List (Str)))) F 3 0 (fun z => by cases z) rfl fun _ _ _ _ _ _ _ us its h1 h2 => match us, its, h1, h2 with | [_, _, _], [_], _, _ => ⟨_, rfl, rfl⟩
      exact ⟨_, fd, _, dus, _, (show 0 < 2 by decide), rfl, He.mkr_ok (x := "Page") (c.fact 52 rfl), He.glo_ok X Z (x := "Page") (c.fact 35 rfl), ok 8 d8 100 _ rfl fd F, hb, hv, fun F => (.cons .non .nil)⟩
    by_cases e2 : i = 2
    · subst e2; cases h; obtain ⟨fd, F⟩ := c.def_ 12 (d := d12) rfl; exact ⟨_, fd, _, [], [], (show 1 < 2 by decide), rfl, He.mkr_ok (x := "Book") (c.fact 55 rfl), He.glo_ok X Z (x := "Book") (c.fact 36 rfl), ok 12 d12 102 _ rfl fd F, F.bindsN (ps := ((["self", "pages"] : List (Str)))) fun _ _ _ _ _ _ us hl => match us, hl with | [_, _], _ => rfl, .nil, fun F => .nil⟩
    omega
  case exc =>
    intro i c1 x h
    have hl : i < 7 := at_lt h
    by_cases e0 : i = 0
    · subst e0; cases h; obtain ⟨q1, q2, q3, q4⟩ := He.exc_ok (x := "PageError") (c.fact 59 rfl); exact ⟨_, _, _, _, PySem.F.excBase_ValueError, q1, He.glo_ok X Z (x := "PageError") (c.fact 37 rfl), q2, q3, q4⟩
    by_cases e1 : i = 1
    · subst e1; cases h; obtain ⟨q1, q2, q3, q4⟩ := He.exc_ok (x := "BadPage") (c.fact 60 rfl); exact ⟨_, _, _, _, PySem.F.excBase_ValueError, q1, He.glo_ok X Z (x := "BadPage") (c.fact 38 rfl), q2, q3, q4⟩
    by_cases e2 : i = 2
    · subst e2; cases h; obtain ⟨q1, q2, q3, q4⟩ := He.exc_ok (x := "BadBook") (c.fact 61 rfl); exact ⟨_, _, _, _, PySem.F.excBase_ValueError, q1, He.glo_ok X Z (x := "BadBook") (c.fact 39 rfl), q2, q3, q4⟩
    by_cases e3 : i = 3
    · subst e3; cases h; obtain ⟨q1, q2, q3, q4⟩ := He.exc_ok (x := "BadName") (c.fact 62 rfl); exact ⟨_, _, _, _, PySem.F.excBase_ValueError, q1, He.glo_ok X Z (x := "BadName") (c.fact 40 rfl), q2, q3, q4⟩
    by_cases e4 : i = 4
    · subst e4; cases h; obtain ⟨q1, q2, q3, q4⟩ := He.exc_ok (x := "BadHanded") (c.fact 63 rfl); exact ⟨_, _, _, _, PySem.F.excBase_ValueError, q1, He.glo_ok X Z (x := "BadHanded") (c.fact 41 rfl), q2, q3, q4⟩
    by_cases e5 : i = 5
    · subst e5; cases h; obtain ⟨q1, q2, q3, q4⟩ := He.exc_ok (x := "TooMany") (c.fact 64 rfl); exact ⟨_, _, _, _, PySem.F.excBase_ValueError, q1, He.glo_ok X Z (x := "TooMany") (c.fact 44 rfl), q2, q3, q4⟩
    by_cases e6 : i = 6
    · subst e6; cases h; obtain ⟨q1, q2, q3, q4⟩ := He.exc_ok (x := "Unlike") (c.fact 65 rfl); exact ⟨_, _, _, _, PySem.F.excBase_ValueError, q1, He.glo_ok X Z (x := "Unlike") (c.fact 45 rfl), q2, q3, q4⟩
    omega
  case cls =>
    intro c1 x h
    have hl : c1 < 2 := at_lt h
    by_cases e0 : c1 = 0
    · subst e0; cases h; exact ⟨hl, He.glo_ok X Z (x := "Page") (c.fact 35 rfl)⟩
    by_cases e1 : c1 = 1
    · subst e1; cases h; exact ⟨hl, He.glo_ok X Z (x := "Book") (c.fact 36 rfl)⟩
    omega
  case att => exact fun f hf c1 hc => ⟨cls c1 hc, attB_at x3 hc hf⟩
  case exm =>
    intro a b r h
    unfold T exm at h
    dsimp only at h
    split at h
    · rename_i q
      cases h
      have z := exmB_at x4 (a := a - 100) (b := b - 100) (by omega) (by omega)
      rw [show 100 + (a - 100) = a from by omega, show 100 + (b - 100) = b from by omega] at z
      exact z
    · cases h
theorem sc2 : FnScope N_is_name ((["value"] : List (Str))) (fnScope s_is_name) := ⟨rfl, rfl, rfl, by decide +kernel, rfl, by decide +kernel, by decide +kernel⟩
theorem sc3 : FnScope N_is_text ((["value"] : List (Str))) (fnScope s_is_text) := ⟨rfl, rfl, rfl, by decide +kernel, rfl, by decide +kernel, by decide +kernel⟩
theorem sc4 : FnScope N_read_items ((["items", "deep", "inside", "seen"] : List (Str))) (fnScope s_read_items) := ⟨rfl, rfl, rfl, by decide +kernel, rfl, by decide +kernel, by decide +kernel⟩
theorem sc5 : FnScope N_read_item ((["item", "deep", "inside", "seen"] : List (Str))) (fnScope s_read_item) := ⟨rfl, rfl, rfl, by decide +kernel, rfl, by decide +kernel, by decide +kernel⟩
theorem sc6 : FnScope N_read_page_items ((["items"] : List (Str))) (fnScope s_read_page_items) := ⟨rfl, rfl, rfl, by decide +kernel, rfl, by decide +kernel, by decide +kernel⟩
theorem sc7 : FnScope N_copied_items ((["items"] : List (Str))) (fnScope s_copied_items) := ⟨rfl, rfl, rfl, by decide +kernel, rfl, by decide +kernel, by decide +kernel⟩
theorem sc8 : FnScope N_Page_init ((["self", "name", "items", "elder"] : List (Str))) (fnScope s_Page_init) := ⟨rfl, rfl, rfl, by decide +kernel, rfl, by decide +kernel, by decide +kernel⟩
theorem sc9 : FnScope N_Page_told ((["self"] : List (Str))) (fnScope s_Page_told) := ⟨rfl, rfl, rfl, by decide +kernel, rfl, by decide +kernel, by decide +kernel⟩
theorem sc10 : FnScope N_check_line ((["elders", "name"] : List (Str))) (fnScope s_check_line) := ⟨rfl, rfl, rfl, by decide +kernel, rfl, by decide +kernel, by decide +kernel⟩
theorem sc11 : FnScope N_check_pages ((["pages"] : List (Str))) (fnScope s_check_pages) := ⟨rfl, rfl, rfl, by decide +kernel, rfl, by decide +kernel, by decide +kernel⟩
theorem sc12 : FnScope N_Book_init ((["self", "pages"] : List (Str))) (fnScope s_Book_init) := ⟨rfl, rfl, rfl, by decide +kernel, rfl, by decide +kernel, by decide +kernel⟩
theorem sc13 : FnScope N_Book_names ((["self"] : List (Str))) (fnScope s_Book_names) := ⟨rfl, rfl, rfl, by decide +kernel, rfl, by decide +kernel, by decide +kernel⟩
theorem sc14 : FnScope N_Book_page ((["self", "name"] : List (Str))) (fnScope s_Book_page) := ⟨rfl, rfl, rfl, by decide +kernel, rfl, by decide +kernel, by decide +kernel⟩
theorem sc15 : FnScope N_Book_line ((["self", "name"] : List (Str))) (fnScope s_Book_line) := ⟨rfl, rfl, rfl, by decide +kernel, rfl, by decide +kernel, by decide +kernel⟩
theorem sc16 : FnScope N__law_cell_at ((["_law_script", "_law_k"] : List (Str))) (fnScope s__law_cell_at) := ⟨rfl, rfl, rfl, by decide +kernel, rfl, by decide +kernel, by decide +kernel⟩
theorem sc18 : FnScope N__law_refused ((["_law_ask", "_law_thing", "_law_which"] : List (Str))) (fnScope s__law_refused) := ⟨rfl, rfl, rfl, by decide +kernel, rfl, by decide +kernel, by decide +kernel⟩
theorem sc19 : FnScope N__law_all ((["_law_asks", "_law_things", "_law_which"] : List (Str))) (fnScope s__law_all) := ⟨rfl, rfl, rfl, by decide +kernel, rfl, by decide +kernel, by decide +kernel⟩
theorem sc20 : FnScope N__law_no_items ((["_law_far"] : List (Str))) (fnScope s__law_no_items) := ⟨rfl, rfl, rfl, by decide +kernel, rfl, by decide +kernel, by decide +kernel⟩
theorem sc21 : FnScope N__law_within ((["_law_item", "_law_at"] : List (Str))) (fnScope s__law_within) := ⟨rfl, rfl, rfl, by decide +kernel, rfl, by decide +kernel, by decide +kernel⟩
theorem sc22 : FnScope N__law_pages_right ((["_law_far"] : List (Str))) (fnScope s__law_pages_right) := ⟨rfl, rfl, rfl, by decide +kernel, rfl, by decide +kernel, by decide +kernel⟩
theorem sc23 : FnScope N__law_books_right ((["_law_far"] : List (Str))) (fnScope s__law_books_right) := ⟨rfl, rfl, rfl, by decide +kernel, rfl, by decide +kernel, by decide +kernel⟩
theorem sc24 : FnScope N_law ((["_law_script"] : List (Str))) (fnScope s_law) := ⟨rfl, rfl, rfl, by decide +kernel, rfl, by decide +kernel, by decide +kernel⟩
theorem scL0 : NdefX.NScope L_0.N L_0.ps [] L_0.scope := NdefX.nscope_by (by decide +kernel)
theorem scL1 : NdefX.NScope L_1.N L_1.ps [] L_1.scope := NdefX.nscope_by (by decide +kernel)
theorem scL2 : NdefX.NScope L_2.N L_2.ps [] L_2.scope := NdefX.nscope_by (by decide +kernel)
theorem scL3 : NdefX.NScope L_3.N L_3.ps [] L_3.scope := NdefX.nscope_by (by decide +kernel)
theorem ne_tab {i j : Nat} {a b : Addr} (hx : ex K = true) (hi : (tabs K)[i]? = some a) (hj : (tabs K)[j]? = some b) (h : i < j) : a ≠ b := by
  obtain ⟨_, hx⟩ := He.ba hx
  obtain ⟨_, hx⟩ := He.ba hx
  obtain ⟨_, hx⟩ := He.ba hx
  obtain ⟨_, hx⟩ := He.ba hx
  obtain ⟨_, hx⟩ := He.ba hx
  have nd : (tabs K).Nodup := of_decide_eq_true hx
  obtain ⟨h1, rfl⟩ := List.getElem?_eq_some_iff.mp hi
  obtain ⟨h2, rfl⟩ := List.getElem?_eq_some_iff.mp hj
  exact List.pairwise_iff_getElem.mp nd i j h1 h2 h
theorem wdN (X : K.In base) (Z : base.Ns mainGlobals mg) (c : He.SaysD fa fn K) (hx : ex K = true) (xt : ∀ k, 1 ≤ k → (T (G K)).xtra P w K mg base k) (ht0 : TQ.tq (tab K 0) = "_law_pages_right" ++ ".<locals>.<lambda>") (hb0 : LamX.TabB base mg (He.cT K (tf.getD 0 ("", none))).1 (tab K 0)) (ht1 : TQ.tq (tab K 1) = "_law_books_right" ++ ".<locals>.<lambda>") (hb1 : LamX.TabB base mg (He.cT K (tf.getD 1 ("", none))).1 (tab K 1)) : ∀ n k, 2 * n + 1 ≤ k → Wd (G K) (run pg n) pg.ini (T (G K)) P w K mg base k := by
  intro n
  induction n with
  | zero => exact fun k hk => wd_mk X Z c hx (fun i d f ps h fd F => fn_none fun os => rfl) (fun j a F hl => lam_none (fun os => rfl) hl) (xt k (by omega))
  | succ n ih =>
    intro k hk
    obtain ⟨k, rfl⟩ : ∃ k', k = k' + 2 := ⟨k - 2, by omega⟩
    have W := ih k (by omega)
    have hlf : ∀ j L, LAMS[j]? = some L → ∀ a F c, F a = some (LamO a L [] c) → F c = some (LamX.CodeO c L.q) → (G K).lf j a F := fun j L h a F c h1 h2 => ⟨L, c, h, h1, h2⟩
    refine wd_mk X Z c hx (fun i d f ps h fd F => ?_) (fun j a F hl => ?_) (xt _ (by omega))
    · have hl := at_lt h
      have hl : i < 25 := hl
      by_cases e0 : i = 0
      · subst e0; cases h; exact fn_none fun os => rfl
      by_cases e1 : i = 1
      · subst e1; cases h; exact fn_none fun os => rfl
      by_cases e2 : i = 2
      · subst e2; cases h; exact fun_ok F sc2 rfl rfl rfl fun cdv hcd hcode A outer s H E pin hr => h_is_name (bd_cx rfl sc2.nd hr W)
      by_cases e3 : i = 3
      · subst e3; cases h; exact fun_ok F sc3 rfl rfl rfl fun cdv hcd hcode A outer s H E pin hr => h_is_text (bd_cx rfl sc3.nd hr W)
      by_cases e4 : i = 4
      · subst e4; cases h; exact fun_ok F sc4 rfl rfl rfl fun cdv hcd hcode A outer s H E pin hr => h_read_items (bd_cx rfl sc4.nd hr W)
      by_cases e5 : i = 5
      · subst e5; cases h; exact fun_ok F sc5 rfl rfl rfl fun cdv hcd hcode A outer s H E pin hr => h_read_item (bd_cx rfl sc5.nd hr W)
      by_cases e6 : i = 6
      · subst e6; cases h; exact fun_ok F sc6 rfl rfl rfl fun cdv hcd hcode A outer s H E pin hr => h_read_page_items (bd_cx rfl sc6.nd hr W)
      by_cases e7 : i = 7
      · subst e7; cases h; exact fun_ok F sc7 rfl rfl rfl fun cdv hcd hcode A outer s H E pin hr => h_copied_items (bd_cx rfl sc7.nd hr W)
      by_cases e8 : i = 8
      · subst e8; cases h; exact fun_ok F sc8 rfl rfl rfl fun cdv hcd hcode A outer s H E pin hr => h_Page_init (bd_cx rfl sc8.nd hr W)
      by_cases e9 : i = 9
      · subst e9; cases h; exact fun_ok F sc9 rfl rfl rfl fun cdv hcd hcode A outer s H E pin hr => h_Page_told (bd_cx rfl sc9.nd hr W)
      by_cases e10 : i = 10
      · subst e10; cases h; exact fun_ok F sc10 rfl rfl rfl fun cdv hcd hcode A outer s H E pin hr => h_check_line (bd_cx rfl sc10.nd hr W)
      by_cases e11 : i = 11
      · subst e11; cases h; exact fun_ok F sc11 rfl rfl rfl fun cdv hcd hcode A outer s H E pin hr => h_check_pages (bd_cx rfl sc11.nd hr W)
      by_cases e12 : i = 12
      · subst e12; cases h; exact fun_ok F sc12 rfl rfl rfl fun cdv hcd hcode A outer s H E pin hr => h_Book_init (bd_cx rfl sc12.nd hr W)
      by_cases e13 : i = 13
      · subst e13; cases h; exact fun_ok F sc13 rfl rfl rfl fun cdv hcd hcode A outer s H E pin hr => h_Book_names (bd_cx rfl sc13.nd hr W)
      by_cases e14 : i = 14
      · subst e14; cases h; exact fun_ok F sc14 rfl rfl rfl fun cdv hcd hcode A outer s H E pin hr => h_Book_page (bd_cx rfl sc14.nd hr W)
      by_cases e15 : i = 15
      · subst e15; cases h; exact fun_ok F sc15 rfl rfl rfl fun cdv hcd hcode A outer s H E pin hr => h_Book_line (bd_cx rfl sc15.nd hr W)
      by_cases e16 : i = 16
      · subst e16; cases h; exact fun_ok F sc16 rfl rfl rfl fun cdv hcd hcode A outer s H E pin hr => h__law_cell_at (bd_cx rfl sc16.nd hr W)
      by_cases e17 : i = 17
      · subst e17; cases h; exact fn_none fun os => rfl
      by_cases e18 : i = 18
      · subst e18; cases h; exact fun_ok F sc18 rfl rfl rfl fun cdv hcd hcode A outer s H E pin hr => h__law_refused (bd_cx rfl sc18.nd hr W)
      by_cases e19 : i = 19
      · subst e19; cases h; exact fun_ok F sc19 rfl rfl rfl fun cdv hcd hcode A outer s H E pin hr => h__law_all (bd_cx rfl sc19.nd hr W)
      by_cases e20 : i = 20
      · subst e20; cases h; exact fun_ok F sc20 rfl rfl rfl fun cdv hcd hcode A outer s H E pin hr => h__law_no_items (bd_cx rfl sc20.nd hr W)
      by_cases e21 : i = 21
      · subst e21; cases h; exact fun_ok F sc21 rfl rfl rfl fun cdv hcd hcode A outer s H E pin hr => h__law_within (bd_cx rfl sc21.nd hr W)
      by_cases e22 : i = 22
      · subst e22; cases h; exact fun_ok F sc22 rfl rfl rfl fun cdv hcd hcode A outer s H E pin hr => h__law_pages_right ⟨_, tab K 0, by rw [← hcode]; exact code_at F, hb0, ht0, if_pos (by simp)⟩ hlf (bd_cx rfl sc22.nd hr W)
      by_cases e23 : i = 23
      · subst e23; cases h; exact fun_ok F sc23 rfl rfl rfl fun cdv hcd hcode A outer s H E pin hr => h__law_books_right ⟨_, tab K 1, by rw [← hcode]; exact code_at F, hb1, ht1, if_pos (by simp)⟩ hlf (bd_cx rfl sc23.nd hr W)
      by_cases e24 : i = 24
      · subst e24; cases h; exact fun_ok F sc24 rfl rfl rfl fun cdv hcd hcode A outer s H E pin hr => h_law (bd_cx rfl sc24.nd hr W)
      omega
    · obtain ⟨L, c1, h1, h2, h3⟩ := id hl
      have hj := at_lt h1
      have hj : j < 4 := hj
      by_cases e0 : j = 0
      · subst e0; cases h1; exact lam_ok LAMS (fun a F z => z) rfl rfl rfl rfl rfl scL0 (fun pm cv ctv us hl => match us, hl with | [_], _ => rfl) (fun A outer s H E f c hr => hl_0 (bd_ncx rfl scL0.nd hr W))
      by_cases e1 : j = 1
      · subst e1; cases h1; exact lam_ok LAMS (fun a F z => z) rfl rfl rfl rfl rfl scL1 (fun pm cv ctv us hl => match us, hl with | [_], _ => rfl) (fun A outer s H E f c hr => hl_1 (bd_ncx rfl scL1.nd hr W))
      by_cases e2 : j = 2
      · subst e2; cases h1; exact lam_ok LAMS (fun a F z => z) rfl rfl rfl rfl rfl scL2 (fun pm cv ctv us hl => match us, hl with | [_], _ => rfl) (fun A outer s H E f c hr => hl_2 (bd_ncx rfl scL2.nd hr W))
      by_cases e3 : j = 3
      · subst e3; cases h1; exact lam_ok LAMS (fun a F z => z) rfl rfl rfl rfl rfl scL3 (fun pm cv ctv us hl => match us, hl with | [_], _ => rfl) (fun A outer s H E f c hr => hl_3 (bd_ncx rfl scL3.nd hr W))
      omega
abbrev s__law_kinds' : Stmt := s__law_kinds
theorem scK : FnScope ["_law_error", "_law_found"] ["_law_error"] (fnScope s__law_kinds) := ⟨rfl, rfl, rfl, by decide +kernel, rfl, by decide +kernel, by decide +kernel⟩
theorem k_kinds {fd : FuncData} (X : K.In base) (Z : base.Ns mainGlobals mg) (fc : He.SaysD fa fn K) (hx : ex K = true) (F : FunD K d17.name d17.qual d17.params d17.body d17.scope (d17.dvs K) (d17.kws K) (He.fAd K d17.at_) fd) : FnS P w K mg base (k + 1) (He.fAd K d17.at_) fd ["_law_error"] (spKd (G K) kd) := by
  obtain ⟨x1, hx⟩ := He.ba hx
  obtain ⟨x2, hx⟩ := He.ba hx
  obtain ⟨x3, hx⟩ := He.ba hx
  obtain ⟨x4, hx⟩ := He.ba hx
  obtain ⟨x5, hx⟩ := He.ba hx
  obtain ⟨oc, od, dV, kV, doc, pm, an, cdv, ct, osl, rfl, lk, hcd, _, _⟩ := F.ex
  refine fnS_of lk hcd scK (fun p vs H Q ⟨_, _, _, _, e, _⟩ => by rw [e]; rfl) fun A outer s H vs Q p hr hsp => ?_
  obtain ⟨F0, c, bs, hE, rfl, hz, hf, hk, kq⟩ := hsp
  have hc : c ∈ PLAIN := by
    unfold kd at hk
    split at hk
    · rename_i q; exact List.contains_iff_mem.mp q
    · cases hk
  have hbs : bs = (List.range 8).map (fun i => c == 101 + i) ++ [true] := by
    unfold kd at hk
    split at hk
    · exact (Option.some.inj hk).symm
    · cases hk
  obtain ⟨ec, kk, kv⟩ := kindB_at x5 hc
  have Z1 : Pin1 (L2H.cxH (L2.CX P w) P w K mg base ["_law_error", "_law_found"] "_law_kinds" (fnScope s__law_kinds) (He.fAd K d17.at_) cdv A outer s H E0' p) p.1 (ca K c) 0 "_law_error" := ⟨call_isP (oe := p.2) ec List.mem_cons_self hz hf, rfl, .inl rfl, rfl, He.free_ok X Z (x := "isinstance") (fc.fact 0 rfl), rfl, rfl⟩
  refine ⟨_, pss_cons (ps_set (i := 1) scK.nd rfl (.inl rfl) (pe_lst (pa_cons (pe_isP (v := .ref (ca K 101)) (cv := .ref (ca K 101)) Z1 (pe_glob rfl (He.glo_ok X Z (x := "BadPage") (fc.fact 38 rfl)) rfl) (fun u h => h) (kk 0 (by decide))) (pa_cons (pe_isP (v := .ref (ca K 102)) (cv := .ref (ca K 102)) Z1 (pe_glob rfl (He.glo_ok X Z (x := "BadBook") (fc.fact 39 rfl)) rfl) (fun u h => h) (kk 1 (by decide))) (pa_cons (pe_isP (v := .ref (ca K 103)) (cv := .ref (ca K 103)) Z1 (pe_glob rfl (He.glo_ok X Z (x := "BadName") (fc.fact 40 rfl)) rfl) (fun u h => h) (kk 2 (by decide))) pa_nil))))) (pss_cons (ps_set (i := 1) scK.nd rfl (.inl rfl) (pe_op op_cat (pe_var (i := 1) rfl (.inl rfl)) (pe_lst (pa_cons (pe_isP (v := .ref (ca K 104)) (cv := .ref (ca K 104)) Z1 (pe_glob rfl (He.glo_ok X Z (x := "BadHanded") (fc.fact 41 rfl)) rfl) (fun u h => h) (kk 3 (by decide))) (pa_cons (pe_isP (v := .ref (ca K 105)) (cv := .ref (ca K 105)) Z1 (pe_glob rfl (He.glo_ok X Z (x := "Lacks") (fc.fact 42 rfl)) rfl) (fun u h => h) (kk 4 (by decide))) (pa_cons (pe_isP (v := .ref (ca K 106)) (cv := .ref (ca K 106)) Z1 (pe_glob rfl (He.glo_ok X Z (x := "Endless") (fc.fact 43 rfl)) rfl) (fun u h => h) (kk 5 (by decide))) pa_nil)))))) (pss_cons (ps_set (i := 1) scK.nd rfl (.inl rfl) (pe_op op_cat (pe_var (i := 1) rfl (.inl rfl)) (pe_lst (pa_cons (pe_isP (v := .ref (ca K 107)) (cv := .ref (ca K 107)) Z1 (pe_glob rfl (He.glo_ok X Z (x := "TooMany") (fc.fact 44 rfl)) rfl) (fun u h => h) (kk 6 (by decide))) (pa_cons (pe_isP (v := .ref (ca K 108)) (cv := .ref (ca K 108)) Z1 (pe_glob rfl (He.glo_ok X Z (x := "Unlike") (fc.fact 45 rfl)) rfl) (fun u h => h) (kk 7 (by decide))) pa_nil))))) (pss_one (ps_ret (pe_op op_cat (pe_var (i := 1) rfl (.inl rfl)) (pe_lst (pa_cons (pe_isP (v := .ty "ValueError") (cv := .type "ValueError") Z1 (pe_bltn rfl (He.free_ok X Z (x := "ValueError") (fc.fact 17 rfl)) (by decide +kernel) (rfl : RelV (.ty "ValueError") (.type "ValueError"))) (fun u h => h) kv) pa_nil))))))), ?_⟩
  have sz : ∀ n, n ≤ 1000 → n ≤ sizeLine := fun n h => by unfold sizeLine; omega
  refine ⟨rfl, rfl, rfl, sz 3 (by decide), fun q1 n1 => ⟨_, rfl, rfl, rfl, rfl, sz 3 (by decide), fun q2 n2 => ⟨q1, q2, _, _, rfl, rfl, upd_two n2, upd_same, sz 6 (by decide), fun q3 n3 => ⟨_, rfl, rfl, rfl, sz 2 (by decide), fun q4 n4 => ⟨q3, q4, _, _, rfl, rfl, upd_two n4, upd_same, sz 8 (by decide), fun q5 n5 => ⟨_, rfl, rfl, sz 1 (by decide), fun q6 n6 => ⟨q5, q6, _, _, rfl, rfl, upd_two n6, upd_same, sz 9 (by decide), fun q7 n7 => ?_⟩⟩⟩⟩⟩⟩⟩
  subst hbs
  exact bls_end ((List.range 8).map (fun i => c == 101 + i) ++ [true]) (nx_tmp (nx_tmp (nx_tmp (nx_tmp (nx_tmp (nx_tmp (Nx.refl hE) n1) n2) n3) n4) n5) n6) n7 kq
end
end Ow.A7
end A7_
section E7_
set_option Elab.async false
set_option linter.all false
set_option maxRecDepth 100000
set_option maxHeartbeats 8000000
namespace Ow.A7
open PySem PySem.Spec PyProof.Rows L2
open Ow.RW7 Ow.PB
/-- what is left: the pure run gives True -/
def Main : Prop := ∀ ns : List Int, ns.length ≤ 63 → ∃ os', Ow.run pg 31 58 [.fr (.scr ns)] = some (.ok (.fr (.bl true)) os')
abbrev l0 : PySem.W.OpenLaw := PySem.Challenge.rw_blockpages_k07_refused_pages
theorem law_at (main : Main) (w : World) (mg : Str → Option Value) (fa0 : Addr) (h : Heap) (Y : hk.says w h) (Z : h.Ns mainGlobals mg) (hmg : mg "law" = some (.ref fa0)) : ∃ K : PySem.W.Frag, K.In h ∧ LamX.LawAtS l0 w K (L2.CX l0.prog w) 63 63 "_law_script" mg fa0 h := by
  obtain ⟨K, KX, c⟩ := Y
  letI := tqI K
  have fc := c.t.d
  obtain ⟨fd, F⟩ := fc.def_ 24 (d := d24) rfl
  have e := hmg.symm.trans (He.glo_ok KX Z (x := "law") (fc.fact 34 rfl))
  cases e
  have inT : ∀ p ∈ tf.map (He.cT K), ∃ q ∈ tf, He.cT K q = p := fun p hp => List.mem_map.mp hp
  refine ⟨K, KX, fd, tf.map (He.cT K), spF (G K) (Ow.run pg 31) 58, fun p hp => ?_, fun p hp => ?_, fun p hp => ?_, fun s u => FunD.bindsA (ps := ["_law_script"]) F (fun _ _ _ _ _ _ us hl => match us, hl with | [_], _ => rfl) s [u] rfl, fun H a ns hlen hbits hH hS => ?_, fun base hb1 hb2 hT => ?_⟩
  · obtain ⟨q, hq, rfl⟩ := inT p hp
    exact c.empty q hq
  · obtain ⟨q, hq, rfl⟩ := inT p hp
    exact c.out q hq
  · obtain ⟨q, hq, rfl⟩ := inT p hp
    exact PySem.W.codeHd_of_K KX (c.hd q hq)
  · obtain ⟨os', hm⟩ := main ns hlen
    refine ⟨H, [], [.fr (.scr ns)], fun b o hb => .inl ?_, Ex.refl H, IsOs.cons (A := []) (.fr (.scr hS hlen)) .nil, by simp, ?_⟩
    · have hb : (if b ∈ tabs K then some (HO.tbl #[]) else none) = some o := hb
      split at hb
      · rename_i hm
        cases hb
        have hm2 : ∃ q ∈ tf, (He.cT K q).2 = b := by
          simp only [tabs, tab, tf, List.mem_cons, List.not_mem_nil, or_false] at hm
          rcases hm with rfl | rfl
          · exact ⟨_, List.mem_cons_self, rfl⟩
          · exact ⟨_, List.mem_cons_of_mem _ (List.mem_cons_self), rfl⟩
        obtain ⟨q, hq, e⟩ := hm2
        rw [← e]
        exact hH _ (List.mem_map.mpr ⟨q, hq, rfl⟩)
      · cases hb
    · rw [hm]
      intro v F' H' A' B n i o nd
      cases o with
      | fr h => cases h; rfl
  · have tb : ∀ i, i < tf.length → LamX.TabB base mg (He.cT K (tf.getD i ("", none))).1 (tab K i) := fun i hi => hT _ (List.mem_map.mpr ⟨_, by rw [List.getD_eq_getElem?_getD, List.getElem?_eq_getElem hi]; exact List.getElem_mem hi, rfl⟩)
    have xt : ∀ k, 1 ≤ k → (T (G K)).xtra l0.prog w K mg base k := fun k hk => by
      obtain ⟨k, rfl⟩ : ∃ j, k = j + 1 := ⟨k - 1, by omega⟩
      obtain ⟨fk, FK⟩ := fc.def_ 17 (d := d17) rfl
      exact ⟨fun c bs _ => xnOf_ne, _, fk, _, k_kinds hb1 hb2 fc c.more FK, He.glo_ok hb1 hb2 (x := "_law_kinds") (fc.fact 27 rfl), FK.kp, FK.bindsN (ps := ["_law_error"]) fun _ _ _ _ _ _ us hl => match us, hl with | [_], _ => rfl⟩
    have W := wdN (P := l0.prog) (w := w) hb1 hb2 fc c.more xt (by exact (if_pos rfl)) (tb 0 (by decide)) (by exact (if_neg (fun z => ne_tab c.more (i := 0) (j := 1) rfl rfl (by decide) z.symm)).trans (if_pos rfl)) (tb 1 (by decide)) 30 61 (by decide)
    exact fun_ok F sc24 rfl rfl rfl fun cdv hcd hcode A outer s H E pin hr => h_law (bd_cx rfl sc24.nd hr W)
theorem holds (main : Main) : PySem.Challenge.rw_blockpages_k07_refused_pages.Holds := by
  w_on; o_law
  refine HandSHeadRun.head_any (r := R) (q := PySem.W.view R.prog [35]) (H := hk) (ob := ob) (M := 20000) (loose := loose) (d := HandSHeadRun.topDef R.prog 35) (kwd := []) ob_eq
    (by kernel_rfl) (fun s => by kernel_rfl) hrun (by kernel_rfl) (by kernel_rfl) (by kernel_rfl) (by rfl) (by first | assumption | decide +kernel) (by decide +kernel) ⟨rfl, rfl, rfl, rfl, rfl, by decide +kernel⟩ ?hw ?hc
  case hw => w_witness2
  case hc =>
    refine LamX.walk_ofTsE (l := l0) (n := 63) (k := 63) (x := "_law_script") (CX := fun w => L2.CX l0.prog w) rfl (by decide) (by kernel_rfl) ⟨rfl, by decide, by decide⟩ ?F (fun w H s e s' ⟨_, _, _, _, _, _, _, _, _, _, _, _, q⟩ => q)
    · intro w mg fa0 h Y Z hmg0
      have e : (HandSHeadRun.topDef R.prog 35).name = ("law" : PySem.Str) := by kernel_rfl
      rw [e] at hmg0
      exact law_at main w mg fa0 h Y Z hmg0
end Ow.A7
end E7_
section OzA_
set_option Elab.async false
set_option linter.all false
set_option maxRecDepth 100000
set_option maxHeartbeats 4000000
/-! Running the language by simp: what each piece gives at a known state. -/
namespace Ow.Z
open PySem
section
variable {α β γ : Type} {δ : Env} {cl : Cl} {ini : Nat → Option Nat} {pin : List Nat}
@[simp] theorem bnd_ret {a : α} {f : α → M β} : bnd (ret a) f δ = f a δ := rfl
@[simp] theorem bnd_fails {f : α → M β} : bnd fails f δ = none := rfl
@[simp] theorem bnd_bnd {m : M α} {f : α → M β} {g : β → M γ} : bnd (bnd m f) g δ = bnd m (fun a => bnd (f a) g) δ := by
  unfold bnd
  cases m δ with
  | none => rfl
  | some r => cases r <;> rfl
@[simp] theorem bnd_ite {c : Prop} [Decidable c] {m m' : M α} {f : α → M β} : bnd (if c then m else m') f δ = if c then bnd m f δ else bnd m' f δ := by split <;> rfl
@[simp] theorem ite_M {c : Prop} [Decidable c] {m m' : M α} : (if c then m else m') δ = if c then m δ else m' δ := by split <;> rfl
@[simp] theorem ret_at {a : α} : ret a δ = some (.ok a δ) := rfl
@[simp] theorem fails_at : (fails : M α) δ = none := rfl
theorem bnd_at {m : M α} {f : α → M β} {a : α} {δ' : Env} (h : m δ = some (.ok a δ')) : bnd m f δ = f a δ' := by unfold bnd; rw [h]
theorem bnd_ex {m : M α} {f : α → M β} {x : XV} (h : m δ = some (.ex x)) : bnd m f δ = some (.ex x) := by unfold bnd; rw [h]
@[simp] theorem lift_some {a : α} : lift (some a) = ret a := rfl
@[simp] theorem lift_none : (lift none : M α) = fails := rfl
@[simp] theorem bnd_lift_ite {c : Prop} [Decidable c] {x y : Option α} {f : α → M β} : bnd (lift (if c then x else y)) f δ = if c then bnd (lift x) f δ else bnd (lift y) f δ := by split <;> rfl
@[simp] theorem bnd_lift_some {a : α} {f : α → M β} : bnd (lift (some a)) f δ = f a δ := rfl
@[simp] theorem bnd_lift_none {f : α → M β} : bnd (lift (none : Option α)) f δ = none := rfl
/-! ### the frame -/
@[simp] theorem bnd_getS {i : Nat} {f : O → M β} : bnd (getS i) f δ = match δ[i]? with | some (.fr d) => f (.fr d) δ | some .dead => none | some o => f (.fr (frz o)) (δ.set i (.fr (frz o))) | none => none := by
  unfold bnd getS
  cases δ[i]? with
  | none => rfl
  | some o => cases o <;> rfl
@[simp] theorem bnd_peekS {i : Nat} {f : PO → M β} : bnd (peekS i) f δ = match δ[i]? with | none => none | some .dead => none | some _ => f (.sl i) δ := by
  unfold bnd peekS
  cases δ[i]? with
  | none => rfl
  | some o => cases o <;> rfl
@[simp] theorem bnd_setS {i : Nat} {o : O} {f : Unit → M β} : bnd (setS pin i o) f δ = if (pin.contains i || !decide (i < δ.length)) = true then none else f () (δ.set i o) := by
  unfold bnd setS
  by_cases h : (pin.contains i || !decide (i < δ.length)) = true
  · rw [if_pos h, if_pos h]
  · rw [if_neg h, if_neg h]
@[simp] theorem bnd_resM {ps : List PO} {f : List O → M β} : bnd (resM ps) f δ = match ress δ ps with | none => none | some os => f os δ := by
  unfold bnd resM
  cases ress δ ps <;> rfl
@[simp] theorem ress_nil : ress δ [] = some [] := rfl
@[simp] theorem ress_vl {o : O} {ps : List PO} : ress δ (.vl o :: ps) = (ress δ ps).map (o :: ·) := rfl
@[simp] theorem ress_sl {i : Nat} {ps : List PO} : ress δ (.sl i :: ps) = match δ[i]? with | none => none | some .dead => none | some o => (ress δ ps).map (o :: ·) := by
  show (res δ (.sl i)).bind _ = _
  unfold res
  dsimp only
  cases δ[i]? with
  | none => rfl
  | some o => cases o <;> rfl
@[simp] theorem bnd_wipeM {is : List Nat} {f : Unit → M β} : bnd (wipeM is) f δ = if is.all (slotD δ) = true then f () (wipeS is δ) else none := by
  unfold bnd wipeM
  by_cases h : is.all (slotD δ) = true
  · rw [if_pos h, if_pos h]
  · rw [if_neg h, if_neg h]
@[simp] theorem take_one {i : Nat} {d : D} : take pin (.one i) d = setS pin i (.fr d) := rfl
@[simp] theorem take_many {is : List Nat} {ds : List D} : take pin (.many is) (.tup ds) = setSs pin is ds := rfl
@[simp] theorem setSs_nil : setSs pin [] [] = ret () := rfl
@[simp] theorem setSs_cons {i : Nat} {is : List Nat} {d : D} {ds : List D} : setSs pin (i :: is) (d :: ds) = bnd (setS pin i (.fr d)) fun _ => setSs pin is ds := rfl
@[simp] theorem bnd_truthM {o : O} {f : Bool → M β} : bnd (truthM o) f δ = match truth o with | some b => f b δ | none => none := by
  unfold truthM
  cases truth o <;> rfl
@[simp] theorem truth_bl {b : Bool} : truth (.fr (.bl b)) = some b := rfl
@[simp] theorem truth_non : truth (.fr .non) = some false := rfl
@[simp] theorem truth_int {b : Int} : truth (.fr (.int b)) = some (b != 0) := rfl
/-! ### operations -/
@[simp] theorem pr_isi {k : Kd} {o : O} : pr (.isi k) [o] = (isOfK (kdOf (frz o)) k).map fun c => .fr (.bl c) := rfl
@[simp] theorem pr_len {o : O} : pr .len [o] = prLen o := rfl
@[simp] theorem pr_le {a b : O} : pr .le [a, b] = prLe a b := rfl
@[simp] theorem pr_all {o : O} : pr .all [o] = (lstOf o).bind fun ds => (bls ds).map fun bs => .fr (.bl (bs.all id)) := rfl
@[simp] theorem prLe_int {a b : Int} : prLe (.fr (.int a)) (.fr (.int b)) = some (.fr (.bl (decide (a ≤ b)))) := rfl
@[simp] theorem prLe_str {a b : Str} : prLe (.fr (.str a)) (.fr (.str b)) = some (.fr (.bl (leS a b))) := rfl
@[simp] theorem frz_fr {d : D} : frz (.fr d) = d := by simp only [frz]
@[simp] theorem allFr_fr : ∀ ds : List D, allFr (ds.map .fr) = some ds
  | [] => rfl
  | d :: ds => by
    show (allFr (ds.map .fr)).map (d :: ·) = _
    rw [allFr_fr ds]; rfl
@[simp] theorem frzs_fr : ∀ ds : List D, frzs (ds.map .fr) = ds
  | [] => rfl
  | d :: ds => by
    rw [List.map_cons, frzs, frzs_fr ds, frz_fr]
@[simp] theorem frz_ml {ds : List D} : frz (.ml (ds.map .fr)) = .lst ds := by rw [frz, frzs_fr]
@[simp] theorem allFr_map {ι : Type} (f : ι → D) (xs : List ι) : allFr (xs.map fun x => .fr (f x)) = some (xs.map f) := by
  have z := allFr_fr (xs.map f)
  rwa [List.map_map] at z
@[simp] theorem lstOf_ml {os : List O} : lstOf (.ml os) = allFr os := rfl
@[simp] theorem lstOf_lst {ds : List D} : lstOf (.fr (.lst ds)) = some ds := rfl
@[simp] theorem bls_map {ι : Type} (f : ι → Bool) : ∀ xs : List ι, bls (xs.map fun x => D.bl (f x)) = some (xs.map f)
  | [] => rfl
  | x :: xs => by
    show (bls (xs.map fun x => D.bl (f x))).map (f x :: ·) = _
    rw [bls_map f xs]; rfl
/-! ### expressions -/
@[simp] theorem ev_var {i : Nat} : ev cl ini (.var i) = getS i := by funext δ; simp only [ev]
@[simp] theorem ev_cst {d : D} : ev cl ini (.cst d) = ret (.fr d) := by funext δ; simp only [ev]
@[simp] theorem ev_gl {d : D} : ev cl ini (.gl d) = ret (.fr d) := by funext δ; simp only [ev]
@[simp] theorem ev_prim {q : P} {es : Es} : ev cl ini (.prim q es) = bnd (evs cl ini es) fun ps => bnd (resM ps) fun os => lift (pr q os) := by funext δ; simp only [ev]
@[simp] theorem ev_not {a : E} : ev cl ini (.not_ a) = bnd (ev cl ini a) fun o => bnd (truthM o) fun t => ret (.fr (.bl !t)) := by funext δ; simp only [ev]
@[simp] theorem ev_and {a b : E} : ev cl ini (.and_ a b) = bnd (ev cl ini a) fun o => bnd (truthM o) fun t => if t then ev cl ini b else ret o := by funext δ; simp only [ev]
@[simp] theorem ev_or {a b : E} : ev cl ini (.or_ a b) = bnd (ev cl ini a) fun o => bnd (truthM o) fun t => if t then ret o else ev cl ini b := by funext δ; simp only [ev]
@[simp] theorem ev_ite {t a b : E} : ev cl ini (.ite t a b) = bnd (ev cl ini t) fun o => bnd (truthM o) fun t => if t then ev cl ini a else ev cl ini b := by funext δ; simp only [ev]
@[simp] theorem ev_chain {q r : P} {a b c : E} : ev cl ini (.chain q r a b c) = bnd (ev cl ini a) fun x => bnd (ev cl ini b) fun y => bnd (lift (pr q [.fr (frz x), .fr (frz y)])) fun r1 => bnd (truthM r1) fun t => if t then bnd (ev cl ini c) fun z => lift (pr r [.fr (frz y), .fr (frz z)]) else ret (.fr (.bl false)) := by funext δ; simp only [ev]
@[simp] theorem ev_tup {es : Es} : ev cl ini (.tup es) = bnd (evd cl ini es) fun ds => if ds.length ≤ sm then ret (.fr (.tup ds)) else fails := by funext δ; simp only [ev]
@[simp] theorem ev_lst {es : Es} : ev cl ini (.lst es) = bnd (evd cl ini es) fun ds => if ds.length ≤ sm then ret (.ml (ds.map .fr)) else fails := by funext δ; simp only [ev]
@[simp] theorem ev_dnew {t : Bool} : ev cl ini (.dnew t) = ret (if t then .mdT [] [] else .md [] []) := by funext δ; simp only [ev]
@[simp] theorem ev_attr {a : E} {f : Str} : ev cl ini (.attr a f) = bnd (pk a (ev cl ini a)) fun q => attrM q f := by funext δ; simp only [ev]
@[simp] theorem ev_call {f : Nat} {es : Es} : ev cl ini (.call f es) = bnd (evs cl ini es) fun ps => callM cl f ps := by funext δ; simp only [ev]
@[simp] theorem ev_callv {i : Nat} {es : Es} : ev cl ini (.callv i es) = bnd (lamM i) fun j => bnd (evs cl ini es) fun ps => callM cl (1000 + j) ps := by funext δ; simp only [ev]
@[simp] theorem ev_make {c : Nat} {es : Es} {ds : List D} : ev cl ini (.make c es ds) = bnd (evs cl ini es) fun ps => makeM cl ini c ps ds := by funext δ; simp only [ev]
@[simp] theorem ev_meth {c f : Nat} {m : Str} {a : E} {es : Es} : ev cl ini (.meth c m f a es) = bnd (pk a (ev cl ini a)) fun q => bnd (chkM c m q) fun _ => bnd (evs cl ini es) fun ps => callM cl f (q :: ps) := by funext δ; simp only [ev]
@[simp] theorem ev_lam {i : Nat} : ev cl ini (.lam i) = ret (.fr (.lam i)) := by funext δ; simp only [ev]
@[simp] theorem evs_nil : evs cl ini .nil = ret [] := by funext δ; simp only [evs]
@[simp] theorem evs_cons {e : E} {es : Es} : evs cl ini (.cons e es) = bnd (pk e (ev cl ini e)) fun q => bnd (evs cl ini es) fun ps => ret (q :: ps) := by funext δ; simp only [evs]
@[simp] theorem evd_nil : evd cl ini .nil = ret [] := by funext δ; simp only [evd]
@[simp] theorem evd_cons {e : E} {es : Es} : evd cl ini (.cons e es) = bnd (ev cl ini e) fun o => bnd (evd cl ini es) fun ds => ret (frz o :: ds) := by funext δ; simp only [evd]
@[simp] theorem evt_nil : evt cl ini .nil = ret true := by funext δ; simp only [evt]
@[simp] theorem evt_cons {e : E} {es : Es} : evt cl ini (.cons e es) = bnd (ev cl ini e) fun o => bnd (truthM o) fun t => if t then evt cl ini es else ret false := by funext δ; simp only [evt]
@[simp] theorem evi_seq {w : Wk} {e : E} : evi cl ini (.seq w e) = bnd (ev cl ini e) fun o => lift (itemsOf w (frz o)) := by funext δ; simp only [evi]
@[simp] theorem pk_var {i : Nat} {m : M O} : pk (.var i) m = peekS i := rfl
@[simp] theorem pk_prim {q : P} {es : Es} {m : M O} : pk (.prim q es) m = bnd m fun o => ret (.vl o) := rfl
@[simp] theorem pk_cst {d : D} {m : M O} : pk (.cst d) m = bnd m fun o => ret (.vl o) := rfl
@[simp] theorem pk_gl {d : D} {m : M O} : pk (.gl d) m = bnd m fun o => ret (.vl o) := rfl
@[simp] theorem pk_lc {e : E} {t : Tg} {it : It} {c : Es} {m : M O} : pk (.lc e t it c) m = bnd m fun o => ret (.vl o) := rfl
@[simp] theorem pk_attr {e : E} {f : Str} {m : M O} : pk (.attr e f) m = bnd m fun o => ret (.vl o) := rfl
@[simp] theorem pk_call {f : Nat} {es : Es} {m : M O} : pk (.call f es) m = bnd m fun o => ret (.vl o) := rfl
@[simp] theorem pk_tup {es : Es} {m : M O} : pk (.tup es) m = bnd m fun o => ret (.vl o) := rfl
@[simp] theorem pk_lst {es : Es} {m : M O} : pk (.lst es) m = bnd m fun o => ret (.vl o) := rfl
@[simp] theorem pk_meth {c f : Nat} {s : Str} {a : E} {es : Es} {m : M O} : pk (.meth c s f a es) m = bnd m fun o => ret (.vl o) := rfl
@[simp] theorem pk_make {c : Nat} {es : Es} {ds : List D} {m : M O} : pk (.make c es ds) m = bnd m fun o => ret (.vl o) := rfl
@[simp] theorem pk_dnew {t : Bool} {m : M O} : pk (.dnew t) m = bnd m fun o => ret (.vl o) := rfl
@[simp] theorem pk_lam {i : Nat} {m : M O} : pk (.lam i) m = bnd m fun o => ret (.vl o) := rfl
@[simp] theorem pk_not {a : E} {m : M O} : pk (.not_ a) m = bnd m fun o => ret (.vl o) := rfl
@[simp] theorem pk_or {a b : E} {m : M O} : pk (.or_ a b) m = bnd m fun o => ret (.vl o) := rfl
@[simp] theorem pk_and {a b : E} {m : M O} : pk (.and_ a b) m = bnd m fun o => ret (.vl o) := rfl
@[simp] theorem pk_ite {t a b : E} {m : M O} : pk (.ite t a b) m = bnd m fun o => ret (.vl o) := rfl
@[simp] theorem pk_callv {i : Nat} {es : Es} {m : M O} : pk (.callv i es) m = bnd m fun o => ret (.vl o) := rfl
/-! ### statements -/
def raiseM (x : XV) : M Fl := fun _ => some (.ex x)
@[simp] theorem exec_pass : exec cl ini pin .pass = ret .nx := by funext δ; simp only [exec]
@[simp] theorem exec_brk : exec cl ini pin .brk = ret .bk := by funext δ; simp only [exec]
@[simp] theorem exec_cont : exec cl ini pin .cont = ret .ct := by funext δ; simp only [exec]
@[simp] theorem exec_asg {i : Nat} {e : E} : exec cl ini pin (.asg (.one i) e) = bnd (ev cl ini e) fun o => bnd (setS pin i o) fun _ => ret .nx := by funext δ; simp only [exec]
@[simp] theorem exec_asgm {is : List Nat} {e : E} : exec cl ini pin (.asg (.many is) e) = bnd (ev cl ini e) fun o => bnd (take pin (.many is) (frz o)) fun _ => ret .nx := by funext δ; simp only [exec]
@[simp] theorem exec_asgs {i j : Nat} {es : Es} : exec cl ini pin (.asgs i j es) = bnd (evd cl ini es) fun ds => bnd (setSs pin [i, j] ds) fun _ => ret .nx := by funext δ; simp only [exec]
@[simp] theorem exec_rt {mv : Bool} {e : E} : exec cl ini pin (.rt mv e) = bnd (rtM pin mv e (ev cl ini e)) fun o => ret (.rt o) := by funext δ; simp only [exec]
@[simp] theorem exec_rtN : exec cl ini pin .rtN = ret (.rt (.fr .non)) := by funext δ; simp only [exec]
@[simp] theorem exec_ife {t : E} {a b : Ss} : exec cl ini pin (.ife t a b) = bnd (ev cl ini t) fun o => bnd (truthM o) fun t => if t then execs cl ini pin a else execs cl ini pin b := by
  funext δ; simp only [exec]; rw [bnd_bnd]
@[simp] theorem exec_rs {c : Nat} {es : Es} : exec cl ini pin (.rs c es) = bnd (evd cl ini es) fun ds => raiseM ⟨c, ds⟩ := by funext δ; simp only [exec]; rfl
@[simp] theorem exec_exp {e : E} : exec cl ini pin (.exp e) = bnd (ev cl ini e) fun _ => ret .nx := by funext δ; simp only [exec]
@[simp] theorem exec_app {i : Nat} {e : E} : exec cl ini pin (.app i e) = bnd (mlM i) fun _ => bnd (ev cl ini e) fun o => bnd (atS (pushO (frz o)) i) fun _ => ret .nx := by funext δ; simp only [exec]
@[simp] theorem exec_setf {i : Nat} {f : Str} {e : E} : exec cl ini pin (.setf i f e) = bnd (ev cl ini e) fun o => bnd (atS (fieldO f o) i) fun _ => ret .nx := by funext δ; simp only [exec]
@[simp] theorem exec_fo {t : Tg} {it : It} {b : Ss} : exec cl ini pin (.fo t it b) = bnd (evi cl ini it) fun ds => loop (fun d => bnd (take pin t d) fun _ => execs cl ini pin b) ds := by funext δ; simp only [exec]
@[simp] theorem exec_wh {t : E} {b : Ss} : exec cl ini pin (.wh t b) = whl (bnd (ev cl ini t) truthM) (execs cl ini pin b) 1000000 := by funext δ; simp only [exec]
theorem whl_at {t : M Bool} {f : M Fl} {n : Nat} : whl t f (n + 1) δ = bnd t (fun b => if b then bnd f (fun fl => match fl with | .nx => whl t f n | .ct => whl t f n | .bk => ret .nx | .rt o => ret (.rt o)) else ret .nx) δ := rfl
theorem loop_nil {f : D → M Fl} : loop f [] δ = some (.ok .nx δ) := rfl
theorem loop_cons {f : D → M Fl} {d : D} {ds : List D} : loop f (d :: ds) δ = bnd (f d) (fun fl => match fl with | .nx => loop f ds | .ct => loop f ds | .bk => ret .nx | .rt o => ret (.rt o)) δ := rfl
theorem loop_nx {f : D → M Fl} {d : D} {ds : List D} {δ' : Env} (h : f d δ = some (.ok .nx δ')) : loop f (d :: ds) δ = loop f ds δ' := by rw [loop_cons, bnd_at h]
theorem loop_rt {f : D → M Fl} {d : D} {ds : List D} {δ' : Env} {o : O} (h : f d δ = some (.ok (.rt o) δ')) : loop f (d :: ds) δ = some (.ok (.rt o) δ') := by rw [loop_cons, bnd_at h]; rfl
theorem loop_ex {f : D → M Fl} {d : D} {ds : List D} {x : XV} (h : f d δ = some (.ex x)) : loop f (d :: ds) δ = some (.ex x) := by rw [loop_cons, bnd_ex h]
@[simp] theorem bnd_raise {x : XV} {f : Fl → M Fl} : bnd (raiseM x) f δ = some (.ex x) := rfl
@[simp] theorem raise_at {x : XV} : raiseM x δ = some (.ex x) := rfl
@[simp] theorem bnd_mlM {i : Nat} {f : Unit → M β} : bnd (mlM i) f δ = match δ[i]? with | some (.ml _) => f () δ | _ => none := by
  unfold bnd mlM isMl
  cases δ[i]? with
  | none => rfl
  | some o => cases o <;> rfl
@[simp] theorem bnd_atS {i : Nat} {g : O → Option O} {f : Unit → M β} : bnd (atS g i) f δ = match δ[i]? with | some o => (match g o with | some o' => f () (δ.set i o') | none => none) | none => none := by
  unfold bnd atS
  cases δ[i]? with
  | none => rfl
  | some o =>
    rw [Option.bind_some]
    cases h : g o <;> simp [h]
@[simp] theorem pushO_ml {d : D} {os : List O} : pushO d (.ml os) = if os.length < sm then some (.ml (os ++ [.fr d])) else none := rfl
@[simp] theorem execs_nil : execs cl ini pin .nil = ret .nx := by simp only [execs]
def nxt (k : M Fl) : Fl → M Fl
  | .nx => k
  | fl => ret fl
@[simp] theorem nxt_nx {k : M Fl} : nxt k .nx = k := rfl
@[simp] theorem nxt_rt {k : M Fl} {o : O} : nxt k (.rt o) = ret (.rt o) := rfl
@[simp] theorem nxt_bk {k : M Fl} : nxt k .bk = ret .bk := rfl
@[simp] theorem nxt_ct {k : M Fl} : nxt k .ct = ret .ct := rfl
theorem execs_at {s : S} {r : Ss} : execs cl ini pin (.cons s r) = bnd (exec cl ini pin s) (nxt (execs cl ini pin r)) := by
  funext δ
  simp only [execs]
  congr 1
theorem execs_step {b : Ss} {s : S} {r : Ss} {δ' : Env} (hb : b = .cons s r) (h : exec cl ini pin s δ = some (.ok .nx δ')) : execs cl ini pin b δ = execs cl ini pin r δ' := by
  subst hb
  rw [execs_at, bnd_at h]; rfl
@[simp] theorem rtM_false {e : E} {m : M O} : rtM pin false e m = m := by unfold rtM; rfl
theorem run_df {p : Pg} {n f : Nat} {d : Df} {os : List O} (h : p.df f = some d) : run p (n + 1) f os = runDf (run p n) p.ini d os := by
  show (match p.df f with | some d => runDf (run p n) p.ini d os | none => p.own n f os) = _
  rw [h]
def finish (os : List O) : Option (Rs Fl) → Option (Rs O)
  | some (.ok (.rt o) δ) => (fin os δ).map fun os' => .ok o os'
  | some (.ok .nx δ) => (fin os δ).map fun os' => .ok (.fr .non) os'
  | some (.ex x) => some (.ex x)
  | _ => none
theorem runDf_eq {d : Df} {os : List O} (h : os.length = d.np) : runDf cl ini d os = finish os (execs cl ini (pins os) d.b (os ++ List.replicate (d.n - os.length) .dead)) := by
  unfold runDf
  rw [if_pos h]
  unfold finish
  rfl
@[simp] theorem finish_ite {c : Prop} [Decidable c] {os : List O} {x y : Option (Rs Fl)} : finish os (if c then x else y) = if c then finish os x else finish os y := by split <;> rfl
@[simp] theorem finish_rt {os : List O} {o : O} : finish os (some (.ok (.rt o) δ)) = (fin os δ).map fun os' => .ok o os' := rfl
@[simp] theorem finish_nx {os : List O} : finish os (some (.ok .nx δ)) = (fin os δ).map fun os' => .ok (.fr .non) os' := rfl
@[simp] theorem finish_ex {os : List O} {x : XV} : finish os (some (.ex x)) = some (.ex x) := rfl
@[simp] theorem finish_none {os : List O} : finish os none = none := rfl
@[simp] theorem fin_nil : fin [] δ = some [] := by unfold fin; rfl
@[simp] theorem fin_fr {d : D} {os : List O} {o : O} : fin (.fr d :: os) (o :: δ) = (fin os δ).map (.fr d :: ·) := by
  rw [fin]
  cases fin os δ <;> rfl
theorem fin_own {o o1 : O} {os : List O} (h : isFr o = false) (h1 : o1 ≠ .dead) : fin (o :: os) (o1 :: δ) = (fin os δ).map (o1 :: ·) := by
  rw [fin]
  cases fin os δ with
  | none => rfl
  | some r =>
    show (if isFr o = true then _ else _) = _
    rw [h]
    cases o1 <;> first | rfl | exact absurd rfl h1
@[simp] theorem fin_ml {l l2 os : List O} : fin (.ml l :: os) (.ml l2 :: δ) = (fin os δ).map (.ml l2 :: ·) := fin_own rfl (by intro z; cases z)
@[simp] theorem fin_ml_fr {l os : List O} {d : D} : fin (.ml l :: os) (.fr d :: δ) = (fin os δ).map (.fr d :: ·) := fin_own rfl (by intro z; cases z)
@[simp] theorem fin_ob {c c' : Nat} {ns ns' : List Str} {l l2 os : List O} : fin (.ob c ns l :: os) (.ob c' ns' l2 :: δ) = (fin os δ).map (.ob c' ns' l2 :: ·) := fin_own rfl (by intro z; cases z)
@[simp] theorem bnd_callM {f : Nat} {ps : List PO} {g : O → M β} : bnd (callM cl f ps) g δ = match ress δ ps with | none => none | some os => if (lent ps).Nodup then (match cl f os with | none => none | some (.ex x) => some (.ex x) | some (.ok o os') => g o (giveBack ps os' δ)) else none := by
  unfold bnd callM
  cases ress δ ps with
  | none => rfl
  | some os =>
    by_cases h : (lent ps).Nodup
    · simp only [h, if_true]
      cases cl f os with
      | none => rfl
      | some r => cases r <;> rfl
    · simp only [h, if_false]
@[simp] theorem lent_nil : lent [] = [] := rfl
@[simp] theorem lent_sl {i : Nat} {ps : List PO} : lent (.sl i :: ps) = i :: lent ps := rfl
@[simp] theorem lent_vl {o : O} {ps : List PO} : lent (.vl o :: ps) = lent ps := rfl
@[simp] theorem give_nil {os : List O} : giveBack [] os δ = δ := by unfold giveBack; rfl
@[simp] theorem give_sl {i : Nat} {ps : List PO} {o : O} {os : List O} : giveBack (.sl i :: ps) (o :: os) δ = giveBack ps os (δ.set i o) := rfl
@[simp] theorem give_vl {v : O} {ps : List PO} {o : O} {os : List O} : giveBack (.vl v :: ps) (o :: os) δ = giveBack ps os δ := rfl
/-! ### loops that keep the state -/
theorem each_keeps {f : D → M (Option α)} {g : D → Option α} (ds : List D) (h : ∀ d ∈ ds, f d δ = some (.ok (g d) δ)) : each f ds δ = some (.ok (ds.filterMap g) δ) := by
  induction ds with
  | nil => rfl
  | cons d ds ih =>
    show bnd (f d) _ δ = _
    rw [bnd_at (h d List.mem_cons_self)]
    show bnd (each f ds) _ δ = _
    rw [bnd_at (ih fun d m => h d (List.mem_cons_of_mem _ m))]
    cases e : g d with
    | none => rw [List.filterMap_cons, e]; rfl
    | some a => rw [List.filterMap_cons, e]; rfl
/-- .. the block's slots are left otherwise -/
theorem each_inv {f : D → M (Option α)} {g : D → Option α} {I : Env → Prop} (ds : List D) (h : ∀ d ∈ ds, ∀ δ, I δ → ∃ δ', f d δ = some (.ok (g d) δ') ∧ I δ') : ∀ δ, I δ → ∃ δ', each f ds δ = some (.ok (ds.filterMap g) δ') ∧ I δ' := by
  induction ds with
  | nil => exact fun δ i => ⟨δ, rfl, i⟩
  | cons d ds ih =>
    intro δ i
    obtain ⟨δ1, e1, i1⟩ := h d List.mem_cons_self δ i
    obtain ⟨δ2, e2, i2⟩ := ih (fun d m => h d (List.mem_cons_of_mem _ m)) δ1 i1
    refine ⟨δ2, ?_, i2⟩
    show bnd (f d) _ δ = _
    rw [bnd_at e1]
    show bnd (each f ds) _ δ1 = _
    rw [bnd_at e2]
    cases e : g d with
    | none => rw [List.filterMap_cons, e]; rfl
    | some a => rw [List.filterMap_cons, e]; rfl
/-- .. till the first that raises -/
theorem each_ex {f : D → M (Option α)} {g : D → Option α} {I : Env → Prop} {x : XV} (ds : List D) (d : D) (r : List D) (h : ∀ d ∈ ds, ∀ δ, I δ → ∃ δ', f d δ = some (.ok (g d) δ') ∧ I δ') (hx : ∀ δ, I δ → f d δ = some (.ex x)) : ∀ δ, I δ → each f (ds ++ d :: r) δ = some (.ex x) := by
  induction ds with
  | nil =>
    intro δ i
    show bnd (f d) _ δ = _
    exact bnd_ex (hx δ i)
  | cons d1 ds ih =>
    intro δ i
    obtain ⟨δ1, e1, i1⟩ := h d1 List.mem_cons_self δ i
    show bnd (f d1) _ δ = _
    rw [bnd_at e1]
    exact bnd_ex (ih (fun d m => h d (List.mem_cons_of_mem _ m)) δ1 i1)
end
section
variable {cl : Cl} {ini : Nat → Option Nat} {e : E} {t : Tg} {it : It} {c : Es} {δ δ1 : Env} {ds : List D}
/-- the body of a comprehension -/
def lcB (cl : Cl) (ini : Nat → Option Nat) (e : E) (t : Tg) (c : Es) (d : D) : M (Option D) := bnd (wipeM t.slots) fun _ => bnd (take [] t d) fun _ => bnd (evt cl ini c) fun b => if b then bnd (ev cl ini e) fun o => ret (some (frz o)) else ret none
theorem each_cons {α : Type} {f : D → M (Option α)} {d : D} {ds : List D} : each f (d :: ds) δ = bnd (f d) (fun o => bnd (each f ds) fun r => ret (match o with | some a => a :: r | none => r)) δ := rfl
theorem lc_run {xs : List D} {δ2 : Env} (hi : evi cl ini it δ = some (.ok ds δ1)) (hl : ds.length ≤ sm) (hs : t.slots.all (slotD δ1) = true) (h : each (lcB cl ini e t c) ds (wipeS t.slots δ1) = some (.ok xs δ2)) (h2 : t.slots.all (slotD δ2) = true) : ev cl ini (.lc e t it c) δ = some (.ok (.ml (xs.map .fr)) (backS t.slots δ1 δ2)) := by
  simp only [ev]
  rw [bnd_at hi, if_pos hl]
  unfold block
  rw [if_pos hs]
  have e3 : bnd (each (lcB cl ini e t c) ds) (fun xs => ret (O.ml (xs.map .fr))) (wipeS t.slots δ1) = some (.ok (.ml (xs.map .fr)) δ2) := bnd_at h
  have e4 : (each fun d => bnd (wipeM t.slots) fun _ => bnd (take [] t d) fun _ => bnd (evt cl ini c) fun b => if b = true then bnd (ev cl ini e) fun o => ret (some (frz o)) else ret none) = each (lcB cl ini e t c) := rfl
  rw [e4, e3]
  dsimp only
  rw [if_pos h2]
theorem lc_runx {x : XV} (hi : evi cl ini it δ = some (.ok ds δ1)) (hl : ds.length ≤ sm) (hs : t.slots.all (slotD δ1) = true) (h : each (lcB cl ini e t c) ds (wipeS t.slots δ1) = some (.ex x)) : ev cl ini (.lc e t it c) δ = some (.ex x) := by
  simp only [ev]
  rw [bnd_at hi, if_pos hl]
  unfold block
  rw [if_pos hs]
  have e3 : bnd (each (lcB cl ini e t c) ds) (fun xs => ret (O.ml (xs.map .fr))) (wipeS t.slots δ1) = some (.ex x) := bnd_ex h
  have e4 : (each fun d => bnd (wipeM t.slots) fun _ => bnd (take [] t d) fun _ => bnd (evt cl ini c) fun b => if b = true then bnd (ev cl ini e) fun o => ret (some (frz o)) else ret none) = each (lcB cl ini e t c) := rfl
  rw [e4, e3]
theorem lc_at (I : Env → Prop) (g : D → Option D) (hi : evi cl ini it δ = some (.ok ds δ1)) (hl : ds.length ≤ sm) (hs : t.slots.all (slotD δ1) = true) (h0 : I (wipeS t.slots δ1)) (hb : ∀ d ∈ ds, ∀ δ, I δ → ∃ δ', lcB cl ini e t c d δ = some (.ok (g d) δ') ∧ I δ')
    (he : ∀ δ, I δ → t.slots.all (slotD δ) = true ∧ backS t.slots δ1 δ = δ1) : ev cl ini (.lc e t it c) δ = some (.ok (.ml ((ds.filterMap g).map .fr)) δ1) := by
  obtain ⟨δ2, e2, i2⟩ := each_inv (f := lcB cl ini e t c) ds hb _ h0
  obtain ⟨h1, h2⟩ := he δ2 i2
  simp only [ev]
  rw [bnd_at hi, if_pos hl]
  unfold block
  rw [if_pos hs]
  have e3 : bnd (each (lcB cl ini e t c) ds) (fun xs => ret (O.ml (xs.map .fr))) (wipeS t.slots δ1) = some (.ok (.ml ((ds.filterMap g).map .fr)) δ2) := bnd_at e2
  have e4 : (each fun d => bnd (wipeM t.slots) fun _ => bnd (take [] t d) fun _ => bnd (evt cl ini c) fun b => if b = true then bnd (ev cl ini e) fun o => ret (some (frz o)) else ret none) = each (lcB cl ini e t c) := rfl
  rw [e4, e3]
  dsimp only
  rw [if_pos h1, h2]
theorem lc_ex (I : Env → Prop) (g : D → Option D) {x : XV} {ds0 r : List D} {d1 : D} (hi : evi cl ini it δ = some (.ok ds δ1)) (hd : ds = ds0 ++ d1 :: r) (hl : ds.length ≤ sm) (hs : t.slots.all (slotD δ1) = true) (h0 : I (wipeS t.slots δ1)) (hb : ∀ d ∈ ds0, ∀ δ, I δ → ∃ δ', lcB cl ini e t c d δ = some (.ok (g d) δ') ∧ I δ')
    (hx : ∀ δ, I δ → lcB cl ini e t c d1 δ = some (.ex x)) : ev cl ini (.lc e t it c) δ = some (.ex x) := by
  simp only [ev]
  rw [bnd_at hi, if_pos hl]
  unfold block
  rw [if_pos hs]
  have e3 : bnd (each (lcB cl ini e t c) ds) (fun xs => ret (O.ml (xs.map .fr))) (wipeS t.slots δ1) = some (.ex x) := bnd_ex (by rw [hd]; exact each_ex ds0 d1 r hb hx _ h0)
  have e4 : (each fun d => bnd (wipeM t.slots) fun _ => bnd (take [] t d) fun _ => bnd (evt cl ini c) fun b => if b = true then bnd (ev cl ini e) fun o => ret (some (frz o)) else ret none) = each (lcB cl ini e t c) := rfl
  rw [e4, e3]
end
section
variable {cl : Cl} {ini : Nat → Option Nat} {k v e : E} {t : Tg} {it : It} {δ δ1 : Env} {ds : List D} {α β : Type}
theorem noEx_at {m : M α} {f : α → M β} {a : α} {δ' : Env} (h : m δ = some (.ok a δ')) : bnd (noEx m) f δ = f a δ' := bnd_at (by unfold noEx; rw [h])
def dcB (cl : Cl) (ini : Nat → Option Nat) (k v : E) (t : Tg) (d : D) : M (Option (L2.Key × D)) := bnd (wipeM t.slots) fun _ => bnd (take [] t d) fun _ => bnd (noEx (ev cl ini k)) fun ko => bnd (keyM (.fr (frz ko))) fun kk => bnd (noEx (ev cl ini v)) fun o => ret (some (kk, frz o))
theorem dc_at (I : Env → Prop) (g : D → L2.Key × D) (hi : evi cl ini it δ = some (.ok ds δ1)) (hl : ds.length ≤ sm) (hs : t.slots.all (slotD δ1) = true) (h0 : I (wipeS t.slots δ1)) (hb : ∀ d ∈ ds, ∀ δ, I δ → ∃ δ', dcB cl ini k v t d δ = some (.ok (some (g d)) δ') ∧ I δ')
    (he : ∀ δ, I δ → t.slots.all (slotD δ) = true ∧ backS t.slots δ1 δ = δ1) : ev cl ini (.dc k v t it) δ = some (.ok (.md (dcAcc (ds.map g) ([], [])).1 (dcAcc (ds.map g) ([], [])).2) δ1) := by
  obtain ⟨δ2, e2, i2⟩ := each_inv (f := dcB cl ini k v t) (g := fun d => some (g d)) ds hb _ h0
  obtain ⟨h1, h2⟩ := he δ2 i2
  rw [show (List.filterMap (fun d => some (g d)) ds) = ds.map g from by rw [← List.filterMap_eq_map]; rfl] at e2
  simp only [ev]
  rw [bnd_at hi, if_pos hl]
  unfold block
  rw [if_pos hs]
  have e3 : bnd (each (dcB cl ini k v t) ds) (fun kds => ret (O.md (dcAcc kds ([], [])).1 (dcAcc kds ([], [])).2)) (wipeS t.slots δ1) = some (.ok (.md (dcAcc (ds.map g) ([], [])).1 (dcAcc (ds.map g) ([], [])).2) δ2) := bnd_at e2
  have e4 : (each fun d => bnd (wipeM t.slots) fun _ => bnd (take [] t d) fun _ => bnd (noEx (ev cl ini k)) fun ko => bnd (keyM (.fr (frz ko))) fun kk => bnd (noEx (ev cl ini v)) fun o => ret (some (kk, frz o))) = each (dcB cl ini k v t) := rfl
  rw [e4, e3]
  dsimp only
  rw [if_pos h1, h2]
theorem attr_obj {i c : Nat} {f : Str} {ns : List Str} {xs : List D} {d : D} (h : δ[i]? = some (.fr (.obj c ns xs))) (hf : lookFd ns xs f = some d) : attrM (.sl i) f δ = some (.ok (.fr d) δ) := by
  unfold attrM
  dsimp only
  rw [h]
  dsimp only
  rw [hf]; rfl
theorem attr_ob {i c j : Nat} {f : Str} {ns : List Str} {os : List O} {d : D} (h : δ[i]? = some (.ob c ns os)) (hf : lookF ns os f = some (j, .fr d)) : attrM (.sl i) f δ = some (.ok (.fr d) δ) := by
  unfold attrM
  dsimp only
  rw [h]
  dsimp only
  rw [hf]; rfl
theorem attr_ob_ml {i c j : Nat} {f : Str} {ns : List Str} {os l : List O} (h : δ[i]? = some (.ob c ns os)) (hf : lookF ns os f = some (j, .ml l)) : attrM (.sl i) f δ = some (.ok (.fr (frz (.ml l))) (δ.set i (.ob c ns (os.set j (.fr (frz (.ml l))))))) := by
  unfold attrM
  dsimp only
  rw [h]
  dsimp only
  rw [hf]; rfl
theorem ev_attr_at {i : Nat} {f : Str} {o : O} {r : Option (Rs O)} (h : δ[i]? = some o) (hd : o ≠ .dead) (ha : attrM (.sl i) f δ = r) : ev cl ini (.attr (.var i) f) δ = r := by
  rw [ev_attr, pk_var, bnd_peekS, h]
  cases o <;> first | exact ha | exact absurd rfl hd
end
end Ow.Z
end OzA_
section QA_
set_option Elab.async false
set_option linter.all false
set_option maxRecDepth 100000
set_option maxHeartbeats 4000000
/-! Pages: what the defs give. -/
namespace Ow.Q
open PySem Ow.PB
open L2 (atI)
open Ow.Z (run_df runDf_eq execs_at bnd_at bnd_ex lc_at lc_ex)
/-- a text that len may be asked of; no lambda -/
def San1 : D → Prop
  | .str s => s.length ≤ sm
  | .lam _ => False
  | _ => True
def letter (s : Str) : Bool := leS "a" s && leS s "z"
def isNameD : D → Bool
  | .str s => decide (1 ≤ s.length) && decide (s.length ≤ 8) && (s.cps.toList.all fun c => letter ⟨#[c]⟩)
  | _ => false
variable {p : Pg} {n : Nat}
theorem name_lc {cl : Cl} {ini : Nat → Option Nat} (s : Str) (h : s.length ≤ sm) : ev cl ini (.lc (.chain .le .le (.cst (.str "a")) (.var 1) (.cst (.str "z"))) (.one 1) (.seq .s (.var 0)) .nil) [.fr (.str s), .dead] = some (.ok (.ml (s.cps.toList.map fun c => .fr (.bl (letter ⟨#[c]⟩)))) [.fr (.str s), .dead]) := by
  have hl : s.cps.toList.length ≤ sm := h
  have z := lc_at (cl := cl) (ini := ini) (e := .chain .le .le (.cst (.str "a")) (.var 1) (.cst (.str "z"))) (t := .one 1) (c := .nil) (it := .seq .s (.var 0)) (δ := [.fr (.str s), .dead]) (δ1 := [.fr (.str s), .dead]) (ds := s.cps.toList.map fun c => .str ⟨#[c]⟩)
    (fun δ => ∃ o, δ = [.fr (.str s), o] ∧ (o = .dead ∨ ∃ d, o = .fr d)) (fun d => match d with | .str c => some (.bl (letter c)) | _ => none) ?_ ?_ rfl ⟨.dead, rfl, .inl rfl⟩ ?_ ?_
  · rw [z]
    simp [List.filterMap_map]
    rw [show (List.filterMap ((fun d => match d with | D.str c => some (D.bl (letter c)) | x => none) ∘ fun c => D.str ⟨#[c]⟩) s.cps.toList) = s.cps.toList.map (fun c => D.bl (letter ⟨#[c]⟩)) from by
      rw [← List.filterMap_eq_map]; rfl]
    simp
  · simp [itemsOf, h]
  · simpa using hl
  · intro d hd δ ⟨o, e, ho⟩
    obtain ⟨c, _, rfl⟩ := List.mem_map.mp hd
    subst e
    refine ⟨[.fr (.str s), .fr (.str ⟨#[c]⟩)], ?_, _, rfl, .inr ⟨_, rfl⟩⟩
    rcases ho with rfl | ⟨d, rfl⟩ <;> (simp [Z.lcB, Tg.slots, slotD, wipeS, letter]; split <;> simp_all)
  · intro δ ⟨o, e, ho⟩
    subst e
    rcases ho with rfl | ⟨d, rfl⟩ <;> simp [Tg.slots, slotD, backS]
theorem run_is_name (h : p.df 0 = some d_is_name) (d : D) (hs : San1 d) : run p (n + 1) 0 [.fr d] = some (.ok (.fr (.bl (isNameD d))) [.fr d]) := by
  rw [run_df h, runDf_eq rfl]
  cases d with
  | str s =>
    have hs : s.length ≤ sm := hs
    simp [d_is_name, b_is_name, execs_at, kdOf, isOfK, prLen, hs, bnd_at (name_lc s hs)]
    by_cases h1 : 1 ≤ s.length <;> by_cases h2 : s.length ≤ 8
    · rw [if_pos (by omega), if_neg (by omega)]
      simp [isNameD, h1, h2, Function.comp_def]
    · rw [if_pos (by omega), if_pos (by omega)]
      simp [isNameD, h1, h2]
    · rw [if_neg (by omega)]
      simp [isNameD, h1]
    · rw [if_neg (by omega)]
      simp [isNameD, h1]
  | lam i => exact hs.elim
  | _ => simp [d_is_name, b_is_name, execs_at, kdOf, isOfK, isNameD]
def sign (s : Str) : Bool := (leS " " s && leS s "~") || decide (s = "\n")
def isTextD : D → Bool
  | .str s => decide (s.length ≤ 60) && (s.cps.toList.all fun c => sign ⟨#[c]⟩)
  | _ => false
abbrev cText : E := .or_ (.chain .le .le (.cst (.str " ")) (.var 1) (.cst (.str "~"))) (.prim .eq (.cons (.var 1) (.cons (.cst (.str "\n")) .nil)))
theorem text_lc {cl : Cl} {ini : Nat → Option Nat} (s : Str) (h : s.length ≤ sm) : ev cl ini (.lc cText (.one 1) (.seq .s (.var 0)) .nil) [.fr (.str s), .dead] = some (.ok (.ml (s.cps.toList.map fun c => .fr (.bl (sign ⟨#[c]⟩)))) [.fr (.str s), .dead]) := by
  have hl : s.cps.toList.length ≤ sm := h
  have z := lc_at (cl := cl) (ini := ini) (e := cText) (t := .one 1) (c := .nil) (it := .seq .s (.var 0)) (δ := [.fr (.str s), .dead]) (δ1 := [.fr (.str s), .dead]) (ds := s.cps.toList.map fun c => .str ⟨#[c]⟩)
    (fun δ => ∃ o, δ = [.fr (.str s), o] ∧ (o = .dead ∨ ∃ d, o = .fr d)) (fun d => match d with | .str c => some (.bl (sign c)) | _ => none) ?_ ?_ rfl ⟨.dead, rfl, .inl rfl⟩ ?_ ?_
  · rw [z]
    simp [List.filterMap_map]
    rw [show (List.filterMap ((fun d => match d with | D.str c => some (D.bl (sign c)) | x => none) ∘ fun c => D.str ⟨#[c]⟩) s.cps.toList) = s.cps.toList.map (fun c => D.bl (sign ⟨#[c]⟩)) from by
      rw [← List.filterMap_eq_map]; rfl]
    simp
  · simp [itemsOf, h]
  · simpa using hl
  · intro d hd δ ⟨o, e, ho⟩
    obtain ⟨c, _, rfl⟩ := List.mem_map.mp hd
    subst e
    refine ⟨[.fr (.str s), .fr (.str ⟨#[c]⟩)], ?_, _, rfl, .inr ⟨_, rfl⟩⟩
    rcases ho with rfl | ⟨d, rfl⟩ <;> (simp [Z.lcB, Tg.slots, slotD, wipeS, sign, pr, eqD]; split <;> simp_all <;> (try split) <;> simp_all)
  · intro δ ⟨o, e, ho⟩
    subst e
    rcases ho with rfl | ⟨d, rfl⟩ <;> simp [Tg.slots, slotD, backS]
theorem run_is_text (h : p.df 1 = some d_is_text) (d : D) (hs : San1 d) : run p (n + 1) 1 [.fr d] = some (.ok (.fr (.bl (isTextD d))) [.fr d]) := by
  rw [run_df h, runDf_eq rfl]
  cases d with
  | str s =>
    have hs : s.length ≤ sm := hs
    simp [d_is_text, b_is_text, execs_at, kdOf, isOfK, prLen, pr, intOp, hs, bnd_at (text_lc s hs)]
    by_cases h2 : s.length ≤ 60
    · rw [if_neg (by omega)]
      simp [isTextD, h2, Function.comp_def]
    · rw [if_pos (by omega)]
      simp [isTextD, h2]
  | lam i => exact hs.elim
  | _ => simp [d_is_text, b_is_text, execs_at, kdOf, isOfK, isTextD]
theorem eq_form {k k' : Str} {a b : Int} (h : PyData.strOk k = true) (h' : PyData.strOk k' = true) : eqD (.tup [.str k, .int a]) (.tup [.str k', .int b]) = some (decide (k = k') && decide (a = b)) := by
  have e1 : SeqAt.shaped (.tuple [.str k, .int a]) = true := by simp [SeqAt.shaped, PyData.canLay0, PyData.canLayAll0, PyData.depth, PyData.depthAll, h]
  have e2 : SeqAt.shaped (.tuple [.str k', .int b]) = true := by simp [SeqAt.shaped, PyData.canLay0, PyData.canLayAll0, PyData.depth, PyData.depthAll, h']
  show eqPd _ _ = _
  unfold eqPd
  simp only [pd, pds, Option.bind_some, Option.map_some]
  rw [e1, e2]
  simp [PyData.eqv, PyData.eqvAll]
  rfl
mutual
def san : D → Bool
  | .str s => PyData.strOk s && decide (s.length ≤ sm)
  | .lam _ => false
  | .scr _ => false
  | .lst xs => decide (xs.length ≤ sm) && sans xs
  | .tup xs => decide (xs.length ≤ sm) && sans xs
  | _ => true
def sans : List D → Bool
  | [] => true
  | d :: ds => san d && sans ds
end
theorem sans_all : ∀ {xs : List D}, sans xs = true → ∀ d ∈ xs, san d = true
  | [], _, _, m => nomatch m
  | d :: ds, h, e, m => by
    unfold sans at h
    rw [Bool.and_eq_true] at h
    rcases List.mem_cons.mp m with rfl | m
    · exact h.1
    · exact sans_all h.2 e m
theorem san1 {d : D} (h : san d = true) : San1 d := by
  cases d <;> first | trivial | (simp [san] at h; done) | (simp [san] at h; exact h.2)
def rItems (f : D → List D → Option (List D)) : List D → List D → Option (List D)
  | [], seen => some seen
  | d :: ds, seen => (f d seen).bind (rItems f ds)
/-- an item read: k levels may still lie within; what was seen -/
def rItem : Nat → Bool → D → List D → Option (List D)
  | 0, _, _, _ => none
  | k + 1, inside, d, seen => if 30 ≤ seen.length then none else match d with
    | .tup [.str w] => if w = "elder" ∧ inside = true then some (seen ++ [d]) else none
    | .tup [.str w, t] => if (w = "text" ∧ isTextD t = true) ∨ (w = "name" ∧ isNameD t = true) then some (seen ++ [d]) else none
    | .tup [.str w, n, .lst xs] => if w = "block" ∧ isNameD n = true then rItems (rItem k true) xs (seen ++ [d]) else none
    | .tup [.str w, n, .lst xs, .lst ys] => if w = "choice" ∧ isNameD n = true then (rItems (rItem k inside) xs (seen ++ [d])).bind (rItems (rItem k inside) ys) else none
    | _ => none
structure PageDefs (p : Pg) : Prop where
  h0 : p.df 0 = some d_is_name
  h1 : p.df 1 = some d_is_text
  h2 : p.df 2 = some d_read_items
  h3 : p.df 3 = some d_read_item
  h4 : p.df 4 = some d_read_page_items
  h5 : p.df 5 = some d_copied_items
def itemR (o : O) (d : D) (deep : Int) (inside : Bool) : Option (List D) → Option (Rs O)
  | some s => some (.ok o [.fr d, .fr (.int deep), .fr (.bl inside), .ml (s.map .fr)])
  | none => some (.ex ⟨101, []⟩)
/-- what read_item gives, k levels deep -/
def ItemAt (p : Pg) (m k : Nat) : Prop := ∀ inside d seen, san d = true → seen.length ≤ 30 → run p m 3 [.fr d, .fr (.int (7 - k)), .fr (.bl inside), .ml (seen.map .fr)] = itemR (.fr d) d (7 - k) inside (rItem k inside d seen)
theorem rItems_len {f : D → List D → Option (List D)} (h : ∀ d seen s, f d seen = some s → s.length ≤ 30) : ∀ {xs seen s : List D}, seen.length ≤ 30 → rItems f xs seen = some s → s.length ≤ 30
  | [], seen, s, hl, e => by cases e; exact hl
  | d :: ds, seen, s, hl, e => by
    obtain ⟨s1, e1, e2⟩ := Option.bind_eq_some_iff.mp (show (f d seen).bind (rItems f ds) = some s from e)
    exact rItems_len h (h _ _ _ e1) e2
theorem rItem_len : ∀ {k : Nat} {inside : Bool} (d : D) (seen s : List D), rItem k inside d seen = some s → s.length ≤ 30
  | 0, _, _, _, _, h => by cases h
  | k + 1, inside, d, seen, s, h => by
    unfold rItem at h
    by_cases hl : 30 ≤ seen.length
    · rw [if_pos hl] at h; cases h
    · rw [if_neg hl] at h
      have hs : (seen ++ [d]).length ≤ 30 := by simp; omega
      split at h
      · split at h
        · cases h; exact hs
        · cases h
      · split at h
        · cases h; exact hs
        · cases h
      · split at h
        · exact rItems_len (fun d seen s => rItem_len d seen s) hs h
        · cases h
      · split at h
        · obtain ⟨s1, e1, e2⟩ := Option.bind_eq_some_iff.mp h
          exact rItems_len (fun d seen s => rItem_len d seen s) (rItems_len (fun d seen s => rItem_len d seen s) hs e1) e2
        · cases h
      · cases h
theorem each_items {m k : Nat} (H : ItemAt p m k) (inside : Bool) (x0 : D) : ∀ (xs : List D), sans xs = true → ∀ (seen : List D) (o : O), seen.length ≤ 30 → (o = .dead ∨ ∃ d, o = .fr d) →
    match rItems (rItem k inside) xs seen with
    | some s => ∃ o', (o' = .dead ∨ ∃ d, o' = .fr d) ∧ each (Z.lcB (run p m) p.ini (.call 3 (.cons (.var 4) (.cons (.var 1) (.cons (.var 2) (.cons (.var 3) .nil))))) (.one 4) .nil) xs [.fr x0, .fr (.int (7 - k)), .fr (.bl inside), .ml (seen.map .fr), o] = some (.ok xs [.fr x0, .fr (.int (7 - k)), .fr (.bl inside), .ml (s.map .fr), o'])
    | none => each (Z.lcB (run p m) p.ini (.call 3 (.cons (.var 4) (.cons (.var 1) (.cons (.var 2) (.cons (.var 3) .nil))))) (.one 4) .nil) xs [.fr x0, .fr (.int (7 - k)), .fr (.bl inside), .ml (seen.map .fr), o] = some (.ex ⟨101, []⟩)
  | [], _, seen, o, _, ho => ⟨o, ho, rfl⟩
  | d :: xs, hs, seen, o, hl, ho => by
    unfold sans at hs
    rw [Bool.and_eq_true] at hs
    have hd := H inside d seen hs.1 hl
    unfold rItems
    have go : Z.lcB (run p m) p.ini (.call 3 (.cons (.var 4) (.cons (.var 1) (.cons (.var 2) (.cons (.var 3) .nil))))) (.one 4) .nil d [.fr x0, .fr (.int (7 - k)), .fr (.bl inside), .ml (seen.map .fr), o] = match rItem k inside d seen with
      | some s => some (.ok (some d) [.fr x0, .fr (.int (7 - k)), .fr (.bl inside), .ml (s.map .fr), .fr d])
      | none => some (.ex ⟨101, []⟩) := by
      rcases ho with rfl | ⟨d0, rfl⟩ <;> (simp [Z.lcB, Tg.slots, slotD, wipeS, hd]; cases rItem k inside d seen <;> simp [itemR])
    cases e : rItem k inside d seen with
    | none =>
      rw [e] at go
      exact bnd_ex go
    | some s1 =>
      rw [e] at go
      have ih := each_items H inside x0 xs hs.2 s1 (.fr d) (rItem_len _ _ _ e) (.inr ⟨d, rfl⟩)
      rw [Option.bind_some]
      cases e2 : rItems (rItem k inside) xs s1 with
      | none =>
        rw [e2] at ih
        rw [Z.each_cons, bnd_at go]
        exact bnd_ex ih
      | some s2 =>
        rw [e2] at ih
        obtain ⟨o', ho', ih⟩ := ih
        refine ⟨o', ho', ?_⟩
        rw [Z.each_cons, bnd_at go]
        rw [bnd_at ih]
        rfl
/-- what read_items gives -/
def itemsR (x : O) (x0 : D) (deep : Int) (inside : Bool) : Option (List D) → Option (Rs O)
  | some s => some (.ok x [.fr x0, .fr (.int deep), .fr (.bl inside), .ml (s.map .fr)])
  | none => some (.ex ⟨101, []⟩)
theorem run_items (hp : PageDefs p) {m k : Nat} (H : ItemAt p m k) (inside : Bool) (xs seen : List D) (hs : sans xs = true) (hx : xs.length ≤ sm) (hl : seen.length ≤ 30) :
    run p (m + 1) 2 [.fr (.lst xs), .fr (.int (7 - k)), .fr (.bl inside), .ml (seen.map .fr)] = itemsR (.ml (xs.map .fr)) (.lst xs) (7 - k) inside (rItems (rItem k inside) xs seen) := by
  rw [run_df hp.h2, runDf_eq rfl]
  have E := each_items H inside (.lst xs) xs hs seen .dead hl (.inl rfl)
  have pe : pins [.fr (.lst xs), .fr (.int (7 - k)), .fr (.bl inside), .ml (seen.map O.fr)] = [3] := rfl
  have lc : ev (run p m) p.ini (.lc (.call 3 (.cons (.var 4) (.cons (.var 1) (.cons (.var 2) (.cons (.var 3) .nil))))) (.one 4) (.seq .l (.var 0)) .nil) [.fr (.lst xs), .fr (.int (7 - k)), .fr (.bl inside), .ml (seen.map .fr), .dead] =
      match rItems (rItem k inside) xs seen with
      | some s => some (.ok (.ml (xs.map .fr)) [.fr (.lst xs), .fr (.int (7 - k)), .fr (.bl inside), .ml (s.map .fr), .dead])
      | none => some (.ex ⟨101, []⟩) := by
    have hi : evi (run p m) p.ini (.seq .l (.var 0)) [.fr (.lst xs), .fr (.int (7 - k)), .fr (.bl inside), .ml (seen.map .fr), .dead] = some (.ok xs [.fr (.lst xs), .fr (.int (7 - k)), .fr (.bl inside), .ml (seen.map .fr), .dead]) := by simp [itemsOf]
    cases e : rItems (rItem k inside) xs seen with
    | none =>
      rw [e] at E
      exact Z.lc_runx hi hx rfl E
    | some s =>
      rw [e] at E
      obtain ⟨o', ho', E⟩ := E
      have z := Z.lc_run hi hx rfl E (by rcases ho' with rfl | ⟨d, rfl⟩ <;> rfl)
      rw [z]
      rfl
  rw [pe]
  cases e : rItems (rItem k inside) xs seen with
  | none =>
    rw [e] at lc
    simp [d_read_items, b_read_items, execs_at, kdOf, isOfK, bnd_ex lc, itemsR]
  | some s =>
    rw [e] at lc
    simp [d_read_items, b_read_items, execs_at, kdOf, isOfK, bnd_at lc, itemsR]
theorem run_items_no (hp : PageDefs p) {m : Nat} (deep : Int) (inside : Bool) (a : D) (seen : List O) (hs : san a = true) (hx : ∀ xs, a ≠ .lst xs) : run p (m + 1) 2 [.fr a, .fr (.int deep), .fr (.bl inside), .ml seen] = some (.ex ⟨101, []⟩) := by
  rw [run_df hp.h2, runDf_eq rfl]
  have pe : pins [.fr a, .fr (.int deep), .fr (.bl inside), .ml seen] = [3] := rfl
  rw [pe]
  cases a with
  | lst xs => exact absurd rfl (hx xs)
  | lam i => simp [san] at hs
  | scr i => simp [san] at hs
  | _ => simp [d_read_items, b_read_items, execs_at, kdOf, isOfK]
theorem strs_ok : PyData.strOk "elder" = true ∧ PyData.strOk "text" = true ∧ PyData.strOk "name" = true ∧ PyData.strOk "block" = true ∧ PyData.strOk "choice" = true := by decide +kernel
end Ow.Q
end QA_
section QB_
set_option Elab.async false
set_option linter.all false
set_option maxRecDepth 100000
set_option maxHeartbeats 4000000
namespace Ow.Q
open PySem Ow.PB
open L2 (atI)
open Ow.Z (run_df runDf_eq execs_at bnd_at bnd_ex lc_at lc_ex lcB)
variable {p : Pg} {n : Nat}
theorem prLen_tup {xs : List D} : prLen (.fr (.tup xs)) = some (.fr (.int xs.length)) := rfl
theorem prLen_ml {xs : List O} : prLen (.ml xs) = some (.fr (.int xs.length)) := rfl
theorem prIdx_tup {xs : List D} {i : Int} : prIdx (.fr (.tup xs)) (.fr (.int i)) = (atI xs i).map .fr := rfl
theorem atI_0 {α : Type} {x : α} {xs : List α} : atI (x :: xs) 0 = some x := by unfold atI L2.ixN; simp
theorem atI_1 {α : Type} {x y : α} {xs : List α} : atI (x :: y :: xs) 1 = some y := by unfold atI L2.ixN; rw [if_pos (by decide), if_pos (by simp only [List.length_cons]; omega)]; rfl
theorem atI_2 {α : Type} {x y z : α} {xs : List α} : atI (x :: y :: z :: xs) 2 = some z := by unfold atI L2.ixN; rw [if_pos (by decide), if_pos (by simp only [List.length_cons]; omega)]; rfl
theorem atI_3 {α : Type} {x y z u : α} {xs : List α} : atI (x :: y :: z :: u :: xs) 3 = some u := by unfold atI L2.ixN; rw [if_pos (by decide), if_pos (by simp only [List.length_cons]; omega)]; rfl
theorem run_item (hp : PageDefs p) : ∀ k m, ItemAt p (m + 2 * k + 2) k
  | 0, m => by
    intro inside d seen hs hl
    rw [run_df hp.h3, runDf_eq rfl]
    have pe : pins [.fr d, .fr (.int (7 - (0 : Nat))), .fr (.bl inside), .ml (seen.map O.fr)] = [3] := rfl
    have hm : seen.length < sm := by unfold sm; omega
    rw [pe]
    simp [d_read_item, b_read_item, execs_at, pr, intOp, hm, itemR, rItem]
  | k + 1, m => by
    intro inside d seen hs hl
    have H := run_item hp k m
    have RI := run_items hp H
    rw [show m + 2 * (k + 1) + 2 = (m + 2 * k + 3) + 1 from by omega, run_df hp.h3, runDf_eq rfl]
    have pe : pins [.fr d, .fr (.int (7 - ((k + 1 : Nat)))), .fr (.bl inside), .ml (seen.map O.fr)] = [3] := rfl
    have hm : seen.length < sm := by unfold sm; omega
    have hk : ¬ ((6 : Int) < 7 - ((k + 1 : Nat) : Int)) := by omega
    rw [pe]
    show Z.finish _ (execs _ _ _ b_read_item [.fr d, .fr (.int (7 - ((k + 1 : Nat)))), .fr (.bl inside), .ml (seen.map O.fr), .dead, .dead]) = _
    rw [Z.execs_step (b := b_read_item) (δ' := [.fr d, .fr (.int (7 - ((k + 1 : Nat)))), .fr (.bl inside), .ml ((seen ++ [d]).map O.fr), .dead, .dead]) rfl (by simp [hm])]
    by_cases h30 : 30 ≤ seen.length
    · have h30' : (30 : Int) < (seen.length : Int) + 1 := by omega
      have hk' : ¬ ((6 : Int) < 7 - ((k : Int) + 1)) := by omega
      simp [execs_at, pr, intOp, prLen_ml, itemR, rItem, h30, h30', hk']
    · have h30' : ¬ (30 : Int) < (seen.length : Int) + 1 := by omega
      have hk' : ¬ ((6 : Int) < 7 - ((k : Int) + 1)) := by omega
      rw [Z.execs_step (δ' := [.fr d, .fr (.int (7 - ((k + 1 : Nat)))), .fr (.bl inside), .ml ((seen ++ [d]).map O.fr), .dead, .dead]) rfl (by simp [execs_at, pr, intOp, prLen_ml, h30', hk'])]
      have hs1 : (seen ++ [d]).length ≤ 30 := by simp; omega
      generalize hS : seen ++ [d] = S at hs1
      cases d with
      | tup xs =>
        cases xs with
        | nil => simp [execs_at, truth, kdOf, isOfK, rItem, itemR, h30]
        | cons x r =>
          cases x with
          | str w =>
            have hw : PyData.strOk w = true ∧ sans r = true := by
              simp [san, sans] at hs
              exact ⟨hs.2.1.1, hs.2.2⟩
            obtain ⟨hw, hr⟩ := hw
            obtain ⟨o1, o2, o3, o4, o5⟩ := strs_ok
            rw [Z.execs_step (δ' := [.fr (.tup (.str w :: r)), .fr (.int (7 - ((k + 1 : Nat)))), .fr (.bl inside), .ml (S.map O.fr), .dead, .dead]) rfl (by simp [execs_at, truth, kdOf, isOfK, pr, prIdx_tup, atI_0])]
            rw [Z.execs_step (δ' := [.fr (.tup (.str w :: r)), .fr (.int (7 - ((k + 1 : Nat)))), .fr (.bl inside), .ml (S.map O.fr), .fr (.tup [.str w, .int (r.length + 1 : Nat)]), .dead]) rfl (by simp [execs_at, pr, prIdx_tup, atI_0, prLen_tup, sm])]
            have TX : ∀ t, san t = true → run p (m + 2 * k + 3) 1 [.fr t] = some (.ok (.fr (.bl (isTextD t))) [.fr t]) := fun t ht => run_is_text (n := m + 2 * k + 2) hp.h1 t (san1 ht)
            have NM : ∀ t, san t = true → run p (m + 2 * k + 3) 0 [.fr t] = some (.ok (.fr (.bl (isNameD t))) [.fr t]) := fun t ht => run_is_name (n := m + 2 * k + 2) hp.h0 t (san1 ht)
            have ek : (7 : Int) - (((k + 1 : Nat)) : Int) + 1 = 7 - (k : Int) := by omega
            cases r with
            | nil =>
              simp [execs_at, pr, eq_form hw o1, eq_form hw o2, eq_form hw o3, eq_form hw o4, eq_form hw o5, sm, rItem, h30, itemR]
              subst hS
              by_cases e : w = "elder" <;> cases inside <;> simp_all
            | cons t r =>
              have ht : san t = true := by simp [sans] at hr; exact hr.1
              cases r with
              | nil =>
                simp [execs_at, pr, eq_form hw o1, eq_form hw o2, eq_form hw o3, eq_form hw o4, eq_form hw o5, sm, rItem, h30, itemR, prIdx_tup, atI_1, TX t ht, NM t ht]
                subst hS
                by_cases e1 : w = "text"
                · subst e1
                  by_cases e2 : isTextD t = true <;> simp [e2, (by decide : ¬ ("text" : Str) = "name")]
                · by_cases e3 : w = "name"
                  · subst e3
                    by_cases e2 : isNameD t = true <;> simp [e2, (by decide : ¬ ("name" : Str) = "text")]
                  · simp [e1, e3]
              | cons a r =>
                have ha : san a = true := by simp [sans] at hr; exact hr.2.1
                have ek' : (7 : Int) - ((k : Int) + 1) + 1 = 7 - (k : Int) := by omega
                have RN : ∀ (inside : Bool) (a : D) (seen : List O), san a = true → (∀ xs, a ≠ .lst xs) → run p (m + 2 * k + 3) 2 [.fr a, .fr (.int (7 - k)), .fr (.bl inside), .ml seen] = some (.ex ⟨101, []⟩) := fun inside a seen h1 h2 => run_items_no (m := m + 2 * k + 2) hp _ inside a seen h1 h2
                cases r with
                | nil =>
                  by_cases e1 : w = "block" ∧ isNameD t = true
                  · obtain ⟨rfl, e2⟩ := e1
                    by_cases ex : ∃ xs, a = .lst xs
                    · obtain ⟨xs, rfl⟩ := ex
                      have hx : xs.length ≤ sm ∧ sans xs = true := by simp [san] at ha; exact ha
                      have R1 := RI true xs S hx.2 hx.1 hs1
                      simp [execs_at, pr, eq_form hw o1, eq_form hw o2, eq_form hw o3, eq_form hw o4, eq_form hw o5, sm, rItem, h30, itemR, prIdx_tup, atI_1, atI_2, TX t ht, NM t ht, e2, prAdd, ek', R1]
                      subst hS
                      cases rItems (rItem k true) xs (seen ++ [.tup [.str "block", t, .lst xs]]) <;> simp [itemsR]
                    · have R1 := RN true a (S.map .fr) ha fun xs z => ex ⟨xs, z⟩
                      have e3 : rItem (k + 1) inside (.tup [.str "block", t, a]) seen = none := by
                        unfold rItem
                        rw [if_neg h30]
                        cases a <;> first | rfl | exact absurd ⟨_, rfl⟩ ex
                      rw [e3]
                      simp [execs_at, pr, eq_form hw o1, eq_form hw o2, eq_form hw o3, eq_form hw o4, eq_form hw o5, sm, itemR, prIdx_tup, atI_1, atI_2, TX t ht, NM t ht, e2, prAdd, ek', R1]
                  · have e3 : rItem (k + 1) inside (.tup [.str w, t, a]) seen = none := by
                      unfold rItem
                      rw [if_neg h30]
                      cases a <;> first | rfl | (rw [if_neg e1]; done) | exact if_neg e1
                    rw [e3]
                    by_cases e4 : w = "block"
                    · have e5 : ¬ isNameD t = true := fun z => e1 ⟨e4, z⟩
                      subst e4
                      simp [execs_at, pr, eq_form hw o1, eq_form hw o2, eq_form hw o3, eq_form hw o4, eq_form hw o5, sm, itemR, prIdx_tup, atI_1, TX t ht, NM t ht, e5]
                    · simp [execs_at, pr, eq_form hw o1, eq_form hw o2, eq_form hw o3, eq_form hw o4, eq_form hw o5, sm, itemR, prIdx_tup, atI_1, TX t ht, NM t ht, e4]
                | cons b r =>
                  have hb : san b = true := by simp [sans] at hr; exact hr.2.2.1
                  cases r with
                  | nil =>
                    by_cases e1 : w = "choice" ∧ isNameD t = true
                    · obtain ⟨rfl, e2⟩ := e1
                      by_cases ex : ∃ xs, a = .lst xs
                      · obtain ⟨xs, rfl⟩ := ex
                        have hx : xs.length ≤ sm ∧ sans xs = true := by simp [san] at ha; exact ha
                        have R1 := RI inside xs S hx.2 hx.1 hs1
                        cases e6 : rItems (rItem k inside) xs S with
                        | none =>
                          rw [e6] at R1
                          have e3 : rItem (k + 1) inside (.tup [.str "choice", t, .lst xs, b]) seen = none := by
                            unfold rItem
                            rw [if_neg h30, hS]
                            cases b <;> first | rfl | (dsimp only; rw [e6]; split <;> rfl)
                          rw [e3]
                          simp [execs_at, pr, eq_form hw o1, eq_form hw o2, eq_form hw o3, eq_form hw o4, eq_form hw o5, sm, itemR, prIdx_tup, atI_1, atI_2, TX t ht, NM t ht, e2, prAdd, ek', R1, itemsR]
                        | some S2 =>
                          rw [e6] at R1
                          have hs2 : S2.length ≤ 30 := rItems_len (fun d seen s => rItem_len d seen s) hs1 e6
                          by_cases ey : ∃ ys, b = .lst ys
                          · obtain ⟨ys, rfl⟩ := ey
                            have hy : ys.length ≤ sm ∧ sans ys = true := by simp [san] at hb; exact hb
                            have R2 := RI inside ys S2 hy.2 hy.1 hs2
                            have e3 : rItem (k + 1) inside (.tup [.str "choice", t, .lst xs, .lst ys]) seen = rItems (rItem k inside) ys S2 := by
                              unfold rItem
                              rw [if_neg h30, hS]
                              dsimp only
                              rw [if_pos ⟨rfl, e2⟩, e6]; rfl
                            rw [e3]
                            simp [execs_at, pr, eq_form hw o1, eq_form hw o2, eq_form hw o3, eq_form hw o4, eq_form hw o5, sm, itemR, prIdx_tup, atI_1, atI_2, atI_3, TX t ht, NM t ht, e2, prAdd, ek', R1, itemsR, R2]
                            cases rItems (rItem k inside) ys S2 <;> simp
                          · have R2 := RN inside b (S2.map .fr) hb fun ys z => ey ⟨ys, z⟩
                            have e3 : rItem (k + 1) inside (.tup [.str "choice", t, .lst xs, b]) seen = none := by
                              unfold rItem
                              rw [if_neg h30]
                              cases b <;> first | rfl | exact absurd ⟨_, rfl⟩ ey
                            rw [e3]
                            simp [execs_at, pr, eq_form hw o1, eq_form hw o2, eq_form hw o3, eq_form hw o4, eq_form hw o5, sm, itemR, prIdx_tup, atI_1, atI_2, atI_3, TX t ht, NM t ht, e2, prAdd, ek', R1, itemsR, R2]
                      · have R1 := RN inside a (S.map .fr) ha fun xs z => ex ⟨xs, z⟩
                        have e3 : rItem (k + 1) inside (.tup [.str "choice", t, a, b]) seen = none := by
                          unfold rItem
                          rw [if_neg h30]
                          cases a <;> first | rfl | exact absurd ⟨_, rfl⟩ ex
                        rw [e3]
                        simp [execs_at, pr, eq_form hw o1, eq_form hw o2, eq_form hw o3, eq_form hw o4, eq_form hw o5, sm, itemR, prIdx_tup, atI_1, atI_2, TX t ht, NM t ht, e2, prAdd, ek', R1]
                    · have e3 : rItem (k + 1) inside (.tup [.str w, t, a, b]) seen = none := by
                        unfold rItem
                        rw [if_neg h30]
                        cases a <;> first | rfl | (cases b <;> first | rfl | exact if_neg e1)
                      rw [e3]
                      by_cases e4 : w = "choice"
                      · have e5 : ¬ isNameD t = true := fun z => e1 ⟨e4, z⟩
                        subst e4
                        simp [execs_at, pr, eq_form hw o1, eq_form hw o2, eq_form hw o3, eq_form hw o4, eq_form hw o5, sm, itemR, prIdx_tup, atI_1, TX t ht, NM t ht, e5]
                      · simp [execs_at, pr, eq_form hw o1, eq_form hw o2, eq_form hw o3, eq_form hw o4, eq_form hw o5, sm, itemR, prIdx_tup, atI_1, TX t ht, NM t ht, e4]
                  | cons c r =>
                    have e3 : rItem (k + 1) inside (.tup (.str w :: t :: a :: b :: c :: r)) seen = none := by
                      unfold rItem
                      rw [if_neg h30]
                      cases a <;> first | rfl | (cases b <;> rfl)
                    rw [e3]
                    have n1 : ¬ ((r.length : Int) + 1 + 1 + 1 + 1 + 1 = 4) := by omega
                    have n2 : ¬ ((r.length : Int) + 1 + 1 + 1 + 1 + 1 = 3) := by omega
                    have n3 : ¬ ((r.length : Int) + 1 + 1 + 1 + 1 + 1 = 2) := by omega
                    have n4 : ¬ ((r.length : Int) + 1 + 1 + 1 + 1 + 1 = 1) := by omega
                    simp [execs_at, pr, eq_form hw o1, eq_form hw o2, eq_form hw o3, eq_form hw o4, eq_form hw o5, sm, itemR, n1, n2, n3, n4]
          | lam i => simp [san, sans] at hs
          | scr i => simp [san, sans] at hs
          | _ => simp [execs_at, truth, kdOf, isOfK, rItem, itemR, h30, pr, prIdx_tup, atI_0]
      | lam i => simp [san] at hs
      | scr i => simp [san] at hs
      | _ => simp [execs_at, kdOf, isOfK, itemR, rItem, h30]
end Ow.Q
end QB_
section QC_
set_option Elab.async false
set_option linter.all false
set_option maxRecDepth 100000
set_option maxHeartbeats 4000000
namespace Ow.Q
open PySem Ow.PB
open L2 (atI)
open Ow.Z (run_df runDf_eq execs_at bnd_at bnd_ex lc_at lc_ex lcB)
variable {p : Pg} {n : Nat}
/-- what a seen item is -/
def goodI : D → Bool
  | .tup (.str w :: r) => decide (w ≠ "block") || (match r with | .str _ :: _ => true | _ => false)
  | _ => false
theorem isNameD_str {d : D} (h : isNameD d = true) : ∃ s, d = .str s ∧ 1 ≤ s.length ∧ s.length ≤ 8 := by
  cases d with
  | str s => simp [isNameD] at h; exact ⟨s, rfl, h.1.1, h.1.2⟩
  | _ => cases h
theorem rItems_good {f : D → List D → Option (List D)} (h : ∀ d seen s, (∀ e ∈ seen, goodI e = true) → f d seen = some s → ∀ e ∈ s, goodI e = true) : ∀ {xs seen s : List D}, (∀ e ∈ seen, goodI e = true) → rItems f xs seen = some s → ∀ e ∈ s, goodI e = true
  | [], seen, s, hl, e => by cases e; exact hl
  | d :: ds, seen, s, hl, e => by
    obtain ⟨s1, e1, e2⟩ := Option.bind_eq_some_iff.mp (show (f d seen).bind (rItems f ds) = some s from e)
    exact rItems_good h (h _ _ _ hl e1) e2
theorem rItem_good : ∀ {k : Nat} {inside : Bool} (d : D) (seen s : List D), (∀ e ∈ seen, goodI e = true) → rItem k inside d seen = some s → ∀ e ∈ s, goodI e = true
  | 0, _, _, _, _, _, h => by cases h
  | k + 1, inside, d, seen, s, hg, h => by
    have app : goodI d = true → ∀ e ∈ seen ++ [d], goodI e = true := fun gd e he => by
      rcases List.mem_append.mp he with he | he
      · exact hg e he
      · rw [List.mem_singleton.mp he]; exact gd
    unfold rItem at h
    by_cases hl : 30 ≤ seen.length
    · rw [if_pos hl] at h; cases h
    · rw [if_neg hl] at h
      split at h
      · split at h
        · rename_i q; cases h; exact app (by obtain ⟨rfl, _⟩ := q; decide)
        · cases h
      · split at h
        · rename_i q; cases h
          refine app ?_
          rcases q with ⟨rfl, _⟩ | ⟨rfl, _⟩ <;> simp [goodI] <;> exact .inl (by decide)
        · cases h
      · split at h
        · rename_i q
          obtain ⟨rfl, q⟩ := q
          obtain ⟨z, rfl, _⟩ := isNameD_str q
          exact rItems_good (fun d seen s => rItem_good d seen s) (app (by simp [goodI])) h
        · cases h
      · split at h
        · rename_i q
          obtain ⟨rfl, q⟩ := q
          obtain ⟨s1, e1, e2⟩ := Option.bind_eq_some_iff.mp h
          exact rItems_good (fun d seen s => rItem_good d seen s) (rItems_good (fun d seen s => rItem_good d seen s) (app (by simp [goodI]; exact .inl (by decide))) e1) e2
        · cases h
      · cases h
def blockName : D → Option Str
  | .tup (.str w :: .str n :: _) => if w = "block" then some n else none
  | _ => none
/-- the rows of a page, if its items may be a page's -/
def pageRows : D → Option D
  | .lst xs => match rItems (rItem 6 false) xs [] with
    | some seen => if (uniqS (seen.filterMap blockName)).length < (seen.filterMap blockName).length then none else some (.lst xs)
    | none => none
  | _ => none
abbrev eN : E := .prim .idx (.cons (.var 4) (.cons (.cst (.int 1)) .nil))
abbrev cN : Es := .cons (.prim .eq (.cons (.prim .idx (.cons (.var 4) (.cons (.cst (.int 0)) .nil))) (.cons (.cst (.str "block")) .nil))) .nil
theorem names_lc {cl : Cl} {ini : Nat → Option Nat} (x : D) (S : List D) (r : O) (hg : ∀ e ∈ S, goodI e = true) (hl : S.length ≤ 30) : ev cl ini (.lc eN (.one 4) (.seq .l (.var 1)) cN) [.fr x, .ml (S.map .fr), r, .dead, .dead] = some (.ok (.ml ((S.filterMap blockName).map fun s => .fr (.str s))) [.fr x, .fr (.lst S), r, .dead, .dead]) := by
  have z := lc_at (cl := cl) (ini := ini) (e := eN) (t := .one 4) (c := cN) (it := .seq .l (.var 1)) (δ := [.fr x, .ml (S.map .fr), r, .dead, .dead]) (δ1 := [.fr x, .fr (.lst S), r, .dead, .dead]) (ds := S)
    (fun δ => ∃ o, δ = [.fr x, .fr (.lst S), r, .dead, o] ∧ (o = .dead ∨ ∃ d, o = .fr d)) (fun d => (blockName d).map .str) ?_ ?_ rfl ⟨.dead, rfl, .inl rfl⟩ ?_ ?_
  · rw [z]
    congr 3
    rw [← List.filterMap_eq_map, List.filterMap_filterMap, ← List.filterMap_eq_map, List.filterMap_filterMap]
    congr 1
    funext d
    cases blockName d <;> rfl
  · simp [itemsOf]
  · unfold sm; omega
  · intro d hd δ ⟨o, e, ho⟩
    subst e
    have gd := hg d hd
    refine ⟨[.fr x, .fr (.lst S), r, .dead, .fr d], ?_, _, rfl, .inr ⟨_, rfl⟩⟩
    cases d with
    | tup ys =>
      cases ys with
      | nil => cases gd
      | cons y ys =>
        cases y with
        | str w =>
          by_cases e : w = "block"
          · subst e
            simp [goodI] at gd
            cases ys with
            | nil => cases gd
            | cons y ys =>
              cases y with
              | str nm => rcases ho with rfl | ⟨d, rfl⟩ <;> unfold Z.lcB <;> simp [ Tg.slots, slotD, wipeS, pr, prIdx_tup, atI_0, atI_1, eqD, blockName]
              | _ => cases gd
          · rcases ho with rfl | ⟨d, rfl⟩ <;> (unfold Z.lcB; simp [Tg.slots, slotD, wipeS, pr, prIdx_tup, atI_0, atI_1, eqD, e]; cases ys with
              | nil => rfl
              | cons y ys => cases y <;> simp [blockName, e])
        | _ => cases gd
    | _ => cases gd
  · intro δ ⟨o, e, ho⟩
    subst e
    rcases ho with rfl | ⟨d, rfl⟩ <;> simp [Tg.slots, slotD, backS]
theorem strsD_strs : ∀ ss : List Str, strsD (ss.map .str) = some ss
  | [] => rfl
  | s :: ss => by
    show (strsD (ss.map .str)).map (s :: ·) = _
    rw [strsD_strs ss]; rfl
def rowsR (x : D) : Option D → Option (Rs O)
  | some r => some (.ok (.fr r) [.fr x])
  | none => some (.ex ⟨101, []⟩)
theorem run_rows (hp : PageDefs p) (m : Nat) (x : D) (hs : san x = true) : run p (m + 16) 4 [.fr x] = rowsR x (pageRows x) := by
  rw [run_df hp.h4, runDf_eq rfl]
  have H : ItemAt p (m + 2 * 6 + 2) 6 := run_item hp 6 m
  have pe : pins [.fr x] = [] := rfl
  rw [pe]
  show Z.finish _ (execs _ _ _ b_read_page_items [.fr x, .dead, .dead, .dead, .dead]) = _
  rw [Z.execs_step (b := b_read_page_items) (δ' := [.fr x, .ml [], .dead, .dead, .dead]) rfl (by simp [sm])]
  have no : (∀ xs, x ≠ .lst xs) → run p (m + 15) 2 [.fr x, .fr (.int 1), .fr (.bl false), .ml []] = some (.ex ⟨101, []⟩) := fun h => run_items_no (m := m + 14) hp 1 false x [] hs h
  cases x with
  | lst xs =>
    have hx : xs.length ≤ sm ∧ sans xs = true := by simp [san] at hs; exact hs
    have R := run_items hp H false xs [] hx.2 hx.1 (by simp)
    have e1 : (7 : Int) - ((6 : Nat) : Int) = 1 := by decide
    rw [e1] at R
    unfold pageRows
    cases e : rItems (rItem 6 false) xs [] with
    | none =>
      rw [e] at R
      have R : run p (m + 15) 2 [.fr (.lst xs), .fr (.int 1), .fr (.bl false), .ml []] = some (.ex ⟨101, []⟩) := R
      simp [execs_at, R, rowsR, e]
    | some S =>
      rw [e] at R
      have R : run p (m + 15) 2 [.fr (.lst xs), .fr (.int 1), .fr (.bl false), .ml []] = some (.ok (.ml (xs.map .fr)) [.fr (.lst xs), .fr (.int 1), .fr (.bl false), .ml (S.map .fr)]) := R
      have hg : ∀ e ∈ S, goodI e = true := rItems_good (fun d seen s => rItem_good d seen s) (fun e he => by cases he) e
      have hl : S.length ≤ 30 := rItems_len (fun d seen s => rItem_len d seen s) (by simp) e
      rw [Z.execs_step (δ' := [.fr (.lst xs), .ml (S.map .fr), .ml (xs.map .fr), .dead, .dead]) rfl (by simp [R])]
      rw [Z.execs_step (δ' := [.fr (.lst xs), .fr (.lst S), .ml (xs.map .fr), .ml ((S.filterMap blockName).map fun s => .fr (.str s)), .dead]) rfl (by simp [bnd_at (names_lc (.lst xs) S (.ml (xs.map .fr)) hg hl)])]
      have hn : (S.filterMap blockName).length ≤ 4000 := Nat.le_trans (List.length_filterMap_le _ _) (by omega)
      have hN : prNset (.ml ((S.filterMap blockName).map fun s => .fr (.str s))) = some (.fr (.int (uniqS (S.filterMap blockName)).length)) := by
        unfold prNset
        simp [strsD_strs]
        exact hn
      have hL : prLen (.ml ((S.filterMap blockName).map fun s => O.fr (.str s))) = some (.fr (.int (S.filterMap blockName).length)) := by rw [prLen_ml]; simp
      by_cases hc : (uniqS (S.filterMap blockName)).length < (S.filterMap blockName).length
      · simp [execs_at, pr, hN, hL, intOp, hc, rowsR, e]
      · simp [execs_at, pr, hN, hL, intOp, hc, rowsR, e]
  | _ => simp [execs_at, pageRows, rowsR, no]
end Ow.Q
end QC_
section QD_
set_option Elab.async false
set_option linter.all false
set_option maxRecDepth 100000
set_option maxHeartbeats 4000000
namespace Ow.Q
open PySem Ow.PB
open L2 (atI)
open Ow.Z (run_df runDf_eq execs_at bnd_at bnd_ex)
variable {p : Pg} {n : Nat}
structure ClsDefs (p : Pg) : Prop extends PageDefs p where
  m0 : p.df 100 = some d_Page_init
  m1 : p.df 101 = some d_Page_told
  m2 : p.df 102 = some d_Book_init
  m3 : p.df 103 = some d_Book_names
  m4 : p.df 104 = some d_Book_page
  m5 : p.df 105 = some d_Book_line
  h7 : p.df 7 = some d_check_line
  h8 : p.df 8 = some d_check_pages
  i0 : p.ini 0 = some 100
  i1 : p.ini 1 = some 102
abbrev pgN : List Str := ["name", "rows", "elder"]
abbrev bkN : List Str := ["pages"]
def eldOk (d : D) : Bool := isNon (.fr d) || isNameD d
/-- a page's fields, if there is such a page -/
def pageF (name items elder : D) : Option (List D) := if isNameD name = true ∧ eldOk elder = true then (pageRows items).map fun r => [name, r, elder] else none
def pageR (name items elder : D) : Option (Rs O) := match pageF name items elder with
  | some fs => some (.ok (.fr .non) [.ob 0 pgN (fs.map .fr), .fr name, .fr items, .fr elder])
  | none => some (.ex ⟨101, []⟩)
theorem fieldO_ob {f : Str} {o : O} {c : Nat} {ns : List Str} {os : List O} : fieldO f o (.ob c ns os) = if ns.length < 100 then some (.ob c (setF f o ns os).1 (setF f o ns os).2) else none := rfl
theorem setF_nil {f : Str} {o : O} : setF f o [] [] = ([f], [o]) := by simp [setF]
theorem setF_cons {f n1 : Str} {o o1 : O} {ns : List Str} {os : List O} : setF f o (n1 :: ns) (o1 :: os) = if n1 = f then (n1 :: ns, o :: os) else (n1 :: (setF f o ns os).1, o1 :: (setF f o ns os).2) := by simp [setF]
theorem san_1 {d : D} (h : san d = true) : San1 d := san1 h
theorem run_Page (hp : ClsDefs p) (m : Nat) (name items elder : D) (h1 : San1 name) (h2 : san items = true) (h3 : San1 elder) : run p (m + 17) 100 [.ob 0 [] [], .fr name, .fr items, .fr elder] = pageR name items elder := by
  rw [run_df hp.m0, runDf_eq rfl]
  have pe : pins [.ob 0 [] [], .fr name, .fr items, .fr elder] = [0] := rfl
  rw [pe]
  have N1 : run p (m + 16) 0 [.fr name] = some (.ok (.fr (.bl (isNameD name))) [.fr name]) := run_is_name (n := m + 15) hp.h0 name h1
  have N3 : run p (m + 16) 0 [.fr elder] = some (.ok (.fr (.bl (isNameD elder))) [.fr elder]) := run_is_name (n := m + 15) hp.h0 elder h3
  have R := run_rows hp.toPageDefs m items h2
  show Z.finish _ (execs _ _ _ b_Page_init [.ob 0 [] [], .fr name, .fr items, .fr elder]) = _
  by_cases e1 : isNameD name = true
  · rw [Z.execs_step (b := b_Page_init) (δ' := [.ob 0 [] [], .fr name, .fr items, .fr elder]) rfl (by simp [N1, e1])]
    by_cases e2 : eldOk elder = true
    · have e3 : exec (run p (m + 16)) p.ini [0] (.ife (.and_ (.prim .notN (.cons (.var 3) .nil)) (.not_ (.call 0 (.cons (.var 3) .nil)))) (.cons (.rs 101 .nil) .nil) .nil) [.ob 0 [] [], .fr name, .fr items, .fr elder] = some (.ok .nx [.ob 0 [] [], .fr name, .fr items, .fr elder]) := by
        by_cases z : isNon (.fr elder) = true
        · simp [pr, z]
        · have e2 : isNameD elder = true := by simpa [eldOk, z] using e2
          simp [pr, z, N3, e2]
      rw [Z.execs_step rfl e3]
      have pf : pageF name items elder = (pageRows items).map fun r => [name, r, elder] := if_pos ⟨e1, e2⟩
      cases er : pageRows items with
      | none =>
        rw [er] at R
        simp [execs_at, fieldO_ob, setF_nil, R, rowsR, pageR, pf, er]
      | some r =>
        rw [er] at R
        simp [execs_at, fieldO_ob, setF_nil, setF_cons, R, rowsR, pageR, pf, er, (by decide : ¬ ("name" : Str) = "rows"), (by decide : ¬ ("name" : Str) = "elder"), (by decide : ¬ ("rows" : Str) = "elder")]
    · have pf : pageF name items elder = none := if_neg fun z => e2 z.2
      simp [eldOk] at e2
      simp [execs_at, pr, e2.1, N3, e2.2, pageR, pf]
  · have pf : pageF name items elder = none := if_neg fun z => e1 z.1
    simp [b_Page_init, execs_at, N1, e1, pageR, pf]
end Ow.Q
end QD_
section QE_
set_option Elab.async false
set_option linter.all false
set_option maxRecDepth 100000
set_option maxHeartbeats 4000000
namespace Ow.Q
open PySem Ow.PB
open L2 (atI Key)
open Ow.Z (run_df runDf_eq execs_at bnd_at bnd_ex)
variable {p : Pg} {n : Nat}
theorem pds_strs : ∀ ss : List Str, pds (ss.map .str) = some (ss.map .str)
  | [] => rfl
  | s :: ss => by
    show (pd (.str s)).bind (fun e => (pds (ss.map .str)).map (e :: ·)) = _
    rw [pds_strs ss]; rfl
theorem lay_strs {ss : List Str} (h : ∀ s ∈ ss, PyData.strOk s = true) : PyData.canLayAll0 (ss.map .str) = true ∧ PyData.depthAll (ss.map .str) = 0 := by
  induction ss with
  | nil => exact ⟨rfl, rfl⟩
  | cons s ss ih =>
    obtain ⟨h1, h2⟩ := ih fun z m => h z (List.mem_cons_of_mem _ m)
    refine ⟨?_, ?_⟩
    · simp [PyData.canLayAll0, PyData.canLay0, h s List.mem_cons_self, h1]
    · simp [PyData.depthAll, PyData.depth, h2]
theorem isin_strs {s : Str} {ss : List Str} (hs : PyData.strOk s = true) (h : ∀ s ∈ ss, PyData.strOk s = true) : isinD (.str s) (.ml (ss.map fun s => .fr (.str s))) = some (ss.any fun z => z == s) := by
  have e1 : SeqAt.shaped (.str s) = true := by simp [SeqAt.shaped, PyData.canLay0, PyData.depth, hs]
  have e2 : SeqAt.shaped (.list (ss.map .str)) = true := by
    obtain ⟨h1, h2⟩ := lay_strs h
    simp [SeqAt.shaped, PyData.canLay0, PyData.depth, h1, h2]
  unfold isinD
  simp [pd, pds_strs, e1, e2, List.any_map, Function.comp_def, PyData.eqv]
/-- following the elders -/
def walkE (ks : List Key) (ds : List D) : Nat → List Str → D → Option Bool
  | 0, _, _ => none
  | _ + 1, _, .non => some true
  | n + 1, passed, .str s => match look ks ds (.inr s) with
    | none => some false
    | some e => if passed.any (· == s) then some false else walkE ks ds n (passed ++ [s]) e
  | _ + 1, _, _ => none
abbrev tWalk : E := .prim .notN (.cons (.var 1) .nil)
abbrev bWalk : Ss := .cons (.ife (.prim .dnhas (.cons (.var 1) (.cons (.var 0) .nil))) (.cons (.rs 102 .nil) .nil) .nil) (.cons (.ife (.prim .isin (.cons (.var 1) (.cons (.var 2) .nil))) (.cons (.rs 102 .nil) .nil) .nil) (.cons (.app 2 (.var 1)) (.cons (.asg (.one 1) (.prim .dget (.cons (.var 0) (.cons (.var 1) .nil)))) .nil)))
def eldD : D → Bool
  | .non => true
  | .str s => PyData.strOk s
  | _ => false
theorem look_mem {ks : List Key} {ds : List D} {k : Key} {d : D} (h : look ks ds k = some d) : d ∈ ds := by
  induction ks generalizing ds with
  | nil => simp [look] at h
  | cons k1 ks ih =>
    cases ds with
    | nil => simp [look] at h
    | cons d1 ds =>
      rw [look] at h
      split at h
      · cases h; exact List.mem_cons_self
      · exact List.mem_cons_of_mem _ (ih h)
theorem whl_walk {cl : Cl} {ini : Nat → Option Nat} {ks : List Key} {ds : List D} (hd : ∀ d ∈ ds, eldD d = true) : ∀ (n : Nat) (passed : List Str) (x : D), eldD x = true → (∀ s ∈ passed, PyData.strOk s = true) → passed.length + n ≤ 1000000 →
    (walkE ks ds n passed x = some true → ∃ o, whl (bnd (ev cl ini tWalk) truthM) (execs cl ini [] bWalk) n [.fr (.dic ks ds), .fr x, .ml (passed.map fun s => .fr (.str s))] = some (.ok .nx [.fr (.dic ks ds), .fr .non, o])) ∧
    (walkE ks ds n passed x = some false → whl (bnd (ev cl ini tWalk) truthM) (execs cl ini [] bWalk) n [.fr (.dic ks ds), .fr x, .ml (passed.map fun s => .fr (.str s))] = some (.ex ⟨102, []⟩))
  | 0, _, _, _, _, _ => ⟨fun h => by simp [walkE] at h, fun h => by simp [walkE] at h⟩
  | n + 1, passed, x, hx, hp, hn => by
    cases x with
    | non =>
      refine ⟨fun _ => ⟨.ml (passed.map fun s => .fr (.str s)), ?_⟩, fun h => by simp [walkE] at h⟩
      rw [Z.whl_at]
      simp [pr, isNon]
    | str s =>
      have hs : PyData.strOk s = true := hx
      have hI := isin_strs hs hp
      have hf : findO (.fr (.dic ks ds)) (.fr (.str s)) = some (look ks ds (.inr s)) := rfl
      cases e : look ks ds (.inr s) with
      | none =>
        rw [e] at hf
        refine ⟨fun h => by simp [walkE, e] at h, fun _ => ?_⟩
        rw [Z.whl_at]
        simp [pr, isNon, execs_at, hf]
      | some d =>
        rw [e] at hf
        by_cases hc : passed.any (· == s) = true
        · refine ⟨fun h => (by simp only [walkE, e] at h; rw [if_pos hc] at h; cases h), fun _ => ?_⟩
          rw [Z.whl_at]
          rw [hc] at hI
          simp [pr, isNon, execs_at, hf, hI]
        · have hl : passed.length < sm := by unfold sm; omega
          have ih := whl_walk (cl := cl) (ini := ini) (ks := ks) hd n (passed ++ [s]) d (hd d (look_mem e)) (fun z m => by
            rcases List.mem_append.mp m with m | m
            · exact hp z m
            · rw [List.mem_singleton.mp m]; exact hs) (by simp; omega)
          have ew : walkE ks ds (n + 1) passed (.str s) = walkE ks ds n (passed ++ [s]) d := by simp only [walkE, e]; rw [if_neg hc]
          rw [ew]
          have st : whl (bnd (ev cl ini tWalk) truthM) (execs cl ini [] bWalk) (n + 1) [.fr (.dic ks ds), .fr (.str s), .ml (passed.map fun s => .fr (.str s))] = whl (bnd (ev cl ini tWalk) truthM) (execs cl ini [] bWalk) n [.fr (.dic ks ds), .fr d, .ml ((passed ++ [s]).map fun s => .fr (.str s))] := by
            rw [Z.whl_at]
            rw [Bool.not_eq_true] at hc
            rw [hc] at hI
            simp only [bWalk]
            simp [pr, isNon, execs_at, hf, hI, hl]
          rw [st]
          exact ih
    | _ => cases hx
theorem run_line (hp : ClsDefs p) (m : Nat) {ks : List Key} {ds : List D} (hd : ∀ d ∈ ds, eldD d = true) (x : D) (hx : eldD x = true) {b : Bool} (h : walkE ks ds 1000000 [] x = some b) :
    run p (m + 1) 7 [.fr (.dic ks ds), .fr x] = if b then some (.ok (.fr .non) [.fr (.dic ks ds), .fr x]) else some (.ex ⟨102, []⟩) := by
  rw [run_df hp.h7, runDf_eq rfl]
  obtain ⟨w1, w2⟩ := whl_walk (cl := run p m) (ini := p.ini) (ks := ks) hd 1000000 [] x hx (fun s m => nomatch m) (Nat.le_refl _)
  have pe : pins [.fr (.dic ks ds), .fr x] = [] := rfl
  rw [pe]
  show Z.finish _ (execs _ _ _ b_check_line [.fr (.dic ks ds), .fr x, .dead]) = _
  rw [Z.execs_step (b := b_check_line) (δ' := [.fr (.dic ks ds), .fr x, .ml []]) rfl (by simp [sm])]
  cases b with
  | true =>
    obtain ⟨o, w1⟩ := w1 h
    rw [List.map_nil] at w1
    rw [Z.execs_step (δ' := [.fr (.dic ks ds), .fr .non, o]) rfl (by rw [Z.exec_wh]; exact w1)]
    simp
  | false =>
    have w2 := w2 h
    rw [List.map_nil] at w2
    rw [execs_at, Z.exec_wh, bnd_ex w2]
    rfl
theorem walkE_mono {ks : List Key} {ds : List D} {b : Bool} : ∀ {n : Nat} {passed : List Str} {x : D} (k : Nat), walkE ks ds n passed x = some b → walkE ks ds (n + k) passed x = some b
  | 0, _, _, _, h => by simp [walkE] at h
  | n + 1, passed, x, k, h => by
    rw [show n + 1 + k = (n + k) + 1 from by omega]
    cases x with
    | non => simpa [walkE] using h
    | str s =>
      simp only [walkE] at h ⊢
      cases e : look ks ds (.inr s) with
      | none => rw [e] at h; exact h
      | some d =>
        rw [e] at h
        dsimp only at h ⊢
        split
        · rename_i q; rw [if_pos q] at h; exact h
        · rename_i q; rw [if_neg q] at h; exact walkE_mono k h
    | _ => simp [walkE] at h
end Ow.Q
end QE_
section QF_
set_option Elab.async false
set_option linter.all false
set_option maxRecDepth 100000
set_option maxHeartbeats 4000000
namespace Ow.Q
open PySem Ow.PB
open L2 (atI Key)
open Ow.Z (run_df runDf_eq execs_at bnd_at bnd_ex)
variable {p : Pg} {n : Nat}
/-- a page -/
structure PgT where
  n : Str
  r : D
  e : D
abbrev PgT.d (g : PgT) : D := .obj 0 pgN [.str g.n, g.r, g.e]
def isPg : D → Bool
  | .obj c _ _ => c == 0
  | _ => false
def notLam : D → Bool
  | .lam _ => false
  | _ => true
theorem isO_pg {d : D} (h : notLam d = true) : isOfK (kdOf d) (.cls 0) = some (isPg d) := by
  cases d with
  | obj c _ _ =>
    show some (decide (Kd.cls c = Kd.cls 0)) = some (c == 0)
    by_cases z : c = 0
    · subst z; rfl
    · simp [z]
  | lam i => cases h
  | _ => rfl
abbrev bIs : Ss := .cons (.ife (.not_ (.prim (.isi (.cls 0)) (.cons (.var 1) .nil))) (.cons (.rs 102 .nil) .nil) .nil) .nil
theorem loop_pgs {cl : Cl} {ini : Nat → Option Nat} {x : D} : ∀ (xs : List D) (o : O), (∀ d ∈ xs, notLam d = true) →
    (xs.all isPg = true → ∃ o', loop (fun d => bnd (setS [] 1 (.fr d)) fun _ => execs cl ini [] bIs) xs [.fr x, o, .dead, .dead] = some (.ok .nx [.fr x, o', .dead, .dead]) ∧ (o' = o ∨ ∃ d, o' = .fr d)) ∧
    (xs.all isPg = false → loop (fun d => bnd (setS [] 1 (.fr d)) fun _ => execs cl ini [] bIs) xs [.fr x, o, .dead, .dead] = some (.ex ⟨102, []⟩))
  | [], o, _ => ⟨fun _ => ⟨o, rfl, .inl rfl⟩, fun h => by cases h⟩
  | d :: xs, o, hl => by
    have h1 := isO_pg (hl d List.mem_cons_self)
    obtain ⟨i1, i2⟩ := loop_pgs (cl := cl) (ini := ini) (x := x) xs (.fr d) fun e m => hl e (List.mem_cons_of_mem _ m)
    cases e : isPg d with
    | true =>
      rw [e] at h1
      have st : (fun d => bnd (setS [] 1 (.fr d)) fun _ => execs cl ini [] bIs) d [.fr x, o, .dead, .dead] = some (.ok .nx [.fr x, .fr d, .dead, .dead]) := by simp [execs_at, h1]
      rw [Z.loop_nx st]
      refine ⟨fun h => ?_, fun h => i2 (by simpa [e] using h)⟩
      obtain ⟨o', g1, g2⟩ := i1 (by simpa [e] using h)
      exact ⟨o', g1, .inr (g2.elim (fun z => ⟨d, z⟩) id)⟩
    | false =>
      rw [e] at h1
      refine ⟨fun h => by simp [e] at h, fun _ => ?_⟩
      exact Z.loop_ex (by simp [execs_at, h1])
abbrev kN : E := .attr (.var 1) "name"
abbrev vE : E := .attr (.var 1) "elder"
def keysOf (gs : List PgT) : List Key × List O := dcAcc (gs.map fun g => (.inr g.n, g.e)) ([], [])
theorem elders_dc {cl : Cl} {ini : Nat → Option Nat} (gs : List PgT) (o : O) (ho : o = .dead ∨ ∃ d, o = .fr d) (hl : gs.length ≤ sm) : ev cl ini (.dc kN vE (.one 1) (.seq .l (.var 0))) [.fr (.lst (gs.map (·.d))), o, .dead, .dead] = some (.ok (.md (keysOf gs).1 (keysOf gs).2) [.fr (.lst (gs.map (·.d))), o, .dead, .dead]) := by
  have z := Z.dc_at (cl := cl) (ini := ini) (k := kN) (v := vE) (t := .one 1) (it := .seq .l (.var 0)) (δ := [.fr (.lst (gs.map (·.d))), o, .dead, .dead]) (δ1 := [.fr (.lst (gs.map (·.d))), o, .dead, .dead]) (ds := gs.map (·.d))
    (fun δ => ∃ o', δ = [.fr (.lst (gs.map (·.d))), o', .dead, .dead] ∧ (o' = .dead ∨ ∃ d, o' = .fr d)) (fun d => match d with | .obj _ _ [.str n, _, e] => (.inr n, e) | _ => (.inl 0, .non)) ?_ (by simpa using hl) ?_ ⟨.dead, rfl, .inl rfl⟩ ?_ ?_
  · rw [z, List.map_map]
    rfl
  · simp [itemsOf]
  · rcases ho with rfl | ⟨d, rfl⟩ <;> simp [Tg.slots, slotD]
  · intro d hd δ ⟨o', e, ho'⟩
    obtain ⟨g, _, rfl⟩ := List.mem_map.mp hd
    subst e
    refine ⟨[.fr (.lst (gs.map (·.d))), .fr g.d, .dead, .dead], ?_, _, rfl, .inr ⟨_, rfl⟩⟩
    have a1 : ev cl ini kN [.fr (.lst (gs.map (·.d))), .fr g.d, .dead, .dead] = some (.ok (.fr (.str g.n)) [.fr (.lst (gs.map (·.d))), .fr g.d, .dead, .dead]) := Z.ev_attr_at rfl (by intro z; cases z) (Z.attr_obj rfl rfl)
    have a2 : ev cl ini vE [.fr (.lst (gs.map (·.d))), .fr g.d, .dead, .dead] = some (.ok (.fr g.e) [.fr (.lst (gs.map (·.d))), .fr g.d, .dead, .dead]) := Z.ev_attr_at rfl (by intro z; cases z) (Z.attr_obj rfl rfl)
    rcases ho' with rfl | ⟨d, rfl⟩ <;> (unfold Z.dcB; simp [-Z.ev_attr, Tg.slots, slotD, wipeS, Z.noEx_at a1, Z.noEx_at a2, keyM, keyD])
  · intro δ ⟨o', e, ho'⟩
    subst e
    rcases ho' with rfl | ⟨d, rfl⟩ <;> simp [Tg.slots, slotD, backS]
theorem dcAcc_len : ∀ (l : List (Key × D)) (a : List Key × List O), (∀ o ∈ a.2, ∃ d, o = .fr d) → ∀ o ∈ (dcAcc l a).2, ∃ d, o = .fr d
  | [], _, h => h
  | (k, d) :: r, (ks, os), h => by
    rw [dcAcc]
    refine dcAcc_len r _ ?_
    unfold putO
    split
    · intro o ho
      have rep : ∀ (ks : List Key) (os : List O), (∀ o ∈ os, ∃ d, o = .fr d) → ∀ o ∈ replO ks os k (.fr d), ∃ d, o = .fr d := by
        intro ks
        induction ks with
        | nil => intro os h o ho; cases os <;> simp [replO] at ho; exact h _ (by simpa using ho)
        | cons k1 ks ih =>
          intro os h o ho
          cases os with
          | nil => simp [replO] at ho
          | cons o1 os =>
            rw [replO] at ho
            rcases List.mem_cons.mp ho with z | z
            · rw [z]; split
              · exact ⟨d, rfl⟩
              · exact h _ List.mem_cons_self
            · exact ih os (fun o m => h o (List.mem_cons_of_mem _ m)) o z
      exact rep ks os h o ho
    · intro o ho
      rcases List.mem_append.mp ho with z | z
      · exact h o z
      · exact ⟨d, List.mem_singleton.mp z⟩
end Ow.Q
end QF_
section QG_
set_option Elab.async false
set_option linter.all false
set_option maxRecDepth 100000
set_option maxHeartbeats 4000000
namespace Ow.Q
open PySem Ow.PB
open L2 (atI Key)
open Ow.Z (run_df runDf_eq execs_at bnd_at bnd_ex)
variable {p : Pg} {n : Nat}
theorem all_fr : ∀ {os : List O}, (∀ o ∈ os, ∃ d, o = .fr d) → os = (frzs os).map .fr
  | [], _ => rfl
  | o :: os, h => by
    obtain ⟨d, rfl⟩ := h o List.mem_cons_self
    rw [frzs, List.map_cons, ← all_fr fun o m => h o (List.mem_cons_of_mem _ m)]
    simp
abbrev eldKs (gs : List PgT) : List Key := (keysOf gs).1
abbrev eldDs (gs : List PgT) : List D := frzs (keysOf gs).2
theorem keysOf_eq (gs : List PgT) : keysOf gs = (eldKs gs, (eldDs gs).map .fr) := by
  have h : ∀ o ∈ (keysOf gs).2, ∃ d, o = .fr d := dcAcc_len (gs.map fun g => (.inr g.n, g.e)) ([], []) (fun o m => nomatch m)
  exact Prod.ext rfl (all_fr h)
def kD (k : Key) : D := match k with | .inl i => .int i | .inr x => .str x
theorem dcAcc_mem : ∀ (l : List (Key × D)) (a : List Key × List O) (Pk : Key → Prop) (Pd : D → Prop), (∀ k ∈ a.1, Pk k) → (∀ o ∈ a.2, ∃ d, o = .fr d ∧ Pd d) → (∀ q ∈ l, Pk q.1 ∧ Pd q.2) → (∀ k ∈ (dcAcc l a).1, Pk k) ∧ (∀ o ∈ (dcAcc l a).2, ∃ d, o = .fr d ∧ Pd d)
  | [], _, _, _, h1, h2, _ => ⟨h1, h2⟩
  | (k, d) :: r, (ks, os), Pk, Pd, h1, h2, h3 => by
    rw [dcAcc]
    have hq := h3 _ List.mem_cons_self
    refine dcAcc_mem r _ Pk Pd ?_ ?_ fun q m => h3 q (List.mem_cons_of_mem _ m)
    · unfold putO
      split
      · exact h1
      · intro k' m
        rcases List.mem_append.mp m with z | z
        · exact h1 k' z
        · rw [List.mem_singleton.mp z]; exact hq.1
    · unfold putO
      split
      · have rep : ∀ (ks : List Key) (os : List O), (∀ o ∈ os, ∃ d, o = .fr d ∧ Pd d) → ∀ o ∈ replO ks os k (.fr d), ∃ d, o = .fr d ∧ Pd d := by
          intro ks
          induction ks with
          | nil => intro os h o ho; cases os <;> simp [replO] at ho; exact h _ (by simpa using ho)
          | cons k1 ks ih =>
            intro os h o ho
            cases os with
            | nil => simp [replO] at ho
            | cons o1 os =>
              rw [replO] at ho
              rcases List.mem_cons.mp ho with z | z
              · rw [z]; split
                · exact ⟨d, rfl, hq.2⟩
                · exact h _ List.mem_cons_self
              · exact ih os (fun o m => h o (List.mem_cons_of_mem _ m)) o z
        exact rep ks os h2
      · intro o ho
        rcases List.mem_append.mp ho with z | z
        · exact h2 o z
        · exact ⟨d, List.mem_singleton.mp z, hq.2⟩
/-- the lines of a book's pages -/
def walks (gs : List PgT) (k : Key) : Option Bool := walkE (eldKs gs) (eldDs gs) 1000000 [] (kD k)
def bookB (gs : List PgT) : Bool := decide (gs.length ≤ (eldKs gs).length) && (eldKs gs).all fun k => walks gs k == some true
abbrev bLn : Ss := .cons (.exp (.call 7 (.cons (.var 2) (.cons (.var 3) .nil)))) .nil
theorem loop_lines (hp : ClsDefs p) (m : Nat) {x : D} {o : O} {KS : List Key} {DS : List D} (hd : ∀ d ∈ DS, eldD d = true) : ∀ (ks : List Key) (o3 : O), (∀ k ∈ ks, eldD (kD k) = true ∧ ∃ b, walkE KS DS 1000000 [] (kD k) = some b) →
    ((ks.all fun k => walkE KS DS 1000000 [] (kD k) == some true) = true → ∃ o3', loop (fun d => bnd (setS [] 3 (.fr d)) fun _ => execs (run p (m + 1)) p.ini [] bLn) (ks.map kD) [.fr x, o, .fr (.dic KS DS), o3] = some (.ok .nx [.fr x, o, .fr (.dic KS DS), o3'])) ∧
    ((ks.all fun k => walkE KS DS 1000000 [] (kD k) == some true) = false → loop (fun d => bnd (setS [] 3 (.fr d)) fun _ => execs (run p (m + 1)) p.ini [] bLn) (ks.map kD) [.fr x, o, .fr (.dic KS DS), o3] = some (.ex ⟨102, []⟩))
  | [], o3, _ => ⟨fun _ => ⟨o3, rfl⟩, fun h => by cases h⟩
  | k :: ks, o3, hk => by
    obtain ⟨hke, b, hb⟩ := hk k List.mem_cons_self
    obtain ⟨i1, i2⟩ := loop_lines hp m (x := x) (o := o) hd ks (.fr (kD k)) fun e m => hk e (List.mem_cons_of_mem _ m)
    have R := run_line hp m hd (kD k) hke hb
    cases b with
    | true =>
      have R : run p (m + 1) 7 [.fr (.dic KS DS), .fr (kD k)] = some (.ok (.fr .non) [.fr (.dic KS DS), .fr (kD k)]) := R
      have st : (fun d => bnd (setS [] 3 (.fr d)) fun _ => execs (run p (m + 1)) p.ini [] bLn) (kD k) [.fr x, o, .fr (.dic KS DS), o3] = some (.ok .nx [.fr x, o, .fr (.dic KS DS), .fr (kD k)]) := by simp [execs_at, R]
      rw [List.map_cons, Z.loop_nx st]
      exact ⟨fun h => i1 (by simpa [hb] using h), fun h => i2 (by simpa [hb] using h)⟩
    | false =>
      have R : run p (m + 1) 7 [.fr (.dic KS DS), .fr (kD k)] = some (.ex ⟨102, []⟩) := R
      refine ⟨fun h => by simp [hb] at h, fun _ => ?_⟩
      rw [List.map_cons]
      exact Z.loop_ex (by simp [execs_at, R])
theorem run_check (hp : ClsDefs p) (m : Nat) (gs : List PgT) (h1 : 1 ≤ gs.length) (h6 : gs.length ≤ 6) (hs : ∀ g ∈ gs, PyData.strOk g.n = true ∧ eldD g.e = true) (hw : ∀ k ∈ eldKs gs, ∃ b, walks gs k = some b) :
    run p (m + 2) 8 [.fr (.lst (gs.map (·.d)))] = if bookB gs then some (.ok (.fr .non) [.fr (.lst (gs.map (·.d)))]) else some (.ex ⟨102, []⟩) := by
  rw [run_df hp.h8, runDf_eq rfl]
  have pe : pins [.fr (.lst (gs.map (·.d)))] = [] := rfl
  rw [pe]
  show Z.finish _ (execs _ _ _ b_check_pages [.fr (.lst (gs.map (·.d))), .dead, .dead, .dead]) = _
  have n1 : (1 : Int) ≤ (gs.length : Int) := by omega
  have n2 : ¬ ((6 : Int) < (gs.length : Int)) := by omega
  have n3 : (gs.length : Int) ≤ 6 := by omega
  have pl : prLen (.fr (.lst (gs.map (·.d)))) = some (.fr (.int gs.length)) := by
    show some (O.fr (.int ((gs.map (·.d)).length : Nat))) = _
    rw [List.length_map]
  rw [Z.execs_step (b := b_check_pages) (δ' := [.fr (.lst (gs.map (·.d))), .dead, .dead, .dead]) rfl (by simp [kdOf, isOfK, pl, n1, n2, n3])]
  obtain ⟨l1, _⟩ := loop_pgs (cl := run p (m + 1)) (ini := p.ini) (x := .lst (gs.map (·.d))) (gs.map (·.d)) .dead (fun d hd => by obtain ⟨g, _, rfl⟩ := List.mem_map.mp hd; rfl)
  obtain ⟨o', l1, ho'⟩ := l1 (by simp [isPg])
  rw [Z.execs_step (δ' := [.fr (.lst (gs.map (·.d))), o', .dead, .dead]) rfl (by simp [itemsOf]; exact l1)]
  have ho2 : o' = .dead ∨ ∃ d, o' = .fr d := ho'
  have E := elders_dc (cl := run p (m + 1)) (ini := p.ini) gs o' ho2 (by unfold sm; omega)
  rw [keysOf_eq] at E
  rw [Z.execs_step (δ' := [.fr (.lst (gs.map (·.d))), o', .md (eldKs gs) ((eldDs gs).map .fr), .dead]) rfl (by rw [Z.exec_asg, bnd_at E]; simp)]
  have pm : prLen (.md (eldKs gs) ((eldDs gs).map .fr)) = some (.fr (.int (eldKs gs).length)) := rfl
  have mem := dcAcc_mem (gs.map fun g => (.inr g.n, g.e)) ([], []) (fun k => eldD (kD k) = true) (fun d => eldD d = true) (fun k m => nomatch m) (fun o m => nomatch m) (fun q hq => by
    obtain ⟨g, hg, rfl⟩ := List.mem_map.mp hq
    exact ⟨(hs g hg).1, (hs g hg).2⟩)
  have memD : ∀ d ∈ eldDs gs, eldD d = true := fun d hd => by
    have z : O.fr d ∈ (keysOf gs).2 := by rw [keysOf_eq]; exact List.mem_map.mpr ⟨d, hd, rfl⟩
    obtain ⟨d', e, h⟩ := mem.2 _ z
    cases e; exact h
  by_cases hl : gs.length ≤ (eldKs gs).length
  · have n4 : ¬ (((eldKs gs).length : Int) < (gs.length : Int)) := by omega
    rw [Z.execs_step (δ' := [.fr (.lst (gs.map (·.d))), o', .md (eldKs gs) ((eldDs gs).map .fr), .dead]) rfl (by simp [execs_at, pr, pm, pl, intOp, n4])]
    have fz : frz (.md (eldKs gs) ((eldDs gs).map .fr)) = .dic (eldKs gs) (eldDs gs) := by rw [frz, Z.frzs_fr]
    have it : itemsOf .k (.dic (eldKs gs) (eldDs gs)) = some ((eldKs gs).map kD) := rfl
    obtain ⟨l2, l3⟩ := loop_lines hp m (x := .lst (gs.map (·.d))) (o := o') memD (eldKs gs) .dead fun k hk => ⟨mem.1 k hk, hw k hk⟩
    cases hb : (eldKs gs).all fun k => walks gs k == some true with
    | true =>
      obtain ⟨o3, l2⟩ := l2 hb
      rw [Z.execs_step (δ' := [.fr (.lst (gs.map (·.d))), o', .fr (.dic (eldKs gs) (eldDs gs)), o3]) rfl (by simp [fz, it]; exact l2)]
      simp [bookB, hl, hb]
    | false =>
      have l3 := l3 hb
      have e : exec (run p (m + 1)) p.ini [] (.fo (.one 3) (.seq .k (.var 2)) bLn) [.fr (.lst (gs.map (·.d))), o', .md (eldKs gs) ((eldDs gs).map .fr), .dead] = some (.ex ⟨102, []⟩) := by simp [fz, it]; exact l3
      rw [execs_at, bnd_ex e]
      simp [bookB, hl, hb]
  · have n4 : ((eldKs gs).length : Int) < (gs.length : Int) := by omega
    simp [execs_at, pr, pm, pl, intOp, n4, bookB, hl]
end Ow.Q
end QG_
section QH_
set_option Elab.async false
set_option linter.all false
set_option maxRecDepth 100000
set_option maxHeartbeats 4000000
namespace Ow.Q
open PySem Ow.PB
open L2 (atI Key)
open Ow.Z (run_df runDf_eq execs_at bnd_at bnd_ex)
variable {p : Pg} {n : Nat}
/-- what is no list of pages, or of too few or too many -/
def badBook : D → Bool
  | .lst xs => decide (xs.length < 1) || decide (6 < xs.length) || !(xs.all isPg)
  | _ => true
theorem run_check_bad (hp : ClsDefs p) (m : Nat) (x : D) (hb : badBook x = true) (hs : notLam x = true ∧ (∀ ns, x ≠ .scr ns) ∧ ∀ xs, x = .lst xs → ∀ d ∈ xs, notLam d = true) : run p (m + 1) 8 [.fr x] = some (.ex ⟨102, []⟩) := by
  rw [run_df hp.h8, runDf_eq rfl]
  have pe : pins [.fr x] = [] := rfl
  rw [pe]
  show Z.finish _ (execs _ _ _ b_check_pages [.fr x, .dead, .dead, .dead]) = _
  cases x with
  | lst xs =>
    have pl : prLen (.fr (.lst xs)) = some (.fr (.int xs.length)) := rfl
    by_cases h1 : xs.length < 1
    · have n1 : ¬ ((1 : Int) ≤ (xs.length : Int)) := by omega
      simp [b_check_pages, execs_at, kdOf, isOfK, pl, n1]
    · have n1 : (1 : Int) ≤ (xs.length : Int) := by omega
      by_cases h6 : 6 < xs.length
      · have n2 : ¬ ((xs.length : Int) ≤ 6) := by omega
        simp [b_check_pages, execs_at, kdOf, isOfK, pl, n1, n2]
      · have n2 : (xs.length : Int) ≤ 6 := by omega
        rw [Z.execs_step (b := b_check_pages) (δ' := [.fr (.lst xs), .dead, .dead, .dead]) rfl (by simp [kdOf, isOfK, pl, n1, n2])]
        obtain ⟨_, l2⟩ := loop_pgs (cl := run p m) (ini := p.ini) (x := .lst xs) xs .dead (hs.2.2 xs rfl)
        have ha : xs.all isPg = false := by simpa [badBook, h1, h6] using hb
        have e : exec (run p m) p.ini [] (.fo (.one 1) (.seq .l (.var 0)) bIs) [.fr (.lst xs), .dead, .dead, .dead] = some (.ex ⟨102, []⟩) := by simp only [Z.exec_fo, Z.evi_seq, Z.ev_var, Z.bnd_bnd, Z.bnd_getS]; simp [itemsOf]; exact l2 ha
        rw [execs_at, bnd_ex e]
        rfl
  | lam i => exact absurd hs.1 (by simp [notLam])
  | scr ns => exact absurd rfl (hs.2.1 ns)
  | _ => simp [b_check_pages, execs_at, kdOf, isOfK]
theorem run_Book_bad (hp : ClsDefs p) (m : Nat) (x : D) (hb : badBook x = true) (hs : notLam x = true ∧ (∀ ns, x ≠ .scr ns) ∧ ∀ xs, x = .lst xs → ∀ d ∈ xs, notLam d = true) : run p (m + 2) 102 [.ob 1 [] [], .fr x] = some (.ex ⟨102, []⟩) := by
  rw [run_df hp.m2, runDf_eq rfl]
  have pe : pins [.ob 1 [] [], .fr x] = [0] := rfl
  rw [pe]
  have R := run_check_bad hp m x hb hs
  simp [d_Book_init, b_Book_init, execs_at, R]
theorem run_Book (hp : ClsDefs p) (m : Nat) (gs : List PgT) (h1 : 1 ≤ gs.length) (h6 : gs.length ≤ 6) (hs : ∀ g ∈ gs, PyData.strOk g.n = true ∧ eldD g.e = true) (hw : ∀ k ∈ eldKs gs, ∃ b, walks gs k = some b) :
    run p (m + 3) 102 [.ob 1 [] [], .fr (.lst (gs.map (·.d)))] = if bookB gs then some (.ok (.fr .non) [.ob 1 bkN [.ml (gs.map fun g => .fr g.d)], .fr (.lst (gs.map (·.d)))]) else some (.ex ⟨102, []⟩) := by
  rw [run_df hp.m2, runDf_eq rfl]
  have pe : pins [.ob 1 [] [], .fr (.lst (gs.map (·.d)))] = [0] := rfl
  rw [pe]
  have R := run_check hp m gs h1 h6 hs hw
  cases hb : bookB gs with
  | true =>
    rw [hb] at R
    have R : run p (m + 2) 8 [.fr (.lst (gs.map (·.d)))] = some (.ok (.fr .non) [.fr (.lst (gs.map (·.d)))]) := R
    have el : elems (.fr (.lst (gs.map (·.d)))) = some (gs.map (·.d)) := rfl
    simp [d_Book_init, b_Book_init, execs_at, R, pr, el, fieldO_ob, setF_nil, Function.comp_def]
  | false =>
    rw [hb] at R
    have R : run p (m + 2) 8 [.fr (.lst (gs.map (·.d)))] = some (.ex ⟨102, []⟩) := R
    simp [d_Book_init, b_Book_init, execs_at, R]
end Ow.Q
end QH_
section QI_
set_option Elab.async false
set_option linter.all false
set_option maxRecDepth 100000
set_option maxHeartbeats 4000000
namespace Ow.Q
open PySem Ow.PB
open L2 (atI Key)
open Ow.Z (run_df runDf_eq execs_at bnd_at bnd_ex lc_at lc_ex lcB)
variable {p : Pg} {n : Nat}
/-! Pages of items that the caller owns. -/
theorem run_items_ml (hp : PageDefs p) {m k : Nat} (H : ItemAt p m k) (inside : Bool) (xs seen : List D) (hs : sans xs = true) (hx : xs.length ≤ sm) (hl : seen.length ≤ 30) :
    run p (m + 1) 2 [.ml (xs.map .fr), .fr (.int (7 - k)), .fr (.bl inside), .ml (seen.map .fr)] = itemsR (.ml (xs.map .fr)) (.lst xs) (7 - k) inside (rItems (rItem k inside) xs seen) := by
  rw [run_df hp.h2, runDf_eq rfl]
  have E := each_items H inside (.lst xs) xs hs seen .dead hl (.inl rfl)
  have pe : pins [.ml (xs.map .fr), .fr (.int (7 - k)), .fr (.bl inside), .ml (seen.map O.fr)] = [0, 3] := rfl
  have lc : ev (run p m) p.ini (.lc (.call 3 (.cons (.var 4) (.cons (.var 1) (.cons (.var 2) (.cons (.var 3) .nil))))) (.one 4) (.seq .l (.var 0)) .nil) [.ml (xs.map .fr), .fr (.int (7 - k)), .fr (.bl inside), .ml (seen.map .fr), .dead] =
      match rItems (rItem k inside) xs seen with
      | some s => some (.ok (.ml (xs.map .fr)) [.fr (.lst xs), .fr (.int (7 - k)), .fr (.bl inside), .ml (s.map .fr), .dead])
      | none => some (.ex ⟨101, []⟩) := by
    have hi : evi (run p m) p.ini (.seq .l (.var 0)) [.ml (xs.map .fr), .fr (.int (7 - k)), .fr (.bl inside), .ml (seen.map .fr), .dead] = some (.ok xs [.fr (.lst xs), .fr (.int (7 - k)), .fr (.bl inside), .ml (seen.map .fr), .dead]) := by simp [itemsOf]
    cases e : rItems (rItem k inside) xs seen with
    | none =>
      rw [e] at E
      exact Z.lc_runx hi hx rfl E
    | some s =>
      rw [e] at E
      obtain ⟨o', ho', E⟩ := E
      have z := Z.lc_run hi hx rfl E (by rcases ho' with rfl | ⟨d, rfl⟩ <;> rfl)
      rw [z]
      rfl
  rw [pe]
  cases e : rItems (rItem k inside) xs seen with
  | none =>
    rw [e] at lc
    simp [d_read_items, b_read_items, execs_at, kdOf, isOfK, bnd_ex lc, itemsR]
  | some s =>
    rw [e] at lc
    simp [d_read_items, b_read_items, execs_at, kdOf, isOfK, bnd_at lc, itemsR]
theorem run_rows_ml (hp : PageDefs p) (m : Nat) (xs : List D) (hs : san (.lst xs) = true) : run p (m + 16) 4 [.ml (xs.map .fr)] = rowsR (.lst xs) (pageRows (.lst xs)) := by
  rw [run_df hp.h4, runDf_eq rfl]
  have H : ItemAt p (m + 2 * 6 + 2) 6 := run_item hp 6 m
  have pe : pins [.ml (xs.map .fr)] = [0] := rfl
  rw [pe]
  show Z.finish _ (execs _ _ _ b_read_page_items [.ml (xs.map .fr), .dead, .dead, .dead, .dead]) = _
  rw [Z.execs_step (b := b_read_page_items) (δ' := [.ml (xs.map .fr), .ml [], .dead, .dead, .dead]) rfl (by simp [sm])]
  have hx : xs.length ≤ sm ∧ sans xs = true := by simp [san] at hs; exact hs
  have R := run_items_ml hp H false xs [] hx.2 hx.1 (by simp)
  have e1 : (7 : Int) - ((6 : Nat) : Int) = 1 := by decide
  rw [e1] at R
  unfold pageRows
  cases e : rItems (rItem 6 false) xs [] with
  | none =>
    rw [e] at R
    have R : run p (m + 15) 2 [.ml (xs.map .fr), .fr (.int 1), .fr (.bl false), .ml []] = some (.ex ⟨101, []⟩) := R
    simp [execs_at, R, rowsR, e]
  | some S =>
    rw [e] at R
    have R : run p (m + 15) 2 [.ml (xs.map .fr), .fr (.int 1), .fr (.bl false), .ml []] = some (.ok (.ml (xs.map .fr)) [.fr (.lst xs), .fr (.int 1), .fr (.bl false), .ml (S.map .fr)]) := R
    have hg : ∀ e ∈ S, goodI e = true := rItems_good (fun d seen s => rItem_good d seen s) (fun e he => by cases he) e
    have hl : S.length ≤ 30 := rItems_len (fun d seen s => rItem_len d seen s) (by simp) e
    rw [Z.execs_step (δ' := [.fr (.lst xs), .ml (S.map .fr), .ml (xs.map .fr), .dead, .dead]) rfl (by simp [R])]
    rw [Z.execs_step (δ' := [.fr (.lst xs), .fr (.lst S), .ml (xs.map .fr), .ml ((S.filterMap blockName).map fun s => .fr (.str s)), .dead]) rfl (by simp [bnd_at (names_lc (.lst xs) S (.ml (xs.map .fr)) hg hl)])]
    have hn : (S.filterMap blockName).length ≤ 4000 := Nat.le_trans (List.length_filterMap_le _ _) (by omega)
    have hN : prNset (.ml ((S.filterMap blockName).map fun s => .fr (.str s))) = some (.fr (.int (uniqS (S.filterMap blockName)).length)) := by
      unfold prNset
      simp [strsD_strs]
      exact hn
    have hL : prLen (.ml ((S.filterMap blockName).map fun s => O.fr (.str s))) = some (.fr (.int (S.filterMap blockName).length)) := by rw [prLen_ml]; simp
    by_cases hc : (uniqS (S.filterMap blockName)).length < (S.filterMap blockName).length
    · simp [execs_at, pr, hN, hL, intOp, hc, rowsR, e]
    · simp [execs_at, pr, hN, hL, intOp, hc, rowsR, e]
theorem run_Page_ml (hp : ClsDefs p) (m : Nat) (name elder : D) (xs : List D) (h1 : San1 name) (h2 : san (.lst xs) = true) (h3 : San1 elder) : run p (m + 17) 100 [.ob 0 [] [], .fr name, .ml (xs.map .fr), .fr elder] = pageR name (.lst xs) elder := by
  rw [run_df hp.m0, runDf_eq rfl]
  have pe : pins [.ob 0 [] [], .fr name, .ml (xs.map .fr), .fr elder] = [0, 2] := rfl
  rw [pe]
  have N1 : run p (m + 16) 0 [.fr name] = some (.ok (.fr (.bl (isNameD name))) [.fr name]) := run_is_name (n := m + 15) hp.h0 name h1
  have N3 : run p (m + 16) 0 [.fr elder] = some (.ok (.fr (.bl (isNameD elder))) [.fr elder]) := run_is_name (n := m + 15) hp.h0 elder h3
  have R := run_rows_ml hp.toPageDefs m xs h2
  show Z.finish _ (execs _ _ _ b_Page_init [.ob 0 [] [], .fr name, .ml (xs.map .fr), .fr elder]) = _
  by_cases e1 : isNameD name = true
  · rw [Z.execs_step (b := b_Page_init) (δ' := [.ob 0 [] [], .fr name, .ml (xs.map .fr), .fr elder]) rfl (by simp [N1, e1])]
    by_cases e2 : eldOk elder = true
    · have e3 : exec (run p (m + 16)) p.ini [0, 2] (.ife (.and_ (.prim .notN (.cons (.var 3) .nil)) (.not_ (.call 0 (.cons (.var 3) .nil)))) (.cons (.rs 101 .nil) .nil) .nil) [.ob 0 [] [], .fr name, .ml (xs.map .fr), .fr elder] = some (.ok .nx [.ob 0 [] [], .fr name, .ml (xs.map .fr), .fr elder]) := by
        by_cases z : isNon (.fr elder) = true
        · simp [pr, z]
        · have e2 : isNameD elder = true := by simpa [eldOk, z] using e2
          simp [pr, z, N3, e2]
      rw [Z.execs_step rfl e3]
      have pf : pageF name (.lst xs) elder = (pageRows (.lst xs)).map fun r => [name, r, elder] := if_pos ⟨e1, e2⟩
      cases er : pageRows (.lst xs) with
      | none =>
        rw [er] at R
        simp [execs_at, fieldO_ob, setF_nil, R, rowsR, pageR, pf, er]
      | some r =>
        rw [er] at R
        simp [execs_at, fieldO_ob, setF_nil, setF_cons, R, rowsR, pageR, pf, er, (by decide : ¬ ("name" : Str) = "rows"), (by decide : ¬ ("name" : Str) = "elder"), (by decide : ¬ ("rows" : Str) = "elder")]
    · have pf : pageF name (.lst xs) elder = none := if_neg fun z => e2 z.2
      simp [eldOk] at e2
      simp [execs_at, pr, e2.1, N3, e2.2, pageR, pf]
  · have pf : pageF name (.lst xs) elder = none := if_neg fun z => e1 z.1
    simp [b_Page_init, execs_at, N1, e1, pageR, pf]
end Ow.Q
end QI_
section QJ_
set_option Elab.async false
set_option linter.all false
set_option maxRecDepth 100000
set_option maxHeartbeats 400000
namespace Ow.Q
open PySem Ow.PB
open L2 (atI Key)
open Ow.RW7 (b__law_refused b__law_all b__law_no_items b__law_within b__law_pages_right b__law_books_right e_L0 e_L1 e_L2 e_L3 kd)
open Ow.Z (run_df runDf_eq execs_at bnd_at bnd_ex lc_at lc_ex lcB)
variable {p : Pg} {n : Nat}
abbrev lamDf (e : E) : Df := ⟨1, 1, .cons (.rt false e) .nil⟩
structure L7 (p : Pg) : Prop extends ClsDefs p where
  l0 : p.df 1000 = some (lamDf e_L0)
  l1 : p.df 1001 = some (lamDf e_L1)
  l2 : p.df 1002 = some (lamDf e_L2)
  l3 : p.df 1003 = some (lamDf e_L3)
  f52 : p.df 52 = some ⟨6, 3, b__law_refused⟩
  f53 : p.df 53 = some ⟨5, 3, b__law_all⟩
section
variable {cl : Cl} {ini : Nat → Option Nat} {pin : List Nat} {δ : Env} {β : Type}
@[simp] theorem bnd_makeM {c : Nat} {ps : List PO} {ds : List D} {g : O → M β} : bnd (makeM cl ini c ps ds) g δ = match ress δ ps, ini c with
  | some os, some f => if (lent ps).Nodup then (match cl f (.ob c [] [] :: (os ++ ds.map .fr)) with
      | some (.ok (.fr .non) (o :: os')) => g o (giveBack ps os' δ)
      | some (.ex x) => some (.ex x)
      | _ => none) else none
  | _, _ => none := by
  unfold bnd makeM
  cases ress δ ps with
  | none => cases ini c <;> rfl
  | some os =>
    cases ini c with
    | none => rfl
    | some f =>
      by_cases h : (lent ps).Nodup
      · simp only [h, if_true]
        cases cl f (.ob c [] [] :: (os ++ ds.map .fr)) with
        | none => rfl
        | some r =>
          cases r with
          | ex x => rfl
          | ok o os' =>
            cases os' with
            | nil => cases o with
              | fr d => cases d <;> rfl
              | _ => rfl
            | cons o1 os' => cases o with
              | fr d => cases d <;> rfl
              | _ => rfl
      · simp only [h, if_false]
@[simp] theorem bnd_lamM {i : Nat} {g : Nat → M β} : bnd (lamM i) g δ = match δ[i]? with | some (.fr (.lam j)) => g j δ | _ => none := by
  unfold bnd lamM
  cases δ[i]? with
  | none => rfl
  | some o => cases o with
    | fr d => cases d <;> rfl
    | _ => rfl
end
/-- asking a thing raises the exception that it should -/
def Ref (p : Pg) (m j w : Nat) (x : D) : Prop := run p m (1000 + j) [.fr x] = some (.ex ⟨101 + w, []⟩)
theorem ref_0 (hp : L7 p) (m : Nat) (x : D) (h1 : San1 x) (hf : pageF x (.lst []) .non = none) : Ref p (m + 18) 0 0 x := by
  unfold Ref
  rw [run_df hp.l0, runDf_eq rfl]
  have pe : pins [.fr x] = [] := rfl
  rw [pe]
  have R : run p (m + 17) 100 [.ob 0 [] [], .fr x, .ml [], .fr .non] = pageR x (.lst []) .non := run_Page_ml hp.toClsDefs m x .non [] h1 (by decide) trivial
  simp only [pageR, hf] at R
  simp [lamDf, e_L0, execs_at, hp.i0, R, frz, frzs]
theorem ref_1 (hp : L7 p) (m : Nat) (x : D) (h1 : San1 x) (hf : pageF (.str "a") (.lst []) x = none) : Ref p (m + 18) 1 0 x := by
  unfold Ref
  rw [run_df hp.l1, runDf_eq rfl]
  have pe : pins [.fr x] = [] := rfl
  rw [pe]
  have R : run p (m + 17) 100 [.ob 0 [] [], .fr (.str "a"), .ml [], .fr x] = pageR (.str "a") (.lst []) x := run_Page_ml hp.toClsDefs m (.str "a") x [] (by unfold San1; decide) (by decide) h1
  simp only [pageR, hf] at R
  cases x with
  | lam i => exact h1.elim
  | _ => simp [lamDf, e_L1, execs_at, hp.i0, R, frz, frzs]
theorem ref_2 (hp : L7 p) (m : Nat) (x : D) (h1 : san x = true) (hf : pageRows x = none) : Ref p (m + 18) 2 0 x := by
  unfold Ref
  rw [run_df hp.l2, runDf_eq rfl]
  have pe : pins [.fr x] = [] := rfl
  rw [pe]
  have R := run_Page hp.toClsDefs m (.str "a") x .non (by unfold San1; decide) h1 trivial
  have pf : pageF (.str "a") x .non = none := by unfold pageF; rw [hf]; split <;> rfl
  simp only [pageR, pf] at R
  cases x with
  | lam i => cases h1
  | _ => simp [lamDf, e_L2, execs_at, hp.i0, R, frz, frzs]
theorem ref_3 (hp : L7 p) (m : Nat) (x : D) (h1 : notLam x = true) (R : run p (m + 17) 102 [.ob 1 [] [], .fr x] = some (.ex ⟨102, []⟩)) : Ref p (m + 18) 3 1 x := by
  unfold Ref
  rw [run_df hp.l3, runDf_eq rfl]
  have pe : pins [.fr x] = [] := rfl
  rw [pe]
  cases x with
  | lam i => cases h1
  | _ => simp [lamDf, e_L3, execs_at, hp.i1, R, frz, frzs]
/-! ### what a thing is refused with -/
abbrev D8 : List D := [.int 0, .int 1, .int 2, .int 3, .int 4, .int 5, .int 6, .int 7]
theorem evi_8 {cl : Cl} {ini : Nat → Option Nat} {δ : Env} : evi cl ini (.range1 (.cst (.int 8))) δ = some (.ok D8 δ) := by
  have e : ranged 0 8 = D8 := by simp [ranged]
  rw [← e]
  simp only [evi, Z.ev_cst, Z.bnd_ret, Z.frz_fr]
  simp [sm]
theorem l8 : (List.range 8) = [0, 1, 2, 3, 4, 5, 6, 7] := by decide +kernel
theorem sorts_lc {cl : Cl} {ini : Nat → Option Nat} (a b c : O) (w : Nat) : ev cl ini (.lc (.prim .eq (.cons (.var 5) (.cons (.var 2) .nil))) (.one 5) (.range1 (.cst (.int 8))) .nil) [a, b, .fr (.int w), c, .dead, .dead] = some (.ok (.ml (D8.map fun i => .fr (.bl (match i with | .int i => decide (i = w) | _ => false)))) [a, b, .fr (.int w), c, .dead, .dead]) := by
  have z := lc_at (cl := cl) (ini := ini) (e := .prim .eq (.cons (.var 5) (.cons (.var 2) .nil))) (t := .one 5) (c := .nil) (it := .range1 (.cst (.int 8))) (δ := [a, b, .fr (.int w), c, .dead, .dead]) (δ1 := [a, b, .fr (.int w), c, .dead, .dead]) (ds := D8)
    (fun δ => ∃ o, δ = [a, b, .fr (.int w), c, .dead, o] ∧ (o = .dead ∨ ∃ d, o = .fr d)) (fun d => match d with | .int i => some (.bl (decide (i = w))) | _ => none) evi_8 (by simp [sm]) rfl ⟨.dead, rfl, .inl rfl⟩ ?_ ?_
  · rw [z]
    rfl
  · intro d hd δ ⟨o, e, ho⟩
    subst e
    have hi : ∃ i, d = .int i := by
      simp at hd
      rcases hd with h | h | h | h | h | h | h | h <;> exact ⟨_, h⟩
    obtain ⟨i, rfl⟩ := hi
    refine ⟨[a, b, .fr (.int w), c, .dead, .fr (.int i)], ?_, _, rfl, .inr ⟨_, rfl⟩⟩
    rcases ho with rfl | ⟨d, rfl⟩ <;> (unfold Z.lcB; simp [Tg.slots, slotD, wipeS, pr, eqD])
  · intro δ ⟨o, e, ho⟩
    subst e
    rcases ho with rfl | ⟨d, rfl⟩ <;> simp [Tg.slots, slotD, backS]
theorem kinds_eq (w : Nat) (hw : w = 0 ∨ w = 1) : eqD (.lst ((D8.map fun i => .bl (match i with | .int i => decide (i = w) | _ => false)) ++ [.bl true])) (.lst ((D8.map fun i => .bl (match i with | .int i => decide (i = w) | _ => false)) ++ [.bl true])) = some true := by
  rcases hw with rfl | rfl <;> decide +kernel
theorem l8' (w : Nat) (hw : w = 0 ∨ w = 1) : ((List.range 8).map (fun i => O.fr (.bl (i == w))) ++ [.fr (.bl true)]) = ((D8.map fun i => O.fr (.bl (match i with | .int i => decide (i = w) | _ => false))) ++ [.fr (.bl true)]) := by
  rw [l8]
  rcases hw with rfl | rfl <;> rfl
theorem run_refused (hp : L7 p) (m j w : Nat) (x : D) (hw : w = 0 ∨ w = 1) (hx : notLam x = true) (R : Ref p m j w x) : run p (m + 1) 52 [.fr (.lam j), .fr x, .fr (.int w)] = some (.ok (.fr (.bl true)) [.fr (.lam j), .fr x, .fr (.int w)]) := by
  rw [run_df hp.f52, runDf_eq rfl]
  have pe : pins [.fr (.lam j), .fr x, .fr (.int w)] = [] := rfl
  rw [pe]
  unfold Ref at R
  show Z.finish _ (execs _ _ _ b__law_refused [.fr (.lam j), .fr x, .fr (.int w), .dead, .dead, .dead]) = _
  rw [Z.execs_step (b := b__law_refused) (δ' := [.fr (.lam j), .fr x, .fr (.int w), .ml [], .dead, .dead]) rfl (by simp [sm])]
  have call : ev (run p m) p.ini (.callv 0 (.cons (.var 1) .nil)) [.fr (.lam j), .fr x, .fr (.int w), .ml [], .dead, .dead] = some (.ex ⟨101 + w, []⟩) := by
    have R' : run p m (1000 + j) [.fr x] = some (.ex ⟨101 + w, []⟩) := R
    cases x <;> simp [callM, R'] 
  have tr : exec (run p m) p.ini [] (.tr none (.callv 0 (.cons (.var 1) .nil)) 4 (fun x => Ow.RW7.exm x 100) (hKinds 3 kd)) [.fr (.lam j), .fr x, .fr (.int w), .ml [], .dead, .dead] = some (.ok .nx [.fr (.lam j), .fr x, .fr (.int w), .ml ((List.range 8).map (fun i => .fr (.bl (i == w))) ++ [.fr (.bl true)]), .dead, .dead]) := by
    unfold exec
    rw [call]
    rcases hw with rfl | rfl <;> rfl
  rw [Z.execs_step rfl tr]
  have k := kinds_eq w hw
  have l := l8' w hw
  have lc := sorts_lc (cl := run p m) (ini := p.ini) (.fr (.lam j)) (.fr x) (.fr (.lst ((D8.map fun i => .bl (match i with | .int i => decide (i = w) | _ => false)) ++ [.bl true]))) w
  rw [l]
  generalize hK : (D8.map fun i => (D.bl (match i with | .int i => decide (i = w) | _ => false))) = KS at k lc
  have hK2 : (D8.map fun i => O.fr (.bl (match i with | .int i => decide (i = w) | _ => false))) = KS.map .fr := by rw [← hK]; rfl
  have hKl : KS.length = 8 := by rw [← hK]; rfl
  rw [hK2] at lc ⊢
  have lc2 : ∀ o, ev (run p m) p.ini (.lc (.prim .eq (.cons (.var 5) (.cons (.var 2) .nil))) (.one 5) (.range1 (.cst (.int 8))) .nil) [.fr (.lam j), .fr x, .fr (.int w), o, .dead, .dead] = some (.ok (.ml (KS.map .fr)) [.fr (.lam j), .fr x, .fr (.int w), o, .dead, .dead]) := by
    intro o
    have z := sorts_lc (cl := run p m) (ini := p.ini) (.fr (.lam j)) (.fr x) o w
    rw [hK2] at z
    exact z
  have hm : O.ml (KS.map .fr ++ [.fr (.bl true)]) = O.ml ((KS ++ [D.bl true]).map .fr) := by rw [List.map_append]; rfl
  have fz : frz (.ml (KS.map .fr ++ [.fr (.bl true)])) = .lst (KS ++ [.bl true]) := by rw [hm, Z.frz_ml]
  have pa : prAdd (.ml (KS.map .fr)) (.ml [.fr (.bl true)]) = some (.ml (KS.map .fr ++ [.fr (.bl true)])) := by
    have a1 : prAdd (.ml (KS.map .fr)) (.ml [.fr (.bl true)]) = (lstOf (.ml (KS.map .fr))).bind fun xs => (lstOf (.ml [.fr (.bl true)])).bind fun ys => if xs.length + ys.length ≤ sm then some (.ml ((xs ++ ys).map .fr)) else none := rfl
    have a2 : lstOf (.ml [.fr (.bl true)]) = some [.bl true] := rfl
    rw [a1, a2, Z.lstOf_ml, Z.allFr_fr, Option.bind_some, Option.bind_some, if_pos (by simp [hKl, sm]), List.map_append]; rfl
  simp [execs_at, bnd_at (lc2 _), pr, pa, fz, k, sm]
end Ow.Q
end QJ_
section QK_
set_option Elab.async false
set_option linter.all false
set_option maxRecDepth 100000
set_option maxHeartbeats 400000
namespace Ow.Q
open PySem Ow.PB
open L2 (atI Key)
open Ow.RW7 (b__law_refused b__law_all)
open Ow.Z (run_df runDf_eq execs_at bnd_at bnd_ex lc_at lc_ex)
variable {p : Pg} {n : Nat}
/-- a list, owned or not -/
def Lk (o : O) (xs : List D) : Prop := o = .fr (.lst xs) ∨ o = .ml (xs.map .fr)
abbrev eAll : E := .lc (.call 52 (.cons (.var 3) (.cons (.var 4) (.cons (.var 2) .nil)))) (.one 4) (.seq .l (.var 1)) .nil
theorem all_lc (hp : L7 p) (m j w : Nat) (hw : w = 0 ∨ w = 1) (a B : O) (xs : List D) (hB : Lk B xs) (hl : xs.length ≤ sm) (h : ∀ x ∈ xs, notLam x = true ∧ Ref p m j w x) : ev (run p (m + 1)) p.ini eAll [a, B, .fr (.int w), .fr (.lam j), .dead] = some (.ok (.ml (xs.map fun _ => .fr (.bl true))) [a, .fr (.lst xs), .fr (.int w), .fr (.lam j), .dead]) := by
  have z := lc_at (cl := run p (m + 1)) (ini := p.ini) (e := .call 52 (.cons (.var 3) (.cons (.var 4) (.cons (.var 2) .nil)))) (t := .one 4) (c := .nil) (it := .seq .l (.var 1)) (δ := [a, B, .fr (.int w), .fr (.lam j), .dead]) (δ1 := [a, .fr (.lst xs), .fr (.int w), .fr (.lam j), .dead]) (ds := xs)
    (fun δ => ∃ o, δ = [a, .fr (.lst xs), .fr (.int w), .fr (.lam j), o] ∧ (o = .dead ∨ ∃ d, o = .fr d)) (fun _ => some (.bl true)) ?_ hl rfl ⟨.dead, rfl, .inl rfl⟩ ?_ ?_
  · rw [z]
    congr 2
    rw [show (fun (_ : D) => some (D.bl true)) = (fun x => some ((fun _ => D.bl true) x)) from rfl, List.filterMap_eq_map', List.map_map]
    rfl
  · rcases hB with rfl | rfl <;> simp [itemsOf]
  · intro d hd δ ⟨o, e, ho⟩
    subst e
    obtain ⟨nl, r⟩ := h d hd
    have R := run_refused hp m j w d hw nl r
    refine ⟨[a, .fr (.lst xs), .fr (.int w), .fr (.lam j), .fr d], ?_, _, rfl, .inr ⟨_, rfl⟩⟩
    rcases ho with rfl | ⟨d0, rfl⟩ <;> (unfold Z.lcB; simp [Tg.slots, slotD, wipeS, R])
  · intro δ ⟨o, e, ho⟩
    subst e
    rcases ho with rfl | ⟨d, rfl⟩ <;> simp [Tg.slots, slotD, backS]
theorem all_true {xs : List D} : (xs.map fun _ => true).all id = true := by
  induction xs with
  | nil => rfl
  | cons x xs ih => exact ih
theorem all_loop (hp : L7 p) (m w : Nat) (hw : w = 0 ∨ w = 1) (pin : List Nat) (h3 : pin.contains 3 = false) (a : O) (js : List Nat) (xs : List D) (hl : xs.length ≤ sm) (h : ∀ j ∈ js, ∀ x ∈ xs, notLam x = true ∧ Ref p m j w x) :
    ∀ (B o : O), Lk B xs → ∃ B' o', (B' = B ∨ B' = .fr (.lst xs)) ∧ loop (fun d => bnd (setS pin 3 (.fr d)) fun _ => execs (run p (m + 1)) p.ini pin (.cons (.ife (.not_ (.prim .all (.cons eAll .nil))) (.cons (.rt false (.cst (.bl false))) .nil) .nil) .nil)) (js.map .lam) [a, B, .fr (.int w), o, .dead] = some (.ok .nx [a, B', .fr (.int w), o', .dead]) := by
  induction js with
  | nil => exact fun B o hB => ⟨B, o, .inl rfl, rfl⟩
  | cons j js ih =>
    intro B o hB
    have lc := all_lc hp m j w hw a B xs hB hl (h j List.mem_cons_self)
    obtain ⟨B', o', hB', e⟩ := ih (fun j m => h j (List.mem_cons_of_mem _ m)) (.fr (.lst xs)) (.fr (.lam j)) (.inl rfl)
    refine ⟨B', o', .inr (by rcases hB' with z | z <;> exact z), ?_⟩
    have st : (fun d => bnd (setS pin 3 (.fr d)) fun _ => execs (run p (m + 1)) p.ini pin (.cons (.ife (.not_ (.prim .all (.cons eAll .nil))) (.cons (.rt false (.cst (.bl false))) .nil) .nil) .nil)) (.lam j) [a, B, .fr (.int w), o, .dead] = some (.ok .nx [a, .fr (.lst xs), .fr (.int w), .fr (.lam j), .dead]) := by
      have e1 : lstOf (.ml (xs.map fun _ => .fr (.bl true))) = some (xs.map fun _ => .bl true) := by rw [Z.lstOf_ml, Z.allFr_map]
      have e2 : bls (xs.map fun _ => D.bl true) = some (xs.map fun _ => true) := Z.bls_map (fun _ => true) xs
      have h3' : ¬ 3 ∈ pin := by simpa using h3
      simp [h3', execs_at, bnd_at lc, e1, e2, all_true, -Z.ev_lam]
    rw [List.map_cons, Z.loop_nx st]
    exact e
theorem run_all (hp : L7 p) (m w : Nat) (hw : w = 0 ∨ w = 1) (A B : O) (js : List Nat) (xs : List D) (hA : Lk A (js.map .lam)) (hB : Lk B xs) (hl : xs.length ≤ sm) (h : ∀ j ∈ js, ∀ x ∈ xs, notLam x = true ∧ Ref p m j w x) :
    ∃ B', Lk B' xs ∧ run p (m + 2) 53 [A, B, .fr (.int w)] = some (.ok (.fr (.bl true)) [.fr (.lst (js.map .lam)), B', .fr (.int w)]) := by
  rw [run_df hp.f53, runDf_eq rfl]
  have h3 : (pins [A, B, .fr (.int w)]).contains 3 = false := by rcases hA with rfl | rfl <;> rcases hB with rfl | rfl <;> rfl
  generalize pins [A, B, .fr (.int w)] = pin at h3
  show ∃ B', Lk B' xs ∧ Z.finish _ (execs _ _ _ b__law_all [A, B, .fr (.int w), .dead, .dead]) = _
  obtain ⟨B', o', hB', e⟩ := all_loop hp m w hw pin h3 (.fr (.lst (js.map .lam))) js xs hl h B .dead hB
  have st : exec (run p (m + 1)) p.ini pin (.fo (.one 3) (.seq .l (.var 0)) (.cons (.ife (.not_ (.prim .all (.cons eAll .nil))) (.cons (.rt false (.cst (.bl false))) .nil) .nil) .nil)) [A, B, .fr (.int w), .dead, .dead] = some (.ok .nx [.fr (.lst (js.map .lam)), B', .fr (.int w), o', .dead]) := by
    rw [Z.exec_fo, Z.evi_seq]
    rcases hA with rfl | rfl
    · simp only [Z.bnd_bnd, Z.ev_var, Z.bnd_getS]; exact e
    · simp only [Z.bnd_bnd, Z.ev_var, Z.bnd_getS]; simp only [List.getElem?_cons_zero, Z.frz_ml, itemsOf, Z.bnd_lift_some, List.set_cons_zero]; exact e
  rw [Z.execs_step (b := b__law_all) rfl st]
  refine ⟨B', by rcases hB' with rfl | rfl; exact hB; exact .inl rfl, ?_⟩
  rcases hA with rfl | rfl <;> rcases hB with rfl | rfl <;> rcases hB' with rfl | rfl <;> simp [execs_at]
end Ow.Q
end QK_
section QL_
set_option Elab.async false
set_option linter.all false
set_option maxRecDepth 100000
set_option maxHeartbeats 1000000
namespace Ow.Q
open PySem Ow.PB
open L2 (atI Key)
open Ow.RW7 (b__law_no_items)
open Ow.Z (run_df runDf_eq execs_at bnd_at bnd_ex lc_at lc_ex)
variable {p : Pg}
def no_0 : List D := [.non, .int 5, .str "text", .tup [], .lst [.str "text", .str "a"], .tup [.str "text"], .tup [.str "text", .str "a", .str "b"], .tup [.str "text", .int 5]]
def no_1 : List D := [.tup [.str "text", .str "\t"], .tup [.str "text", .non]]
def no_2 (far : Int) : List D := [.tup [.str "text", .str (Txt.mul "a" 61)], .tup [.str "text", .str (Txt.mul "a" (61 + (far.fmod 99)))], .tup [.str "text", .lst [.str "a"]], .tup [.str "name"], .tup [.str "name", .str "A"]]
def no_3 : List D := [.tup [.str "name", .str ""], .tup [.str "name", .str "abcdefghi"], .tup [.str "name", .int 5], .tup [.str "name", .str "a", .str "b"]]
def no_4 : List D := [.tup [.str "elder"], .tup [.str "elder", .str "a"]]
def no_5 : List D := [.tup [.str "block", .str "a"], .tup [.str "block", .str "A", .lst [.tup [.str "text", .str "a"]]], .tup [.str "block", .str "a", .lst [.tup [.str "text", .str "a"]], .lst [.tup [.str "text", .str "a"]]]]
def no_6 : List D := [.tup [.str "block", .str "a", .non], .tup [.str "block", .str "a", .tup [.str "x"]]]
def no_7 : List D := [.tup [.str "block", .str "a", .str "text"], .tup [.str "block", .str "a", .lst [.non]], .tup [.str "block", .str "a", .lst [.tup [.str "text", .int 5]]]]
def no_8 : List D := [.tup [.str "choice", .str "x", .lst [.tup [.str "text", .str "a"]]]]
def no_9 : List D := [.tup [.str "choice", .str "X", .lst [.tup [.str "text", .str "a"]], .lst [.tup [.str "text", .str "a"]]], .tup [.str "choice", .str "x", .lst [.tup [.str "text", .str "a"]], .non]]
def no_10 : List D := [.tup [.str "choice", .str "x", .lst [.tup [.str "text", .str "a"]], .lst [.tup [.str "text", .str "a"]], .lst [.tup [.str "text", .str "a"]]], .tup [.str "Text", .str "a"]]
def no_11 : List D := [.tup [.str "choice", .str "x", .tup [], .lst [.tup [.str "text", .str "a"]]], .tup [.str "choice", .str "x", .lst [.tup [.str "elder"]], .lst []], .tup [.str "page", .str "a"]]
def no_12 : List D := [.tup [.non, .str "a"], .tup [.str "items", .lst [.tup [.str "text", .str "a"]]]]
def no_13 : List D := [.tup [.str "block", .str "a", .lst [.tup [.str "block", .str "a", .lst []]]], .tup [.str "block", .str "a", .lst [.tup [.str "choice", .str "x", .lst [], .lst [.tup [.str "elder", .int 1]]]]]]
def no_all (far : Int) : List D := (((((((((((((no_0 ++ no_1) ++ no_2 far) ++ no_3) ++ no_4) ++ no_5) ++ no_6) ++ no_7) ++ no_8) ++ no_9) ++ no_10) ++ no_11) ++ no_12) ++ no_13)
theorem mulA {j : Int} (h0 : 0 ≤ j) (h : j ≤ 200) : MulOk "a" j := by
  have z : ∀ n : Fin 201, MulOk "a" ((n.val : Nat) : Int) := by decide +kernel
  have e := z ⟨j.toNat, by omega⟩
  rwa [show (((⟨j.toNat, by omega⟩ : Fin 201).val : Nat) : Int) = j from by simp; omega] at e
abbrev oneD : D := .lst [.tup [.str "text", .str "a"]]
theorem step_add {cl : Cl} {ini : Nat → Option Nat} {pin : List Nat} {es : Es} {a b b' : O} {F ds : List D} (h2 : pin.contains 2 = false) (h : evd cl ini es [a, b, .ml (F.map .fr)] = some (.ok ds [a, b', .ml (F.map .fr)])) (hl : F.length + ds.length ≤ sm) : exec cl ini pin (.asg (.one 2) (.prim .add (.cons (.var 2) (.cons (.lst es) .nil)))) [a, b, .ml (F.map .fr)] = some (.ok .nx [a, b', .ml ((F ++ ds).map .fr)]) := by
  have pa : prAdd (.ml (F.map .fr)) (.ml (ds.map .fr)) = some (.ml ((F ++ ds).map .fr)) := by
    have a1 : prAdd (.ml (F.map .fr)) (.ml (ds.map .fr)) = (lstOf (.ml (F.map .fr))).bind fun xs => (lstOf (.ml (ds.map .fr))).bind fun ys => if xs.length + ys.length ≤ sm then some (.ml ((xs ++ ys).map .fr)) else none := rfl
    rw [a1, Z.lstOf_ml, Z.lstOf_ml, Z.allFr_fr, Z.allFr_fr, Option.bind_some, Option.bind_some, if_pos hl]
  have h2' : ¬ 2 ∈ pin := by simpa using h2
  have hd : ds.length ≤ sm := by omega
  simp [bnd_at h, pr, pa, h2', hd]

def lastEs : Es := (.cons (.tup (.cons (.cst (.str "block")) (.cons (.cst (.str "a")) (.cons (.lst (.cons (.tup (.cons (.cst (.str "block")) (.cons (.cst (.str "a")) (.cons (.lst .nil) .nil)))) .nil)) .nil)))) (.cons (.tup (.cons (.cst (.str "block")) (.cons (.cst (.str "a")) (.cons (.lst (.cons (.tup (.cons (.cst (.str "choice")) (.cons (.cst (.str "x")) (.cons (.lst .nil) (.cons (.lst (.cons (.tup (.cons (.cst (.str "elder")) (.cons (.cst (.int 1)) .nil))) .nil)) .nil))))) .nil)) .nil)))) .nil))
theorem run_no (h54 : p.df 54 = some ⟨3, 1, b__law_no_items⟩) (m : Nat) (far : Int) (h0 : 0 ≤ far) : run p (m + 1) 54 [.fr (.int far)] = some (.ok (.ml ((no_all far).map .fr)) [.fr (.int far)]) := by
  rw [run_df h54, runDf_eq rfl]
  have pe : pins [.fr (.int far)] = [] := rfl
  rw [pe]
  show Z.finish _ (execs _ _ _ b__law_no_items [.fr (.int far), .dead, .dead]) = _
  have f1 : 0 ≤ far.fmod 99 := Int.fmod_nonneg h0 (by decide)
  have f2 : far.fmod 99 < 99 := Int.fmod_lt_of_pos far (by decide)
  have M1 : MulOk "a" 61 := mulA (by decide) (by decide)
  have M2 : MulOk "a" (61 + far.fmod 99) := mulA (by omega) (by omega)
  rw [Z.execs_step (b := b__law_no_items) (δ' := [.fr (.int far), .ml [.fr (.tup [.str "text", .str "a"])], .dead]) rfl (by simp [sm])]
  rw [Z.execs_step (δ' := [.fr (.int far), .ml [.fr (.tup [.str "text", .str "a"])], .ml (no_0.map .fr)]) rfl (by simp [sm, no_0, frz, frzs])]
  rw [Z.execs_step (δ' := [.fr (.int far), .ml [.fr (.tup [.str "text", .str "a"])], .ml ((no_0 ++ no_1).map .fr)]) rfl (step_add rfl (by simp [no_1, sm, frz, frzs, pr, prMul, prAdd, intOp, M1, M2]) (by simp [sm, no_0, no_1]))]
  rw [Z.execs_step (δ' := [.fr (.int far), .ml [.fr (.tup [.str "text", .str "a"])], .ml (((no_0 ++ no_1) ++ no_2 far).map .fr)]) rfl (step_add rfl (by simp [no_2, sm, frz, frzs, pr, prMul, prAdd, intOp, M1, M2]) (by simp [sm, no_0, no_1, no_2]))]
  rw [Z.execs_step (δ' := [.fr (.int far), .ml [.fr (.tup [.str "text", .str "a"])], .ml ((((no_0 ++ no_1) ++ no_2 far) ++ no_3).map .fr)]) rfl (step_add rfl (by simp [no_3, sm, frz, frzs, pr, prMul, prAdd, intOp, M1, M2]) (by simp [sm, no_0, no_1, no_2, no_3]))]
  rw [Z.execs_step (δ' := [.fr (.int far), .ml [.fr (.tup [.str "text", .str "a"])], .ml (((((no_0 ++ no_1) ++ no_2 far) ++ no_3) ++ no_4).map .fr)]) rfl (step_add rfl (by simp [no_4, sm, frz, frzs, pr, prMul, prAdd, intOp, M1, M2]) (by simp [sm, no_0, no_1, no_2, no_3, no_4]))]
  rw [Z.execs_step (δ' := [.fr (.int far), .fr oneD, .ml ((((((no_0 ++ no_1) ++ no_2 far) ++ no_3) ++ no_4) ++ no_5).map .fr)]) rfl (step_add rfl (by simp [no_5, sm, frz, frzs, pr, prMul, prAdd, intOp, M1, M2]) (by simp [sm, no_0, no_1, no_2, no_3, no_4, no_5]))]
  rw [Z.execs_step (δ' := [.fr (.int far), .fr oneD, .ml (((((((no_0 ++ no_1) ++ no_2 far) ++ no_3) ++ no_4) ++ no_5) ++ no_6).map .fr)]) rfl (step_add rfl (by simp [no_6, sm, frz, frzs, pr, prMul, prAdd, intOp, M1, M2]) (by simp [sm, no_0, no_1, no_2, no_3, no_4, no_5, no_6]))]
  rw [Z.execs_step (δ' := [.fr (.int far), .fr oneD, .ml ((((((((no_0 ++ no_1) ++ no_2 far) ++ no_3) ++ no_4) ++ no_5) ++ no_6) ++ no_7).map .fr)]) rfl (step_add rfl (by simp [no_7, sm, frz, frzs, pr, prMul, prAdd, intOp, M1, M2]) (by simp [sm, no_0, no_1, no_2, no_3, no_4, no_5, no_6, no_7]))]
  rw [Z.execs_step (δ' := [.fr (.int far), .fr oneD, .ml (((((((((no_0 ++ no_1) ++ no_2 far) ++ no_3) ++ no_4) ++ no_5) ++ no_6) ++ no_7) ++ no_8).map .fr)]) rfl (step_add rfl (by simp [no_8, sm, frz, frzs, pr, prMul, prAdd, intOp, M1, M2]) (by simp [sm, no_0, no_1, no_2, no_3, no_4, no_5, no_6, no_7, no_8]))]
  rw [Z.execs_step (δ' := [.fr (.int far), .fr oneD, .ml ((((((((((no_0 ++ no_1) ++ no_2 far) ++ no_3) ++ no_4) ++ no_5) ++ no_6) ++ no_7) ++ no_8) ++ no_9).map .fr)]) rfl (step_add rfl (by simp [no_9, sm, frz, frzs, pr, prMul, prAdd, intOp, M1, M2]) (by simp [sm, no_0, no_1, no_2, no_3, no_4, no_5, no_6, no_7, no_8, no_9]))]
  rw [Z.execs_step (δ' := [.fr (.int far), .fr oneD, .ml (((((((((((no_0 ++ no_1) ++ no_2 far) ++ no_3) ++ no_4) ++ no_5) ++ no_6) ++ no_7) ++ no_8) ++ no_9) ++ no_10).map .fr)]) rfl (step_add rfl (by simp [no_10, sm, frz, frzs, pr, prMul, prAdd, intOp, M1, M2]) (by simp [sm, no_0, no_1, no_2, no_3, no_4, no_5, no_6, no_7, no_8, no_9, no_10]))]
  rw [Z.execs_step (δ' := [.fr (.int far), .fr oneD, .ml ((((((((((((no_0 ++ no_1) ++ no_2 far) ++ no_3) ++ no_4) ++ no_5) ++ no_6) ++ no_7) ++ no_8) ++ no_9) ++ no_10) ++ no_11).map .fr)]) rfl (step_add rfl (by simp [no_11, sm, frz, frzs, pr, prMul, prAdd, intOp, M1, M2]) (by simp [sm, no_0, no_1, no_2, no_3, no_4, no_5, no_6, no_7, no_8, no_9, no_10, no_11]))]
  rw [Z.execs_step (δ' := [.fr (.int far), .fr oneD, .ml (((((((((((((no_0 ++ no_1) ++ no_2 far) ++ no_3) ++ no_4) ++ no_5) ++ no_6) ++ no_7) ++ no_8) ++ no_9) ++ no_10) ++ no_11) ++ no_12).map .fr)]) rfl (step_add rfl (by simp [no_12, sm, frz, frzs, pr, prMul, prAdd, intOp, M1, M2]) (by simp [sm, no_0, no_1, no_2, no_3, no_4, no_5, no_6, no_7, no_8, no_9, no_10, no_11, no_12]))]
  have e : evd (run p m) p.ini lastEs [.fr (.int far), .fr oneD, .ml (((((((((((((no_0 ++ no_1) ++ no_2 far) ++ no_3) ++ no_4) ++ no_5) ++ no_6) ++ no_7) ++ no_8) ++ no_9) ++ no_10) ++ no_11) ++ no_12).map .fr)] = some (.ok no_13 [.fr (.int far), .fr oneD, .ml (((((((((((((no_0 ++ no_1) ++ no_2 far) ++ no_3) ++ no_4) ++ no_5) ++ no_6) ++ no_7) ++ no_8) ++ no_9) ++ no_10) ++ no_11) ++ no_12).map .fr)]) := by simp [lastEs, no_13, sm, frz, frzs]
  have pa : prAdd (.ml (((((((((((((no_0 ++ no_1) ++ no_2 far) ++ no_3) ++ no_4) ++ no_5) ++ no_6) ++ no_7) ++ no_8) ++ no_9) ++ no_10) ++ no_11) ++ no_12).map .fr)) (.ml (no_13.map .fr)) = some (.ml ((no_all far).map .fr)) := by
    have a1 : prAdd (.ml (((((((((((((no_0 ++ no_1) ++ no_2 far) ++ no_3) ++ no_4) ++ no_5) ++ no_6) ++ no_7) ++ no_8) ++ no_9) ++ no_10) ++ no_11) ++ no_12).map .fr)) (.ml (no_13.map .fr)) = (lstOf (.ml (((((((((((((no_0 ++ no_1) ++ no_2 far) ++ no_3) ++ no_4) ++ no_5) ++ no_6) ++ no_7) ++ no_8) ++ no_9) ++ no_10) ++ no_11) ++ no_12).map .fr))).bind fun xs => (lstOf (.ml (no_13.map .fr))).bind fun ys => if xs.length + ys.length ≤ sm then some (.ml ((xs ++ ys).map .fr)) else none := rfl
    rw [a1, Z.lstOf_ml, Z.lstOf_ml, Z.allFr_fr, Z.allFr_fr, Option.bind_some, Option.bind_some, if_pos (by simp [sm, no_0, no_1, no_2, no_3, no_4, no_5, no_6, no_7, no_8, no_9, no_10, no_11, no_12, no_13])]
    rfl
  have ll : no_13.length ≤ sm := by simp [sm, no_13]
  show Z.finish _ (execs _ _ _ (.cons (.rt false (.prim .add (.cons (.var 2) (.cons (.lst lastEs) .nil)))) .nil) _) = _
  generalize ((((((((((((no_0 ++ no_1) ++ no_2 far) ++ no_3) ++ no_4) ++ no_5) ++ no_6) ++ no_7) ++ no_8) ++ no_9) ++ no_10) ++ no_11) ++ no_12) = F at e pa
  simp [execs_at, bnd_at e, pr, pa, ll]
end Ow.Q
end QL_
section QM_
set_option Elab.async false
set_option linter.all false
set_option maxRecDepth 100000
set_option maxHeartbeats 1000000
namespace Ow.Q
open PySem Ow.PB
open L2 (atI Key)
open Ow.RW7 (b__law_within)
open Ow.Z (run_df runDf_eq execs_at bnd_at bnd_ex lc_at lc_ex)
variable {p : Pg}
abbrev tA : D := .tup [.str "text", .str "a"]
def lots (d : D) : List D := [.tup [.str "choice", .str "x", .lst [tA, d], .lst []], .tup [.str "choice", .str "x", .lst [], .lst [d, tA]], .tup [.str "block", .str "b", .lst [tA, d, tA]], .tup [.str "choice", .str "y", .lst [.tup [.str "block", .str "c", .lst [d]]], .lst [tA]]]
def withinD (d : D) (n : Int) : D := (atI (lots d) n).getD .non
theorem within_cases (d : D) {n : Int} (h0 : 0 ≤ n) (h4 : n < 4) : atI (lots d) n = some (withinD d n) ∧ withinD d n ∈ lots d := by
  have c : n = 0 ∨ n = 1 ∨ n = 2 ∨ n = 3 := by omega
  unfold withinD lots
  rcases c with rfl | rfl | rfl | rfl
  · rw [atI_0]; simp
  · rw [atI_1]; simp
  · rw [atI_2]; simp
  · rw [atI_3]; simp
theorem run_within (h55 : p.df 55 = some ⟨4, 2, b__law_within⟩) (m : Nat) (d : D) (a : Int) : run p (m + 1) 55 [.fr d, .fr (.int a)] = some (.ok (.fr (withinD d (a.fmod 4))) [.fr d, .fr (.int a)]) := by
  rw [run_df h55, runDf_eq rfl]
  have pe : pins [.fr d, .fr (.int a)] = [] := rfl
  rw [pe]
  show Z.finish _ (execs _ _ _ b__law_within [.fr d, .fr (.int a), .dead, .dead]) = _
  have f1 : 0 ≤ a.fmod 4 := by rw [Int.fmod_eq_emod_of_nonneg _ (by decide)]; omega
  have f2 : a.fmod 4 < 4 := by rw [Int.fmod_eq_emod_of_nonneg _ (by decide)]; omega
  obtain ⟨w1, w2⟩ := within_cases d f1 f2
  rw [Z.execs_step (b := b__law_within) (δ' := [.fr d, .fr (.int a), .fr tA, .dead]) rfl (by simp [sm])]
  rw [Z.execs_step (δ' := [.fr d, .fr (.int a), .fr tA, .ml [.fr (.tup [.str "choice", .str "x", .lst [tA, d], .lst []]), .fr (.tup [.str "choice", .str "x", .lst [], .lst [d, tA]]), .fr (.tup [.str "block", .str "b", .lst [tA, d, tA]])]]) rfl (by simp [sm, frz, frzs])]
  have pa : ∀ xs ys : List O, prAdd (.ml xs) (.ml ys) = (allFr xs).bind fun xs => (allFr ys).bind fun ys => if xs.length + ys.length ≤ sm then some (.ml ((xs ++ ys).map .fr)) else none := fun _ _ => rfl
  have ix : ∀ (xs : List O) (i : Int), prIdx (.ml xs) (.fr (.int i)) = (elems (.ml xs)).bind fun ds => (atI ds i).map .fr := fun _ _ => rfl
  have el : elems (.ml ((lots d).map .fr)) = some (lots d) := by
    simp [elems, Z.allFr_fr]
  have pl : prAdd (.ml [.fr (.tup [.str "choice", .str "x", .lst [tA, d], .lst []]), .fr (.tup [.str "choice", .str "x", .lst [], .lst [d, tA]]), .fr (.tup [.str "block", .str "b", .lst [tA, d, tA]])]) (.ml [.fr (.tup [.str "choice", .str "y", .lst [.tup [.str "block", .str "c", .lst [d]]], .lst [tA]])]) = some (.ml ((lots d).map .fr)) := by
    rw [pa]
    simp [allFr, sm, lots]
  simp [execs_at, pr, pl, ix, el, w1, intOp, sm, frz, frzs]
end Ow.Q
end QM_
section QN_
set_option Elab.async false
set_option linter.all false
set_option maxRecDepth 100000
set_option maxHeartbeats 1000000
namespace Ow.Q
open PySem Ow.PB
open L2 (atI Key)
/-! What makes a list of items no page's items. -/
theorem step_le (ys : List Str) : ∀ acc : List Str, (ys.foldl (fun acc y => if acc.any (· == y) then acc else acc ++ [y]) acc).length ≤ acc.length + ys.length := by
  induction ys with
  | nil => intro acc; simp
  | cons y ys ih =>
    intro acc
    rw [List.foldl_cons]
    refine Nat.le_trans (ih _) ?_
    split <;> simp <;> omega
theorem uniq_app (a b : List Str) : (uniqS (a ++ b)).length ≤ (uniqS a).length + b.length := by
  unfold uniqS
  rw [List.foldl_append]
  exact step_le b _
def dup (s : List D) : Prop := (uniqS (s.filterMap blockName)).length < (s.filterMap blockName).length
theorem dup_app {s t : List D} (h : dup s) : dup (s ++ t) := by
  unfold dup at h ⊢
  rw [List.filterMap_append, List.length_append]
  have := uniq_app (s.filterMap blockName) (t.filterMap blockName)
  omega
def poor : Option (List D) → Prop
  | none => True
  | some s => dup s
def grows (f : D → List D → Option (List D)) : Prop := ∀ d seen s, f d seen = some s → ∃ t, s = seen ++ t
theorem rItems_grows {f : D → List D → Option (List D)} (h : grows f) : ∀ {xs seen s : List D}, rItems f xs seen = some s → ∃ t, s = seen ++ t
  | [], seen, s, e => by cases e; exact ⟨[], by simp⟩
  | d :: ds, seen, s, e => by
    obtain ⟨s1, e1, e2⟩ := Option.bind_eq_some_iff.mp (show (f d seen).bind (rItems f ds) = some s from e)
    obtain ⟨t1, rfl⟩ := h _ _ _ e1
    obtain ⟨t2, rfl⟩ := rItems_grows h e2
    exact ⟨t1 ++ t2, by rw [List.append_assoc]⟩
theorem rItem_grows : ∀ (k : Nat) (b : Bool), grows (rItem k b)
  | 0, _, _, _, _, h => by cases h
  | k + 1, b, d, seen, s, h => by
    unfold rItem at h
    by_cases hl : 30 ≤ seen.length
    · rw [if_pos hl] at h; cases h
    · rw [if_neg hl] at h
      split at h
      · split at h
        · cases h; exact ⟨_, rfl⟩
        · cases h
      · split at h
        · cases h; exact ⟨_, rfl⟩
        · cases h
      · split at h
        · obtain ⟨t, e⟩ := rItems_grows (rItem_grows k true) h
          exact ⟨_, by rw [e, List.append_assoc]⟩
        · cases h
      · split at h
        · obtain ⟨s1, e1, e2⟩ := Option.bind_eq_some_iff.mp h
          obtain ⟨t1, rfl⟩ := rItems_grows (rItem_grows k b) e1
          obtain ⟨t2, rfl⟩ := rItems_grows (rItem_grows k b) e2
          exact ⟨_, by rw [List.append_assoc, List.append_assoc]⟩
        · cases h
      · cases h
def Poor (b : Bool) (d : D) : Prop := ∀ k seen, poor (rItem k b d seen)
theorem poor_rest {f : D → List D → Option (List D)} (h : grows f) {o : Option (List D)} {xs : List D} (ho : poor o) : poor (o.bind (rItems f xs)) := by
  cases o with
  | none => trivial
  | some s =>
    rw [Option.bind_some]
    cases e : rItems f xs s with
    | none => trivial
    | some s2 =>
      obtain ⟨t, rfl⟩ := rItems_grows h e
      exact dup_app ho
theorem poor_items {b : Bool} {d : D} (h : Poor b d) (k : Nat) : ∀ {xs : List D}, d ∈ xs → ∀ seen, poor (rItems (rItem k b) xs seen)
  | x :: xs, m, seen => by
    show poor ((rItem k b x seen).bind (rItems (rItem k b) xs))
    rcases List.mem_cons.mp m with rfl | m
    · exact poor_rest (rItem_grows k b) (h k seen)
    · cases e : rItem k b x seen with
      | none => trivial
      | some s => exact poor_items h k m s
theorem poor_page {d : D} {xs : List D} (h : Poor false d) (m : d ∈ xs) : pageRows (.lst xs) = none := by
  have z := poor_items h 6 m []
  unfold pageRows
  cases e : rItems (rItem 6 false) xs [] with
  | none => simp only [e]
  | some s =>
    rw [e] at z
    simp only [e]
    exact if_pos z
theorem poor_block {n : D} {xs : List D} {d : D} (h : Poor true d) (m : d ∈ xs) (b : Bool) : Poor b (.tup [.str "block", n, .lst xs]) := by
  intro k seen
  cases k with
  | zero => exact trivial
  | succ k =>
    unfold rItem
    split
    · trivial
    · simp only
      split
      · exact poor_items h k m _
      · trivial
theorem poor_choice {n : D} {xs ys : List D} {d : D} {b : Bool} (h : Poor b d) (m : d ∈ xs ∨ d ∈ ys) : Poor b (.tup [.str "choice", n, .lst xs, .lst ys]) := by
  intro k seen
  cases k with
  | zero => exact trivial
  | succ k =>
    unfold rItem
    split
    · trivial
    · simp only
      split
      · rcases m with m | m
        · exact poor_rest (rItem_grows k b) (poor_items h k m _)
        · cases e : rItems (rItem k b) xs (seen ++ [.tup [.str "choice", n, .lst xs, .lst ys]]) with
          | none => trivial
          | some s => exact poor_items h k m s
      · trivial
theorem poor_within {d : D} (h : ∀ b, Poor b d) {x : D} (m : x ∈ lots d) : Poor false x := by
  unfold lots at m
  simp only [List.mem_cons, List.not_mem_nil, or_false] at m
  rcases m with rfl | rfl | rfl | rfl
  · exact poor_choice (h false) (.inl (by simp))
  · exact poor_choice (h false) (.inr (by simp))
  · exact poor_block (h true) (by simp) false
  · exact poor_choice (d := .tup [.str "block", .str "c", .lst [d]]) (poor_block (h true) (by simp) false) (.inl (by simp))
/-- more than thirty items -/
theorem rItem_adds : ∀ {k : Nat} {b : Bool} {d : D} {seen s : List D}, rItem k b d seen = some s → seen.length + 1 ≤ s.length
  | 0, _, _, _, _, h => by cases h
  | k + 1, b, d, seen, s, h => by
    unfold rItem at h
    by_cases hl : 30 ≤ seen.length
    · rw [if_pos hl] at h; cases h
    · rw [if_neg hl] at h
      split at h
      · split at h
        · cases h; simp
        · cases h
      · split at h
        · cases h; simp
        · cases h
      · split at h
        · obtain ⟨t, rfl⟩ := rItems_grows (rItem_grows k true) h
          simp <;> omega
        · cases h
      · split at h
        · obtain ⟨s1, e1, e2⟩ := Option.bind_eq_some_iff.mp h
          obtain ⟨t1, rfl⟩ := rItems_grows (rItem_grows k b) e1
          obtain ⟨t2, rfl⟩ := rItems_grows (rItem_grows k b) e2
          simp <;> omega
        · cases h
      · cases h
theorem rItems_adds {k : Nat} {b : Bool} : ∀ {xs seen s : List D}, rItems (rItem k b) xs seen = some s → seen.length + xs.length ≤ s.length
  | [], seen, s, e => by cases e; simp
  | d :: ds, seen, s, e => by
    obtain ⟨s1, e1, e2⟩ := Option.bind_eq_some_iff.mp (show (rItem k b d seen).bind (rItems (rItem k b) ds) = some s from e)
    have := rItem_adds e1
    have := rItems_adds e2
    simp only [List.length_cons]
    omega
theorem many_page {xs : List D} (h : 30 < xs.length) : pageRows (.lst xs) = none := by
  unfold pageRows
  cases e : rItems (rItem 6 false) xs [] with
  | none => simp only [e]
  | some s =>
    have a := rItems_adds e
    have b := rItems_len (fun d seen s => rItem_len d seen s) (by simp) e
    simp only [List.length_nil] at a
    omega
end Ow.Q
end QN_
section QO_
set_option Elab.async false
set_option linter.all false
set_option maxRecDepth 100000
set_option maxHeartbeats 1000000
namespace Ow.Q
open PySem Ow.PB
open L2 (atI Key)
/-! Each of the bad items. -/
def badForm : D → Bool
  | .tup [.str w] => !decide (w = "elder")
  | .tup [.str w, t] => !((decide (w = "text") && isTextD t) || (decide (w = "name") && isNameD t))
  | .tup [.str w, n, .lst _] => !(decide (w = "block") && isNameD n)
  | .tup [.str w, n, .lst _, .lst _] => !(decide (w = "choice") && isNameD n)
  | _ => true
theorem form_none {d : D} (h : badForm d = true) (k : Nat) (b : Bool) (seen : List D) : rItem k b d seen = none := by
  cases k with
  | zero => rfl
  | succ k =>
    unfold rItem
    split
    · rfl
    · split
      · exact if_neg fun z => by simp [badForm, z.1] at h
      · exact if_neg fun z => by rcases z with ⟨z1, z2⟩ | ⟨z1, z2⟩ <;> simp [badForm, z1, z2] at h
      · exact if_neg fun z => by simp [badForm, z.1, z.2] at h
      · exact if_neg fun z => by simp [badForm, z.1, z.2] at h
      · rfl
theorem form_poor {d : D} (h : badForm d = true) (b : Bool) : Poor b d := fun k seen => by rw [form_none h]; trivial
abbrev eld1 : D := .tup [.str "elder"]
abbrev eld2 : D := .tup [.str "choice", .str "x", .lst [eld1], .lst []]
def okEq (d : D) : Bool := (eqD d eld1).isSome && (eqD d eld2).isSome
def keepI (d : D) : Bool := (eqD d eld1 == some false) && (eqD d eld2 == some false)
def goodD (d : D) : Prop := san d = true ∧ okEq d = true ∧ Poor false d ∧ (keepI d = true → ∀ b, Poor b d)
def goodL (L : List D) : Prop := ∀ d ∈ L, goodD d
theorem good_plain {L : List D} (h : (L.all fun d => badForm d && san d && okEq d) = true) : goodL L := fun d m => by
  have z := List.all_eq_true.mp h d m
  simp only [Bool.and_eq_true] at z
  exact ⟨z.1.2, z.2, form_poor z.1.1 false, fun _ b => form_poor z.1.1 b⟩
theorem good_one {d : D} (h : (san d && okEq d) = true) (g : ∀ b, Poor b d) : goodD d := by
  simp only [Bool.and_eq_true] at h
  exact ⟨h.1, h.2, g false, fun _ => g⟩
theorem good_spec {d : D} (h : (san d && okEq d && !keepI d) = true) (g : Poor false d) : goodD d := by
  simp only [Bool.and_eq_true, Bool.not_eq_true'] at h
  exact ⟨h.1.1, h.1.2, g, fun z => by rw [h.2] at z; cases z⟩
theorem good_nil : goodL [] := fun _ m => nomatch m
theorem good_cons {d : D} {L : List D} (h : goodD d) (g : goodL L) : goodL (d :: L) := fun e m => by
  rcases List.mem_cons.mp m with rfl | m
  · exact h
  · exact g e m
theorem good_app {L K : List D} (h : goodL L) (g : goodL K) : goodL (L ++ K) := fun e m => by
  rcases List.mem_append.mp m with m | m
  · exact h e m
  · exact g e m
theorem poor_elder : Poor false eld1 := fun k seen => by
  cases k with
  | zero => trivial
  | succ k =>
    unfold rItem
    split
    · trivial
    · simp only [Bool.false_eq_true, and_false, if_false]; trivial
theorem poor_twice (b : Bool) : Poor b (.tup [.str "block", .str "a", .lst [.tup [.str "block", .str "a", .lst []]]]) := fun k seen => by
  generalize hd : (D.tup [.str "block", .str "a", .lst [.tup [.str "block", .str "a", .lst []]]]) = d
  cases e : rItem k b d seen with
  | none => trivial
  | some s =>
    show dup s
    subst hd
    have en : isNameD (.str "a") = true := by decide +kernel
    cases k with
    | zero => cases e
    | succ k =>
      unfold rItem at e
      split at e
      · cases e
      · simp only [en, and_self, if_true] at e
        obtain ⟨s1, e1, e2⟩ := Option.bind_eq_some_iff.mp (show (rItem k true (.tup [.str "block", .str "a", .lst []]) _).bind (rItems (rItem k true) []) = some s from e)
        cases e2
        cases k with
        | zero => cases e1
        | succ k =>
          unfold rItem at e1
          split at e1
          · cases e1
          · simp only [en, and_self, if_true] at e1
            cases e1
            unfold dup
            simp only [List.filterMap_append, List.length_append]
            have bn : ∀ x : D, [D.tup [.str "block", .str "a", x]].filterMap blockName = [("a" : Str)] := fun x => by simp [blockName]
            rw [bn, bn, List.append_assoc]
            refine Nat.lt_of_le_of_lt (m := (uniqS (seen.filterMap blockName)).length + 1) ?_ ?_
            · unfold uniqS
              rw [List.foldl_append]
              generalize ((seen.filterMap blockName).foldl _ []) = acc
              by_cases c : ("a" : Str) ∈ acc <;> simp [c]
            · have := uniq_app [] (seen.filterMap blockName)
              simp [uniqS] at this ⊢
              have t : (List.foldl (fun acc y => if acc.any (· == y) = true then acc else acc ++ [y]) [] (seen.filterMap blockName)).length ≤ (seen.filterMap blockName).length := by simpa using step_le (seen.filterMap blockName) []
              simp only [List.any_eq_true, beq_iff_eq] at t
              omega
theorem all_fold {q : Nat → Bool} : ∀ (l : List (Array Nat)) (acc : Array Nat), (∀ a ∈ l, a.all q = true) → acc.all q = true → (l.foldl (· ++ ·) acc).all q = true
  | [], acc, _, h => h
  | a :: l, acc, hl, h => by
    rw [List.foldl_cons]
    refine all_fold l _ (fun b m => hl b (List.mem_cons_of_mem _ m)) ?_
    rw [Array.all_append, h, hl a List.mem_cons_self]; rfl
theorem mul_ok (x : Str) (hx : PyData.strOk x = true) (n : Int) : PyData.strOk (Txt.mul x n) = true := by
  unfold Txt.mul
  split
  · decide +kernel
  · split
    · exact hx
    · exact all_fold _ _ (fun a m => by rw [(List.mem_replicate.mp m).2]; exact hx) (by decide +kernel)
theorem good_text (s : Str) (h : PyData.strOk s = true) (h1 : 60 < s.length) (h2 : s.length ≤ sm) : (badForm (.tup [.str "text", .str s]) && san (.tup [.str "text", .str s]) && okEq (.tup [.str "text", .str s])) = true := by
  have b1 : badForm (.tup [.str "text", .str s]) = true := by
    have : ¬ s.length ≤ 60 := by omega
    simp [badForm, isTextD, this, (by decide : ¬ ("text" : Str) = "name")]
  have k1 : PyData.strOk "text" = true := by decide +kernel
  have l1 : ("text" : Str).length ≤ sm := by decide +kernel
  have b2 : san (.tup [.str "text", .str s]) = true := by
    have l2 : [D.str "text", D.str s].length ≤ sm := by simp [sm]
    simp only [san, sans, h, k1, Bool.true_and, Bool.and_true, decide_eq_true_eq, Bool.and_eq_true]
    exact ⟨l2, l1, h2⟩
  have e1 : SeqAt.shaped (.tuple [.str "text", .str s]) = true := by simp [SeqAt.shaped, PyData.canLay0, PyData.canLayAll0, PyData.depth, PyData.depthAll, h, k1]
  have f1 : SeqAt.shaped (.tuple [.str "elder"]) = true := by decide +kernel
  have p2 : ∃ y, pd eld2 = some y ∧ SeqAt.shaped y = true := ⟨_, rfl, by decide +kernel⟩
  have p0 : pd (.tup [.str "text", .str s]) = some (.tuple [.str "text", .str s]) := rfl
  have p1 : pd eld1 = some (.tuple [.str "elder"]) := rfl
  obtain ⟨y, p2, f2⟩ := p2
  have q1 : (eqD (.tup [.str "text", .str s]) eld1).isSome = true := by
    show (eqPd _ _).isSome = true
    unfold eqPd
    rw [p0, p1]
    simp [e1, f1]
  have q2 : (eqD (.tup [.str "text", .str s]) eld2).isSome = true := by
    show (eqPd _ _).isSome = true
    unfold eqPd
    rw [p0, p2]
    simp [e1, f2]
  rw [b1, b2]
  simp [okEq, q1, q2]
theorem good_no2 (far : Int) (h0 : 0 ≤ far) : goodL (no_2 far) := by
  have f1 : 0 ≤ far.fmod 99 := Int.fmod_nonneg h0 (by decide)
  have f2 : far.fmod 99 < 99 := Int.fmod_lt_of_pos far (by decide)
  have ka : PyData.strOk "a" = true := by decide +kernel
  have la : ("a" : Str).length = 1 := by decide +kernel
  have T : ∀ j : Int, 61 ≤ j → j < 200 → (badForm (.tup [.str "text", .str (Txt.mul "a" j)]) && san (.tup [.str "text", .str (Txt.mul "a" j)]) && okEq (.tup [.str "text", .str (Txt.mul "a" j)])) = true := fun j h1 h2 => by
    have e := PyProof.Rows.len_mul "a" j
    rw [la] at e
    have d : decide (j < 0) = false := by simp; omega
    rw [d] at e
    simp at e
    exact good_text _ (mul_ok _ ka j) (by omega) (by unfold sm; omega)
  exact good_cons (good_plain (L := [_]) (by simpa using T 61 (by decide) (by decide)) _ (List.mem_singleton.mpr rfl)) (good_cons (good_plain (L := [_]) (by simpa using T (61 + far.fmod 99) (by omega) (by omega)) _ (List.mem_singleton.mpr rfl)) (good_plain (L := [_, _, _]) (by decide +kernel)))
theorem good_all (far : Int) (h0 : 0 ≤ far) : goodL (no_all far) := by
  have b7 : goodL no_7 := good_cons (good_plain (L := [_]) (by decide +kernel) _ (List.mem_singleton.mpr rfl)) (good_cons (good_one (by decide +kernel) (poor_block (d := .non) (form_poor (by decide +kernel) true) (by simp))) (good_cons (good_one (by decide +kernel) (poor_block (d := .tup [.str "text", .int 5]) (form_poor (by decide +kernel) true) (by simp))) good_nil))
  have b4 : goodL no_4 := good_cons (good_spec (by decide +kernel) poor_elder) (good_plain (L := [_]) (by decide +kernel))
  have b11 : goodL no_11 := good_cons (good_plain (L := [_]) (by decide +kernel) _ (List.mem_singleton.mpr rfl)) (good_cons (good_spec (by decide +kernel) (poor_choice (d := eld1) poor_elder (.inl (by simp)))) (good_plain (L := [_]) (by decide +kernel)))
  have b13 : goodL no_13 := good_cons (good_one (by decide +kernel) poor_twice) (good_cons (good_one (by decide +kernel) (poor_block (d := .tup [.str "choice", .str "x", .lst [], .lst [.tup [.str "elder", .int 1]]]) (poor_choice (d := .tup [.str "elder", .int 1]) (form_poor (by decide +kernel) true) (.inr (by simp))) (by simp))) good_nil)
  have pl : ∀ L : List D, (L.all fun d => badForm d && san d && okEq d) = true → goodL L := fun _ => good_plain
  unfold no_all
  refine good_app (good_app (good_app (good_app (good_app (good_app (good_app (good_app (good_app (good_app (good_app (good_app (good_app (pl no_0 (by decide +kernel)) (pl no_1 (by decide +kernel))) (good_no2 far h0)) (pl no_3 (by decide +kernel))) b4) (pl no_5 (by decide +kernel))) (pl no_6 (by decide +kernel))) b7) (pl no_8 (by decide +kernel))) (pl no_9 (by decide +kernel))) (pl no_10 (by decide +kernel))) b11) (pl no_12 (by decide +kernel))) b13
end Ow.Q
end QO_
section QP_
set_option Elab.async false
set_option linter.all false
set_option maxRecDepth 100000
set_option maxHeartbeats 1000000
namespace Ow.Q
open PySem Ow.PB
open L2 (atI Key)
open Ow.Z (run_df runDf_eq execs_at bnd_at bnd_ex lc_at lc_ex)
variable {cl : Cl} {ini : Nat → Option Nat} {pin : List Nat}
theorem add_ml {xs ys : List D} (h : xs.length + ys.length ≤ sm) : prAdd (.ml (xs.map .fr)) (.ml (ys.map .fr)) = some (.ml ((xs ++ ys).map .fr)) := by
  have a1 : prAdd (.ml (xs.map .fr)) (.ml (ys.map .fr)) = (lstOf (.ml (xs.map .fr))).bind fun xs => (lstOf (.ml (ys.map .fr))).bind fun ys => if xs.length + ys.length ≤ sm then some (.ml ((xs ++ ys).map .fr)) else none := rfl
  rw [a1, Z.lstOf_ml, Z.lstOf_ml, Z.allFr_fr, Z.allFr_fr, Option.bind_some, Option.bind_some, if_pos h]
theorem mul_ml {xs : List D} {j : Int} (h0 : -1000 ≤ j) (h1 : j ≤ 10000) (h : xs.length ≤ 10) : prMul (.ml (xs.map .fr)) (.fr (.int j)) = some (.ml (((List.replicate j.toNat xs).flatten).map .fr)) := by
  have a1 : prMul (.ml (xs.map .fr)) (.fr (.int j)) = (lstOf (.ml (xs.map .fr))).bind fun xs => if -1000 ≤ j ∧ j ≤ 10000 ∧ xs.length ≤ 10 then some (.ml (((List.replicate j.toNat xs).flatten).map .fr)) else none := rfl
  rw [a1, Z.lstOf_ml, Z.allFr_fr, Option.bind_some, if_pos ⟨h0, h1, h⟩]
/-- name += list -/
theorem step_plus {i : Nat} {X : E} {δ δ' : Env} {F ys : List D} (hi : pin.contains i = false) (hd : δ[i]? = some (.ml (F.map .fr))) (hd' : δ'[i]? = some (.ml (F.map .fr))) (hx : pk X (ev cl ini X) = bnd (ev cl ini X) fun o => ret (.vl o)) (e : ev cl ini X δ = some (.ok (.ml (ys.map .fr)) δ')) (hl : F.length + ys.length ≤ sm) : exec cl ini pin (.asg (.one i) (.prim .add (.cons (.var i) (.cons X .nil)))) δ = some (.ok .nx (δ'.set i (.ml ((F ++ ys).map .fr)))) := by
  have hi' : ¬ i ∈ pin := by simpa using hi
  have hlt : i < δ'.length := (List.getElem?_eq_some_iff.mp hd').1
  have hn : ¬ δ'.length ≤ i := by omega
  have pa : pr .add [.ml (F.map .fr), .ml (ys.map .fr)] = some (.ml ((F ++ ys).map .fr)) := add_ml hl
  rw [Z.exec_asg, Z.ev_prim, Z.bnd_bnd, Z.evs_cons, Z.pk_var, Z.bnd_bnd, Z.bnd_peekS, hd]
  dsimp only
  rw [Z.bnd_bnd, Z.evs_cons, hx, Z.bnd_bnd, Z.bnd_bnd, bnd_at e]
  simp only [Z.bnd_ret, Z.evs_nil, Z.bnd_bnd, Z.bnd_resM, Z.ress_sl, Z.ress_vl, Z.ress_nil, hd', Option.map_some, pa, Z.bnd_lift_some, Z.bnd_setS]
  rw [if_neg (by simp [hi', hlt])]
  rfl
end Ow.Q
end QP_
section QQ_
set_option Elab.async false
set_option linter.all false
set_option maxRecDepth 100000
set_option maxHeartbeats 1000000
namespace Ow.Q
open PySem Ow.PB
open L2 (atI Key)
open Ow.Z (run_df runDf_eq execs_at bnd_at bnd_ex lc_at lc_ex)
variable {p : Pg} {cl : Cl} {ini : Nat → Option Nat} {pin : List Nat}
theorem fm_some {α β : Type} (f : α → β) (xs : List α) : xs.filterMap (fun x => some (f x)) = xs.map f := by
  rw [← List.filterMap_eq_map]; rfl
/-- a comprehension over what slot 4 holds -/
theorem lc6 {e : E} {a0 a1 a2 a3 B S a7 a8 a9 a10 : O} {L : List D} (G : D → D) (hB : Lk B L) (hl : L.length ≤ sm)
    (he : ∀ d ∈ L, ∃ o, frz o = G d ∧ ev cl ini e [a0, a1, a2, a3, .fr (.lst L), S, .fr d, a7, a8, a9, a10] = some (.ok o [a0, a1, a2, a3, .fr (.lst L), S, .fr d, a7, a8, a9, a10])) :
    ev cl ini (.lc e (.one 6) (.seq .l (.var 4)) .nil) [a0, a1, a2, a3, B, S, .dead, a7, a8, a9, a10] = some (.ok (.ml ((L.map G).map .fr)) [a0, a1, a2, a3, .fr (.lst L), S, .dead, a7, a8, a9, a10]) := by
  have z := lc_at (cl := cl) (ini := ini) (e := e) (t := .one 6) (c := .nil) (it := .seq .l (.var 4)) (δ := [a0, a1, a2, a3, B, S, .dead, a7, a8, a9, a10]) (δ1 := [a0, a1, a2, a3, .fr (.lst L), S, .dead, a7, a8, a9, a10]) (ds := L)
    (fun δ => ∃ o, δ = [a0, a1, a2, a3, .fr (.lst L), S, o, a7, a8, a9, a10] ∧ (o = .dead ∨ ∃ d, o = .fr d)) (fun d => some (G d)) ?_ hl rfl ⟨.dead, rfl, .inl rfl⟩ ?_ ?_
  · rw [z, fm_some]
  · rcases hB with rfl | rfl <;> simp [itemsOf]
  · intro d hd δ ⟨o, e1, ho⟩
    subst e1
    obtain ⟨o1, f1, e2⟩ := he d hd
    refine ⟨[a0, a1, a2, a3, .fr (.lst L), S, .fr d, a7, a8, a9, a10], ?_, _, rfl, .inr ⟨_, rfl⟩⟩
    rcases ho with rfl | ⟨d0, rfl⟩ <;> (unfold Z.lcB; simp [Tg.slots, slotD, wipeS, bnd_at e2, f1])
  · intro δ ⟨o, e1, ho⟩
    subst e1
    rcases ho with rfl | ⟨d, rfl⟩ <;> simp [Tg.slots, slotD, backS]
/-- each bad item alone -/
theorem some_1 {a0 a1 a2 a3 B S a7 a8 a9 a10 : O} {L : List D} (hB : Lk B L) (hl : L.length ≤ sm) :
    ev cl ini (.lc (.lst (.cons (.var 6) .nil)) (.one 6) (.seq .l (.var 4)) .nil) [a0, a1, a2, a3, B, S, .dead, a7, a8, a9, a10] = some (.ok (.ml ((L.map fun d => .lst [d]).map .fr)) [a0, a1, a2, a3, .fr (.lst L), S, .dead, a7, a8, a9, a10]) :=
  lc6 _ hB hl fun d _ => ⟨.ml [.fr d], by simp [frz, frzs], by simp [sm]⟩
def inRow (k : Int) (d : D) : List D := (List.replicate k.toNat [tA]).flatten ++ [d] ++ (List.replicate (29 - k).toNat [tA]).flatten
theorem flat_len {α : Type} (x : α) (n : Nat) : (List.replicate n [x]).flatten.length = n := by simp
/-- each bad item in its row -/
theorem some_2 {a0 a3 B S a7 a8 a9 a10 : O} {L : List D} {k : Int} (h0 : 0 ≤ k) (h1 : k < 30) (hB : Lk B L) (hl : L.length ≤ sm) :
    ev cl ini (.lc (.prim .add (.cons (.prim .add (.cons (.prim .mul (.cons (.lst (.cons (.var 2) .nil)) (.cons (.var 1) .nil))) (.cons (.lst (.cons (.var 6) .nil)) .nil))) (.cons (.prim .mul (.cons (.lst (.cons (.var 2) .nil)) (.cons (.prim .sub (.cons (.cst (.int 29)) (.cons (.var 1) .nil))) .nil))) .nil))) (.one 6) (.seq .l (.var 4)) .nil) [a0, .fr (.int k), .fr tA, a3, B, S, .dead, a7, a8, a9, a10] = some (.ok (.ml ((L.map fun d => .lst (inRow k d)).map .fr)) [a0, .fr (.int k), .fr tA, a3, .fr (.lst L), S, .dead, a7, a8, a9, a10]) := by
  refine lc6 _ hB hl fun d _ => ⟨.ml ((inRow k d).map .fr), by simp [Z.frz_ml], ?_⟩
  have m1 : pr .mul [.ml [.fr tA], .fr (.int k)] = some (.ml (((List.replicate k.toNat [tA]).flatten).map .fr)) := mul_ml (xs := [tA]) (by omega) (by omega) (by decide)
  have m2 : pr .mul [.ml [.fr tA], .fr (.int (29 - k))] = some (.ml (((List.replicate (29 - k).toNat [tA]).flatten).map .fr)) := mul_ml (xs := [tA]) (by omega) (by omega) (by decide)
  have m3 : pr .sub [.fr (.int 29), .fr (.int k)] = some (.fr (.int (29 - k))) := rfl
  have c1 : pr .add [.ml (((List.replicate k.toNat [tA]).flatten).map .fr), .ml [.fr d]] = some (.ml (((List.replicate k.toNat [tA]).flatten ++ [d]).map .fr)) := add_ml (ys := [d]) (by rw [flat_len]; unfold sm; simp only [List.length_singleton]; omega)
  have c2 : pr .add [.ml (((List.replicate k.toNat [tA]).flatten ++ [d]).map .fr), .ml (((List.replicate (29 - k).toNat [tA]).flatten).map .fr)] = some (.ml ((inRow k d).map .fr)) := add_ml (by rw [List.length_append, flat_len, flat_len]; unfold sm; simp only [List.length_singleton]; omega)
  generalize (List.replicate k.toNat [tA]).flatten = R1 at m1 c1 c2
  generalize (List.replicate (29 - k).toNat [tA]).flatten = R2 at m2 c2
  simp only [Z.ev_prim, Z.evs_cons, Z.evs_nil, Z.pk_prim, Z.pk_lst, Z.pk_var, Z.pk_cst, Z.bnd_bnd, Z.ev_lst, Z.evd_cons, Z.evd_nil, Z.ev_var, Z.ev_cst, Z.bnd_getS, Z.bnd_peekS, List.getElem?_cons_zero, List.getElem?_cons_succ, Z.bnd_ret, Z.frz_fr, List.length_singleton, List.map_cons, List.map_nil, Z.bnd_resM, Z.ress_vl, Z.ress_sl, Z.ress_nil, Option.map_some, m1, m2, m3, c1, c2, Z.bnd_lift_some, Z.bnd_ite, if_pos (show 1 ≤ sm by decide)]
  simp [c1, m2, m1, c2]
end Ow.Q
end QQ_
section QR_
set_option Elab.async false
set_option linter.all false
set_option maxRecDepth 100000
set_option maxHeartbeats 1000000
namespace Ow.Q
open PySem Ow.PB
open L2 (atI Key)
open Ow.RW7 (b__law_within)
open Ow.Z (run_df runDf_eq execs_at bnd_at bnd_ex lc_at lc_ex)
variable {p : Pg} {cl : Cl} {ini : Nat → Option Nat} {pin : List Nat}
abbrev cInner : Es := .cons (.and_ (.prim .ne (.cons (.var 6) (.cons (.tup (.cons (.cst (.str "elder")) .nil)) .nil))) (.prim .ne (.cons (.var 6) (.cons (.tup (.cons (.cst (.str "choice")) (.cons (.cst (.str "x")) (.cons (.lst (.cons (.tup (.cons (.cst (.str "elder")) .nil)) .nil)) (.cons (.lst .nil) .nil))))) .nil)))) .nil
theorem fm_filter {α : Type} (q : α → Bool) (xs : List α) : xs.filterMap (fun x => if q x = true then some x else none) = xs.filter q := by
  induction xs with
  | nil => rfl
  | cons x xs ih =>
    rw [List.filterMap_cons, List.filter_cons]
    by_cases h : q x = true
    · rw [if_pos h, if_pos h]; exact congrArg _ ih
    · rw [if_neg h, if_neg h]; exact ih
theorem inner_lc {a0 a1 a2 a3 S a7 a8 a9 a10 : O} {L : List D} (hl : L.length ≤ sm) (hk : ∀ d ∈ L, okEq d = true) :
    ev cl ini (.lc (.var 6) (.one 6) (.seq .l (.var 4)) cInner) [a0, a1, a2, a3, .fr (.lst L), S, .dead, a7, a8, a9, a10] = some (.ok (.ml ((L.filter keepI).map .fr)) [a0, a1, a2, a3, .fr (.lst L), S, .dead, a7, a8, a9, a10]) := by
  have z := lc_at (cl := cl) (ini := ini) (e := .var 6) (t := .one 6) (c := cInner) (it := .seq .l (.var 4)) (δ := [a0, a1, a2, a3, .fr (.lst L), S, .dead, a7, a8, a9, a10]) (δ1 := [a0, a1, a2, a3, .fr (.lst L), S, .dead, a7, a8, a9, a10]) (ds := L)
    (fun δ => ∃ o, δ = [a0, a1, a2, a3, .fr (.lst L), S, o, a7, a8, a9, a10] ∧ (o = .dead ∨ ∃ d, o = .fr d)) (fun d => if keepI d = true then some d else none) ?_ hl rfl ⟨.dead, rfl, .inl rfl⟩ ?_ ?_
  · rw [z, fm_filter]
  · simp [itemsOf]
  · intro d hd δ ⟨o, e1, ho⟩
    subst e1
    have k := hk d hd
    refine ⟨[a0, a1, a2, a3, .fr (.lst L), S, .fr d, a7, a8, a9, a10], ?_, _, rfl, .inr ⟨_, rfl⟩⟩
    unfold okEq at k
    rw [Bool.and_eq_true] at k
    obtain ⟨c1, e1⟩ := Option.isSome_iff_exists.mp k.1
    obtain ⟨c2, e2⟩ := Option.isSome_iff_exists.mp k.2
    rcases ho with rfl | ⟨d0, rfl⟩ <;> (unfold Z.lcB; cases c1 <;> cases c2 <;> simp [Tg.slots, slotD, wipeS, pr, sm, frz, frzs, e1, e2, keepI])
  · intro δ ⟨o, e1, ho⟩
    subst e1
    rcases ho with rfl | ⟨d, rfl⟩ <;> simp [Tg.slots, slotD, backS]
def withs (far : Int) : Int → List D → List D
  | _, [] => []
  | k, d :: ds => .lst [withinD d ((far + k).fmod 4)] :: withs far (k + 1) ds
theorem withs_mem {far : Int} : ∀ {ds : List D} {k : Int} {x : D}, x ∈ withs far k ds → ∃ d ∈ ds, ∃ n, x = .lst [withinD d n] ∧ 0 ≤ n ∧ n < 4
  | d :: ds, k, x, m => by
    rcases List.mem_cons.mp m with rfl | m
    · have f1 : 0 ≤ (far + k).fmod 4 := by rw [Int.fmod_eq_emod_of_nonneg _ (by decide)]; omega
      have f2 : (far + k).fmod 4 < 4 := by rw [Int.fmod_eq_emod_of_nonneg _ (by decide)]; omega
      exact ⟨d, List.mem_cons_self, _, rfl, f1, f2⟩
    · obtain ⟨d', m', r⟩ := withs_mem m
      exact ⟨d', List.mem_cons_of_mem _ m', r⟩
def wG (far : Int) : D → Option D
  | .tup [.int k, d] => some (.lst [withinD d ((far + k).fmod 4)])
  | _ => none
theorem wG_num (far : Int) : ∀ (ds : List D) (k : Int), (numbered k ds).filterMap (wG far) = withs far k ds
  | [], _ => rfl
  | d :: ds, k => by
    have e : wG far (.tup [.int k, d]) = some (.lst [withinD d ((far + k).fmod 4)]) := rfl
    rw [numbered, List.filterMap_cons, e, withs]
    exact congrArg _ (wG_num far ds (k + 1))
theorem num_mem : ∀ {ds : List D} {k : Int} {x : D}, x ∈ numbered k ds → ∃ i d, x = .tup [.int i, d]
  | d :: ds, k, x, m => by
    rcases List.mem_cons.mp m with rfl | m
    · exact ⟨_, _, rfl⟩
    · exact num_mem m
theorem num_len : ∀ (ds : List D) (k : Int), (numbered k ds).length = ds.length
  | [], _ => rfl
  | d :: ds, k => congrArg (· + 1) (num_len ds (k + 1))
theorem within_lc (h55 : p.df 55 = some ⟨4, 2, b__law_within⟩) (m : Nat) {a1 a2 a3 a4 S a9 a10 : O} {L : List D} {far : Int} (hl : L.length ≤ sm) :
    ev (run p (m + 1)) ini (.lc (.lst (.cons (.call 55 (.cons (.var 6) (.cons (.prim .add (.cons (.var 0) (.cons (.var 8) .nil))) .nil))) .nil)) (.many [8, 6]) (.enum (.var 7) 0) .nil) [.fr (.int far), a1, a2, a3, a4, S, .dead, .ml (L.map .fr), .dead, a9, a10] = some (.ok (.ml ((withs far 0 L).map .fr)) [.fr (.int far), a1, a2, a3, a4, S, .dead, .fr (.lst L), .dead, a9, a10]) := by
  have z := lc_at (cl := run p (m + 1)) (ini := ini) (e := .lst (.cons (.call 55 (.cons (.var 6) (.cons (.prim .add (.cons (.var 0) (.cons (.var 8) .nil))) .nil))) .nil)) (t := .many [8, 6]) (c := .nil) (it := .enum (.var 7) 0) (δ := [.fr (.int far), a1, a2, a3, a4, S, .dead, .ml (L.map .fr), .dead, a9, a10]) (δ1 := [.fr (.int far), a1, a2, a3, a4, S, .dead, .fr (.lst L), .dead, a9, a10]) (ds := numbered 0 L)
    (fun δ => ∃ o o', δ = [.fr (.int far), a1, a2, a3, a4, S, o, .fr (.lst L), o', a9, a10] ∧ (o = .dead ∨ ∃ d, o = .fr d) ∧ (o' = .dead ∨ ∃ d, o' = .fr d)) (wG far) ?_ (by rw [num_len]; exact hl) rfl ⟨.dead, .dead, rfl, .inl rfl, .inl rfl⟩ ?_ ?_
  · rw [z, wG_num]
  · simp only [evi]
    simp [itemsOf]
  · intro d hd δ ⟨o, o', e1, ho, ho'⟩
    subst e1
    obtain ⟨i, x, rfl⟩ := num_mem hd
    have R := run_within h55 m x (far + i)
    refine ⟨[.fr (.int far), a1, a2, a3, a4, S, .fr x, .fr (.lst L), .fr (.int i), a9, a10], ?_, _, _, rfl, .inr ⟨_, rfl⟩, .inr ⟨_, rfl⟩⟩
    rcases ho with rfl | ⟨d0, rfl⟩ <;> rcases ho' with rfl | ⟨d1, rfl⟩ <;> (unfold Z.lcB; simp [Tg.slots, slotD, wipeS, pr, prAdd, sm, frz, frzs, R, wG])
  · intro δ ⟨o, o', e1, ho, ho'⟩
    subst e1
    rcases ho with rfl | ⟨d, rfl⟩ <;> rcases ho' with rfl | ⟨d1, rfl⟩ <;> simp [Tg.slots, slotD, backS]
end Ow.Q
end QR_
section QS_
set_option Elab.async false
set_option linter.all false
set_option maxRecDepth 100000
set_option maxHeartbeats 1000000
namespace Ow.Q
open PySem Ow.PB
open L2 (atI Key)
open Ow.RW7 (b__law_pages_right)
open Ow.Z (run_df runDf_eq execs_at bnd_at bnd_ex lc_at lc_ex)
variable {p : Pg} {cl : Cl} {ini : Nat → Option Nat} {pin : List Nat}
/-- six choices, one in the other -/
def deeper (b : Bool) (xs : List D) : List D := if b then [.tup [.str "choice", .str "x", .lst xs, .lst []]] else [.tup [.str "choice", .str "x", .lst [], .lst xs]]
def deep (b : Bool) : Nat → List D
  | 0 => [tA]
  | n + 1 => deeper (if n % 2 = 0 then b else !b) (deep b n)
theorem deep_none (b : Bool) : pageRows (.lst (deep b 6)) = none := by
  have z : ∀ b : Bool, (pageRows (.lst (deep b 6))).isNone = true := by decide +kernel
  have := z b
  cases h : pageRows (.lst (deep b 6)) with
  | none => rfl
  | some r => rw [h] at this; cases this
theorem rows_some {x r : D} (h : pageRows x = some r) : r = x := by
  cases x with
  | lst xs =>
    unfold pageRows at h
    cases e : rItems (rItem 6 false) xs [] with
    | none => simp [e] at h
    | some s =>
      simp only [e] at h
      by_cases c : (uniqS (s.filterMap blockName)).length < (s.filterMap blockName).length
      · rw [if_pos c] at h; simp at h
      · rw [if_neg c] at h; exact (Option.some.inj h).symm
  | _ => simp [pageRows] at h
theorem deep_some (b : Bool) : pageRows (.lst (deep b 5)) = some (.lst (deep b 5)) := by
  have z : ∀ b : Bool, (pageRows (.lst (deep b 5))).isSome = true := by decide +kernel
  obtain ⟨r, e⟩ := Option.isSome_iff_exists.mp (z b)
  rw [e, rows_some e]
theorem deep_san (b : Bool) : san (.lst (deep b 5)) = true ∧ san (.lst (deep b 6)) = true := by
  have z : ∀ b : Bool, (san (.lst (deep b 5)) && san (.lst (deep b 6))) = true := by decide +kernel
  simpa using z b
abbrev deepE : E := .ite (.prim .eq (.cons (.prim .mod (.cons (.prim .add (.cons (.var 0) (.cons (.var 10) .nil))) (.cons (.cst (.int 2)) .nil))) (.cons (.cst (.int 0)) .nil))) (.lst (.cons (.tup (.cons (.cst (.str "choice")) (.cons (.cst (.str "x")) (.cons (.var 9) (.cons (.lst .nil) .nil))))) .nil)) (.lst (.cons (.tup (.cons (.cst (.str "choice")) (.cons (.cst (.str "x")) (.cons (.lst .nil) (.cons (.var 9) .nil))))) .nil))
def parB (far : Int) : Bool := decide (far.fmod 2 = 0)
theorem deep_step (far : Int) (k : Nat) {a1 a2 a3 a4 a5 a6 a7 a8 : O} : exec cl ini [] (.asg (.one 9) deepE) [.fr (.int far), a1, a2, a3, a4, a5, a6, a7, a8, .ml ((deep (parB far) k).map .fr), .fr (.int k)] = some (.ok .nx [.fr (.int far), a1, a2, a3, a4, a5, a6, a7, a8, .ml ((deep (parB far) (k + 1)).map .fr), .fr (.int k)]) := by
  have e1 : decide ((far + (k : Int)).fmod 2 = 0) = (if k % 2 = 0 then parB far else !parB far) := by
    unfold parB
    rw [Int.fmod_eq_emod_of_nonneg _ (by decide), Int.fmod_eq_emod_of_nonneg _ (by decide)]
    by_cases hk : k % 2 = 0
    · rw [if_pos hk]
      congr 1
      exact propext ⟨fun z => by omega, fun z => by omega⟩
    · rw [if_neg hk]
      by_cases hf : far % 2 = 0
      · have : ¬ (far + (k : Int)) % 2 = 0 := by omega
        simp [hf, this]
      · have : (far + (k : Int)) % 2 = 0 := by omega
        simp [hf, this]
  have d1 : deep (parB far) (k + 1) = deeper (if k % 2 = 0 then parB far else !parB far) (deep (parB far) k) := rfl
  rw [d1, ← e1]
  generalize deep (parB far) k = xs
  by_cases c : (far + (k : Int)).fmod 2 = 0
  · simp [pr, prAdd, intOp, eqD, c, sm, frz, frzs, deeper]
  · simp [pr, prAdd, intOp, eqD, c, sm, frz, frzs, deeper]
theorem deep_loop (far : Int) {a1 a2 a3 a4 a5 a6 a7 a8 : O} : ∀ (n k : Nat) (o : O), ∃ o', loop (fun d => bnd (setS [] 10 (.fr d)) fun _ => execs cl ini [] (.cons (.asg (.one 9) deepE) .nil)) (ranged k n) [.fr (.int far), a1, a2, a3, a4, a5, a6, a7, a8, .ml ((deep (parB far) k).map .fr), o] = some (.ok .nx [.fr (.int far), a1, a2, a3, a4, a5, a6, a7, a8, .ml ((deep (parB far) (k + n)).map .fr), o'])
  | 0, k, o => ⟨o, rfl⟩
  | n + 1, k, o => by
    obtain ⟨o', e⟩ := deep_loop far (a1 := a1) (a2 := a2) (a3 := a3) (a4 := a4) (a5 := a5) (a6 := a6) (a7 := a7) (a8 := a8) n (k + 1) (.fr (.int k))
    refine ⟨o', ?_⟩
    have st := deep_step (cl := cl) (ini := ini) far k (a1 := a1) (a2 := a2) (a3 := a3) (a4 := a4) (a5 := a5) (a6 := a6) (a7 := a7) (a8 := a8)
    have st2 : (fun d => bnd (setS [] 10 (.fr d)) fun _ => execs cl ini [] (.cons (.asg (.one 9) deepE) .nil)) (.int k) [.fr (.int far), a1, a2, a3, a4, a5, a6, a7, a8, .ml ((deep (parB far) k).map .fr), o] = some (.ok .nx [.fr (.int far), a1, a2, a3, a4, a5, a6, a7, a8, .ml ((deep (parB far) (k + 1)).map .fr), .fr (.int k)]) := by
      refine Eq.trans (Z.bnd_setS (pin := [])) ?_
      show execs cl ini [] _ _ = _
      rw [execs_at]
      exact bnd_at st
    rw [ranged, Z.loop_nx st2, show k + (n + 1) = k + 1 + n from by omega]
    exact e
end Ow.Q
end QS_
section QT_
set_option Elab.async false
set_option linter.all false
set_option maxRecDepth 100000
set_option maxHeartbeats 1000000
namespace Ow.Q
open PySem
/-- the program, with the law's defs -/
def pgT : Pg := ⟨Ow.RW7.df, fun c => match c with | 0 => some 100 | 1 => some 102 | _ => none, fun _ _ _ => none⟩
theorem cls_T : ClsDefs pgT where
  h0 := rfl
  h1 := rfl
  h2 := rfl
  h3 := rfl
  h4 := rfl
  h5 := rfl
  m0 := rfl
  m1 := rfl
  m2 := rfl
  m3 := rfl
  m4 := rfl
  m5 := rfl
  h7 := rfl
  h8 := rfl
  i0 := rfl
  i1 := rfl
theorem l7_T : L7 pgT where
  toClsDefs := cls_T
  l0 := rfl
  l1 := rfl
  l2 := rfl
  l3 := rfl
  f52 := rfl
  f53 := rfl
def is3 (r : Option (Rs O)) : Bool := match r with
  | some (.ok (.fr (.tup ds)) _) => ds.length == 3
  | _ => false
theorem told_deep (b : Bool) : ∃ ds os, run pgT 29 101 [.ob 0 pgN [.fr (.str "a"), .fr (.lst (deep b 5)), .fr .non]] = some (.ok (.fr (.tup ds)) os) ∧ ds.length = 3 := by
  have z : ∀ b : Bool, is3 (run pgT 29 101 [.ob 0 pgN [.fr (.str "a"), .fr (.lst (deep b 5)), .fr .non]]) = true := by decide +kernel
  have z := z b
  unfold is3 at z
  split at z
  · rename_i ds os e
    exact ⟨ds, os, e, by simpa using z⟩
  · cases z
end Ow.Q
end QT_
section QU_
set_option Elab.async false
set_option linter.all false
set_option maxRecDepth 100000
set_option maxHeartbeats 1000000
namespace Ow.Q
open PySem Ow.PB
open L2 (atI Key)
open Ow.RW7 (b__law_pages_right)
open Ow.Z (run_df runDf_eq execs_at bnd_at bnd_ex lc_at lc_ex)
abbrev badNames : List D := [.int 5, .str "", .str "A", .str "a b", .str "abcdefghi", .str "a1", .lst [.str "a"], .tup [.str "a"], .bl true, .str "a\n", .str "_"]
theorem names_bad : ∀ x ∈ badNames, isNameD x = false ∧ eldOk x = false ∧ notLam x = true ∧ San1 x := by
  have z : (badNames.all fun x => !isNameD x && !eldOk x && notLam x && (match x with | .str s => decide (s.length ≤ sm) | .lam _ => false | _ => true)) = true := by decide +kernel
  intro x m
  have z := List.all_eq_true.mp z x m
  simp only [Bool.and_eq_true, Bool.not_eq_true'] at z
  refine ⟨z.1.1.1, z.1.1.2, z.1.2, ?_⟩
  cases x with
  | str s => simpa [San1] using z.2
  | lam i => cases z.2
  | _ => trivial
theorem names_ref : ∀ j ∈ [0, 1], ∀ x ∈ badNames, notLam x = true ∧ Ref pgT 27 j 0 x := by
  intro j hj x m
  obtain ⟨n1, n2, n3, n4⟩ := names_bad x m
  refine ⟨n3, ?_⟩
  rcases List.mem_cons.mp hj with rfl | hj
  · refine ref_0 l7_T 9 x n4 ?_
    unfold pageF
    rw [n1]; rfl
  · have hj : j = 1 := by simpa using hj
    subst hj
    refine ref_1 l7_T 9 x n4 ?_
    unfold pageF
    rw [n2]
    exact if_neg (by simp)
theorem names_call : ∃ B', run pgT 29 53 [.ml [.fr (.lam 0), .fr (.lam 1)], .ml (badNames.map .fr), .fr (.int 0)] = some (.ok (.fr (.bl true)) [.fr (.lst [.lam 0, .lam 1]), B', .fr (.int 0)]) := by
  obtain ⟨B', _, e⟩ := run_all l7_T 27 0 (.inl rfl) (.ml [.fr (.lam 0), .fr (.lam 1)]) (.ml (badNames.map .fr)) [0, 1] badNames (.inr rfl) (.inr rfl) (by decide +kernel) names_ref
  exact ⟨B', e⟩
/-- the things that are no list of items of a page -/
def firsts (far : Int) : List D := [.non, .int 5, .str "text", .tup [tA], .dic [] [], .bl true, .lst (List.replicate 31 [tA]).flatten, .lst (List.replicate (31 + far.fmod 9).toNat [tA]).flatten]
def things (far : Int) : List D := ((((firsts far ++ (no_all far).map fun d => .lst [d]) ++ (no_all far).map fun d => .lst (inRow (far.fmod 30) d)) ++ withs far 0 ((no_all far).filter keepI)) ++ [.lst [.tup [.str "block", .str "a", .lst []], tA, .tup [.str "block", .str "a", .lst []]]]) ++ [.lst [.tup [.str "block", .str "b", .lst []], .tup [.str "choice", .str "x", .lst [], .lst [.tup [.str "block", .str "b", .lst []]]]]]
def okT (x : D) : Prop := san x = true ∧ pageRows x = none
theorem sans_of {xs : List D} (h : ∀ d ∈ xs, san d = true) : sans xs = true := by
  induction xs with
  | nil => rfl
  | cons x xs ih =>
    unfold sans
    rw [h x List.mem_cons_self, ih fun d m => h d (List.mem_cons_of_mem _ m)]; rfl
theorem san_lst {xs : List D} (hl : xs.length ≤ sm) (h : ∀ d ∈ xs, san d = true) : san (.lst xs) = true := by
  unfold san
  rw [sans_of h, Bool.and_true]
  exact decide_eq_true hl
theorem san_tA : san tA = true := by decide +kernel
theorem rep_tA {n : Nat} {d : D} (m : d ∈ (List.replicate n [tA]).flatten) : d = tA := by simpa using (by simpa using m : _ ∧ _).2
theorem things_ok (far : Int) (h0 : 0 ≤ far) : ∀ x ∈ things far, okT x := by
  have G := good_all far h0
  have f1 : 0 ≤ far.fmod 9 := Int.fmod_nonneg h0 (by decide)
  have f2 : far.fmod 9 < 9 := Int.fmod_lt_of_pos far (by decide)
  intro x m
  unfold things at m
  simp only [List.mem_append, List.mem_map] at m
  rcases m with ((((m | ⟨d, md, rfl⟩) | ⟨d, md, rfl⟩) | m) | m) | m
  · unfold firsts at m
    simp only [List.mem_cons, List.not_mem_nil, or_false] at m
    rcases m with rfl | rfl | rfl | rfl | rfl | rfl | rfl | rfl
    · exact ⟨by decide +kernel, rfl⟩
    · exact ⟨by decide +kernel, rfl⟩
    · exact ⟨by decide +kernel, rfl⟩
    · exact ⟨by decide +kernel, rfl⟩
    · exact ⟨by decide +kernel, rfl⟩
    · exact ⟨by decide +kernel, rfl⟩
    · exact ⟨san_lst (by rw [flat_len]; decide) fun d m => by rw [rep_tA m]; exact san_tA, many_page (by rw [flat_len]; decide)⟩
    · exact ⟨san_lst (by rw [flat_len]; unfold sm; omega) fun d m => by rw [rep_tA m]; exact san_tA, many_page (by rw [flat_len]; omega)⟩
  · obtain ⟨s, _, q, _⟩ := G d md
    exact ⟨san_lst (by simp [sm]) fun e m => by rw [List.mem_singleton.mp m]; exact s, poor_page q (List.mem_singleton.mpr rfl)⟩
  · obtain ⟨s, _, q, _⟩ := G d md
    have g1 : 0 ≤ far.fmod 30 := Int.fmod_nonneg h0 (by decide)
    have g2 : far.fmod 30 < 30 := Int.fmod_lt_of_pos far (by decide)
    refine ⟨san_lst ?_ fun e m => ?_, poor_page q ?_⟩
    · unfold inRow
      rw [List.length_append, List.length_append, flat_len, flat_len]
      unfold sm
      simp only [List.length_singleton]
      omega
    · unfold inRow at m
      rcases List.mem_append.mp m with m | m
      · rcases List.mem_append.mp m with m | m
        · rw [rep_tA m]; exact san_tA
        · rw [List.mem_singleton.mp m]; exact s
      · rw [rep_tA m]; exact san_tA
    · unfold inRow
      exact List.mem_append_left _ (List.mem_append_right _ (List.mem_singleton.mpr rfl))
  · obtain ⟨d, md, n, rfl, n0, n4⟩ := withs_mem m
    obtain ⟨md, kd⟩ := List.mem_filter.mp md
    obtain ⟨s, _, _, q⟩ := G d md
    obtain ⟨w1, w2⟩ := within_cases d n0 n4
    refine ⟨san_lst (by simp [sm]) fun e m => ?_, poor_page (poor_within (q kd) w2) (List.mem_singleton.mpr rfl)⟩
    rw [List.mem_singleton.mp m]
    have sA := san_tA
    generalize withinD d n = y at w2
    unfold lots at w2
    simp only [List.mem_cons, List.not_mem_nil, or_false] at w2
    have k1 : ∀ x : D, x ∈ [D.str "choice", .str "x", .str "block", .str "b", .str "y", .str "c"] → san x = true := fun x m => by
      have z : ([D.str "choice", .str "x", .str "block", .str "b", .str "y", .str "c"].all san) = true := by decide +kernel
      exact List.all_eq_true.mp z x m
    rcases w2 with rfl | rfl | rfl | rfl
    all_goals
      simp only [san, sans, s, Bool.and_true, Bool.true_and, List.length_cons, List.length_nil, Bool.and_eq_true, decide_eq_true_eq]
      repeat' apply And.intro
      all_goals decide +kernel
  · rw [List.mem_singleton.mp m]
    refine ⟨by decide +kernel, ?_⟩
    have z : (pageRows (.lst [.tup [.str "block", .str "a", .lst []], tA, .tup [.str "block", .str "a", .lst []]])).isNone = true := by decide +kernel
    exact Option.isNone_iff_eq_none.mp z
  · rw [List.mem_singleton.mp m]
    refine ⟨by decide +kernel, ?_⟩
    have z : (pageRows (.lst [.tup [.str "block", .str "b", .lst []], .tup [.str "choice", .str "x", .lst [], .lst [.tup [.str "block", .str "b", .lst []]]]])).isNone = true := by decide +kernel
    exact Option.isNone_iff_eq_none.mp z
end Ow.Q
end QU_
section QX_
set_option Elab.async false
set_option linter.all false
set_option maxRecDepth 100000
set_option maxHeartbeats 2000000
namespace Ow.Q
open PySem Ow.PB
open L2 (atI Key)
open Ow.RW7 (b__law_pages_right)
open Ow.Z (run_df runDf_eq execs_at bnd_at bnd_ex lc_at lc_ex)
theorem no_len (far : Int) : (no_all far).length = 41 := by
  simp [no_all, no_0, no_1, no_2, no_3, no_4, no_5, no_6, no_7, no_8, no_9, no_10, no_11, no_12, no_13]
theorem withs_len (far : Int) : ∀ (ds : List D) (k : Int), (withs far k ds).length = ds.length
  | [], _ => rfl
  | d :: ds, k => congrArg (· + 1) (withs_len far ds (k + 1))
theorem inner_len (far : Int) : ((no_all far).filter keepI).length ≤ 41 := by
  have := List.length_filter_le keepI (no_all far)
  rw [no_len] at this
  exact this
abbrev namesD : List D := [.non, .int 5, .str "", .str "A", .str "a b", .str "abcdefghi", .str "a1", .lst [.str "a"], .tup [.str "a"], .bl true, .str "a\n"]
abbrev allNames : E := .call 53 (.cons (.lst (.cons (.lam 0) (.cons (.lam 1) .nil))) (.cons (.prim .add (.cons (.prim (.slc true false) (.cons (.var 3) (.cons (.cst (.int 1)) .nil))) (.cons (.lst (.cons (.cst (.str "_")) .nil)) .nil))) (.cons (.cst (.int 0)) .nil)))
theorem names_ev {a0 a1 a2 : O} : ev (run pgT 29) pgT.ini allNames [a0, a1, a2, .ml (namesD.map .fr), .dead, .dead, .dead, .dead, .dead, .dead, .dead] = some (.ok (.fr (.bl true)) [a0, a1, a2, .ml (namesD.map .fr), .dead, .dead, .dead, .dead, .dead, .dead, .dead]) := by
  obtain ⟨B', e⟩ := names_call
  have s1 : prSl (some 1) none (.ml (namesD.map .fr)) = some (.ml ((namesD.drop 1).map .fr)) := by
    have a1 : prSl (some 1) none (.ml (namesD.map .fr)) = (lstOf (.ml (namesD.map .fr))).map fun xs => .ml ((cutD xs (some 1) none).map .fr) := rfl
    have c : ∀ xs : List D, xs.length = 11 → cutD xs (some 1) none = xs.drop 1 := fun xs h => by
      unfold cutD
      rw [h]
      rw [show HT.sIx 11 0 (some 1) = 1 from by decide +kernel, show HT.sIx 11 11 none = 11 from by decide +kernel, List.take_of_length_le (by rw [List.length_drop, h]; decide)]
    rw [a1, Z.lstOf_ml, Z.allFr_fr, Option.map_some, c _ rfl]
  have p1 : prAdd (.ml ((namesD.drop 1).map .fr)) (.ml [.fr (.str "_")]) = some (.ml (badNames.map .fr)) := add_ml (xs := namesD.drop 1) (ys := [.str "_"]) (by simp [sm])
  generalize namesD.map O.fr = NS at s1
  generalize badNames.map O.fr = BS at p1 e
  generalize (namesD.drop 1).map O.fr = CS at s1 p1
  simp [pr, s1, p1, sm, frz, frzs, callM, e]
end Ow.Q
end QX_
section QY_
set_option Elab.async false
set_option linter.all false
set_option maxRecDepth 100000
set_option maxHeartbeats 2000000
namespace Ow.Q
open PySem Ow.PB
open L2 (atI Key)
open Ow.RW7 (b__law_pages_right)
open Ow.Z (run_df runDf_eq execs_at bnd_at bnd_ex lc_at lc_ex)
variable {cl : Cl} {ini : Nat → Option Nat}
abbrev firstE : E := .lst (.cons (.cst .non) (.cons (.cst (.int 5)) (.cons (.cst (.str "text")) (.cons (.tup (.cons (.var 2) .nil)) (.cons (.dnew false) (.cons (.cst (.bl true)) (.cons (.prim .mul (.cons (.lst (.cons (.var 2) .nil)) (.cons (.cst (.int 31)) .nil))) (.cons (.prim .mul (.cons (.lst (.cons (.var 2) .nil)) (.cons (.prim .add (.cons (.cst (.int 31)) (.cons (.prim .mod (.cons (.var 0) (.cons (.cst (.int 9)) .nil))) .nil))) .nil))) .nil))))))))
theorem first_ev {far : Int} (h0 : 0 ≤ far) {a1 a3 B a5 a6 a7 a8 a9 a10 : O} : ev cl ini firstE [.fr (.int far), a1, .fr tA, a3, B, a5, a6, a7, a8, a9, a10] = some (.ok (.ml ((firsts far).map .fr)) [.fr (.int far), a1, .fr tA, a3, B, a5, a6, a7, a8, a9, a10]) := by
  have f1 : 0 ≤ far.fmod 9 := Int.fmod_nonneg h0 (by decide)
  have f2 : far.fmod 9 < 9 := Int.fmod_lt_of_pos far (by decide)
  have m1 : pr .mul [.ml [.fr tA], .fr (.int 31)] = some (.ml (((List.replicate 31 [tA]).flatten).map .fr)) := mul_ml (xs := [tA]) (j := 31) (by decide) (by decide) (by decide)
  have m2 : pr .mul [.ml [.fr tA], .fr (.int (31 + far.fmod 9))] = some (.ml (((List.replicate (31 + far.fmod 9).toNat [tA]).flatten).map .fr)) := mul_ml (xs := [tA]) (by omega) (by omega) (by decide)
  have m3 : pr .mod [.fr (.int far), .fr (.int 9)] = some (.fr (.int (far.fmod 9))) := rfl
  have m4 : pr .add [.fr (.int 31), .fr (.int (far.fmod 9))] = some (.fr (.int (31 + far.fmod 9))) := rfl
  unfold firsts
  generalize (List.replicate 31 [tA]).flatten = R1 at m1
  generalize (List.replicate (31 + far.fmod 9).toNat [tA]).flatten = R2 at m2
  have z1 : frz (.ml (R1.map .fr)) = .lst R1 := Z.frz_ml
  have z2 : frz (.ml (R2.map .fr)) = .lst R2 := Z.frz_ml
  have z3 : frz (.md [] []) = .dic [] [] := by simp only [frz, frzs]
  generalize R1.map O.fr = S1 at m1 z1
  generalize R2.map O.fr = S2 at m2 z2
  simp [m1, m2, m3, m4, z1, z2, z3, sm]
theorem some_0 {far k : Int} (h0 : 0 ≤ far) {a3 B a7 a8 a9 a10 : O} {L : List D} (hB : Lk B L) (hl : L.length ≤ 41) :
    exec cl ini [] (.asg (.one 5) (.prim .add (.cons firstE (.cons (.lc (.lst (.cons (.var 6) .nil)) (.one 6) (.seq .l (.var 4)) .nil) .nil)))) [.fr (.int far), .fr (.int k), .fr tA, a3, B, .dead, .dead, a7, a8, a9, a10] = some (.ok .nx [.fr (.int far), .fr (.int k), .fr tA, a3, .fr (.lst L), .ml ((firsts far ++ L.map fun d => D.lst [d]).map .fr), .dead, a7, a8, a9, a10]) := by
  have e1 := first_ev (cl := cl) (ini := ini) h0 (a1 := .fr (.int k)) (a3 := a3) (B := B) (a5 := .dead) (a6 := .dead) (a7 := a7) (a8 := a8) (a9 := a9) (a10 := a10)
  have e2 := some_1 (cl := cl) (ini := ini) (a0 := .fr (.int far)) (a1 := .fr (.int k)) (a2 := .fr tA) (a3 := a3) (S := .dead) (a7 := a7) (a8 := a8) (a9 := a9) (a10 := a10) hB (by unfold sm; omega)
  have p1 : pr .add [.ml ((firsts far).map .fr), .ml ((L.map fun d => D.lst [d]).map .fr)] = some (.ml ((firsts far ++ L.map fun d => D.lst [d]).map .fr)) := add_ml (xs := firsts far) (ys := L.map fun d => D.lst [d]) (by simp [firsts, sm]; omega)
  rw [Z.exec_asg, Z.ev_prim, Z.bnd_bnd, Z.evs_cons, Z.pk_lst, Z.bnd_bnd, Z.bnd_bnd, bnd_at e1]
  simp only [Z.bnd_ret, Z.evs_cons, Z.pk_lc, Z.bnd_bnd, Z.evs_nil]
  rw [bnd_at e2]
  simp only [Z.bnd_ret, Z.bnd_bnd, Z.bnd_resM, Z.ress_vl, Z.ress_nil, Option.map_some, p1, Z.bnd_lift_some, Z.bnd_setS]
  rfl
end Ow.Q
end QY_
section QZ_
set_option Elab.async false
set_option linter.all false
set_option maxRecDepth 100000
set_option maxHeartbeats 2000000
namespace Ow.Q
open PySem Ow.PB
open L2 (atI Key)
open Ow.RW7 (b__law_pages_right)
open Ow.Z (run_df runDf_eq execs_at bnd_at bnd_ex lc_at lc_ex)
theorem things_len (far : Int) : (things far).length ≤ 140 := by
  unfold things
  have := inner_len far
  simp only [List.length_append, List.length_map, withs_len, no_len, List.length_singleton]
  simp only [firsts, List.length_cons, List.length_nil]
  omega
theorem all_pages (far : Int) (h0 : 0 ≤ far) : ∃ B', run pgT 29 53 [.ml [.fr (.lam 2)], .ml ((things far ++ [D.lst (deep (parB far) 6)]).map .fr), .fr (.int 0)] = some (.ok (.fr (.bl true)) [.fr (.lst [.lam 2]), B', .fr (.int 0)]) := by
  have r : ∀ x ∈ things far ++ [D.lst (deep (parB far) 6)], notLam x = true ∧ Ref pgT 27 2 0 x := by
    intro x m
    have ok : okT x := by
      rcases List.mem_append.mp m with m | m
      · exact things_ok far h0 x m
      · rw [List.mem_singleton.mp m]
        exact ⟨(deep_san _).2, deep_none _⟩
    refine ⟨?_, ref_2 l7_T 9 x ok.1 ok.2⟩
    have s := ok.1
    cases x with
    | lam i => cases s
    | _ => rfl
  obtain ⟨B', _, e⟩ := run_all l7_T 27 0 (.inl rfl) (.ml [.fr (.lam 2)]) (.ml ((things far ++ [D.lst (deep (parB far) 6)]).map .fr)) [2] _ (.inr rfl) (.inr rfl) (by have := things_len far; rw [List.length_append]; unfold sm; simp only [List.length_singleton]; omega) (fun j hj => by rw [List.mem_singleton.mp hj]; exact r)
  exact ⟨B', e⟩
abbrev endE : E := .prim .eq (.cons (.prim .len (.cons (.meth 0 "told" 101 (.make 0 (.cons (.cst (.str "a")) (.cons (.prim .add (.cons (.prim .idx (.cons (.prim .idx (.cons (.var 9) (.cons (.cst (.int 0)) .nil))) (.cons (.cst (.int 2)) .nil))) (.cons (.prim .idx (.cons (.prim .idx (.cons (.var 9) (.cons (.cst (.int 0)) .nil))) (.cons (.cst (.int 3)) .nil))) .nil))) .nil)) [.non]) .nil) .nil)) (.cons (.cst (.int 3)) .nil))
theorem end_ev (b : Bool) {x0 x1 x2 x3 x4 x5 x6 x7 x8 x10 : O} : ev (run pgT 29) pgT.ini endE [x0, x1, x2, x3, x4, x5, x6, x7, x8, .fr (.lst (deep b 6)), x10] = some (.ok (.fr (.bl true)) [x0, x1, x2, x3, x4, x5, x6, x7, x8, .fr (.lst (deep b 6)), x10]) := by
  cases b <;> kernel_rfl
abbrev allE : E := .call 53 (.cons (.lst (.cons (.lam 2) .nil)) (.cons (.prim .add (.cons (.var 5) (.cons (.lst (.cons (.var 9) .nil)) .nil))) (.cons (.cst (.int 0)) .nil)))
theorem last_line (b : Bool) {X : List D} {B' : O} (AP : run pgT 29 53 [.ml [.fr (.lam 2)], .ml ((X ++ [D.lst (deep b 6)]).map .fr), .fr (.int 0)] = some (.ok (.fr (.bl true)) [.fr (.lst [.lam 2]), B', .fr (.int 0)])) (hl : X.length + 1 ≤ sm) {x0 x1 x2 x3 x4 x6 x7 x8 x10 : O} : exec (run pgT 29) pgT.ini [] (.rt false (.and_ allE endE)) [x0, x1, x2, x3, x4, .ml (X.map .fr), x6, x7, x8, .ml ((deep b (0 + 6)).map .fr), x10] = some (.ok (.rt (.fr (.bl true))) [x0, x1, x2, x3, x4, .ml (X.map .fr), x6, x7, x8, .fr (.lst (deep b 6)), x10]) := by
  have z6 : 0 + 6 = 6 := rfl
  rw [z6]
  have e2 := end_ev b (x0 := x0) (x1 := x1) (x2 := x2) (x3 := x3) (x4 := x4) (x5 := .ml (X.map .fr)) (x6 := x6) (x7 := x7) (x8 := x8) (x10 := x10)
  have p1 : prAdd (.ml (X.map .fr)) (.ml [.fr (.lst (deep b 6))]) = some (.ml ((X ++ [D.lst (deep b 6)]).map .fr)) := add_ml (xs := X) (ys := [.lst (deep b 6)]) (by simpa using hl)
  have z1 : frz (.ml ((deep b 6).map .fr)) = .lst (deep b 6) := Z.frz_ml
  generalize (X ++ [D.lst (deep b 6)]).map O.fr = XS at AP p1
  have e1 : ev (run pgT 29) pgT.ini allE [x0, x1, x2, x3, x4, .ml (X.map .fr), x6, x7, x8, .ml ((deep b 6).map .fr), x10] = some (.ok (.fr (.bl true)) [x0, x1, x2, x3, x4, .ml (X.map .fr), x6, x7, x8, .fr (.lst (deep b 6)), x10]) := by
    generalize X.map O.fr = XO at p1
    generalize deep b 6 = DS at p1 z1
    generalize DS.map O.fr = DO at z1
    have z2 : frzs DO = DS := D.lst.inj z1
    simp [pr, p1, z1, z2, sm, frz, frzs, callM, AP]
  generalize endE = EE at e2
  generalize allE = AE at e1
  simp [bnd_at e1, bnd_at e2]
theorem run_56 (far : Int) (h0 : 0 ≤ far) : run pgT 30 56 [.fr (.int far)] = some (.ok (.fr (.bl true)) [.fr (.int far)]) := by
  rw [run_df (p := pgT) (d := ⟨11, 1, b__law_pages_right⟩) rfl, runDf_eq rfl]
  have pe : pins [.fr (.int far)] = [] := rfl
  rw [pe]
  show Z.finish _ (execs _ _ _ b__law_pages_right [.fr (.int far), .dead, .dead, .dead, .dead, .dead, .dead, .dead, .dead, .dead, .dead]) = _
  have g1 : 0 ≤ far.fmod 30 := Int.fmod_nonneg h0 (by decide)
  have g2 : far.fmod 30 < 30 := Int.fmod_lt_of_pos far (by decide)
  generalize hk : far.fmod 30 = k at g1 g2
  have t1 : exec (run pgT 29) pgT.ini [] (.asg (.many [1, 2]) (.tup (.cons (.prim .mod (.cons (.var 0) (.cons (.cst (.int 30)) .nil))) (.cons (.tup (.cons (.cst (.str "text")) (.cons (.cst (.str "a")) .nil))) .nil)))) [.fr (.int far), .dead, .dead, .dead, .dead, .dead, .dead, .dead, .dead, .dead, .dead] = some (.ok .nx [.fr (.int far), .fr (.int k), .fr tA, .dead, .dead, .dead, .dead, .dead, .dead, .dead, .dead]) := by
    rw [← hk]
    simp [pr, intOp, sm]
  rw [Z.execs_step (b := b__law_pages_right) rfl t1]
  rw [Z.execs_step (δ' := [.fr (.int far), .fr (.int k), .fr tA, .ml (namesD.map .fr), .dead, .dead, .dead, .dead, .dead, .dead, .dead]) rfl (by simp [sm, frz, frzs])]
  have t3 : exec (run pgT 29) pgT.ini [] (.ife (.not_ allNames) (.cons (.rt false (.cst (.bl false))) .nil) .nil) [.fr (.int far), .fr (.int k), .fr tA, .ml (namesD.map .fr), .dead, .dead, .dead, .dead, .dead, .dead, .dead] = some (.ok .nx [.fr (.int far), .fr (.int k), .fr tA, .ml (namesD.map .fr), .dead, .dead, .dead, .dead, .dead, .dead, .dead]) := by
    rw [Z.exec_ife, Z.ev_not, Z.bnd_bnd, bnd_at names_ev]
    rfl
  rw [Z.execs_step rfl t3]
  generalize O.ml (namesD.map .fr) = N3
  have R54 := run_no (p := pgT) rfl 28 far h0
  rw [Z.execs_step (δ' := [.fr (.int far), .fr (.int k), .fr tA, N3, .ml ((no_all far).map .fr), .dead, .dead, .dead, .dead, .dead, .dead]) rfl (by simp [R54])]
  have nl := no_len far
  have il := inner_len far
  have ok : ∀ d ∈ no_all far, okEq d = true := fun d m => (good_all far h0 d m).2.1
  have TH : things far = ((((firsts far ++ (no_all far).map fun d => .lst [d]) ++ (no_all far).map fun d => .lst (inRow k d)) ++ withs far 0 ((no_all far).filter keepI)) ++ [.lst [.tup [.str "block", .str "a", .lst []], tA, .tup [.str "block", .str "a", .lst []]]]) ++ [.lst [.tup [.str "block", .str "b", .lst []], .tup [.str "choice", .str "x", .lst [], .lst [.tup [.str "block", .str "b", .lst []]]]]] := by rw [← hk]; rfl
  have fl : (firsts far).length = 8 := rfl
  obtain ⟨B', AP⟩ := all_pages far h0
  have tl := things_len far
  rw [Z.execs_step rfl (some_0 h0 (.inr rfl) (by omega))]
  rw [Z.execs_step rfl (step_plus (i := 5) rfl rfl rfl rfl (some_2 g1 g2 (.inl rfl) (by unfold sm; omega)) (by simp only [List.length_append, List.length_map, nl, fl]; decide))]
  have t7 : exec (run pgT 29) pgT.ini [] (.asg (.one 7) (.lc (.var 6) (.one 6) (.seq .l (.var 4)) cInner)) [.fr (.int far), .fr (.int k), .fr tA, N3, .fr (.lst (no_all far)), .ml (((firsts far ++ (no_all far).map fun d => D.lst [d]) ++ (no_all far).map fun d => D.lst (inRow k d)).map .fr), .dead, .dead, .dead, .dead, .dead] = some (.ok .nx [.fr (.int far), .fr (.int k), .fr tA, N3, .fr (.lst (no_all far)), .ml (((firsts far ++ (no_all far).map fun d => D.lst [d]) ++ (no_all far).map fun d => D.lst (inRow k d)).map .fr), .dead, .ml (((no_all far).filter keepI).map .fr), .dead, .dead, .dead]) := by
    rw [Z.exec_asg, bnd_at (inner_lc (by unfold sm; omega) ok)]
    rfl
  refine Eq.trans (congrArg _ (Z.execs_step rfl t7)) ?_
  refine Eq.trans (congrArg _ (Z.execs_step rfl (step_plus (i := 5) rfl rfl rfl rfl (within_lc (p := pgT) rfl 28 (by unfold sm; omega)) (by simp only [List.length_append, List.length_map, nl, fl, withs_len]; unfold sm; omega)))) ?_
  generalize hT : ((firsts far ++ (no_all far).map fun d => D.lst [d]) ++ (no_all far).map fun d => D.lst (inRow k d)) ++ withs far 0 ((no_all far).filter keepI) = T1 at TH
  have T1l : T1.length ≤ 140 := by rw [TH, List.length_append, List.length_append] at tl; omega
  generalize ((no_all far).filter keepI) = I7
  generalize no_all far = NA
  refine Eq.trans (congrArg _ (Z.execs_step rfl (step_plus (i := 5) (F := T1) (ys := [D.lst [.tup [.str "block", .str "a", .lst []], tA, .tup [.str "block", .str "a", .lst []]]]) (δ' := [.fr (.int far), .fr (.int k), .fr tA, N3, .fr (.lst NA), .ml (T1.map .fr), .dead, .fr (.lst I7), .dead, .dead, .dead]) rfl rfl rfl rfl (by kernel_rfl) (by simp only [List.length_singleton]; unfold sm; omega)))) ?_
  refine Eq.trans (congrArg _ (Z.execs_step rfl (step_plus (i := 5) (ys := [D.lst [.tup [.str "block", .str "b", .lst []], .tup [.str "choice", .str "x", .lst [], .lst [.tup [.str "block", .str "b", .lst []]]]]]) (δ' := [.fr (.int far), .fr (.int k), .fr tA, N3, .fr (.lst NA), .ml ((T1 ++ [D.lst [.tup [.str "block", .str "a", .lst []], tA, .tup [.str "block", .str "a", .lst []]]]).map .fr), .dead, .fr (.lst I7), .dead, .dead, .dead]) rfl rfl rfl rfl (by kernel_rfl) (by simp only [List.length_append, List.length_singleton]; unfold sm; omega)))) ?_
  rw [← TH]
  generalize hX : things far = X at AP tl
  refine Eq.trans (congrArg _ (Z.execs_step (δ' := [.fr (.int far), .fr (.int k), .fr tA, N3, .fr (.lst NA), .ml (X.map .fr), .dead, .fr (.lst I7), .dead, .ml ((deep (parB far) 0).map .fr), .dead]) rfl (by kernel_rfl))) ?_
  obtain ⟨o', dl⟩ := deep_loop (cl := run pgT 29) (ini := pgT.ini) far (a1 := .fr (.int k)) (a2 := .fr tA) (a3 := N3) (a4 := .fr (.lst NA)) (a5 := .ml (X.map .fr)) (a6 := .dead) (a7 := .fr (.lst I7)) (a8 := .dead) 6 0 .dead
  have t12 : exec (run pgT 29) pgT.ini [] (.fo (.one 10) (.range1 (.cst (.int 6))) (.cons (.asg (.one 9) deepE) .nil)) [.fr (.int far), .fr (.int k), .fr tA, N3, .fr (.lst NA), .ml (X.map .fr), .dead, .fr (.lst I7), .dead, .ml ((deep (parB far) 0).map .fr), .dead] = some (.ok .nx [.fr (.int far), .fr (.int k), .fr tA, N3, .fr (.lst NA), .ml (X.map .fr), .dead, .fr (.lst I7), .dead, .ml ((deep (parB far) (0 + 6)).map .fr), o']) := by
    have e6 : ∀ δ, evi (run pgT 29) pgT.ini (.range1 (.cst (.int 6))) δ = some (.ok (ranged 0 6) δ) := by
      intro δ
      simp only [evi, Z.ev_cst, Z.bnd_ret, Z.frz_fr]
      simp [sm]
    rw [Z.exec_fo, bnd_at (e6 _)]
    exact dl
  refine Eq.trans (congrArg _ (Z.execs_step rfl t12)) ?_
  generalize parB far = b at AP
  have t13 := last_line b AP (by unfold sm; omega) (x0 := .fr (.int far)) (x1 := .fr (.int k)) (x2 := .fr tA) (x3 := N3) (x4 := .fr (.lst NA)) (x6 := .dead) (x7 := .fr (.lst I7)) (x8 := .dead) (x10 := o')
  rw [execs_at, bnd_at t13]
  rfl
end Ow.Q
end QZ_
section RA_
set_option Elab.async false
set_option linter.all false
set_option maxRecDepth 100000
set_option maxHeartbeats 2000000
namespace Ow.Q
open PySem Ow.PB
open L2 (atI Key)
open Ow.RW7 (b__law_books_right)
open Ow.Z (run_df runDf_eq execs_at bnd_at bnd_ex lc_at lc_ex)
def nxE : Option (Rs Fl) → Env
  | some (.ok .nx δ) => δ
  | _ => []
/-- the frame after some rows of a block -/
def after (m : Nat) : Nat → Ss → Env → Env
  | n + 1, .cons s r, δ => after m n r (nxE (exec (run pgT m) pgT.ini [] s δ))
  | _, _, δ => δ
def bFr (n : Nat) (far : Int) : Env := after 29 n b__law_books_right [.fr (.int far), .dead, .dead, .dead, .dead, .dead]
/-- the books that are asked -/
def books (r : Int) : List D := match ((bFr 7 r)[3]? : Option O) with
  | some (O.ml os) => frzs os
  | _ => []
def lstN (n : Nat) : List D := match ((bFr n 0)[3]? : Option O) with
  | some (O.ml os) => frzs os
  | _ => []
def pgA : D := match ((bFr 1 0)[1]? : Option O) with
  | some (O.fr d) => d
  | _ => .non
def is102 : Option (Rs O) → Bool
  | some (.ex x) => x.c == 102 && x.xs.isEmpty
  | _ => false
def okB (x : D) : Bool := notLam x && is102 (run pgT 26 102 [.ob 1 [] [], .fr x])
theorem okB_ref {x : D} (h : okB x = true) : notLam x = true ∧ Ref pgT 27 3 1 x := by
  unfold okB at h
  rw [Bool.and_eq_true] at h
  refine ⟨h.1, ref_3 l7_T 9 x h.1 ?_⟩
  have h2 := h.2
  show run pgT 26 102 [.ob 1 [] [], .fr x] = _
  generalize run pgT 26 102 [.ob 1 [] [], .fr x] = R at h2
  unfold is102 at h2
  split at h2
  · rename_i x
    obtain ⟨c, ds⟩ := x
    simp only [Bool.and_eq_true, beq_iff_eq, List.isEmpty_iff] at h2
    obtain ⟨h3, h4⟩ := h2
    subst h3; subst h4; rfl
  · cases h2
theorem books_ok : ∀ r : Int, r = 0 ∨ r = 1 ∨ r = 2 → (books r).length ≤ 20 ∧ ∀ x ∈ books r, okB x = true := by
  have z0 : (decide ((books 0).length ≤ 20) && (books 0).all okB) = true := by decide +kernel
  have z1 : (decide ((books 1).length ≤ 20) && (books 1).all okB) = true := by decide +kernel
  have z2 : (decide ((books 2).length ≤ 20) && (books 2).all okB) = true := by decide +kernel
  rintro r (rfl | rfl | rfl)
  · rw [Bool.and_eq_true] at z0; exact ⟨of_decide_eq_true z0.1, List.all_eq_true.mp z0.2⟩
  · rw [Bool.and_eq_true] at z1; exact ⟨of_decide_eq_true z1.1, List.all_eq_true.mp z1.2⟩
  · rw [Bool.and_eq_true] at z2; exact ⟨of_decide_eq_true z2.1, List.all_eq_true.mp z2.2⟩
abbrev modE : E := .prim .mod (.cons (.var 0) (.cons (.cst (.int 3)) .nil))
abbrev itE (e : E) : It := .seq .s (.prim (.slc false true) (.cons (.var 2) (.cons (.prim .add (.cons (.cst (.int 7)) (.cons e .nil))) .nil)))
abbrev lastE (e : E) : E := .lc (.make 0 (.cons (.var 4) (.cons (.lst .nil) .nil)) [.non]) (.one 4) (itE e) .nil
theorem bnd_eq {α β : Type} {m m' : M α} {f : α → M β} {δ : Env} (h : m δ = m' δ) : bnd m f δ = bnd m' f δ := by unfold bnd; rw [h]
theorem last_it {cl : Cl} {ini : Nat → Option Nat} {far r : Int} (hr : far.fmod 3 = r) {o1 o3 o4 o5 : O} : evi cl ini (itE modE) [.fr (.int far), o1, .fr (.str "abcdefghij"), o3, o4, o5] = evi cl ini (itE (.cst (.int r))) [.fr (.int far), o1, .fr (.str "abcdefghij"), o3, o4, o5] := by
  have m1 : pr .mod [.fr (.int far), .fr (.int 3)] = some (.fr (.int r)) := by rw [← hr]; rfl
  simp [m1]
theorem last_s {cl : Cl} {ini : Nat → Option Nat} {far r : Int} (hr : far.fmod 3 = r) {o1 o4 o5 : O} {o3 : List O} : exec cl ini [] (.app 3 (lastE modE)) [.fr (.int far), o1, .fr (.str "abcdefghij"), .ml o3, o4, o5] = exec cl ini [] (.app 3 (lastE (.cst (.int r)))) [.fr (.int far), o1, .fr (.str "abcdefghij"), .ml o3, o4, o5] := by
  have e : ev cl ini (lastE modE) [.fr (.int far), o1, .fr (.str "abcdefghij"), .ml o3, o4, o5] = ev cl ini (lastE (.cst (.int r))) [.fr (.int far), o1, .fr (.str "abcdefghij"), .ml o3, o4, o5] := by
    have h := last_it (cl := cl) (ini := ini) hr (o1 := o1) (o3 := .ml o3) (o4 := o4) (o5 := o5)
    unfold lastE
    simp only [ev]
    exact bnd_eq h
  rw [Z.exec_app, Z.exec_app]
  simp only [bnd]
  have l : mlM 3 [.fr (.int far), o1, .fr (.str "abcdefghij"), .ml o3, o4, o5] = some (.ok () [.fr (.int far), o1, .fr (.str "abcdefghij"), .ml o3, o4, o5]) := rfl
  rw [l]
  simp only [e]
theorem run_57 (far : Int) (h0 : 0 ≤ far) : run pgT 30 57 [.fr (.int far)] = some (.ok (.fr (.bl true)) [.fr (.int far)]) := by
  rw [run_df (p := pgT) (d := ⟨6, 1, b__law_books_right⟩) rfl, runDf_eq rfl]
  have pe : pins [.fr (.int far)] = [] := rfl
  rw [pe]
  show Z.finish _ (execs _ _ _ b__law_books_right [.fr (.int far), .dead, .dead, .dead, .dead, .dead]) = _
  have g1 : 0 ≤ far.fmod 3 := Int.fmod_nonneg h0 (by decide)
  have g2 : far.fmod 3 < 3 := Int.fmod_lt_of_pos far (by decide)
  obtain ⟨r, hr⟩ : ∃ r, far.fmod 3 = r := ⟨_, rfl⟩
  have h3 : r = 0 ∨ r = 1 ∨ r = 2 := by omega
  refine Eq.trans (congrArg _ (Z.execs_step (δ' := [.fr (.int far), .fr pgA, .fr (.str "abcdefghij"), .dead, .dead, .dead]) rfl (by kernel_rfl))) ?_
  refine Eq.trans (congrArg _ (Z.execs_step (δ' := [.fr (.int far), .fr pgA, .fr (.str "abcdefghij"), .ml ((lstN 2).map .fr), .dead, .dead]) rfl (by kernel_rfl))) ?_
  refine Eq.trans (congrArg _ (Z.execs_step (δ' := [.fr (.int far), .fr pgA, .fr (.str "abcdefghij"), .ml ((lstN 3).map .fr), .dead, .dead]) rfl (by kernel_rfl))) ?_
  refine Eq.trans (congrArg _ (Z.execs_step (δ' := [.fr (.int far), .fr pgA, .fr (.str "abcdefghij"), .ml ((lstN 4).map .fr), .dead, .dead]) rfl (by kernel_rfl))) ?_
  refine Eq.trans (congrArg _ (Z.execs_step (δ' := [.fr (.int far), .fr pgA, .fr (.str "abcdefghij"), .ml ((lstN 5).map .fr), .dead, .dead]) rfl (by kernel_rfl))) ?_
  refine Eq.trans (congrArg _ (Z.execs_step (δ' := [.fr (.int far), .fr pgA, .fr (.str "abcdefghij"), .ml ((lstN 6).map .fr), .dead, .dead]) rfl (by kernel_rfl))) ?_
  have t7 : exec (run pgT 29) pgT.ini [] (.app 3 (lastE modE)) [.fr (.int far), .fr pgA, .fr (.str "abcdefghij"), .ml ((lstN 6).map .fr), .dead, .dead] = some (.ok .nx [.fr (.int far), .fr pgA, .fr (.str "abcdefghij"), .ml ((books r).map .fr), .dead, .dead]) := by
    refine (last_s hr).trans ?_
    rcases h3 with rfl | rfl | rfl <;> kernel_rfl
  refine Eq.trans (congrArg _ (Z.execs_step rfl t7)) ?_
  obtain ⟨bl, bo⟩ := books_ok r h3
  obtain ⟨B', hB', e⟩ := run_all l7_T 27 1 (.inr rfl) (.ml [.fr (.lam 3)]) (.ml ((books r).map .fr)) [3] (books r) (.inr rfl) (.inr rfl) (by unfold sm; omega) (fun j hj => by
    rw [List.mem_singleton.mp hj]
    exact fun x m => okB_ref (bo x m))
  have e : run pgT 29 53 [.ml [.fr (.lam 3)], .ml ((books r).map .fr), .fr (.int 1)] = some (.ok (.fr (.bl true)) [.fr (.lst [.lam 3]), B', .fr (.int 1)]) := e
  have nd : B' ≠ .dead := by rcases hB' with rfl | rfl <;> exact nofun
  generalize (books r).map O.fr = BO at e
  simp [execs_at, pr, sm, frz, frzs, callM, e]
end Ow.Q
end RA_
section RB_
set_option Elab.async false
set_option linter.all false
set_option maxRecDepth 100000
set_option maxHeartbeats 2000000
namespace Ow.Q
open PySem Ow.PB
open L2 (atI Key)
open Ow.RW7 (b_law)
open Ow.Z (run_df runDf_eq execs_at bnd_at bnd_ex lc_at lc_ex)
abbrev bodyL : Ss := .cons (.asg (.one 2) (.prim .mod (.cons (.prim .abs (.cons (.var 1) .nil)) (.cons (.prim .pow (.cons (.cst (.int 10)) (.cons (.cst (.int 20)) .nil))) .nil)))) (.cons (.ife (.or_ (.not_ (.call 56 (.cons (.var 2) .nil))) (.not_ (.call 57 (.cons (.var 2) .nil)))) (.cons (.rt false (.cst (.bl false))) .nil) .nil) .nil)
def absI (c : Int) : Int := if c < 0 then -c else c
theorem far_ev {c : Int} {s o2 : O} : exec (run pgT 30) pgT.ini [] (.asg (.one 2) (.prim .mod (.cons (.prim .abs (.cons (.var 1) .nil)) (.cons (.prim .pow (.cons (.cst (.int 10)) (.cons (.cst (.int 20)) .nil))) .nil)))) [s, .fr (.int c), o2, .dead, .dead, .dead] = some (.ok .nx [s, .fr (.int c), .fr (.int ((absI c).fmod (10 ^ 20))), .dead, .dead, .dead]) := by
  kernel_rfl
theorem body_ev {c : Int} {s o2 o1 : O} : (fun d => bnd (setS [] 1 (.fr d)) fun _ => execs (run pgT 30) pgT.ini [] bodyL) (.int c) [s, o1, o2, .dead, .dead, .dead] = some (.ok .nx [s, .fr (.int c), .fr (.int ((absI c).fmod (10 ^ 20))), .dead, .dead, .dead]) := by
  have f := far_ev (c := c) (s := s) (o2 := o2)
  have g : 0 ≤ (absI c).fmod (10 ^ 20) := Int.fmod_nonneg (by unfold absI; split <;> omega) (by decide)
  have R1 := run_56 _ g
  have R2 := run_57 _ g
  generalize (absI c).fmod (10 ^ 20) = far at f R1 R2
  have s2 : exec (run pgT 30) pgT.ini [] (.ife (.or_ (.not_ (.call 56 (.cons (.var 2) .nil))) (.not_ (.call 57 (.cons (.var 2) .nil)))) (.cons (.rt false (.cst (.bl false))) .nil) .nil) [s, .fr (.int c), .fr (.int far), .dead, .dead, .dead] = some (.ok .nx [s, .fr (.int c), .fr (.int far), .dead, .dead, .dead]) := by
    simp [R1, R2]
  show bnd (setS [] 1 (.fr (.int c))) (fun _ => execs (run pgT 30) pgT.ini [] bodyL) [s, o1, o2, .dead, .dead, .dead] = _
  refine Eq.trans (Z.bnd_setS (pin := [])) ?_
  show execs (run pgT 30) pgT.ini [] bodyL [s, .fr (.int c), o2, .dead, .dead, .dead] = _
  refine (Z.execs_step rfl f).trans ?_
  refine (Z.execs_step rfl s2).trans ?_
  rfl
theorem loop_ev {s : O} : ∀ (cs : List Int) (o1 o2 : O), ∃ o1' o2', loop (fun d => bnd (setS [] 1 (.fr d)) fun _ => execs (run pgT 30) pgT.ini [] bodyL) (cs.map .int) [s, o1, o2, .dead, .dead, .dead] = some (.ok .nx [s, o1', o2', .dead, .dead, .dead])
  | [], o1, o2 => ⟨o1, o2, rfl⟩
  | c :: cs, o1, o2 => by
    obtain ⟨o1', o2', e⟩ := loop_ev (s := s) cs (.fr (.int c)) (.fr (.int ((absI c).fmod (10 ^ 20))))
    refine ⟨o1', o2', ?_⟩
    rw [List.map_cons, Z.loop_nx body_ev]
    exact e
def isT : Option (Rs Fl) → Bool
  | some (.ok (.rt (.fr (.bl true))) (_ :: _)) => true
  | _ => false
def tailL : Ss := match b_law with
  | .cons _ r => r
  | .nil => .nil
theorem tail_ev {s o1 o2 : O} : isT (execs (run pgT 30) pgT.ini [] tailL [s, o1, o2, .dead, .dead, .dead]) = true := by kernel_rfl
theorem it_ev {ns : List Int} (hl : ns.length ≤ 63) {cl : Cl} : evi cl pgT.ini (.seq .l (.prim .add (.cons (.lst (.cons (.cst (.int 0)) .nil)) (.cons (.prim (.slc false true) (.cons (.var 0) (.cons (.cst (.int 2)) .nil))) .nil)))) [.fr (.scr ns), .dead, .dead, .dead, .dead, .dead] = some (.ok ((0 :: cutD ns none (some 2)).map .int) [.fr (.scr ns), .dead, .dead, .dead, .dead, .dead]) := by
  have cl2 : (cutD ns none (some 2)).length ≤ 63 := by
    unfold cutD
    rw [List.length_take, List.length_drop]
    omega
  have s1 : prSl none (some 2) (.fr (.scr ns)) = some (.ml (((cutD ns none (some 2)).map D.int).map .fr)) := by rw [List.map_map]; rfl
  generalize cutD ns none (some 2) = cs at cl2 s1
  have p1 : prAdd (.ml [.fr (.int 0)]) (.ml ((cs.map D.int).map .fr)) = some (.ml (((0 :: cs).map D.int).map .fr)) := add_ml (xs := [.int 0]) (ys := cs.map .int) (by simp [sm]; omega)
  have z1 : frz (.ml (((0 :: cs).map D.int).map .fr)) = .lst ((0 :: cs).map D.int) := Z.frz_ml
  generalize (0 :: cs).map D.int = X at p1 z1
  generalize (cs.map D.int).map O.fr = Y at p1 s1
  generalize X.map O.fr = W at p1 z1
  simp [pr, s1, p1, z1, sm, itemsOf]
theorem run_58 (ns : List Int) (hl : ns.length ≤ 63) : ∃ os', run pgT 31 58 [.fr (.scr ns)] = some (.ok (.fr (.bl true)) os') := by
  rw [run_df (p := pgT) (d := ⟨6, 1, b_law⟩) rfl, runDf_eq rfl]
  have pe : pins [.fr (.scr ns)] = [] := rfl
  rw [pe]
  show ∃ os', Z.finish _ (execs _ _ _ b_law [.fr (.scr ns), .dead, .dead, .dead, .dead, .dead]) = some (.ok (.fr (.bl true)) os')
  obtain ⟨o1, o2, e⟩ := loop_ev (s := .fr (.scr ns)) (0 :: cutD ns none (some 2)) .dead .dead
  have t1 : exec (run pgT 30) pgT.ini [] (.fo (.one 1) (.seq .l (.prim .add (.cons (.lst (.cons (.cst (.int 0)) .nil)) (.cons (.prim (.slc false true) (.cons (.var 0) (.cons (.cst (.int 2)) .nil))) .nil)))) bodyL) [.fr (.scr ns), .dead, .dead, .dead, .dead, .dead] = some (.ok .nx [.fr (.scr ns), o1, o2, .dead, .dead, .dead]) := by
    rw [Z.exec_fo, bnd_at (it_ev hl)]
    exact e
  have h := tail_ev (s := .fr (.scr ns)) (o1 := o1) (o2 := o2)
  rw [show execs (run pgT 30) pgT.ini [] b_law [.fr (.scr ns), .dead, .dead, .dead, .dead, .dead] = execs (run pgT 30) pgT.ini [] tailL [.fr (.scr ns), o1, o2, .dead, .dead, .dead] from Z.execs_step rfl t1]
  generalize execs (run pgT 30) pgT.ini [] tailL [.fr (.scr ns), o1, o2, .dead, .dead, .dead] = R at h
  unfold isT at h
  split at h
  · exact ⟨_, rfl⟩
  · cases h
theorem pg_T : Ow.A7.pg = pgT := rfl
theorem main7 : Ow.A7.Main := fun ns hl => by
  rw [pg_T]
  exact run_58 ns hl
theorem law7 : PySem.Challenge.rw_blockpages_k07_refused_pages.Holds := Ow.A7.holds main7
end Ow.Q
end RB_
theorem PySem.Challenge.cw_blockpages_k07_refused_pages_holds : PySem.Challenge.rw_blockpages_k07_refused_pages.Holds := by
  exact Ow.Q.law7
