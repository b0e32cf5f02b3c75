import PyProof.Rows.All
import HandS.ForMost
import HandS.Lambda
import HandS.RaiseMore
import KE.KExcIs
import HandS.Style
import HandS.TupAny
import HandS.TupMul
import HandS.Wide
import HandS.StrMore
import HandS.IsInst
import HandS.TupLe
import HandS.Flow
import KE.GoesMore
import HandS.Replace
import HandS.FromBytesMap
import HandS.Translate
import KE.DataMinMax
import HandS.Deep
import PyProof.Claim2Refuses
import HandS.SortKw
import KE.DataMinKey
import KE.SortData
import PyProof.ReprRoads
import PyProof.ReprLen
import PyProof.ListStr
import KE.GoesEnum
import PyProof.EnumMake
import HandS.Small
import PyProof.Rows.RegReprOcc
import KE.GoesZip
import PyProof.TupleOfStr
import PyProof.CollectStr
import HandS.More
import HandS.WordsExc
import HandS.ExcField
import HandS.FStr
import HandS.EndTab
import KE.KNestM
import KE.KExcSuper
import PyProof.ExcBaseAll.ArithmeticError
import PyProof.ExcBaseAll.ValueError
import PyProof.ExcBaseAll.LookupError
import HandS.ExcOwn
import PyProof.FString5
import HandS.ReplaceLit
import HandS.ReplaceList
import HandS.Gcd
import PySem.Challenge.RW_ringleast_k58_rings_of_pairs
set_option Elab.async false
set_option linter.all false
set_option maxRecDepth 100000
set_option maxHeartbeats 4000000
namespace DL
open PySem L2
/-- the tables of code objects that a law tracks -/
class HasT where
  T : List (Addr × Str)
/-! values as data -/
inductive D where
  | non | bl (b : Bool) | int (i : Int) | str (s : List Nat) | lst (ds : List D) | tup (ds : List D) | dct (kvs : List (Key × D)) | obj (a : Addr) | ty (n : String) | cls (c : Str) | exc (c n : Str) (y : D) | fnc (f : Addr) (φ : Hp → Prop)
/-- the class of the top's name c -/
def cA (K : PySem.W.Frag) (c : Str) : Addr := match PySem.W.nsIn K mainGlobals c with
  | some (some (.ref C)) => C
  | _ => 0
/-- a caught exception -/
def ExcP (a : Addr) (cls : Value) (d : Option Addr) : HO := .ext fun h => ∃ (o : Obj) (vs : Array Value), h.get? a = some o ∧ Zc cls d o ∧ o.data = .fields vs
abbrev S (l : List Nat) : Str := ⟨l.toArray⟩
theorem S_of (z : Str) : S z.cps.toList = z := by cases z; simp [S]
theorem S_tl (l : List Nat) : (S l).cps.toList = l := by simp [S]
theorem S_len (l : List Nat) : (S l).length = l.length := by simp [S, Str.length]
mutual
inductive Rep (K : PySem.W.Frag) (G : Hp) : V → D → Prop
  | non : Rep K G .non .non
  | bl (b : Bool) : Rep K G (.bl b) (.bl b)
  | int (i : Int) : Rep K G (.int i) (.int i)
  | str (s : List Nat) : Rep K G (.str (S s)) (.str s)
  | lst {a : Addr} {xs : List V} {ds : List D} : SqL K G a xs → Reps K G xs ds → Rep K G (.ref a) (.lst ds)
  | tup {a : Addr} {xs : List V} {ds : List D} : SqT K G a xs → Reps K G xs ds → Rep K G (.ref a) (.tup ds)
  | dct {a : Addr} {kvs : List (Key × V)} {ds : List (Key × D)} : G a = some (.dK kvs) → RepK K G kvs ds → Rep K G (.ref a) (.dct ds)
  | obj (a : Addr) : Rep K G (.ref a) (.obj a)
  | ty (n : String) : Rep K G (.ty n) (.ty n)
  | cls {c : Str} : Rep K G (.ref (cA K c)) (.cls c)
  | exc0 {a : Addr} {c : Str} : G a = some (ExcP a (.ref (cA K c)) none) → Rep K G (.ref a) (.exc c "" .non)
  | exc1 {a dd : Addr} {c n : Str} {v : V} {y : D} : G a = some (ExcP a (.ref (cA K c)) (some dd)) → G dd = some (.xd [(n, v)]) → Rep K G v y → Rep K G (.ref a) (.exc c n y)
  | fnc {f : Addr} {φ : Hp → Prop} : (∀ G' : Hp, Same G G' → φ G') → Rep K G (.ref f) (.fnc f φ)
inductive Reps (K : PySem.W.Frag) (G : Hp) : List V → List D → Prop
  | nil : Reps K G [] []
  | cons {v : V} {vs : List V} {d : D} {ds : List D} : Rep K G v d → Reps K G vs ds → Reps K G (v :: vs) (d :: ds)
inductive RepK (K : PySem.W.Frag) (G : Hp) : List (Key × V) → List (Key × D) → Prop
  | nil : RepK K G [] []
  | cons {k : Key} {v : V} {vs : List (Key × V)} {d : D} {ds : List (Key × D)} : Rep K G v d → RepK K G vs ds → RepK K G ((k, v) :: vs) ((k, d) :: ds)
end
theorem sqt_mono {K : PySem.W.Frag} {G G' : Hp} {a : Addr} {xs : List V} (e : Same G G') (h : SqT K G a xs) : SqT K G' a xs := by
  rcases h with (h | ⟨o, h⟩) | h
  · exact .inl (.inl (e _ _ h))
  · exact .inl (.inr ⟨o, e _ _ h⟩)
  · exact .inr h
section
variable {K : PySem.W.Frag} {G G' : Hp}
mutual
theorem Rep.mono (e : Same G G') : ∀ {d : D} {v : V}, Rep K G v d → Rep K G' v d
  | .non, _, h => by cases h; exact .non
  | .bl _, _, h => by cases h; exact .bl _
  | .int _, _, h => by cases h; exact .int _
  | .str _, _, h => by cases h; exact .str _
  | .lst ds, _, h => by cases h with | lst h1 h2 => exact .lst (e.seq h1) (Reps.mono e h2)
  | .tup ds, _, h => by cases h with | tup h1 h2 => exact .tup (sqt_mono e h1) (Reps.mono e h2)
  | .dct ds, _, h => by cases h with | dct h1 h2 => exact .dct (e _ _ h1) (RepK.mono e h2)
  | .obj _, _, h => by cases h; exact .obj _
  | .ty _, _, h => by cases h; exact .ty _
  | .cls _, _, h => by cases h with | cls => exact .cls
  | .exc _ _ _, _, h => by cases h with
    | exc0 h2 => exact .exc0 (e _ _ h2)
    | exc1 h2 h3 h4 => exact .exc1 (e _ _ h2) (e _ _ h3) (Rep.mono e h4)
  | .fnc _ _, _, h => by cases h with | fnc h1 => exact .fnc fun G2 g => h1 G2 (e.trans g)
theorem Reps.mono (e : Same G G') : ∀ {ds : List D} {vs : List V}, Reps K G vs ds → Reps K G' vs ds
  | [], _, h => by cases h; exact .nil
  | d :: ds, _, h => by cases h with | cons h1 h2 => exact .cons (Rep.mono e h1) (Reps.mono e h2)
theorem RepK.mono (e : Same G G') : ∀ {ds : List (Key × D)} {vs : List (Key × V)}, RepK K G vs ds → RepK K G' vs ds
  | [], _, h => by cases h; exact .nil
  | (k, d) :: ds, _, h => by cases h with | cons h1 h2 => exact .cons (Rep.mono e h1) (RepK.mono e h2)
end
theorem Reps.len {vs : List V} {ds : List D} : Reps K G vs ds → vs.length = ds.length := by
  induction vs generalizing ds with
  | nil => intro h; cases h; rfl
  | cons v vs ih => intro h; cases h with | cons h1 h2 => simp [ih h2]
theorem Reps.get {vs : List V} {ds : List D} {i : Nat} {d : D} (h : Reps K G vs ds) (e : ds[i]? = some d) : ∃ v, vs[i]? = some v ∧ Rep K G v d := by
  induction vs generalizing ds i with
  | nil => cases h; simp at e
  | cons v vs ih =>
    cases h with
    | cons h1 h2 =>
      cases i with
      | zero => simp at e; subst e; exact ⟨v, by simp, h1⟩
      | succ i => simp at e; obtain ⟨u, e1, e2⟩ := ih h2 e; exact ⟨u, by simpa using e1, e2⟩
theorem Reps.getv {vs : List V} {ds : List D} {i : Nat} {v : V} (h : Reps K G vs ds) (e : vs[i]? = some v) : ∃ d, ds[i]? = some d ∧ Rep K G v d := by
  have hl := h.len
  have hi : i < vs.length := (List.getElem?_eq_some_iff.mp e).1
  obtain ⟨d, hd⟩ : ∃ d, ds[i]? = some d := ⟨ds[i], List.getElem?_eq_getElem (by omega)⟩
  obtain ⟨u, e1, e2⟩ := h.get hd
  rw [e] at e1
  cases e1
  exact ⟨d, hd, e2⟩
theorem Reps.app {vs us : List V} {ds es : List D} (h : Reps K G vs ds) (h2 : Reps K G us es) : Reps K G (vs ++ us) (ds ++ es) := by
  induction vs generalizing ds with
  | nil => cases h; exact h2
  | cons v vs ih => cases h with | cons a b => exact .cons a (ih b)
theorem Reps.take {vs : List V} {ds : List D} (n : Nat) (h : Reps K G vs ds) : Reps K G (vs.take n) (ds.take n) := by
  induction vs generalizing ds n with
  | nil => cases h; simpa using Reps.nil
  | cons v vs ih =>
    cases h with
    | cons a b =>
      cases n with
      | zero => exact .nil
      | succ n => exact .cons a (ih n b)
theorem Reps.drop {vs : List V} {ds : List D} (n : Nat) (h : Reps K G vs ds) : Reps K G (vs.drop n) (ds.drop n) := by
  induction vs generalizing ds n with
  | nil => cases h; simpa using Reps.nil
  | cons v vs ih =>
    cases h with
    | cons a b =>
      cases n with
      | zero => exact .cons a b
      | succ n => simpa using ih n b
theorem Reps.set {vs : List V} {ds : List D} {v : V} {d : D} (h : Reps K G vs ds) (hv : Rep K G v d) (i : Nat) : Reps K G (vs.set i v) (ds.set i d) := by
  induction vs generalizing ds i with
  | nil => cases h; exact .nil
  | cons w vs ih =>
    cases h with
    | cons a b =>
      cases i with
      | zero => exact .cons hv b
      | succ i => exact .cons a (ih b i)
theorem Reps.one {v : V} {d : D} (h : Rep K G v d) : Reps K G [v] [d] := .cons h .nil
theorem Reps.rev {vs : List V} {ds : List D} (h : Reps K G vs ds) : Reps K G vs.reverse ds.reverse := by
  induction vs generalizing ds with
  | nil => cases h; exact .nil
  | cons v vs ih => cases h with | cons a b => simpa using (ih b).app (.one a)
theorem Reps.dropLast {vs : List V} {ds : List D} (h : Reps K G vs ds) : Reps K G vs.dropLast ds.dropLast := by
  rw [List.dropLast_eq_take, List.dropLast_eq_take, h.len]
  exact h.take _
end
/-! the three parts of a heap: G stands for good, F is the frame (may be written by its owner alone) -/
variable [HasT]
structure Fr (G F H : Hp) : Prop where
  g : Same G H
  f : Same F H
  s : ∀ b o, G b = some o → F b = none
  t : LamX.Tabs HasT.T H
  x : ∀ b φ, F b ≠ some (.ext φ)
  y : ∀ b ps, G b ≠ some (.tbl ps)
  z : ∀ b ps, F b ≠ some (.tbl ps)
theorem Fr.n {G F H : Hp} (f : Fr G F H) : ∀ p ∈ HasT.T, G p.1 = none ∧ F p.1 = none := fun p hp => by
  obtain ⟨ps, e, _⟩ := f.t p hp
  constructor
  · cases q : G p.1 with
    | none => rfl
    | some o => have := f.g _ _ q; rw [e] at this; cases this; exact (f.y _ _ q).elim
  · cases q : F p.1 with
    | none => rfl
    | some o => have := f.f _ _ q; rw [e] at this; cases this; exact (f.z _ _ q).elim
def del (H : Hp) (a : Addr) : Hp := fun b => if b = a then none else H b
theorem del_ne {H : Hp} {a b : Addr} (h : b ≠ a) : del H a b = H b := by unfold del; rw [if_neg h]
theorem del_same {H : Hp} {a : Addr} : del H a a = none := by unfold del; rw [if_pos rfl]
theorem same_new {H : Hp} {p : Addr} {o : HO} (h : H p = none) : Same H (upd H p o) := fun b x e => by
  rw [upd_ne (ne_of_none e h)]
  exact e
theorem none_of_same {G H : Hp} {p : Addr} (e : Same G H) (h : H p = none) : G p = none := e.free h
theorem Fr.tne {G F H : Hp} {p : Addr} (f : Fr G F H) (h : H p = none) {q : Addr × Str} (hq : q ∈ HasT.T) : q.1 ≠ p := fun z => by
  obtain ⟨ps, e, _⟩ := f.t q hq
  rw [z, h] at e; cases e
theorem Fr.newG {G F H : Hp} {p : Addr} {o : HO} (f : Fr G F H) (h : H p = none) (hy : ∀ ps, o ≠ .tbl ps := by exact fun _ z => nomatch z) : Fr (upd G p o) F (upd H p o) where
  g := fun b x e => by
    by_cases hb : b = p
    · subst hb; rw [upd_same] at e ⊢; exact e
    · rw [upd_ne hb] at e ⊢; exact f.g _ _ e
  f := fun b x e => same_new h _ _ (f.f _ _ e)
  s := fun b x e => by
    by_cases hb : b = p
    · subst hb; exact none_of_same f.f h
    · rw [upd_ne hb] at e; exact f.s _ _ e
  t := f.t.ext (same_new h)
  x := f.x
  y := fun b ps e => by
    by_cases hb : b = p
    · subst hb; rw [upd_same] at e; exact hy ps (Option.some.inj e)
    · rw [upd_ne hb] at e; exact f.y b ps e
  z := f.z
theorem Fr.newF {G F H : Hp} {p : Addr} {o : HO} (f : Fr G F H) (h : H p = none) (ho : ∀ φ, o ≠ .ext φ := by exact fun _ z => nomatch z) (hy : ∀ ps, o ≠ .tbl ps := by exact fun _ z => nomatch z) : Fr G (upd F p o) (upd H p o) where
  g := fun b x e => same_new h _ _ (f.g _ _ e)
  f := fun b x e => by
    by_cases hb : b = p
    · subst hb; rw [upd_same] at e ⊢; exact e
    · rw [upd_ne hb] at e ⊢; exact f.f _ _ e
  s := fun b x e => by
    have hb : b ≠ p := fun z => by subst z; rw [none_of_same f.g h] at e; cases e
    rw [upd_ne hb]; exact f.s _ _ e
  t := f.t.ext (same_new h)
  y := f.y
  z := fun b ps e => by
    by_cases hb : b = p
    · subst hb; rw [upd_same] at e; exact hy ps (Option.some.inj e)
    · rw [upd_ne hb] at e; exact f.z b ps e
  x := fun b φ e => by
    by_cases hb : b = p
    · subst hb; rw [upd_same] at e; exact ho φ (Option.some.inj e)
    · rw [upd_ne hb] at e; exact f.x b φ e
theorem Fr.setF {G F H : Hp} {p : Addr} {o u : HO} (f : Fr G F H) (h : F p = some u) (ho : ∀ φ, o ≠ .ext φ := by exact fun _ z => nomatch z) (hy : ∀ ps, o ≠ .tbl ps := by exact fun _ z => nomatch z) : Fr G (upd F p o) (upd H p o) where
  g := fun b x e => by
    have hb : b ≠ p := fun z => by subst z; rw [f.s _ _ e] at h; cases h
    rw [upd_ne hb]; exact f.g _ _ e
  f := fun b x e => by
    by_cases hb : b = p
    · subst hb; rw [upd_same] at e ⊢; exact e
    · rw [upd_ne hb] at e ⊢; exact f.f _ _ e
  s := fun b x e => by
    have hb : b ≠ p := fun z => by subst z; rw [f.s _ _ e] at h; cases h
    rw [upd_ne hb]; exact f.s _ _ e
  t := fun q hq => by
    have hb : q.1 ≠ p := fun z => by have := (f.n q hq).2; rw [z, h] at this; cases this
    obtain ⟨ps, e1, e2, e3⟩ := f.t q hq
    refine ⟨ps, by rw [upd_ne hb]; exact e1, e2, fun pos cv hc => ?_⟩
    obtain ⟨c, z1, z2⟩ := e3 pos cv hc
    have hc2 : c ≠ p := fun z => by
      have := f.f _ _ h
      rw [← z, z2] at this
      exact f.x p _ (by rw [h, ← Option.some.inj this]; rfl)
    exact ⟨c, z1, by rw [upd_ne hc2]; exact z2⟩
  y := f.y
  z := fun b ps e => by
    by_cases hb : b = p
    · subst hb; rw [upd_same] at e; exact hy ps (Option.some.inj e)
    · rw [upd_ne hb] at e; exact f.z b ps e
  x := fun b φ e => by
    by_cases hb : b = p
    · subst hb; rw [upd_same] at e; exact ho φ (Option.some.inj e)
    · rw [upd_ne hb] at e; exact f.x b φ e
theorem Fr.freeze {G F H : Hp} {p : Addr} {o : HO} (f : Fr G F H) (h : F p = some o) : Fr (upd G p o) (del F p) H where
  g := fun b x e => by
    by_cases hb : b = p
    · subst hb; rw [upd_same] at e; cases e; exact f.f _ _ h
    · rw [upd_ne hb] at e; exact f.g _ _ e
  f := fun b x e => by
    by_cases hb : b = p
    · subst hb; rw [del_same] at e; cases e
    · rw [del_ne hb] at e; exact f.f _ _ e
  s := fun b x e => by
    by_cases hb : b = p
    · subst hb; exact del_same
    · rw [upd_ne hb] at e; rw [del_ne hb]; exact f.s _ _ e
  t := f.t
  y := fun b ps e => by
    by_cases hb : b = p
    · subst hb; rw [upd_same] at e; exact f.z b ps (h.trans e)
    · rw [upd_ne hb] at e; exact f.y b ps e
  z := fun b ps e => by
    by_cases hb : b = p
    · subst hb; rw [del_same] at e; cases e
    · rw [del_ne hb] at e; exact f.z b ps e
  x := fun b φ e => by
    by_cases hb : b = p
    · subst hb; rw [del_same] at e; cases e
    · rw [del_ne hb] at e; exact f.x b φ e
theorem same_freeze {G F H : Hp} {p : Addr} {o : HO} (f : Fr G F H) (h : F p = some o) : Same G (upd G p o) := fun b x e => by
  have hb : b ≠ p := fun z => by subst z; rw [f.s _ _ e] at h; cases h
  rw [upd_ne hb]; exact e
/-! slots -/
inductive Sl where
  | no | d (x : D) | cell (p : Addr) (x : D)
def Sl.adr : Sl → Option Addr
  | .cell p _ => some p
  | _ => none
def cells (ρ : List Sl) : List Addr := ρ.filterMap Sl.adr
def CellOk (K : PySem.W.Frag) (G F : Hp) (p : Addr) : D → Prop
  | .lst ds => ∃ xs, F p = some (.lst xs) ∧ Reps K G xs ds
  | .dct ds => ∃ kvs, F p = some (.dK kvs) ∧ RepK K G kvs ds
  | _ => False
def SlOk (K : PySem.W.Frag) (G F : Hp) : Sl → Option V → Prop
  | .no, _ => True
  | .d x, o => ∃ v, o = some v ∧ Rep K G v x
  | .cell p x, o => o = some (.ref p) ∧ CellOk K G F p x
structure Env (K : PySem.W.Frag) (G F : Hp) (σ : St) (ρ : List Sl) : Prop where
  len : σ.length = ρ.length
  at_ : ∀ (i : Nat) s, ρ[i]? = some s → ∃ o, σ[i]? = some o ∧ SlOk K G F s o
  nd : (cells ρ).Nodup
theorem mem_cells {ρ : List Sl} {i : Nat} {p : Addr} {x : D} (h : ρ[i]? = some (.cell p x)) : p ∈ cells ρ :=
  List.mem_filterMap.mpr ⟨.cell p x, List.mem_of_getElem? h, rfl⟩
theorem cells_mem {ρ : List Sl} {p : Addr} (h : p ∈ cells ρ) : ∃ (i : Nat) (x : D), ρ[i]? = some (.cell p x) := by
  obtain ⟨s, hs, e⟩ := List.mem_filterMap.mp h
  obtain ⟨i, hi⟩ := List.getElem?_of_mem hs
  cases s with
  | cell q x => cases e; exact ⟨i, x, hi⟩
  | no => cases e
  | d x => cases e
theorem CellOk.mono {K : PySem.W.Frag} {G G' F F' : Hp} {p : Addr} {x : D} (e : Same G G') (hf : F' p = F p) (h : CellOk K G F p x) : CellOk K G' F' p x := by
  cases x with
  | lst ds => obtain ⟨xs, h1, h2⟩ := h; exact ⟨xs, hf.trans h1, h2.mono e⟩
  | dct ds => obtain ⟨xs, h1, h2⟩ := h; exact ⟨xs, hf.trans h1, h2.mono e⟩
  | _ => exact False.elim h
theorem CellOk.some {K : PySem.W.Frag} {G F : Hp} {p : Addr} {x : D} (h : CellOk K G F p x) : ∃ o, F p = some o := by
  cases x with
  | lst ds => obtain ⟨xs, h1, h2⟩ := h; exact ⟨_, h1⟩
  | dct ds => obtain ⟨xs, h1, h2⟩ := h; exact ⟨_, h1⟩
  | _ => exact False.elim h
theorem SlOk.mono {K : PySem.W.Frag} {G G' F F' : Hp} {s : Sl} {o : Option V} (e : Same G G') (hf : ∀ p x, s = .cell p x → F' p = F p) (h : SlOk K G F s o) : SlOk K G' F' s o := by
  cases s with
  | no => trivial
  | d x => obtain ⟨v, h1, h2⟩ := h; exact ⟨v, h1, h2.mono e⟩
  | cell p x => exact ⟨h.1, h.2.mono e (hf p x rfl)⟩
theorem Env.mono {K : PySem.W.Frag} {G G' F F' : Hp} {σ : St} {ρ : List Sl} (h : Env K G F σ ρ) (e : Same G G') (hf : ∀ p ∈ cells ρ, F' p = F p) : Env K G' F' σ ρ :=
  ⟨h.len, fun i s hs => by
    obtain ⟨o, h1, h2⟩ := h.at_ i s hs
    exact ⟨o, h1, h2.mono e fun p x z => hf p (mem_cells (by rw [hs, z]))⟩, h.nd⟩
theorem cells_set_sub {ρ : List Sl} {i : Nat} {s : Sl} {p : Addr} (h : p ∈ cells (ρ.set i s)) : p ∈ cells ρ ∨ s.adr = some p := by
  obtain ⟨j, x, e⟩ := cells_mem h
  rw [List.getElem?_set] at e
  by_cases hij : i = j
  · rw [if_pos hij] at e
    split at e
    · cases e; exact .inr rfl
    · cases e
  · rw [if_neg hij] at e; exact .inl (mem_cells e)
theorem nd_set {ρ : List Sl} {i : Nat} {s : Sl} (h : (cells ρ).Nodup) (hs : ∀ p, s.adr = some p → p ∉ cells ρ) : (cells (ρ.set i s)).Nodup := by
  induction ρ generalizing i with
  | nil => exact h
  | cons t ρ ih =>
    cases i with
    | zero =>
      show (List.filterMap Sl.adr (s :: ρ)).Nodup
      have h' : (cells ρ).Nodup := by
        unfold cells at h
        rw [List.filterMap_cons] at h
        split at h
        · exact h
        · exact (List.nodup_cons.mp h).2
      rw [List.filterMap_cons]
      split
      · exact h'
      · rename_i p e
        refine List.nodup_cons.mpr ⟨fun z => hs p e ?_, h'⟩
        show p ∈ List.filterMap Sl.adr (t :: ρ)
        rw [List.filterMap_cons]
        split
        · exact z
        · exact List.mem_cons_of_mem _ z
    | succ i =>
      show (List.filterMap Sl.adr (t :: ρ.set i s)).Nodup
      unfold cells at h
      rw [List.filterMap_cons] at h ⊢
      cases et : t.adr with
      | none =>
        rw [et] at h
        refine ih h fun p e z => hs p e ?_
        show p ∈ List.filterMap Sl.adr (t :: ρ)
        rw [List.filterMap_cons, et]
        exact z
      | some q =>
        rw [et] at h
        have h2 := List.nodup_cons.mp h
        refine List.nodup_cons.mpr ⟨fun z => ?_, ih h2.2 fun p e z => hs p e ?_⟩
        · rcases cells_set_sub z with z | z
          · exact h2.1 z
          · refine hs q z ?_
            show q ∈ List.filterMap Sl.adr (t :: ρ)
            rw [List.filterMap_cons, et]
            exact List.mem_cons_self
        · show p ∈ List.filterMap Sl.adr (t :: ρ)
          rw [List.filterMap_cons, et]
          exact List.mem_cons_of_mem _ z
/-- a slot is stored -/
theorem Env.set {K : PySem.W.Frag} {G F : Hp} {σ : St} {ρ : List Sl} (h : Env K G F σ ρ) (i : Nat) {s : Sl} {o : Option V} (hs : SlOk K G F s o) (hn : ∀ p, s.adr = some p → p ∉ cells ρ) : Env K G F (σ.set i o) (ρ.set i s) := by
  refine ⟨by rw [List.length_set, List.length_set]; exact h.len, fun j t ht => ?_, nd_set h.nd hn⟩
  rw [List.getElem?_set] at ht
  by_cases hij : i = j
  · subst hij
    rw [if_pos rfl] at ht
    split at ht
    · rename_i hl
      cases ht
      exact ⟨o, by rw [List.getElem?_set_self (by rw [h.len]; exact hl)], hs⟩
    · cases ht
  · rw [if_neg hij] at ht
    obtain ⟨u, e1, e2⟩ := h.at_ j t ht
    exact ⟨u, by rw [List.getElem?_set_ne hij]; exact e1, e2⟩
theorem Env.setd {K : PySem.W.Frag} {G F : Hp} {σ : St} {ρ : List Sl} (h : Env K G F σ ρ) (i : Nat) {v : V} {x : D} (r : Rep K G v x) : Env K G F (σ.set i (some v)) (ρ.set i (.d x)) :=
  h.set i ⟨v, rfl, r⟩ fun p e => by cases e
end DL
namespace DL
open PySem L2
variable [HasT]
/-- a step of the state: the slots stay where they are, the cells of the slots may be written -/
structure Nx (ρ : List Sl) (G F : Hp) (ρ' : List Sl) (G' F' H' : Hp) : Prop where
  ex : Same G G'
  fr : Fr G' F' H'
  keep : ∀ b o, F b = some o → b ∉ cells ρ → F' b = some o
  cel : ∀ p ∈ cells ρ', p ∈ cells ρ ∨ F p = none
theorem Nx.refl {ρ : List Sl} {G F H : Hp} (f : Fr G F H) : Nx ρ G F ρ G F H := ⟨Same.refl _, f, fun _ _ h _ => h, fun _ h => .inl h⟩
theorem Nx.trans {ρ ρ1 ρ2 : List Sl} {G F G1 F1 H1 G2 F2 H2 : Hp} (a : Nx ρ G F ρ1 G1 F1 H1) (b : Nx ρ1 G1 F1 ρ2 G2 F2 H2) : Nx ρ G F ρ2 G2 F2 H2 := by
  refine ⟨a.ex.trans b.ex, b.fr, fun p o h n => b.keep p o (a.keep p o h n) fun z => ?_, fun p h => ?_⟩
  · rcases a.cel p z with q | q
    · exact n q
    · rw [q] at h; cases h
  · rcases b.cel p h with z | z
    · exact a.cel p z
    · by_cases hp : p ∈ cells ρ
      · exact .inl hp
      · refine .inr ?_
        cases e : F p with
        | none => rfl
        | some o => rw [a.keep p o e hp] at z; cases z
/-- cells stay in their slots -/
def Shp (ρ ρ' : List Sl) : Prop := ∀ (i : Nat) p x, ρ[i]? = some (.cell p x) → ∃ x', ρ'[i]? = some (.cell p x')
theorem Shp.refl (ρ : List Sl) : Shp ρ ρ := fun _ _ x h => ⟨x, h⟩
theorem Shp.trans {a b c : List Sl} (h : Shp a b) (h2 : Shp b c) : Shp a c := fun i p x e => by
  obtain ⟨y, e2⟩ := h i p x e
  exact h2 i p y e2
/-- a value: data; the cell of a slot; a new object that no slot holds -/
inductive Ar where
  | d (x : D) | c (i : Nat) | n (p : Addr) (x : D)
def ArOk (K : PySem.W.Frag) (G F : Hp) (ρ : List Sl) : Ar → V → Prop
  | .d x, v => Rep K G v x
  | .c i, v => ∃ p x, ρ[i]? = some (.cell p x) ∧ v = .ref p
  | .n p x, v => v = .ref p ∧ CellOk K G F p x ∧ p ∉ cells ρ
def ArNew (F : Hp) (a : Ar) : Prop := ∀ p x, a = .n p x → F p = none
/-- what is read of it -/
def arD (ρ : List Sl) : Ar → D
  | .d x => x
  | .c i => match ρ[i]? with
    | some (.cell _ x) => x
    | _ => .non
  | .n _ x => x
/-- its top stands in H, all below in G -/
def RepT (K : PySem.W.Frag) (G H : Hp) (v : V) : D → Prop
  | .lst ds => ∃ a xs, v = .ref a ∧ SqL K H a xs ∧ Reps K G xs ds
  | .dct ds => ∃ a kvs, v = .ref a ∧ H a = some (.dK kvs) ∧ RepK K G kvs ds
  | x => Rep K G v x
theorem Rep.top {K : PySem.W.Frag} {G H : Hp} {v : V} {x : D} (e : Same G H) (h : Rep K G v x) : RepT K G H v x := by
  cases h with
  | lst h1 h2 => exact ⟨_, _, rfl, e.seq h1, h2⟩
  | tup h1 h2 => exact .tup h1 h2
  | dct h1 h2 => exact ⟨_, _, rfl, e _ _ h1, h2⟩
  | non => exact .non
  | bl b => exact .bl b
  | int i => exact .int i
  | str s => exact .str s
  | obj a => exact .obj a
  | ty n => exact .ty n
  | cls => exact .cls
  | exc0 h2 => exact .exc0 h2
  | exc1 h2 h3 h4 => exact .exc1 h2 h3 h4
  | fnc h1 => exact .fnc h1
theorem CellOk.top {K : PySem.W.Frag} {G F H : Hp} {p : Addr} {x : D} (e : Same F H) (h : CellOk K G F p x) : RepT K G H (.ref p) x := by
  cases x with
  | lst ds => obtain ⟨xs, h1, h2⟩ := h; exact ⟨p, xs, rfl, .inl (.inl (e _ _ h1)), h2⟩
  | dct ds => obtain ⟨xs, h1, h2⟩ := h; exact ⟨p, xs, rfl, e _ _ h1, h2⟩
  | _ => exact False.elim h
/-- all of it in H -/
theorem RepT.rep {K : PySem.W.Frag} {G H : Hp} {v : V} {x : D} (e : Same G H) (h : RepT K G H v x) : Rep K H v x := by
  cases x with
  | lst ds => obtain ⟨a, xs, rfl, h1, h2⟩ := h; exact .lst h1 (h2.mono e)
  | dct ds => obtain ⟨a, xs, rfl, h1, h2⟩ := h; exact .dct h1 (h2.mono e)
  | _ => exact Rep.mono e h
section
variable {K : PySem.W.Frag} {G F H : Hp} {σ : St} {ρ : List Sl}
theorem Env.cell (h : Env K G F σ ρ) {i : Nat} {p : Addr} {x : D} (e : ρ[i]? = some (.cell p x)) : σ[i]? = some (some (.ref p)) ∧ CellOk K G F p x := by
  obtain ⟨o, h1, h2⟩ := h.at_ i _ e
  have e : o = some (.ref p) := h2.1
  rw [e] at h1
  exact ⟨h1, h2.2⟩
theorem ArOk.top {a : Ar} {v : V} (h : ArOk K G F ρ a v) (f : Fr G F H) (ev : Env K G F σ ρ) : RepT K G H v (arD ρ a) := by
  cases a with
  | d x => exact Rep.top f.g h
  | c i =>
    obtain ⟨p, x, e, rfl⟩ := h
    show RepT K G H (.ref p) (match ρ[i]? with | some (.cell _ x) => x | _ => .non)
    rw [e]
    exact (ev.cell e).2.top f.f
  | n p x => obtain ⟨rfl, h, _⟩ := h; exact h.top f.f
theorem ArOk.step {a : Ar} {v : V} {ρ' : List Sl} {G' F' H' : Hp} (h : ArOk K G F ρ a v) (s : Nx ρ G F ρ' G' F' H') (sh : Shp ρ ρ') : ArOk K G' F' ρ' a v := by
  cases a with
  | d x => exact Rep.mono s.ex h
  | c i => obtain ⟨p, x, e, rfl⟩ := h; obtain ⟨x', e'⟩ := sh i p x e; exact ⟨p, x', e', rfl⟩
  | n p x =>
    obtain ⟨rfl, h, hn⟩ := h
    obtain ⟨o, ho⟩ := h.some
    refine ⟨rfl, h.mono s.ex ((s.keep p o ho hn).trans ho.symm), fun z => ?_⟩
    rcases s.cel p z with q | q
    · exact hn q
    · rw [ho] at q; cases q
end
theorem nx_back {K : PySem.W.Frag} {G F G1 F1 H1 : Hp} {σ : St} {ρ ρ1 : List Sl} {p : Addr} (s : Nx ρ G F ρ1 G1 F1 H1) (sh : Shp ρ ρ1) (ev : Env K G1 F1 σ ρ1) (h : F1 p = none) : F p = none := by
  cases e : F p with
  | none => rfl
  | some o =>
    by_cases hp : p ∈ cells ρ
    · obtain ⟨i, x, e1⟩ := cells_mem hp
      obtain ⟨x', e2⟩ := sh i p x e1
      obtain ⟨u, hu⟩ := (ev.cell e2).2.some
      rw [h] at hu; cases hu
    · rw [s.keep p o e hp] at h; cases h
theorem ArNew.back {K : PySem.W.Frag} {G F G1 F1 H1 : Hp} {σ : St} {ρ ρ1 : List Sl} {a : Ar} (s : Nx ρ G F ρ1 G1 F1 H1) (sh : Shp ρ ρ1) (ev : Env K G1 F1 σ ρ1) (h : ArNew F1 a) : ArNew F a :=
  fun p x e => nx_back s sh ev (h p x e)
theorem ArNew.d {F : Hp} {x : D} : ArNew F (.d x) := fun _ _ e => nomatch e
theorem ArNew.c {F : Hp} {i : Nat} : ArNew F (.c i) := fun _ _ e => nomatch e
/-! ### the judgements -/
/-- an expression at the slots ρ: whatever it gives, post -/
def ED (K : PySem.W.Frag) (ρ : List Sl) (te : TE) (post : Ar → List Sl → Prop) : Prop :=
  ∀ (G F H : Hp) (σ : St), Fr G F H → Env K G F σ ρ → ∀ Q : VK,
    (∀ v a ρ' G' F' H', Nx ρ G F ρ' G' F' H' → Shp ρ ρ' → Env K G' F' σ ρ' → ArOk K G' F' ρ' a v → ArNew F a → post a ρ' → Q v H') → te σ H Q
def TD (K : PySem.W.Frag) (ρ : List Sl) (tt : TT) (post : Bool → List Sl → Prop) : Prop :=
  ∀ (G F H : Hp) (σ : St), Fr G F H → Env K G F σ ρ → ∀ Q : Bool → Hp → Prop,
    (∀ b ρ' G' F' H', Nx ρ G F ρ' G' F' H' → Shp ρ ρ' → Env K G' F' σ ρ' → post b ρ' → Q b H') → tt σ H Q
inductive ArsOk (K : PySem.W.Frag) (G F : Hp) (ρ : List Sl) : List Ar → List V → Prop
  | nil : ArsOk K G F ρ [] []
  | cons {a : Ar} {v : V} {as : List Ar} {vs : List V} : ArOk K G F ρ a v → ArsOk K G F ρ as vs → ArsOk K G F ρ (a :: as) (v :: vs)
def EA (K : PySem.W.Frag) (ρ : List Sl) (ta : TA) (post : List Ar → List Sl → Prop) : Prop :=
  ∀ (G F H : Hp) (σ : St), Fr G F H → Env K G F σ ρ → ∀ Q : List V → Hp → Prop,
    (∀ vs as ρ' G' F' H', Nx ρ G F ρ' G' F' H' → Shp ρ ρ' → Env K G' F' σ ρ' → ArsOk K G' F' ρ' as vs → post as ρ' → Q vs H') → ta σ H Q
/-- a value that is to be data: a new object is given up to G -/
def EP (K : PySem.W.Frag) (ρ : List Sl) (te : TE) (post : D → List Sl → Prop) : Prop :=
  ∀ (G F H : Hp) (σ : St), Fr G F H → Env K G F σ ρ → ∀ Q : VK,
    (∀ v x ρ' G' F' H', Nx ρ G F ρ' G' F' H' → Shp ρ ρ' → Env K G' F' σ ρ' → Rep K G' v x → post x ρ' → Q v H') → te σ H Q
/-- a new object is not the caller's -/
def NewC (ρ : List Sl) (F : Hp) (a : Ar) : Prop := ∀ p x, a = .n p x → p ∈ cells ρ ∨ F p = none
theorem NewC.back {ρ ρ1 : List Sl} {G F G1 F1 H1 : Hp} {a : Ar} (s : Nx ρ G F ρ1 G1 F1 H1) (h : NewC ρ1 F1 a) : NewC ρ F a := fun p x e => by
  rcases h p x e with z | z
  · exact s.cel p z
  · by_cases hp : p ∈ cells ρ
    · exact .inl hp
    · refine .inr ?_
      cases e : F p with
      | none => rfl
      | some o => rw [s.keep p o e hp] at z; cases z
theorem ArNew.c' {ρ : List Sl} {F : Hp} {a : Ar} (h : ArNew F a) : NewC ρ F a := fun p x e => .inr (h p x e)
/-- what an exception in the air is -/
def ExR (K : PySem.W.Frag) (G : Hp) (cls : Value) (d : Option Addr) (x : D) : Prop :=
  ∃ (c n : Str) (y : D), x = .exc c n y ∧ cls = .ref (cA K c) ∧ ((d = none ∧ n = "" ∧ y = .non) ∨ ∃ (dd : Addr) (v : V), d = some dd ∧ G dd = some (.xd [(n, v)]) ∧ Rep K G v y)
theorem ExR.mono {K : PySem.W.Frag} {G G' : Hp} {cls : Value} {d : Option Addr} {x : D} (e : Same G G') (h : ExR K G cls d x) : ExR K G' cls d x := by
  obtain ⟨c, n, y, h1, h3, h4 | ⟨dd, v, h4, h5, h6⟩⟩ := h
  · exact ⟨c, n, y, h1, h3, .inl h4⟩
  · exact ⟨c, n, y, h1, h3, .inr ⟨dd, v, h4, e _ _ h5, h6.mono e⟩⟩
/-- a step that ends in an exception -/
structure XNx (ρ : List Sl) (G F G' F' H' : Hp) : Prop where
  ex : Same G G'
  fr : Fr G' F' H'
  keep : ∀ b o, F b = some o → b ∉ cells ρ → F' b = some o
theorem Nx.x {ρ ρ1 : List Sl} {G F G1 F1 H1 : Hp} (a : Nx ρ G F ρ1 G1 F1 H1) : XNx ρ G F G1 F1 H1 := ⟨a.ex, a.fr, a.keep⟩
theorem Nx.xtrans {ρ ρ1 : List Sl} {G F G1 F1 H1 G2 F2 H2 : Hp} (a : Nx ρ G F ρ1 G1 F1 H1) (b : XNx ρ1 G1 F1 G2 F2 H2) : XNx ρ G F G2 F2 H2 := by
  refine ⟨a.ex.trans b.ex, b.fr, fun p o h n => b.keep p o (a.keep p o h n) fun z => ?_⟩
  rcases a.cel p z with q | q
  · exact n q
  · rw [q] at h; cases h
structure PD where
  nx : List Sl → Prop
  rt : Ar → List Sl → Prop := fun _ _ => False
  bk : List Sl → Prop := fun _ => False
  ct : List Sl → Prop := fun _ => False
  xe : XK := fun _ _ _ => False
  xp : D → Prop := fun _ => False
structure EndsOk (K : PySem.W.Frag) (ρ : List Sl) (G F : Hp) (P : PD) (Dn : Ends) : Prop where
  nx : ∀ ρ' σ' G' F' H', Nx ρ G F ρ' G' F' H' → Env K G' F' σ' ρ' → P.nx ρ' → Dn.nx σ' H'
  rt : ∀ v a ρ' σ' G' F' H', Nx ρ G F ρ' G' F' H' → Env K G' F' σ' ρ' → ArOk K G' F' ρ' a v → NewC ρ F a → P.rt a ρ' → Dn.rt v H'
  bk : ∀ ρ' σ' G' F' H', Nx ρ G F ρ' G' F' H' → Env K G' F' σ' ρ' → P.bk ρ' → Dn.bk σ' H'
  ct : ∀ ρ' σ' G' F' H', Nx ρ G F ρ' G' F' H' → Env K G' F' σ' ρ' → P.ct ρ' → Dn.ct σ' H'
  ex : ∀ x cls d G' F' H', XNx ρ G F G' F' H' → ExR K G' cls d x → P.xp x → P.xe cls d H'
def SD (K : PySem.W.Frag) (ρ : List Sl) (ts : TS) (P : PD) : Prop :=
  ∀ (G F H : Hp) (σ : St), Fr G F H → Env K G F σ ρ → ∀ Dn : Ends, EndsOk K ρ G F P Dn → ts Dn σ H
theorem EndsOk.step {K : PySem.W.Frag} {ρ ρ1 : List Sl} {G F G1 F1 H1 : Hp} {P : PD} {Dn : Ends} (h : EndsOk K ρ G F P Dn) (s : Nx ρ G F ρ1 G1 F1 H1) : EndsOk K ρ1 G1 F1 P Dn :=
  ⟨fun ρ' σ' G' F' H' a => h.nx ρ' σ' G' F' H' (s.trans a), fun v x ρ' σ' G' F' H' a e o n q => h.rt v x ρ' σ' G' F' H' (s.trans a) e o (n.back s) q,
   fun ρ' σ' G' F' H' a => h.bk ρ' σ' G' F' H' (s.trans a), fun ρ' σ' G' F' H' a => h.ct ρ' σ' G' F' H' (s.trans a), fun x cls d G' F' H' a => h.ex x cls d G' F' H' (s.xtrans a)⟩
/-- a new object that no slot holds is given up to G -/
theorem nx_give {K : PySem.W.Frag} {ρ : List Sl} {G F H : Hp} {σ : St} {p : Addr} {x : D} (f : Fr G F H) (ev : Env K G F σ ρ) (h : CellOk K G F p x) (hn : p ∉ cells ρ) :
    ∃ G' F', Same G G' ∧ Fr G' F' H ∧ (∀ b, b ≠ p → F' b = F b) ∧ Env K G' F' σ ρ ∧ Rep K G' (.ref p) x := by
  obtain ⟨o, ho⟩ := h.some
  have e1 : Same G (upd G p o) := same_freeze f ho
  refine ⟨upd G p o, del F p, e1, f.freeze ho, fun b hb => del_ne hb, ev.mono e1 fun q hq => del_ne fun z => hn (z ▸ hq), ?_⟩
  cases x with
  | lst ds => obtain ⟨xs, h1, h2⟩ := h; rw [ho] at h1; cases h1; exact .lst (.inl (.inl upd_same)) (h2.mono e1)
  | dct ds => obtain ⟨xs, h1, h2⟩ := h; rw [ho] at h1; cases h1; exact .dct upd_same (h2.mono e1)
  | _ => exact False.elim h
section
variable {K : PySem.W.Frag} {ρ : List Sl} {te : TE}
theorem ED.imp {p q : Ar → List Sl → Prop} (h : ED K ρ te p) (i : ∀ a ρ', p a ρ' → q a ρ') : ED K ρ te q :=
  fun G F H σ f e Q k => h G F H σ f e Q fun v a ρ' G' F' H' s sh e' o w po => k v a ρ' G' F' H' s sh e' o w (i _ _ po)
theorem TD.imp {tt : TT} {p q : Bool → List Sl → Prop} (h : TD K ρ tt p) (i : ∀ a ρ', p a ρ' → q a ρ') : TD K ρ tt q :=
  fun G F H σ f e Q k => h G F H σ f e Q fun v ρ' G' F' H' s sh e' po => k v ρ' G' F' H' s sh e' (i _ _ po)
theorem EP.imp {p q : D → List Sl → Prop} (h : EP K ρ te p) (i : ∀ a ρ', p a ρ' → q a ρ') : EP K ρ te q :=
  fun G F H σ f e Q k => h G F H σ f e Q fun v a ρ' G' F' H' s sh e' o po => k v a ρ' G' F' H' s sh e' o (i _ _ po)
/-- data as a value -/
theorem ed_of_ep {post : Ar → List Sl → Prop} (h : EP K ρ te fun x ρ' => post (.d x) ρ') : ED K ρ te post :=
  fun G F H σ f e Q k => h G F H σ f e Q fun v x ρ' G' F' H' s sh e' o po => k v (.d x) ρ' G' F' H' s sh e' o .d po
def asD (post : D → List Sl → Prop) (a : Ar) (ρ : List Sl) : Prop := match a with
  | .d x => post x ρ
  | .n _ x => post x ρ
  | .c _ => False
/-- a value as data -/
theorem ep_of_ed {post : D → List Sl → Prop} (h : ED K ρ te (asD post)) : EP K ρ te post := by
  intro G F H σ f e Q k
  refine h G F H σ f e Q fun v a ρ' G' F' H' s sh e' o w po => ?_
  cases a with
  | d x => exact k v x ρ' G' F' H' s sh e' o po
  | c i => exact False.elim po
  | n p x =>
    obtain ⟨rfl, h, hn⟩ := o
    obtain ⟨G2, F2, e1, f2, hf, ev2, r⟩ := nx_give s.fr e' h hn
    have hp := w p x rfl
    refine k _ x ρ' G2 F2 H' ⟨s.ex.trans e1, f2, fun b u hb hc => ?_, s.cel⟩ sh ev2 r po
    have hbp : b ≠ p := fun z => by rw [z, hp] at hb; cases hb
    exact (hf b hbp).trans (s.keep b u hb hc)
end
/-! ### operations on values -/
inductive Rs where
  | d (x : D) | n (x : D)
def RsOk (K : PySem.W.Frag) (F G' F' : Hp) : Rs → V → Prop
  | .d x, v => Rep K G' v x
  | .n x, v => ∃ p, v = .ref p ∧ F p = none ∧ CellOk K G' F' p x
/-- what an operation hands back: Q from post -/
def Back (K : PySem.W.Frag) (G F : Hp) (post : Rs → Prop) (Q : VK) : Prop :=
  ∀ u z G' F' H', Same G G' → Same F F' → Fr G' F' H' → RsOk K F G' F' z u → post z → Q u H'
def OD (K : PySem.W.Frag) (r : R2) (x y : D) (post : Rs → Prop) : Prop :=
  ∀ (G F H : Hp) (v w : V), Fr G F H → RepT K G H v x → RepT K G H w y → ∀ Q : VK, Back K G F post Q → r v w H Q
def UD (K : PySem.W.Frag) (r : V → Hp → VK → Prop) (x : D) (post : Rs → Prop) : Prop :=
  ∀ (G F H : Hp) (v : V), Fr G F H → RepT K G H v x → ∀ Q : VK, Back K G F post Q → r v H Q
inductive RepsT (K : PySem.W.Frag) (G H : Hp) : List V → List D → Prop
  | nil : RepsT K G H [] []
  | cons {v : V} {vs : List V} {d : D} {ds : List D} : RepT K G H v d → RepsT K G H vs ds → RepsT K G H (v :: vs) (d :: ds)
def CD (K : PySem.W.Frag) (r : List V → Hp → VK → Prop) (xs : List D) (post : Rs → Prop) : Prop :=
  ∀ (G F H : Hp) (vs : List V), Fr G F H → RepsT K G H vs xs → ∀ Q : VK, Back K G F post Q → r vs H Q
/-- a method's call by values: the receiver too -/
def MD (K : PySem.W.Frag) (r : V → List V → Hp → VK → Prop) (x : D) (xs : List D) (post : Rs → Prop) : Prop :=
  ∀ (G F H : Hp) (v : V) (vs : List V), Fr G F H → RepT K G H v x → RepsT K G H vs xs → ∀ Q : VK, Back K G F post Q → r v vs H Q
/-- a result among the slots -/
def rsA (post : Ar → List Sl → Prop) (ρ : List Sl) : Rs → Prop
  | .d x => post (.d x) ρ
  | .n x => ∀ p, post (.n p x) ρ
section
variable {K : PySem.W.Frag} {ρ : List Sl} {G F H : Hp} {σ : St}
/-- from an operation's end to an expression's -/
theorem back_of {post : Ar → List Sl → Prop} {Q : VK} (f : Fr G F H) (ev : Env K G F σ ρ)
    (k : ∀ v a G' F' H', Nx ρ G F ρ G' F' H' → Env K G' F' σ ρ → ArOk K G' F' ρ a v → ArNew F a → post a ρ → Q v H') : Back K G F (rsA post ρ) Q := by
  intro u z G' F' H' e1 e2 f' ok po
  have s : Nx ρ G F ρ G' F' H' := ⟨e1, f', fun b o h _ => e2 b o h, fun _ h => .inl h⟩
  have ev' : Env K G' F' σ ρ := ev.mono e1 fun p hp => by
    obtain ⟨i, x, e⟩ := cells_mem hp
    obtain ⟨o, ho⟩ := (ev.cell e).2.some
    rw [ho, e2 _ _ ho]
  cases z with
  | d x => exact k u (.d x) G' F' H' s ev' ok .d po
  | n x =>
    obtain ⟨p, rfl, hp, hc⟩ := ok
    refine k _ (.n p x) G' F' H' s ev' ⟨rfl, hc, fun z => ?_⟩ (fun q y e => by cases e; exact hp) (po p)
    obtain ⟨i, y, e⟩ := cells_mem z
    obtain ⟨o, ho⟩ := (ev.cell e).2.some
    rw [hp] at ho; cases ho
theorem ArsOk.step {as : List Ar} {vs : List V} {ρ' : List Sl} {G' F' H' : Hp} (h : ArsOk K G F ρ as vs) (s : Nx ρ G F ρ' G' F' H') (sh : Shp ρ ρ') : ArsOk K G' F' ρ' as vs := by
  induction h with
  | nil => exact .nil
  | cons a _ ih => exact .cons (a.step s sh) ih
theorem ArsOk.tops {as : List Ar} {vs : List V} (h : ArsOk K G F ρ as vs) (f : Fr G F H) (ev : Env K G F σ ρ) : RepsT K G H vs (as.map (arD ρ)) := by
  induction h with
  | nil => exact .nil
  | cons a _ ih => exact .cons (a.top f ev) ih
end
/-! ### expressions -/
section
variable {K : PySem.W.Frag} {ρ : List Sl} {ta tb te : TE} {post : Ar → List Sl → Prop}
theorem ed_var {i : Nat} {x : D} (h : ρ[i]? = some (.d x)) (q : post (.d x) ρ) : ED K ρ (tVar i) post := by
  intro G F H σ f e Q k
  obtain ⟨o, h1, v, rfl, r⟩ := e.at_ i _ h
  exact ⟨v, h1, k v (.d x) ρ G F H (.refl f) (.refl ρ) e r .d q⟩
theorem ed_cell {i : Nat} {p : Addr} {x : D} (h : ρ[i]? = some (.cell p x)) (q : post (.c i) ρ) : ED K ρ (tVar i) post := by
  intro G F H σ f e Q k
  obtain ⟨h1, h2⟩ := e.cell h
  exact ⟨_, h1, k _ (.c i) ρ G F H (.refl f) (.refl ρ) e ⟨p, x, h, rfl⟩ .c q⟩
theorem ed_c {v : V} {x : D} (h : ∀ G, Rep K G v x) (q : post (.d x) ρ) : ED K ρ (tC v) post := by
  intro G F H σ f e Q k
  exact k v (.d x) ρ G F H (.refl f) (.refl ρ) e (h G) .d q
theorem ed_int {i : Int} (q : post (.d (.int i)) ρ) : ED K ρ (tC (.int i)) post := ed_c (fun _ => .int i) q
theorem ed_bl {b : Bool} (q : post (.d (.bl b)) ρ) : ED K ρ (tC (.bl b)) post := ed_c (fun _ => .bl b) q
theorem ed_non (q : post (.d .non) ρ) : ED K ρ (tC .non) post := ed_c (fun _ => .non) q
theorem ed_str {z : Str} {l : List Nat} (hl : z = S l) (q : post (.d (.str l)) ρ) : ED K ρ (tC (.str z)) post := ed_c (fun _ => hl ▸ .str l) q
theorem ed_ty {n : String} (q : post (.d (.ty n)) ρ) : ED K ρ (tC (.ty n)) post := ed_c (fun _ => .ty n) q
theorem ed_op {r : R2} (h : ED K ρ ta fun a ρ1 => ED K ρ1 tb fun b ρ2 => OD K r (arD ρ2 a) (arD ρ2 b) (rsA post ρ2)) : ED K ρ (tOp r ta tb) post := by
  intro G F H σ f e Q k
  refine h G F H σ f e _ fun v a ρ1 G1 F1 H1 s1 sh1 e1 o1 w1 h1 => ?_
  refine h1 G1 F1 H1 σ s1.fr e1 _ fun u b ρ2 G2 F2 H2 s2 sh2 e2 o2 w2 h2 => ?_
  refine h2 G2 F2 H2 v u s2.fr ((o1.step s2 sh2).top s2.fr e2) (o2.top s2.fr e2) Q (back_of s2.fr e2 fun z c G3 F3 H3 s3 e3 o3 w3 po => ?_)
  have s12 := s1.trans s2
  exact k z c ρ2 G3 F3 H3 (s12.trans s3) (sh1.trans sh2) e3 o3 (ArNew.back s12 (sh1.trans sh2) e2 w3) po
theorem ed_un {r : V → Hp → VK → Prop} (h : ED K ρ ta fun a ρ1 => UD K r (arD ρ1 a) (rsA post ρ1)) : ED K ρ (tUn r ta) post := by
  intro G F H σ f e Q k
  refine h G F H σ f e _ fun v a ρ1 G1 F1 H1 s1 sh1 e1 o1 w1 h1 => ?_
  refine h1 G1 F1 H1 v s1.fr (o1.top s1.fr e1) Q (back_of s1.fr e1 fun z c G3 F3 H3 s3 e3 o3 w3 po => ?_)
  exact k z c ρ1 G3 F3 H3 (s1.trans s3) sh1 e3 o3 (ArNew.back s1 sh1 e1 w3) po
theorem ea_nil {post : List Ar → List Sl → Prop} (q : post [] ρ) : EA K ρ tNil post := fun G F H σ f e Q k => k [] [] ρ G F H (.refl f) (.refl ρ) e .nil q
theorem ea_cons {tr : TA} {post : List Ar → List Sl → Prop} (h : ED K ρ ta fun a ρ1 => EA K ρ1 tr fun as ρ2 => post (a :: as) ρ2) : EA K ρ (tCons ta tr) post := by
  intro G F H σ f e Q k
  refine h G F H σ f e _ fun v a ρ1 G1 F1 H1 s1 sh1 e1 o1 w1 h1 => ?_
  refine h1 G1 F1 H1 σ s1.fr e1 _ fun vs as ρ2 G2 F2 H2 s2 sh2 e2 o2 h2 => ?_
  exact k _ _ ρ2 G2 F2 H2 (s1.trans s2) (sh1.trans sh2) e2 (.cons (o1.step s2 sh2) o2) h2
theorem ed_cb {r : List V → Hp → VK → Prop} {tl : TA} (h : EA K ρ tl fun as ρ1 => CD K r (as.map (arD ρ1)) (rsA post ρ1)) : ED K ρ (tCB r tl) post := by
  intro G F H σ f e Q k
  refine h G F H σ f e _ fun vs as ρ1 G1 F1 H1 s1 sh1 e1 o1 h1 => ?_
  refine h1 G1 F1 H1 vs s1.fr (o1.tops s1.fr e1) Q (back_of s1.fr e1 fun z c G3 F3 H3 s3 e3 o3 w3 po => ?_)
  exact k z c ρ1 G3 F3 H3 (s1.trans s3) sh1 e3 o3 (ArNew.back s1 sh1 e1 w3) po
/-- items of a display: data -/
def PAs (K : PySem.W.Frag) (ρ : List Sl) (ta : TA) (post : List D → List Sl → Prop) : Prop :=
  ∀ (G F H : Hp) (σ : St), Fr G F H → Env K G F σ ρ → ∀ Q : List V → Hp → Prop,
    (∀ vs xs ρ' G' F' H', Nx ρ G F ρ' G' F' H' → Shp ρ ρ' → Env K G' F' σ ρ' → Reps K G' vs xs → post xs ρ' → Q vs H') → ta σ H Q
theorem dp_nil {post : List D → List Sl → Prop} (q : post [] ρ) : PAs K ρ tNil post := fun G F H σ f e Q k => k [] [] ρ G F H (.refl f) (.refl ρ) e .nil q
theorem dp_cons {tr : TA} {post : List D → List Sl → Prop} (h : EP K ρ ta fun a ρ1 => PAs K ρ1 tr fun as ρ2 => post (a :: as) ρ2) : PAs K ρ (tCons ta tr) post := by
  intro G F H σ f e Q k
  refine h G F H σ f e _ fun v a ρ1 G1 F1 H1 s1 sh1 e1 o1 h1 => ?_
  refine h1 G1 F1 H1 σ s1.fr e1 _ fun vs as ρ2 G2 F2 H2 s2 sh2 e2 o2 h2 => ?_
  exact k _ _ ρ2 G2 F2 H2 (s1.trans s2) (sh1.trans sh2) e2 (.cons (o1.mono s2.ex) o2) h2
theorem ed_tup {tl : TA} (h : PAs K ρ tl fun xs ρ1 => xs.length ≤ sizeLine ∧ post (.d (.tup xs)) ρ1) : ED K ρ (tTup tl) post := by
  intro G F H σ f e Q k
  refine h G F H σ f e _ fun vs xs ρ1 G1 F1 H1 s1 sh1 e1 o1 h1 => ?_
  refine ⟨by rw [o1.len]; exact h1.1, fun p hp => ?_⟩
  have e2 : Same G1 (upd G1 p (.tup vs)) := same_new (none_of_same s1.fr.g hp)
  have s2 : Nx ρ1 G1 F1 ρ1 (upd G1 p (.tup vs)) F1 (upd H1 p (.tup vs)) := ⟨e2, s1.fr.newG hp, fun _ _ h _ => h, fun _ h => .inl h⟩
  exact k _ (.d (.tup xs)) ρ1 _ _ _ (s1.trans s2) sh1 (e1.mono e2 fun _ _ => rfl) (.tup (.inl (.inl upd_same)) (o1.mono e2)) .d h1.2
theorem ed_lst {tl : TA} (h : PAs K ρ tl fun xs ρ1 => xs.length ≤ sizeLine ∧ ∀ p, post (.n p (.lst xs)) ρ1) : ED K ρ (tLst tl) post := by
  intro G F H σ f e Q k
  refine h G F H σ f e _ fun vs xs ρ1 G1 F1 H1 s1 sh1 e1 o1 h1 => ?_
  refine ⟨by rw [o1.len]; exact h1.1, fun p hp => ?_⟩
  have hF : F1 p = none := none_of_same s1.fr.f hp
  have e2 : Same F1 (upd F1 p (.lst vs)) := same_new hF
  have nc : p ∉ cells ρ1 := fun z => by
    obtain ⟨i, y, e⟩ := cells_mem z
    obtain ⟨o, ho⟩ := (e1.cell e).2.some
    rw [hF] at ho; cases ho
  have s2 : Nx ρ1 G1 F1 ρ1 G1 (upd F1 p (.lst vs)) (upd H1 p (.lst vs)) := ⟨.refl _, s1.fr.newF hp, fun _ _ h _ => e2 _ _ h, fun _ h => .inl h⟩
  refine k _ (.n p (.lst xs)) ρ1 _ _ _ (s1.trans s2) sh1 (e1.mono (.refl _) fun q hq => upd_ne fun z => nc (z ▸ hq)) ⟨rfl, ⟨vs, upd_same, o1⟩, nc⟩ (fun q y z => ?_) (h1.2 p)
  cases z
  exact nx_back s1 sh1 e1 hF
end
end DL
namespace DL
open PySem L2
variable [HasT]
section
variable {K : PySem.W.Frag} {ρ : List Sl} {ta tb tc te : TE} {tt tu : TT} {post : Ar → List Sl → Prop}
/-! ### tests -/
def isB (post : Bool → List Sl → Prop) (a : Ar) (ρ : List Sl) : Prop := match a with
  | .d (.bl b) => post b ρ
  | _ => False
theorem td_test {post : Bool → List Sl → Prop} (h : ED K ρ te (isB post)) : TD K ρ (tTest te) post := by
  intro G F H σ f e Q k
  refine h G F H σ f e _ fun v a ρ1 G1 F1 H1 s1 sh1 e1 o1 w1 h1 => ?_
  cases a with
  | c i => exact False.elim h1
  | n p x => exact False.elim h1
  | d x =>
    cases x with
    | bl b => cases o1; exact ⟨b, rfl, k b ρ1 G1 F1 H1 s1 sh1 e1 h1⟩
    | _ => exact False.elim h1
theorem td_B {post : Bool → List Sl → Prop} (h : ED K ρ te (isB post)) : TD K ρ (tB te) post := by
  intro G F H σ f e Q k
  refine h G F H σ f e _ fun v a ρ1 G1 F1 H1 s1 sh1 e1 o1 w1 h1 => ?_
  cases a with
  | c i => exact False.elim h1
  | n p x => exact False.elim h1
  | d x =>
    cases x with
    | bl b => cases o1; exact ⟨b, rfl, k b ρ1 G1 F1 H1 s1 sh1 e1 h1⟩
    | _ => exact False.elim h1
theorem td_and {post : Bool → List Sl → Prop} (h : TD K ρ tt fun b ρ1 => if b = true then TD K ρ1 tu post else post false ρ1) : TD K ρ (tAnd tt tu) post := by
  intro G F H σ f e Q k
  refine h G F H σ f e _ fun b ρ1 G1 F1 H1 s1 sh1 e1 h1 => ?_
  cases b with
  | true =>
    rw [if_pos rfl] at h1 ⊢
    exact h1 G1 F1 H1 σ s1.fr e1 Q fun c ρ2 G2 F2 H2 s2 sh2 e2 q => k c ρ2 G2 F2 H2 (s1.trans s2) (sh1.trans sh2) e2 q
  | false =>
    rw [if_neg Bool.false_ne_true] at h1 ⊢
    exact k false ρ1 G1 F1 H1 s1 sh1 e1 h1
theorem td_or {post : Bool → List Sl → Prop} (h : TD K ρ tt fun b ρ1 => if b = true then post true ρ1 else TD K ρ1 tu post) : TD K ρ (tOr tt tu) post := by
  intro G F H σ f e Q k
  refine h G F H σ f e _ fun b ρ1 G1 F1 H1 s1 sh1 e1 h1 => ?_
  cases b with
  | true =>
    rw [if_pos rfl] at h1 ⊢
    exact k true ρ1 G1 F1 H1 s1 sh1 e1 h1
  | false =>
    rw [if_neg Bool.false_ne_true] at h1 ⊢
    exact h1 G1 F1 H1 σ s1.fr e1 Q fun c ρ2 G2 F2 H2 s2 sh2 e2 q => k c ρ2 G2 F2 H2 (s1.trans s2) (sh1.trans sh2) e2 q
theorem td_not {post : Bool → List Sl → Prop} (h : TD K ρ tt fun b ρ1 => post (!b) ρ1) : TD K ρ (tNot tt) post := by
  intro G F H σ f e Q k
  exact h G F H σ f e _ fun b ρ1 G1 F1 H1 s1 sh1 e1 h1 => k (!b) ρ1 G1 F1 H1 s1 sh1 e1 h1
/-- truth of data -/
def truD : D → Option Bool
  | .non => some false
  | .bl b => some b
  | .int i => some (i != 0)
  | .str s => some (!s.isEmpty)
  | .lst ds => some (!ds.isEmpty)
  | .tup ds => some (!ds.isEmpty)
  | .dct ds => some (!ds.isEmpty)
  | _ => none
theorem truV_of {G H : Hp} {v : V} {x : D} {k : Bool} (g : Same G H) (h : RepT K G H v x) (e : truD x = some k) (hz : ∀ s, x = .str s → s.length ≤ sizeLine) : TruV K v H k := by
  cases x with
  | non => cases h; cases e; rfl
  | bl b => cases h; cases e; rfl
  | int i => cases h; cases e; rfl
  | str s =>
    cases h
    cases e
    refine ⟨by rw [S_len]; exact hz s rfl, ?_⟩
    rw [S_len]
    cases s with
    | nil => rfl
    | cons c s =>
      show true = (((s.length + 1 : Nat) : Int) != 0)
      have : ((s.length + 1 : Nat) : Int) ≠ 0 := by omega
      exact (bne_iff_ne.mpr this).symm
  | lst ds => obtain ⟨a, xs, rfl, h1, h2⟩ := h; cases e; exact .inl ⟨xs, h1, by cases h2 <;> rfl⟩
  | tup ds => cases h with | tup h1 h2 => cases e; exact .inr (.inl ⟨_, sqt_mono g h1, by cases h2 <;> rfl⟩)
  | dct ds => obtain ⟨a, xs, rfl, h1, h2⟩ := h; cases e; exact .inr (.inr ⟨xs, h1, by cases h2 <;> rfl⟩)
  | obj a => cases e
  | ty n => cases e
  | cls _ => cases e
  | exc _ _ _ => cases e
  | fnc _ _ => cases e
/-! ### and, or, not as values of two -/
theorem ed_andV (h : ED K ρ ta (isB fun b ρ1 => if b = true then ED K ρ1 tb post else post (.d (.bl false)) ρ1)) : ED K ρ (tAndV ta tb) post := by
  intro G F H σ f e Q k
  refine h G F H σ f e _ fun v a ρ1 G1 F1 H1 s1 sh1 e1 o1 w1 h1 => ?_
  cases a with
  | c i => exact False.elim h1
  | n p x => exact False.elim h1
  | d x =>
    cases x with
    | bl b =>
      cases o1
      refine ⟨b, rfl, ?_⟩
      change (if b = true then _ else _) at h1
      cases b with
      | true =>
        rw [if_pos rfl] at h1 ⊢
        exact h1 G1 F1 H1 σ s1.fr e1 Q fun v a ρ2 G2 F2 H2 s2 sh2 e2 o2 w2 q => k v a ρ2 G2 F2 H2 (s1.trans s2) (sh1.trans sh2) e2 o2 (ArNew.back s1 sh1 e1 w2) q
      | false =>
        rw [if_neg Bool.false_ne_true] at h1 ⊢
        exact k _ (.d (.bl false)) ρ1 G1 F1 H1 s1 sh1 e1 (Rep.bl false) .d h1
    | _ => exact False.elim h1
theorem ed_orV (h : ED K ρ ta (isB fun b ρ1 => if b = true then post (.d (.bl true)) ρ1 else ED K ρ1 tb post)) : ED K ρ (tOrV ta tb) post := by
  intro G F H σ f e Q k
  refine h G F H σ f e _ fun v a ρ1 G1 F1 H1 s1 sh1 e1 o1 w1 h1 => ?_
  cases a with
  | c i => exact False.elim h1
  | n p x => exact False.elim h1
  | d x =>
    cases x with
    | bl b =>
      cases o1
      refine ⟨b, rfl, ?_⟩
      change (if b = true then _ else _) at h1
      cases b with
      | true =>
        rw [if_pos rfl] at h1 ⊢
        exact k _ (.d (.bl true)) ρ1 G1 F1 H1 s1 sh1 e1 (Rep.bl true) .d h1
      | false =>
        rw [if_neg Bool.false_ne_true] at h1 ⊢
        exact h1 G1 F1 H1 σ s1.fr e1 Q fun v a ρ2 G2 F2 H2 s2 sh2 e2 o2 w2 q => k v a ρ2 G2 F2 H2 (s1.trans s2) (sh1.trans sh2) e2 o2 (ArNew.back s1 sh1 e1 w2) q
    | _ => exact False.elim h1
theorem ed_notV (h : ED K ρ ta (isB fun b ρ1 => post (.d (.bl !b)) ρ1)) : ED K ρ (tNotV ta) post := by
  intro G F H σ f e Q k
  refine h G F H σ f e _ fun v a ρ1 G1 F1 H1 s1 sh1 e1 o1 w1 h1 => ?_
  cases a with
  | c i => exact False.elim h1
  | n p x => exact False.elim h1
  | d x =>
    cases x with
    | bl b => cases o1; exact ⟨b, rfl, k _ (.d (.bl _)) ρ1 G1 F1 H1 s1 sh1 e1 (Rep.bl _) .d h1⟩
    | _ => exact False.elim h1
theorem ed_if (h : TD K ρ tt fun b ρ1 => if b = true then ED K ρ1 ta post else ED K ρ1 tb post) : ED K ρ (tIf tt ta tb) post := by
  intro G F H σ f e Q k
  refine h G F H σ f e _ fun b ρ1 G1 F1 H1 s1 sh1 e1 h1 => ?_
  cases b with
  | true =>
    rw [if_pos rfl] at h1 ⊢
    exact h1 G1 F1 H1 σ s1.fr e1 Q fun v a ρ2 G2 F2 H2 s2 sh2 e2 o2 w2 q => k v a ρ2 G2 F2 H2 (s1.trans s2) (sh1.trans sh2) e2 o2 (ArNew.back s1 sh1 e1 w2) q
  | false =>
    rw [if_neg Bool.false_ne_true] at h1 ⊢
    exact h1 G1 F1 H1 σ s1.fr e1 Q fun v a ρ2 G2 F2 H2 s2 sh2 e2 o2 w2 q => k v a ρ2 G2 F2 H2 (s1.trans s2) (sh1.trans sh2) e2 o2 (ArNew.back s1 sh1 e1 w2) q
def isBs (post : Bool → Prop) (z : Rs) : Prop := match z with
  | .d (.bl b) => post b
  | _ => False
/-- a op b op' c -/
theorem ed_chain {r r' : R2} (h : ED K ρ ta fun a ρ1 => ED K ρ1 tb fun b ρ2 => OD K r (arD ρ2 a) (arD ρ2 b) (isBs fun k => if k = true then ED K ρ2 tc fun c ρ3 => OD K r' (arD ρ3 b) (arD ρ3 c) (rsA post ρ3) else post (.d (.bl false)) ρ2)) : ED K ρ (tChain r r' ta tb tc) post := by
  intro G F H σ f e Q k
  refine h G F H σ f e _ fun v a ρ1 G1 F1 H1 s1 sh1 e1 o1 w1 h1 => ?_
  refine h1 G1 F1 H1 σ s1.fr e1 _ fun u b ρ2 G2 F2 H2 s2 sh2 e2 o2 w2 h2 => ?_
  have s12 := s1.trans s2
  have sh12 := sh1.trans sh2
  refine h2 G2 F2 H2 v u s2.fr ((o1.step s2 sh2).top s2.fr e2) (o2.top s2.fr e2) _ fun z y G3 F3 H3 g3 f3 fr3 ok3 po => ?_
  have s3 : Nx ρ2 G2 F2 ρ2 G3 F3 H3 := ⟨g3, fr3, fun b o h _ => f3 b o h, fun _ h => .inl h⟩
  have e3 : Env K G3 F3 σ ρ2 := e2.mono g3 fun p hp => by
    obtain ⟨i, x, e⟩ := cells_mem hp
    obtain ⟨o, ho⟩ := (e2.cell e).2.some
    rw [ho, f3 _ _ ho]
  have s13 := s12.trans s3
  cases y with
  | n x => exact False.elim po
  | d x =>
    cases x with
    | bl c =>
      cases ok3
      refine ⟨c, rfl, ?_⟩
      change (if c = true then _ else _) at po
      cases c with
      | false =>
        rw [if_neg Bool.false_ne_true] at po ⊢
        exact k _ (.d (.bl false)) ρ2 G3 F3 H3 s13 sh12 e3 (Rep.bl false) .d po
      | true =>
        rw [if_pos rfl] at po ⊢
        refine po G3 F3 H3 σ fr3 e3 _ fun w c ρ4 G4 F4 H4 s4 sh4 e4 o4 w4 h4 => ?_
        refine h4 G4 F4 H4 u w s4.fr (((o2.step s3 (.refl _)).step s4 sh4).top s4.fr e4) (o4.top s4.fr e4) Q (back_of s4.fr e4 fun z c G5 F5 H5 s5 e5 o5 w5 po => ?_)
        have s14 := s13.trans s4
        exact k z c ρ4 G5 F5 H5 (s14.trans s5) (sh12.trans sh4) e5 o5 (ArNew.back s14 (sh12.trans sh4) e4 w5) po
    | _ => exact False.elim po
/-! ### slices -/
def isI (post : Option Int → List Sl → Prop) (a : Ar) (ρ : List Sl) : Prop := match a with
  | .d (.int i) => post (some i) ρ
  | _ => False
def OPt (K : PySem.W.Frag) (ρ : List Sl) (to : TO) (post : Option Int → List Sl → Prop) : Prop :=
  ∀ (G F H : Hp) (σ : St), Fr G F H → Env K G F σ ρ → ∀ Q : Option Int → Hp → Prop,
    (∀ o ρ' G' F' H', Nx ρ G F ρ' G' F' H' → Shp ρ ρ' → Env K G' F' σ ρ' → post o ρ' → Q o H') → to σ H Q
theorem op_none {post : Option Int → List Sl → Prop} (q : post none ρ) : OPt K ρ tNoPart post := fun G F H σ f e Q k => k none ρ G F H (.refl f) (.refl ρ) e q
theorem op_some {post : Option Int → List Sl → Prop} (h : ED K ρ te (isI post)) : OPt K ρ (tPart te) post := by
  intro G F H σ f e Q k
  refine h G F H σ f e _ fun v a ρ1 G1 F1 H1 s1 sh1 e1 o1 w1 h1 => ?_
  cases a with
  | c i => exact False.elim h1
  | n p x => exact False.elim h1
  | d x =>
    cases x with
    | int i => cases o1; exact ⟨i, rfl, k _ ρ1 G1 F1 H1 s1 sh1 e1 h1⟩
    | _ => exact False.elim h1
def SlD (K : PySem.W.Frag) (r : V → Option Int → Option Int → Hp → VK → Prop) (x : D) (lo hi : Option Int) (post : Rs → Prop) : Prop :=
  ∀ (G F H : Hp) (v : V), Fr G F H → RepT K G H v x → ∀ Q : VK, Back K G F post Q → r v lo hi H Q
theorem ed_sl {r : V → Option Int → Option Int → Hp → VK → Prop} {tl th : TO} (h : ED K ρ te fun a ρ1 => OPt K ρ1 tl fun lo ρ2 => OPt K ρ2 th fun hi ρ3 => SlD K r (arD ρ3 a) lo hi (rsA post ρ3)) : ED K ρ (tSl r te tl th) post := by
  intro G F H σ f e Q k
  refine h G F H σ f e _ fun v a ρ1 G1 F1 H1 s1 sh1 e1 o1 w1 h1 => ?_
  refine h1 G1 F1 H1 σ s1.fr e1 _ fun lo ρ2 G2 F2 H2 s2 sh2 e2 h2 => ?_
  refine h2 G2 F2 H2 σ s2.fr e2 _ fun hi ρ3 G3 F3 H3 s3 sh3 e3 h3 => ?_
  refine h3 G3 F3 H3 v s3.fr (((o1.step s2 sh2).step s3 sh3).top s3.fr e3) Q (back_of s3.fr e3 fun z c G4 F4 H4 s4 e4 o4 w4 po => ?_)
  have s13 := (s1.trans s2).trans s3
  have sh13 := (sh1.trans sh2).trans sh3
  exact k z c ρ3 G4 F4 H4 (s13.trans s4) sh13 e4 o4 (ArNew.back s13 sh13 e3 w4) po
/-! ### methods of built-in values -/
/-- the receiver's type -/
def tyD : D → Option String
  | .str _ => some "str" | .int _ => some "int" | .lst _ => some "list" | .dct _ => some "dict" | _ => none
theorem tyV_of {G H : Hp} {v : V} {x : D} {T : String} (h : RepT K G H v x) (e : tyD x = some T) : tyV K T v H := by
  cases x with
  | str s => cases h; cases e; rfl
  | int s => cases h; cases e; rfl
  | lst ds => obtain ⟨a, xs, rfl, h1, h2⟩ := h; cases e; exact .inl ⟨rfl, xs, h1⟩
  | dct ds => obtain ⟨a, xs, rfl, h1, h2⟩ := h; cases e; exact .inr (.inr (.inl ⟨rfl, .inl ⟨xs, h1⟩⟩))
  | _ => cases e
theorem ed_bm0 {T : String} {r : V → List V → Hp → VK → Prop} (h : ED K ρ te fun a ρ1 => tyD (arD ρ1 a) = some T ∧ MD K r (arD ρ1 a) [] (rsA post ρ1)) : ED K ρ (tBM0 K T r te) post := by
  intro G F H σ f e Q k
  refine h G F H σ f e _ fun v a ρ1 G1 F1 H1 s1 sh1 e1 o1 w1 h1 => ?_
  have t1 := o1.top s1.fr e1
  refine ⟨tyV_of t1 h1.1, h1.2 G1 F1 H1 v [] s1.fr t1 .nil Q (back_of s1.fr e1 fun z c G3 F3 H3 s3 e3 o3 w3 po => ?_)⟩
  exact k z c ρ1 G3 F3 H3 (s1.trans s3) sh1 e3 o3 (ArNew.back s1 sh1 e1 w3) po
theorem ed_bm {T : String} {r : V → List V → Hp → VK → Prop} {tl : TA} (h : ED K ρ te fun a ρ1 => tyD (arD ρ1 a) = some T ∧ EA K ρ1 tl fun as ρ2 => MD K r (arD ρ2 a) (as.map (arD ρ2)) (rsA post ρ2)) : ED K ρ (tBM K T r te tl) post := by
  intro G F H σ f e Q k
  refine h G F H σ f e _ fun v a ρ1 G1 F1 H1 s1 sh1 e1 o1 w1 h1 => ?_
  refine ⟨tyV_of (o1.top s1.fr e1) h1.1, ?_⟩
  refine h1.2 G1 F1 H1 σ s1.fr e1 _ fun vs as ρ2 G2 F2 H2 s2 sh2 e2 o2 h2 => ?_
  refine h2 G2 F2 H2 v vs s2.fr ((o1.step s2 sh2).top s2.fr e2) (o2.tops s2.fr e2) Q (back_of s2.fr e2 fun z c G3 F3 H3 s3 e3 o3 w3 po => ?_)
  exact k z c ρ2 G3 F3 H3 ((s1.trans s2).trans s3) (sh1.trans sh2) e3 o3 (ArNew.back (s1.trans s2) (sh1.trans sh2) e2 w3) po
theorem isStr_of {G H : Hp} {v : V} {x : D} (h : RepT K G H v x) (e : tyD x = some "str") : ∃ a, v = .str a := by
  cases x with
  | str s => cases h; exact ⟨_, rfl⟩
  | int s => exact absurd (Option.some.inj e) (by decide)
  | lst s => exact absurd (Option.some.inj e) (by decide)
  | dct s => exact absurd (Option.some.inj e) (by decide)
  | _ => cases e
theorem ed_m0 {r : V → List V → Hp → VK → Prop} (h : ED K ρ te fun a ρ1 => tyD (arD ρ1 a) = some "str" ∧ MD K r (arD ρ1 a) [] (rsA post ρ1)) : ED K ρ (tM0 r te) post := by
  intro G F H σ f e Q k
  refine h G F H σ f e _ fun v a ρ1 G1 F1 H1 s1 sh1 e1 o1 w1 h1 => ?_
  have t1 := o1.top s1.fr e1
  refine ⟨isStr_of t1 h1.1, h1.2 G1 F1 H1 v [] s1.fr t1 .nil Q (back_of s1.fr e1 fun z c G3 F3 H3 s3 e3 o3 w3 po => ?_)⟩
  exact k z c ρ1 G3 F3 H3 (s1.trans s3) sh1 e3 o3 (ArNew.back s1 sh1 e1 w3) po
theorem ed_m1 {r : V → List V → Hp → VK → Prop} (h : ED K ρ ta fun a ρ1 => tyD (arD ρ1 a) = some "str" ∧ ED K ρ1 tb fun b ρ2 => MD K r (arD ρ2 a) [arD ρ2 b] (rsA post ρ2)) : ED K ρ (tM1 r ta tb) post := by
  intro G F H σ f e Q k
  refine h G F H σ f e _ fun v a ρ1 G1 F1 H1 s1 sh1 e1 o1 w1 h1 => ?_
  refine ⟨isStr_of (o1.top s1.fr e1) h1.1, ?_⟩
  refine h1.2 G1 F1 H1 σ s1.fr e1 _ fun u b ρ2 G2 F2 H2 s2 sh2 e2 o2 w2 h2 => ?_
  refine h2 G2 F2 H2 v [u] s2.fr ((o1.step s2 sh2).top s2.fr e2) (.cons (o2.top s2.fr e2) .nil) Q (back_of s2.fr e2 fun z c G3 F3 H3 s3 e3 o3 w3 po => ?_)
  exact k z c ρ2 G3 F3 H3 ((s1.trans s2).trans s3) (sh1.trans sh2) e3 o3 (ArNew.back (s1.trans s2) (sh1.trans sh2) e2 w3) po
end
end DL
namespace DL
open PySem L2
variable [HasT]
/-! ### a cell is written -/
theorem cells_set_same {ρ : List Sl} {j : Nat} {p : Addr} {x y : D} (h : ρ[j]? = some (.cell p x)) : cells (ρ.set j (.cell p y)) = cells ρ := by
  induction ρ generalizing j with
  | nil => rfl
  | cons s ρ ih =>
    cases j with
    | zero =>
      simp at h
      subst h
      rfl
    | succ j =>
      have h' : ρ[j]? = some (.cell p x) := by simpa using h
      have e := ih h'
      unfold cells at e ⊢
      rw [List.set_cons_succ, List.filterMap_cons, List.filterMap_cons, e]
section
variable {K : PySem.W.Frag} {ρ : List Sl} {G F H : Hp} {σ : St}
theorem nd_at {ρ : List Sl} (h : (cells ρ).Nodup) {i j : Nat} {p : Addr} {x y : D} (hi : ρ[i]? = some (.cell p x)) (hj : ρ[j]? = some (.cell p y)) : i = j := by
  induction ρ generalizing i j with
  | nil => simp at hi
  | cons s ρ ih =>
    unfold cells at h
    rw [List.filterMap_cons] at h
    have hn : (cells ρ).Nodup := by
      revert h
      cases e : s.adr with
      | none => intro h; exact h
      | some q => intro h; exact (List.nodup_cons.mp h).2
    cases i with
    | zero =>
      cases j with
      | zero => rfl
      | succ j =>
        simp at hi hj
        subst hi
        exact absurd (mem_cells hj) (List.nodup_cons.mp h).1
    | succ i =>
      cases j with
      | zero =>
        simp at hi hj
        subst hj
        exact absurd (mem_cells hi) (List.nodup_cons.mp h).1
      | succ j => exact congrArg Nat.succ (ih hn (by simpa using hi) (by simpa using hj))
/-- the object of a cell becomes o, its content y -/
theorem cell_write {j : Nat} {p : Addr} {x y : D} {o : HO} (f : Fr G F H) (ev : Env K G F σ ρ) (h : ρ[j]? = some (.cell p x)) (hy : ∀ F', F' p = some o → CellOk K G F' p y) (ho : ∀ φ, o ≠ .ext φ := by exact fun _ z => nomatch z) (hz : ∀ ps, o ≠ .tbl ps := by exact fun _ z => nomatch z) :
    Nx ρ G F (ρ.set j (.cell p y)) G (upd F p o) (upd H p o) ∧ Env K G (upd F p o) σ (ρ.set j (.cell p y)) ∧ Shp ρ (ρ.set j (.cell p y)) := by
  obtain ⟨hv, hc⟩ := ev.cell h
  obtain ⟨u, hu⟩ := hc.some
  have hp : p ∈ cells ρ := mem_cells h
  have hc' := cells_set_same (y := y) h
  refine ⟨⟨.refl _, f.setF hu ho hz, fun b z hb hn => ?_, fun q hq => .inl (by rw [hc'] at hq; exact hq)⟩, ⟨by rw [List.length_set]; exact ev.len, fun i s hs => ?_, by rw [hc']; exact ev.nd⟩, fun i q z hz => ?_⟩
  · have : b ≠ p := fun e => hn (e ▸ hp)
    rw [upd_ne this]; exact hb
  · rw [List.getElem?_set] at hs
    by_cases e : j = i
    · subst e
      rw [if_pos rfl] at hs
      split at hs
      · cases hs
        exact ⟨_, hv, rfl, hy _ upd_same⟩
      · cases hs
    · rw [if_neg e] at hs
      obtain ⟨w, h1, h2⟩ := ev.at_ i s hs
      refine ⟨w, h1, h2.mono (.refl _) fun q z e2 => upd_ne fun e3 => ?_⟩
      subst e2
      subst e3
      exact e (nd_at ev.nd h hs)
  · by_cases e : j = i
    · subst e
      rw [h] at hz
      cases hz
      have hl : j < ρ.length := (List.getElem?_eq_some_iff.mp h).1
      exact ⟨y, by rw [List.getElem?_set_self hl]⟩
    · exact ⟨z, by rw [List.getElem?_set_ne e]; exact hz⟩
end
/-! ### methods that change a cell, and their statements -/
theorem sz_of_cell {K : PySem.W.Frag} {G F : Hp} {p : Addr} {ds : List D} (h : CellOk K G F p (.lst ds)) : ∃ xs, F p = some (.lst xs) ∧ Reps K G xs ds ∧ xs.length = ds.length := by
  obtain ⟨xs, h1, h2⟩ := h
  exact ⟨xs, h1, h2, h2.len⟩
section
variable {K : PySem.W.Frag} {ρ : List Sl} {te : TE} {tl : TA} {post : Ar → List Sl → Prop}
/-- the receiver is a cell that holds a list -/
def isL (post : Nat → Addr → List D → List Sl → Prop) (a : Ar) (ρ : List Sl) : Prop := match a with
  | .c j => ∃ p ds, ρ[j]? = some (.cell p (.lst ds)) ∧ post j p ds ρ
  | _ => False
theorem ed_append (h : ED K ρ te (isL fun j p _ ρ1 => PAs K ρ1 tl fun xs ρ2 => ∃ x ds, xs = [x] ∧ ρ2[j]? = some (.cell p (.lst ds)) ∧ ds.length < sizeLine ∧ post (.d .non) (ρ2.set j (.cell p (.lst (ds ++ [x])))))) : ED K ρ (tBM K "list" rAppend te tl) post := by
  intro G F H σ f e Q k
  refine h G F H σ f e _ fun v a ρ1 G1 F1 H1 s1 sh1 e1 o1 w1 h1 => ?_
  cases a with
  | d x => exact False.elim h1
  | n p x => exact False.elim h1
  | c j =>
    obtain ⟨p, ds, hj, h1⟩ := h1
    obtain ⟨p0, x0, hj0, rfl⟩ := o1
    rw [hj] at hj0
    cases hj0
    obtain ⟨xs0, hx0, _⟩ := (e1.cell hj).2
    refine ⟨.inl ⟨rfl, xs0, .inl (.inl (s1.fr.f _ _ hx0))⟩, ?_⟩
    refine h1 G1 F1 H1 σ s1.fr e1 _ fun vs xs ρ2 G2 F2 H2 s2 sh2 e2 o2 ⟨x, ds2, e3, hj2, hl, q⟩ => ?_
    subst e3
    cases o2 with
    | cons r1 r2 =>
      cases r2
      rename_i v1
      obtain ⟨ys, hy, hr, hyl⟩ := sz_of_cell (e2.cell hj2).2
      obtain ⟨s3, e3, sh3⟩ := cell_write (o := .lst (ys ++ [v1])) (y := .lst (ds2 ++ [x])) s2.fr e2 hj2 fun F' hF => ⟨_, hF, hr.app (.one r1)⟩
      exact ⟨p, ys, v1, rfl, rfl, s2.fr.f _ _ hy, by omega, k _ (.d .non) _ _ _ _ ((s1.trans s2).trans s3) ((sh1.trans sh2).trans sh3) e3 Rep.non .d q⟩
theorem ed_pop (h : ED K ρ te (isL fun j p ds ρ1 => ∃ x, ds.getLast? = some x ∧ post (.d x) (ρ1.set j (.cell p (.lst ds.dropLast))))) : ED K ρ (tBM0 K "list" rPop te) post := by
  intro G F H σ f e Q k
  refine h G F H σ f e _ fun v a ρ1 G1 F1 H1 s1 sh1 e1 o1 w1 h1 => ?_
  cases a with
  | d x => exact False.elim h1
  | n p x => exact False.elim h1
  | c j =>
    obtain ⟨p, ds, hj, x, hx, q⟩ := h1
    obtain ⟨p0, x0, hj0, rfl⟩ := o1
    rw [hj] at hj0
    cases hj0
    obtain ⟨ys, hy, hr, hyl⟩ := sz_of_cell (e1.cell hj).2
    rw [List.getLast?_eq_getElem?, ← hyl] at hx
    obtain ⟨v1, hv1, r1⟩ := hr.get hx
    obtain ⟨s3, e3, sh3⟩ := cell_write (o := .lst ys.dropLast) (y := .lst ds.dropLast) s1.fr e1 hj fun F' hF => ⟨_, hF, hr.dropLast⟩
    exact ⟨.inl ⟨rfl, ys, .inl (.inl (s1.fr.f _ _ hy))⟩, p, ys, v1, rfl, rfl, s1.fr.f _ _ hy, hv1, k _ (.d x) _ _ _ _ (s1.trans s3) (sh1.trans sh3) e3 (r1.mono s3.ex) .d q⟩
theorem eraseIdx_reps {G : Hp} {vs : List V} {ds : List D} (h : Reps K G vs ds) (i : Nat) : Reps K G (vs.eraseIdx i) (ds.eraseIdx i) := by
  induction vs generalizing ds i with
  | nil => cases h; exact .nil
  | cons v vs ih =>
    cases h with
    | cons a b =>
      cases i with
      | zero => exact b
      | succ i => exact .cons a (ih b i)
theorem ed_popAt (h : ED K ρ te (isL fun j p _ ρ1 => EA K ρ1 tl fun xs ρ2 => ∃ i n x ds, xs = [.d (.int i)] ∧ ρ2[j]? = some (.cell p (.lst ds)) ∧ ixN ds.length i = some n ∧ ds.length ≤ sizeLine ∧ ds[n]? = some x ∧ post (.d x) (ρ2.set j (.cell p (.lst (ds.eraseIdx n)))))) : ED K ρ (tBM K "list" rPopAt te tl) post := by
  intro G F H σ f e Q k
  refine h G F H σ f e _ fun v a ρ1 G1 F1 H1 s1 sh1 e1 o1 w1 h1 => ?_
  cases a with
  | d x => exact False.elim h1
  | n p x => exact False.elim h1
  | c j =>
    obtain ⟨p, ds, hj, h1⟩ := h1
    obtain ⟨p0, x0, hj0, rfl⟩ := o1
    rw [hj] at hj0
    cases hj0
    obtain ⟨xs0, hx0, _⟩ := (e1.cell hj).2
    refine ⟨.inl ⟨rfl, xs0, .inl (.inl (s1.fr.f _ _ hx0))⟩, ?_⟩
    refine h1 G1 F1 H1 σ s1.fr e1 _ fun vs xs ρ2 G2 F2 H2 s2 sh2 e2 o2 ⟨i, n, x, ds2, e3, hj2, hn, hl, hx, q⟩ => ?_
    subst e3
    cases o2 with
    | cons r1 r2 =>
      cases r2
      cases r1
      obtain ⟨ys, hy, hr, hyl⟩ := sz_of_cell (e2.cell hj2).2
      obtain ⟨v1, hv1, rx⟩ := hr.get hx
      obtain ⟨s3, e3, sh3⟩ := cell_write (o := .lst (ys.eraseIdx n)) (y := .lst (ds2.eraseIdx n)) s2.fr e2 hj2 fun F' hF => ⟨_, hF, eraseIdx_reps hr n⟩
      rw [← hyl] at hn hl
      obtain ⟨z1, z2, z3, z4⟩ := ixN_seq hn
      have hz : sizeLine = 16777216 := sizeLine_eq
      exact ⟨p, ys, i, n, v1, rfl, rfl, s2.fr.f _ _ hy, by omega, by omega, z1, hv1, k _ (.d x) _ _ _ _ ((s1.trans s2).trans s3) ((sh1.trans sh2).trans sh3) e3 (rx.mono s3.ex) .d q⟩
theorem ed_extend (h : ED K ρ te (isL fun j p _ ρ1 => EA K ρ1 tl fun as ρ2 => ∃ a ds es, as = [a] ∧ ρ2[j]? = some (.cell p (.lst ds)) ∧ arD ρ2 a = .lst es ∧ ds.length + es.length ≤ sizeLine ∧ False)) : ED K ρ (tBM K "list" rExtend te tl) post := by
  intro G F H σ f e Q k
  refine h G F H σ f e _ fun v a ρ1 G1 F1 H1 s1 sh1 e1 o1 w1 h1 => ?_
  cases a with
  | d x => exact False.elim h1
  | n p x => exact False.elim h1
  | c j =>
    obtain ⟨p, ds, hj, h1⟩ := h1
    obtain ⟨p0, x0, hj0, rfl⟩ := o1
    rw [hj] at hj0
    cases hj0
    obtain ⟨xs0, hx0, _⟩ := (e1.cell hj).2
    refine ⟨.inl ⟨rfl, xs0, .inl (.inl (s1.fr.f _ _ hx0))⟩, ?_⟩
    exact h1 G1 F1 H1 σ s1.fr e1 _ fun vs xs ρ2 G2 F2 H2 s2 sh2 e2 o2 ⟨_, _, _, _, _, _, _, z⟩ => z.elim
end
/-! ### statements -/
section
variable {K : PySem.W.Frag} {ρ : List Sl} {te : TE} {ts tu : TS} {P : PD}
theorem sd_next (h : P.nx ρ) : SD K ρ tNext P := fun G F H σ f e Dn k => k.nx ρ σ G F H (.refl f) e h
theorem sd_break (h : P.bk ρ) : SD K ρ tBreak P := fun G F H σ f e Dn k => k.bk ρ σ G F H (.refl f) e h
theorem sd_cont (h : P.ct ρ) : SD K ρ tCont P := fun G F H σ f e Dn k => k.ct ρ σ G F H (.refl f) e h
theorem sd_seq (h : SD K ρ ts { P with nx := fun ρ1 => SD K ρ1 tu P }) : SD K ρ (tSeq ts tu) P := by
  intro G F H σ f e Dn k
  refine h G F H σ f e { Dn with nx := tu Dn } ⟨fun ρ1 σ1 G1 F1 H1 s e1 q => ?_, k.rt, k.bk, k.ct, k.ex⟩
  exact q G1 F1 H1 σ1 s.fr e1 Dn (k.step s)
theorem sd_drop (h : ED K ρ te fun _ ρ1 => P.nx ρ1) : SD K ρ (tDrop te) P := by
  intro G F H σ f e Dn k
  exact h G F H σ f e _ fun v a ρ1 G1 F1 H1 s sh e1 o w q => k.nx ρ1 σ G1 F1 H1 s e1 q
theorem sd_ret (h : ED K ρ te P.rt) : SD K ρ (tRet te) P := by
  intro G F H σ f e Dn k
  exact h G F H σ f e _ fun v a ρ1 G1 F1 H1 s sh e1 o w q => k.rt v a ρ1 σ G1 F1 H1 s e1 o w.c' q
theorem sd_retN (h : P.rt (.d .non) ρ) : SD K ρ tRetN P := fun G F H σ f e Dn k => k.rt .non (.d .non) ρ σ G F H (.refl f) e Rep.non ArNew.d.c' h
theorem sd_if {tt : TT} (h : TD K ρ tt fun b ρ1 => if b = true then SD K ρ1 ts P else SD K ρ1 tu P) : SD K ρ (tIfS tt ts tu) P := by
  intro G F H σ f e Dn k
  refine h G F H σ f e _ fun b ρ1 G1 F1 H1 s sh e1 q => ?_
  cases b with
  | true => rw [if_pos rfl] at q ⊢; exact q G1 F1 H1 σ s.fr e1 Dn (k.step s)
  | false => rw [if_neg Bool.false_ne_true] at q ⊢; exact q G1 F1 H1 σ s.fr e1 Dn (k.step s)
theorem sd_never (h : False) : SD K ρ tNever P := h.elim
theorem nx_set {ρ ρ1 : List Sl} {G F G1 F1 H1 : Hp} {i : Nat} {s : Sl} (x : Nx ρ G F ρ1 G1 F1 H1) (h : ∀ p, s.adr = some p → F p = none) : Nx ρ G F (ρ1.set i s) G1 F1 H1 :=
  ⟨x.ex, x.fr, x.keep, fun p hp => (cells_set_sub hp).elim (x.cel p) fun z => .inr (h p z)⟩
def asgP (i : Nat) (P : List Sl → Prop) (a : Ar) (ρ : List Sl) : Prop := match a with
  | .d x => P (ρ.set i (.d x))
  | .n p x => P (ρ.set i (.cell p x))
  | .c _ => False
/-- x = e; a new list becomes x's cell -/
theorem sd_asg {i : Nat} (h : ED K ρ te (asgP i P.nx)) : SD K ρ (tAsg te (gName i)) P := by
  intro G F H σ f e Dn k
  refine h G F H σ f e _ fun v a ρ1 G1 F1 H1 s sh e1 o w q => ?_
  cases a with
  | c j => exact False.elim q
  | d x => exact k.nx _ _ G1 F1 H1 (nx_set s fun p z => by cases z) (e1.setd i o) q
  | n p x =>
    obtain ⟨rfl, hc, hn⟩ := o
    have hp := w p x rfl
    exact k.nx _ _ G1 F1 H1 (nx_set s fun q z => by cases z; exact hp) (e1.set i (s := .cell p x) ⟨rfl, hc⟩ fun q z => by cases z; exact hn) q
/-- x = e, x data -/
theorem sd_asgP {i : Nat} (h : EP K ρ te fun x ρ1 => P.nx (ρ1.set i (.d x))) : SD K ρ (tAsg te (gName i)) P := by
  intro G F H σ f e Dn k
  exact h G F H σ f e _ fun v x ρ1 G1 F1 H1 s sh e1 o q => k.nx _ _ G1 F1 H1 (nx_set s fun p z => by cases z) (e1.setd i o) q
/-- a cell is given up: from now on data -/
theorem freeze_step {G F H : Hp} {σ : St} {j : Nat} {p : Addr} {x : D} (f : Fr G F H) (ev : Env K G F σ ρ) (hj : ρ[j]? = some (.cell p x)) :
    ∃ G' F', Nx ρ G F (ρ.set j (.d x)) G' F' H ∧ Env K G' F' σ (ρ.set j (.d x)) := by
  obtain ⟨hv, hc⟩ := ev.cell hj
  obtain ⟨o, ho⟩ := hc.some
  have e1 : Same G (upd G p o) := same_freeze f ho
  have r : Rep K (upd G p o) (.ref p) x := by
    cases x with
    | lst ds => obtain ⟨xs, h1, h2⟩ := hc; rw [ho] at h1; cases h1; exact .lst (.inl (.inl upd_same)) (h2.mono e1)
    | dct ds => obtain ⟨xs, h1, h2⟩ := hc; rw [ho] at h1; cases h1; exact .dct upd_same (h2.mono e1)
    | _ => exact False.elim hc
  have sub : ∀ q ∈ cells (ρ.set j (.d x)), q ∈ cells ρ ∧ q ≠ p := fun q hq => by
    have h1 : q ∈ cells ρ := (cells_set_sub hq).elim id fun z => by cases z
    refine ⟨h1, fun z => ?_⟩
    subst z
    obtain ⟨i, y, hi⟩ := cells_mem hq
    rw [List.getElem?_set] at hi
    by_cases e : j = i
    · rw [if_pos e] at hi
      split at hi
      · cases hi
      · cases hi
    · rw [if_neg e] at hi
      exact e (nd_at ev.nd hj hi)
  refine ⟨upd G p o, del F p, ⟨e1, f.freeze ho, fun b u hb hn => ?_, fun q hq => .inl (sub q hq).1⟩, ⟨by rw [List.length_set]; exact ev.len, fun i s hs => ?_, nd_set ev.nd fun q z => by cases z⟩⟩
  · have : b ≠ p := fun z => hn (z ▸ mem_cells hj)
    rw [del_ne this]; exact hb
  · have hs' := hs
    rw [List.getElem?_set] at hs
    by_cases e : j = i
    · subst e
      rw [if_pos rfl] at hs
      split at hs
      · cases hs; exact ⟨_, hv, _, rfl, r⟩
      · cases hs
    · rw [if_neg e] at hs
      obtain ⟨w, h1, h2⟩ := ev.at_ i s hs
      exact ⟨w, h1, h2.mono e1 fun q z e2 => del_ne (sub q (by subst e2; exact mem_cells hs')).2⟩
theorem sd_freeze {j : Nat} {p : Addr} {x : D} (hj : ρ[j]? = some (.cell p x)) (h : SD K (ρ.set j (.d x)) ts P) : SD K ρ ts P := by
  intro G F H σ f e Dn k
  obtain ⟨G1, F1, s, e1⟩ := freeze_step f e hj
  exact h G1 F1 H σ s.fr e1 Dn (k.step s)
/-- xs[i] = e -/
theorem sd_sub {to ti : TE} (h : EP K ρ te fun x ρ1 => ED K ρ1 to (isL fun j p _ ρ2 => ED K ρ2 ti fun b ρ3 => ∃ ds i n, ρ3[j]? = some (.cell p (.lst ds)) ∧ b = .d (.int i) ∧ ixN ds.length i = some n ∧ P.nx (ρ3.set j (.cell p (.lst (ds.set n x)))))) : SD K ρ (tAsg te (gSub to ti rSetL)) P := by
  intro G F H σ f e Dn k
  refine h G F H σ f e _ fun v x ρ1 G1 F1 H1 s1 sh1 e1 o1 h1 => ?_
  refine h1 G1 F1 H1 σ s1.fr e1 _ fun u a ρ2 G2 F2 H2 s2 sh2 e2 o2 w2 h2 => ?_
  cases a with
  | d x => exact False.elim h2
  | n p x => exact False.elim h2
  | c j =>
    obtain ⟨p, ds, hj, h2⟩ := h2
    obtain ⟨p0, x0, hj0, rfl⟩ := o2
    rw [hj] at hj0
    cases hj0
    refine h2 G2 F2 H2 σ s2.fr e2 _ fun w b ρ3 G3 F3 H3 s3 sh3 e3 o3 w3 ⟨ds3, i, n, hj3, eb, hn, q⟩ => ?_
    subst eb
    cases o3
    obtain ⟨ys, hy, hr, hyl⟩ := sz_of_cell (e3.cell hj3).2
    obtain ⟨s4, e4, sh4⟩ := cell_write (o := .lst (ys.set n v)) (y := .lst (ds3.set n x)) s3.fr e3 hj3 fun F' hF => ⟨_, hF, hr.set ((o1.mono s2.ex).mono s3.ex) n⟩
    exact ⟨p, ys, i, n, rfl, rfl, s3.fr.f _ _ hy, by rw [hyl]; exact hn, k.nx _ _ _ _ _ (((s1.trans s2).trans s3).trans s4) e4 q⟩
end
end DL
namespace DL
open PySem L2
variable [HasT]
/-! ### targets -/
inductive PairsOk (K : PySem.W.Frag) (G : Hp) : List (Nat × V) → List (Nat × D) → Prop
  | nil : PairsOk K G [] []
  | cons {i : Nat} {v : V} {x : D} {us : List (Nat × V)} {ps : List (Nat × D)} : Rep K G v x → PairsOk K G us ps → PairsOk K G ((i, v) :: us) ((i, x) :: ps)
def setV (σ : St) : List (Nat × V) → St
  | [] => σ
  | (i, v) :: us => setV (σ.set i (some v)) us
def setS (ρ : List Sl) : List (Nat × D) → List Sl
  | [] => ρ
  | (i, x) :: ps => setS (ρ.set i (.d x)) ps
theorem PairsOk.app {K : PySem.W.Frag} {G : Hp} {us ws : List (Nat × V)} {ps qs : List (Nat × D)} (h : PairsOk K G us ps) (h2 : PairsOk K G ws qs) : PairsOk K G (us ++ ws) (ps ++ qs) := by
  induction h with
  | nil => exact h2
  | cons r _ ih => exact .cons r ih
theorem setV_app (σ : St) : ∀ us ws : List (Nat × V), setV σ (us ++ ws) = setV (setV σ us) ws := by
  intro us
  induction us generalizing σ with
  | nil => intro ws; rfl
  | cons u us ih => intro ws; exact ih _ ws
def GT (K : PySem.W.Frag) (g : TG) (x : D) (ps : List (Nat × D)) : Prop :=
  ∀ (G F H : Hp) (σ : St) (v : V), Fr G F H → Rep K G v x → ∀ Q : St → Hp → Prop, (∀ us, PairsOk K G us ps → Q (setV σ us) H) → g v σ H Q
def GTs (K : PySem.W.Frag) (g : TGs) (xs : List D) (ps : List (Nat × D)) : Prop :=
  ∀ (G F H : Hp) (σ : St) (vs : List V), Fr G F H → Reps K G vs xs → ∀ Q : St → Hp → Prop, (∀ us, PairsOk K G us ps → Q (setV σ us) H) → g vs σ H Q
section
variable {K : PySem.W.Frag}
theorem gt_name {i : Nat} {x : D} : GT K (gName i) x [(i, x)] := fun G F H σ v f r Q k => k [(i, v)] (.cons r .nil)
theorem gts_nil : GTs K gNil [] [] := fun G F H σ vs f r Q k => by cases r; exact ⟨rfl, k [] .nil⟩
theorem gts_cons {g : TG} {u : TGs} {x : D} {xs : List D} {ps qs : List (Nat × D)} (h : GT K g x ps) (h2 : GTs K u xs qs) : GTs K (gCons g u) (x :: xs) (ps ++ qs) := by
  intro G F H σ vs f r Q k
  cases r with
  | cons r1 r2 =>
    refine ⟨_, _, rfl, h G F H σ _ f r1 _ fun us h1 => h2 G F H (setV σ us) _ f r2 Q fun ws h3 => ?_⟩
    rw [← setV_app]
    exact k _ (h1.app h3)
theorem gt_tup {n : Nat} {g : TGs} {xs : List D} {ps : List (Nat × D)} (hn : xs.length = n) (h : GTs K g xs ps) : GT K (gTup K n g) (.tup xs) ps := by
  intro G F H σ v f r Q k
  cases r with
  | tup h1 h2 => exact ⟨_, _, rfl, sqt_mono f.g h1, by rw [h2.len]; exact hn, h G F H σ _ f h2 Q k⟩
theorem Env.setMany {G F : Hp} {us : List (Nat × V)} {ps : List (Nat × D)} {σ : St} {ρ : List Sl} (e : Env K G F σ ρ) (h : PairsOk K G us ps) : Env K G F (setV σ us) (setS ρ ps) := by
  induction h generalizing σ ρ with
  | nil => exact e
  | cons r _ ih => exact ih (e.setd _ r)
theorem cells_setS {ρ : List Sl} {p : Addr} : ∀ {ps : List (Nat × D)}, p ∈ cells (setS ρ ps) → p ∈ cells ρ := by
  intro ps
  induction ps generalizing ρ with
  | nil => exact id
  | cons q ps ih => intro h; exact (cells_set_sub (ih h)).elim id fun z => by cases z
theorem PairsOk.mono {G G' : Hp} (e : Same G G') {us : List (Nat × V)} {ps : List (Nat × D)} (h : PairsOk K G us ps) : PairsOk K G' us ps := by
  induction h with
  | nil => exact .nil
  | cons r _ ih => exact .cons (r.mono e) ih
end
/-! ### what is walked -/
/-- J walks the items its from (G, F) on -/
def Walks (K : PySem.W.Frag) (G : Hp) (J : It) (its : List D) : Prop :=
  ∀ (G2 F2 H2 : Hp), Same G G2 → Fr G2 F2 H2 → ∀ i : Nat, (i < its.length → J.go i H2) ∧ (i = its.length → J.stop i H2) ∧
    ∀ x H', J.yld i H2 x H' → ∀ y, its[i]? = some y → ∃ G3, Same G2 G3 ∧ Fr G3 F2 H' ∧ Rep K G3 x y ∧ Same H2 H'
def EI (K : PySem.W.Frag) (ρ : List Sl) (wi : TI) (post : List D → List Sl → Prop) : Prop :=
  ∀ (G F H : Hp) (σ : St), Fr G F H → Env K G F σ ρ → ∀ R : It → Hp → Prop,
    (∀ J its ρ' G' F' H', Nx ρ G F ρ' G' F' H' → Shp ρ ρ' → Env K G' F' σ ρ' → Walks K G' J its → post its ρ' → R J H') → wi σ H R
theorem Walks.mono {K : PySem.W.Frag} {G G' : Hp} {J : It} {its : List D} (h : Walks K G J its) (e : Same G G') : Walks K G' J its :=
  fun G2 F2 H2 a => h G2 F2 H2 (e.trans a)
section
variable {K : PySem.W.Frag} {ρ : List Sl} {te : TE} {ta : TA}
theorem mapI {n : Nat} {i : Nat} {y : D} {lo : Int} (h : ((List.range n).map fun k => D.int (lo + (k : Nat)))[i]? = some y) : y = .int (lo + (i : Nat)) := by
  rw [List.getElem?_map] at h
  cases e : (List.range n)[i]? with
  | none => rw [e] at h; cases h
  | some k =>
    rw [e] at h
    have : k = i := by
      have := List.getElem?_eq_some_iff.mp e
      obtain ⟨h1, h2⟩ := this
      simpa using h2.symm
    subst this
    exact (Option.some.inj h).symm
theorem walks_rng {G : Hp} {lo : Int} {n : Nat} : Walks K G (Itr lo n) ((List.range n).map fun k => D.int (lo + (k : Nat))) := by
  intro G2 F2 H2 e f i
  refine ⟨fun h => (by simpa using h : i < n), fun h => by show n ≤ i; simp at h; omega, fun x H' y z hz => ?_⟩
  obtain ⟨rfl, rfl⟩ := y
  rw [mapI hz]
  exact ⟨G2, .refl _, f, .int _, .refl _⟩
def isInts1 (post : Int → List Sl → Prop) (as : List Ar) (ρ : List Sl) : Prop := match as with
  | [.d (.int i)] => post i ρ
  | _ => False
theorem ei_rng1 {post : List D → List Sl → Prop} (h : EA K ρ ta fun as ρ1 => ∃ j, as = [.d (.int j)] ∧ -(2 ^ 62) ≤ j ∧ j < 2 ^ 62 ∧ post ((List.range j.toNat).map fun k => D.int (0 + (k : Nat))) ρ1) : EI K ρ (iRng1 ta) post := by
  intro G F H σ f e R k
  refine h G F H σ f e _ fun vs as ρ1 G1 F1 H1 s1 sh1 e1 o1 h1 => ?_
  obtain ⟨j, rfl, h2, h3, q⟩ := h1
  cases o1 with
  | cons r1 r2 =>
    cases r2
    cases r1
    exact ⟨j, rfl, h2, h3, k _ _ ρ1 G1 F1 H1 s1 sh1 e1 walks_rng q⟩
theorem ei_rng2 {post : List D → List Sl → Prop} (h : EA K ρ ta fun as ρ1 => ∃ i j, as = [.d (.int i), .d (.int j)] ∧ (-(2 ^ 62) ≤ i ∧ i < 2 ^ 62 ∧ -(2 ^ 62) ≤ j ∧ j < 2 ^ 62) ∧ post ((List.range (j - i).toNat).map fun k => D.int (i + (k : Nat))) ρ1) : EI K ρ (iRng2 ta) post := by
  intro G F H σ f e R k
  refine h G F H σ f e _ fun vs as ρ1 G1 F1 H1 s1 sh1 e1 o1 h1 => ?_
  obtain ⟨i, j, rfl, h2, q⟩ := h1
  cases o1 with
  | cons r1 r2 =>
    cases r2 with
    | cons r3 r4 =>
      cases r4
      cases r1
      cases r3
      exact ⟨i, j, rfl, h2, k _ _ ρ1 G1 F1 H1 s1 sh1 e1 walks_rng q⟩
theorem walks_list {G : Hp} {a : Addr} {xs : List V} {ds : List D} (h : SqL K G a xs) (r : Reps K G xs ds) : Walks K G (Itl K a) ds := by
  intro G2 F2 H2 e f i
  have hs : SqL K H2 a xs := (e.trans f.g).seq h
  have hl := r.len
  refine ⟨fun hi => ⟨xs, xs[i], hs, by rw [List.getElem?_eq_getElem]⟩, fun hi => ⟨xs, hs, by omega⟩, fun x H' y z hz => ?_⟩
  obtain ⟨rfl, y⟩ := y
  obtain ⟨v, hv, rv⟩ := r.get hz
  have := y xs hs
  rw [hv] at this
  cases this
  exact ⟨G2, .refl _, f, rv.mono e, .refl _⟩
theorem walks_tup {G : Hp} {a : Addr} {xs : List V} {ds : List D} (h : SqT K G a xs) (r : Reps K G xs ds) : Walks K G (Itt K a) ds := by
  intro G2 F2 H2 e f i
  have hs : SqT K H2 a xs := sqt_mono (e.trans f.g) h
  have hl := r.len
  refine ⟨fun hi => ⟨xs, xs[i], hs, by rw [List.getElem?_eq_getElem]⟩, fun hi => ⟨xs, hs, by omega⟩, fun x H' y z hz => ?_⟩
  obtain ⟨rfl, y⟩ := y
  obtain ⟨v, hv, rv⟩ := r.get hz
  have := y xs hs
  rw [hv] at this
  cases this
  exact ⟨G2, .refl _, f, rv.mono e, .refl _⟩
theorem walks_str {G : Hp} {l : List Nat} : Walks K G (Its (S l)) (l.map fun c => D.str [c]) := by
  intro G2 F2 H2 e f i
  refine ⟨fun hi => ?_, fun hi => ?_, fun x H' y z hz => ?_⟩
  · show i < (S l).cps.size; simpa using hi
  · show (S l).cps.size ≤ i; simp at hi; simp; omega
  · obtain ⟨rfl, c, hc, rfl⟩ := y
    rw [List.getElem?_map] at hz
    have : l[i]? = some c := by simpa using hc
    rw [this] at hz
    have e2 := Option.some.inj hz
    subst e2
    exact ⟨G2, .refl _, f, .str [c], .refl _⟩
def isLst (post : List D → List Sl → Prop) (x : D) (ρ : List Sl) : Prop := match x with
  | .lst ds => post ds ρ
  | _ => False
theorem ei_list {post : List D → List Sl → Prop} (h : EP K ρ te (isLst post)) : EI K ρ (iList K te) post := by
  intro G F H σ f e R k
  refine h G F H σ f e _ fun v x ρ1 G1 F1 H1 s1 sh1 e1 o1 h1 => ?_
  cases x with
  | lst ds => cases o1 with | lst h2 h3 => exact ⟨_, rfl, ⟨_, s1.fr.g.seq h2⟩, k _ _ ρ1 G1 F1 H1 s1 sh1 e1 (walks_list h2 h3) h1⟩
  | _ => exact False.elim h1
def isTup (post : List D → List Sl → Prop) (x : D) (ρ : List Sl) : Prop := match x with
  | .tup ds => post ds ρ
  | _ => False
theorem ei_tup {post : List D → List Sl → Prop} (h : EP K ρ te (isTup post)) : EI K ρ (iTup K te) post := by
  intro G F H σ f e R k
  refine h G F H σ f e _ fun v x ρ1 G1 F1 H1 s1 sh1 e1 o1 h1 => ?_
  cases x with
  | tup ds => cases o1 with | tup h2 h3 => exact ⟨_, rfl, ⟨_, sqt_mono s1.fr.g h2⟩, k _ _ ρ1 G1 F1 H1 s1 sh1 e1 (walks_tup h2 h3) h1⟩
  | _ => exact False.elim h1
def isStr (post : List Nat → List Sl → Prop) (x : D) (ρ : List Sl) : Prop := match x with
  | .str l => post l ρ
  | _ => False
theorem ei_str {post : List D → List Sl → Prop} (h : EP K ρ te (isStr fun l ρ1 => post (l.map fun c => D.str [c]) ρ1)) : EI K ρ (iStr te) post := by
  intro G F H σ f e R k
  refine h G F H σ f e _ fun v x ρ1 G1 F1 H1 s1 sh1 e1 o1 h1 => ?_
  cases x with
  | str l => cases o1; exact ⟨_, rfl, k _ _ ρ1 G1 F1 H1 s1 sh1 e1 walks_str h1⟩
  | _ => exact False.elim h1
end
/-! ### loops -/
section
variable {K : PySem.W.Frag} {ρ : List Sl} {wi : TI} {g : TG} {tb : TS} {P : PD}
theorem nx_setS {ρ ρ1 : List Sl} {G F G1 F1 H1 : Hp} {ps : List (Nat × D)} (x : Nx ρ G F ρ1 G1 F1 H1) : Nx ρ G F (setS ρ1 ps) G1 F1 H1 :=
  ⟨x.ex, x.fr, x.keep, fun p hp => x.cel p (cells_setS hp)⟩
/-- Jv by the turn and the slots -/
theorem sd_for (h : EI K ρ wi fun its ρ1 => ∃ Jv : Nat → List Sl → Prop, Jv 0 ρ1 ∧
    (∀ (k : Nat) x ρ2, its[k]? = some x → Jv k ρ2 → ∃ ps, GT K g x ps ∧ SD K (setS ρ2 ps) tb { nx := Jv (k + 1), ct := Jv (k + 1), bk := P.nx, rt := P.rt, xe := P.xe, xp := P.xp }) ∧
    ∀ ρ2, Jv its.length ρ2 → P.nx ρ2) : SD K ρ (tFor wi g tb) P := by
  intro G F H σ f e Dn k
  refine h G F H σ f e _ fun J its ρ1 G1 F1 H1 s1 sh1 e1 wk ⟨Jv, h0, hs, hd⟩ => ?_
  refine ⟨fun i m σ2 H2 => m = its.length - i ∧ i ≤ its.length ∧ ∃ ρ2 G2 F2, Nx ρ G F ρ2 G2 F2 H2 ∧ Same G1 G2 ∧ Env K G2 F2 σ2 ρ2 ∧ Jv i ρ2, ⟨its.length, by simp, Nat.zero_le _, ρ1, G1, F1, s1, .refl _, e1, h0⟩, ?_⟩
  rintro i m σ2 H2 ⟨rfl, hi, ρ2, G2, F2, s2, g2, e2, i2⟩
  obtain ⟨w1, w2, w3⟩ := wk G2 F2 H2 g2 s2.fr i
  by_cases hlt : i < its.length
  · refine .inr ⟨w1 hlt, fun σ3 H3 => ∃ ρ3 G3 F3, Nx ρ G F ρ3 G3 F3 H3 ∧ Same G1 G3 ∧ Env K G3 F3 σ3 ρ3 ∧ Jv (i + 1) ρ3, fun σ3 H3 ⟨ρ3, G3, F3, s3, g3, e3, i3⟩ => ⟨its.length - (i + 1), by omega, rfl, hlt, ρ3, G3, F3, s3, g3, e3, i3⟩, fun x H' hy => ?_⟩
    have hx : its[i]? = some its[i] := List.getElem?_eq_getElem hlt
    obtain ⟨G3, a1, a2, a3, a4⟩ := w3 x H' hy _ hx
    have s23 : Nx ρ2 G2 F2 ρ2 G3 F2 H' := ⟨a1, a2, fun _ _ h _ => h, fun _ h => .inl h⟩
    obtain ⟨ps, gt, sd⟩ := hs i _ ρ2 hx i2
    refine gt G3 F2 H' σ2 x a2 a3 _ fun us ok => ?_
    have e3 : Env K G3 F2 σ2 ρ2 := e2.mono a1 fun _ _ => rfl
    have s03 : Nx ρ G F (setS ρ2 ps) G3 F2 H' := nx_setS (s2.trans s23)
    refine sd G3 F2 H' _ a2 (e3.setMany ok) _ ⟨?_, ?_, ?_, ?_, fun x cls d G4 F4 H4 s4 => k.ex x cls d G4 F4 H4 (s03.xtrans s4)⟩
    · intro ρ4 σ4 G4 F4 H4 s4 e4 q
      exact ⟨ρ4, G4, F4, s03.trans s4, (g2.trans a1).trans s4.ex, e4, q⟩
    · intro v a ρ4 σ4 G4 F4 H4 s4 e4 o4 n4 q
      exact k.rt v a ρ4 σ4 G4 F4 H4 (s03.trans s4) e4 o4 (n4.back s03) q
    · intro ρ4 σ4 G4 F4 H4 s4 e4 q
      exact k.nx ρ4 σ4 G4 F4 H4 (s03.trans s4) e4 q
    · intro ρ4 σ4 G4 F4 H4 s4 e4 q
      exact ⟨ρ4, G4, F4, s03.trans s4, (g2.trans a1).trans s4.ex, e4, q⟩
  · have ei : i = its.length := by omega
    exact .inl ⟨w2 ei, k.nx ρ2 σ2 G2 F2 H2 s2 e2 (hd ρ2 (ei ▸ i2))⟩
/-- Jv by a measure that falls -/
theorem sd_while {tt : TT} (Jv : Nat → List Sl → Prop) (m : Nat) (h0 : Jv m ρ) (hs : ∀ m ρ1, Jv m ρ1 → TD K ρ1 tt fun b ρ2 => if b = true then SD K ρ2 tb { nx := fun ρ3 => ∃ m', m' < m ∧ Jv m' ρ3, ct := fun ρ3 => ∃ m', m' < m ∧ Jv m' ρ3, bk := P.nx, rt := P.rt, xe := P.xe, xp := P.xp } else P.nx ρ2) : SD K ρ (tWhile tt tb) P := by
  intro G F H σ f e Dn k
  refine ⟨fun m σ2 H2 => ∃ ρ2 G2 F2, Nx ρ G F ρ2 G2 F2 H2 ∧ Env K G2 F2 σ2 ρ2 ∧ Jv m ρ2, ⟨m, ρ, G, F, .refl f, e, h0⟩, ?_⟩
  rintro m σ2 H2 ⟨ρ2, G2, F2, s2, e2, i2⟩
  refine hs m ρ2 i2 G2 F2 H2 σ2 s2.fr e2 _ fun b ρ3 G3 F3 H3 s3 sh3 e3 q => ?_
  have s03 := s2.trans s3
  cases b with
  | true =>
    rw [if_pos rfl] at q ⊢
    refine ⟨fun σ4 H4 => ∃ m', m' < m ∧ ∃ ρ4 G4 F4, Nx ρ G F ρ4 G4 F4 H4 ∧ Env K G4 F4 σ4 ρ4 ∧ Jv m' ρ4, fun σ4 H4 ⟨m', hm, r⟩ => ⟨m', hm, r⟩, ?_⟩
    refine q G3 F3 H3 σ2 s3.fr e3 _ ⟨?_, ?_, ?_, ?_, fun x cls d G4 F4 H4 s4 => k.ex x cls d G4 F4 H4 (s03.xtrans s4)⟩
    · intro ρ4 σ4 G4 F4 H4 s4 e4 ⟨m', hm, q⟩
      exact ⟨m', hm, ρ4, G4, F4, s03.trans s4, e4, q⟩
    · intro v a ρ4 σ4 G4 F4 H4 s4 e4 o4 n4 q
      exact k.rt v a ρ4 σ4 G4 F4 H4 (s03.trans s4) e4 o4 (n4.back s03) q
    · intro ρ4 σ4 G4 F4 H4 s4 e4 q
      exact k.nx ρ4 σ4 G4 F4 H4 (s03.trans s4) e4 q
    · intro ρ4 σ4 G4 F4 H4 s4 e4 ⟨m', hm, q⟩
      exact ⟨m', hm, ρ4, G4, F4, s03.trans s4, e4, q⟩
  | false =>
    rw [if_neg Bool.false_ne_true] at q ⊢
    exact k.nx ρ3 σ2 G3 F3 H3 s03 e3 q
/-- a, b = x, y: both data -/
theorem sd_par {i j : Nat} {ta : TA} (h : PAs K ρ ta fun xs ρ1 => ∃ x y, xs = [x, y] ∧ P.nx ((ρ1.set i (.d x)).set j (.d y))) : SD K ρ (tPar i j ta) P := by
  intro G F H σ f e Dn k
  refine h G F H σ f e _ fun vs xs ρ1 G1 F1 H1 s1 sh1 e1 o1 ⟨x, y, ex, q⟩ => ?_
  subst ex
  cases o1 with
  | cons r1 r2 =>
    cases r2 with
    | cons r3 r4 =>
      cases r4
      exact ⟨_, _, rfl, k.nx _ _ G1 F1 H1 (nx_set (nx_set s1 fun p z => by cases z) fun p z => by cases z) ((e1.setd i r1).setd j r3) q⟩
/-- a, b = e -/
theorem sd_asgT {te : TE} (h : EP K ρ te fun x ρ1 => ∃ ps, GT K g x ps ∧ P.nx (setS ρ1 ps)) : SD K ρ (tAsg te g) P := by
  intro G F H σ f e Dn k
  refine h G F H σ f e _ fun v x ρ1 G1 F1 H1 s1 sh1 e1 o1 ⟨ps, gt, q⟩ => ?_
  exact gt G1 F1 H1 σ v s1.fr o1 _ fun us ok => k.nx _ _ G1 F1 H1 (nx_setS s1) (e1.setMany ok) q
end
end DL
namespace DL
open PySem L2
variable [HasT]
/-! ### comprehensions -/
def wipeS (ρ : List Sl) : List Nat → List Sl
  | [] => ρ
  | v :: vs => (wipeS ρ vs).set v .no
def NoC (vs : List Nat) (ρ : List Sl) : Prop := ∀ j ∈ vs, ∀ p x, ρ[j]? ≠ some (.cell p x)
def rst : Sl → Sl → Sl
  | .cell p x, .cell q y => if q = p then .cell p y else .cell p x
  | s, _ => s
/-- the slots behind a comprehension: as ahead, but for the cells' contents -/
def restore (ρ ρ5 : List Sl) : List Sl := List.zipWith rst ρ ρ5
theorem wipe_get (σ : St) (vs : List Nat) (j : Nat) : (wipe σ vs)[j]? = if j ∈ vs then (σ[j]?).map (fun _ => none) else σ[j]? := by
  induction vs with
  | nil => simp [wipe]
  | cons v vs ih =>
    unfold wipe
    rw [List.getElem?_set, wipe_length]
    by_cases e : v = j
    · subst e
      rw [if_pos rfl, if_pos List.mem_cons_self]
      by_cases hl : v < σ.length
      · rw [if_pos hl, List.getElem?_eq_getElem hl]; rfl
      · rw [if_neg hl, List.getElem?_eq_none (by omega)]; rfl
    · rw [if_neg e, ih]
      have : (j ∈ v :: vs) ↔ j ∈ vs := by
        rw [List.mem_cons]
        exact ⟨fun h => h.elim (fun z => absurd z.symm e) id, .inr⟩
      simp only [this]
theorem wipeS_get (ρ : List Sl) (vs : List Nat) (j : Nat) (h : j ∉ vs) : (wipeS ρ vs)[j]? = ρ[j]? := by
  induction vs with
  | nil => rfl
  | cons v vs ih =>
    have h1 : v ≠ j := fun e => h (e ▸ List.mem_cons_self)
    unfold wipeS
    rw [List.getElem?_set_ne h1]
    exact ih fun z => h (List.mem_cons_of_mem _ z)
theorem setV_get {σ : St} {j : Nat} : ∀ {us : List (Nat × V)}, (∀ u ∈ us, u.1 ≠ j) → (setV σ us)[j]? = σ[j]? := by
  intro us
  induction us generalizing σ with
  | nil => intro _; rfl
  | cons u us ih =>
    intro h
    show (setV (σ.set u.1 (some u.2)) us)[j]? = _
    rw [ih fun w hw => h w (List.mem_cons_of_mem _ hw), List.getElem?_set_ne (h u List.mem_cons_self)]
theorem setS_get {ρ : List Sl} {j : Nat} : ∀ {us : List (Nat × D)}, (∀ u ∈ us, u.1 ≠ j) → (setS ρ us)[j]? = ρ[j]? := by
  intro us
  induction us generalizing ρ with
  | nil => intro _; rfl
  | cons u us ih =>
    intro h
    show (setS (ρ.set u.1 (.d u.2)) us)[j]? = _
    rw [ih fun w hw => h w (List.mem_cons_of_mem _ hw), List.getElem?_set_ne (h u List.mem_cons_self)]
theorem setV_len {σ : St} : ∀ {us : List (Nat × V)}, (setV σ us).length = σ.length := by
  intro us
  induction us generalizing σ with
  | nil => rfl
  | cons u us ih =>
    show (setV (σ.set u.1 (some u.2)) us).length = _
    rw [ih, List.length_set]
theorem PairsOk.idx {K : PySem.W.Frag} {G : Hp} {us : List (Nat × V)} {ps : List (Nat × D)} (h : PairsOk K G us ps) : us.map (·.1) = ps.map (·.1) := by
  induction h with
  | nil => rfl
  | cons _ _ ih => simp [ih]
theorem wipe_setV {σ : St} {vs : List Nat} {us : List (Nat × V)} (h : ∀ u ∈ us, u.1 ∈ vs) : wipe (setV (wipe σ vs) us) vs = wipe σ vs := by
  refine List.ext_getElem? fun j => ?_
  rw [wipe_get, wipe_get]
  by_cases hj : j ∈ vs
  · rw [if_pos hj, if_pos hj]
    have l : (setV (wipe σ vs) us).length = σ.length := by rw [setV_len, wipe_length]
    by_cases hl : j < σ.length
    · rw [List.getElem?_eq_getElem (by rw [l]; exact hl), List.getElem?_eq_getElem hl]; rfl
    · rw [List.getElem?_eq_none (by rw [l]; omega), List.getElem?_eq_none (by omega)]
  · rw [if_neg hj, if_neg hj, setV_get (fun u hu z => hj (by rw [← z]; exact h u hu)), wipe_get, if_neg hj]
section
variable {K : PySem.W.Frag}
theorem Env.wipe {G F : Hp} {σ : St} {ρ : List Sl} (e : Env K G F σ ρ) : ∀ vs : List Nat, Env K G F (L2.wipe σ vs) (wipeS ρ vs)
  | [] => e
  | v :: vs => (Env.wipe e vs).set v (s := .no) trivial fun p z => by cases z
theorem cells_wipe {ρ : List Sl} {p : Addr} : ∀ {vs : List Nat}, p ∈ cells (wipeS ρ vs) → p ∈ cells ρ
  | [], h => h
  | v :: vs, h => (cells_set_sub h).elim (cells_wipe (vs := vs)) fun z => by cases z
theorem cells_of_adr : ∀ {ρ ρ' : List Sl}, ρ.map Sl.adr = ρ'.map Sl.adr → cells ρ = cells ρ'
  | [], [], _ => rfl
  | [], _ :: _, h => by simp at h
  | _ :: _, [], h => by simp at h
  | s :: ρ, t :: ρ', h => by
    simp only [List.map_cons, List.cons.injEq] at h
    unfold cells
    rw [List.filterMap_cons, List.filterMap_cons, h.1, show List.filterMap Sl.adr ρ = List.filterMap Sl.adr ρ' from cells_of_adr h.2]
theorem rst_adr (s t : Sl) : (rst s t).adr = s.adr := by
  cases s with
  | cell p x =>
    cases t with
    | cell q y =>
      show (if q = p then Sl.cell p y else .cell p x).adr = some p
      by_cases h : q = p
      · rw [if_pos h]; rfl
      · rw [if_neg h]; rfl
    | _ => rfl
  | no => rfl
  | d x => rfl
theorem restore_adr : ∀ {ρ ρ5 : List Sl}, ρ.length = ρ5.length → (restore ρ ρ5).map Sl.adr = ρ.map Sl.adr
  | [], [], _ => rfl
  | [], _ :: _, h => by simp at h
  | _ :: _, [], h => by simp at h
  | s :: ρ, t :: ρ5, h => by
    simp only [List.length_cons, Nat.add_right_cancel_iff] at h
    show (rst s t).adr :: (restore ρ ρ5).map Sl.adr = s.adr :: ρ.map Sl.adr
    rw [rst_adr, restore_adr h]
theorem restore_get {ρ ρ5 : List Sl} {j : Nat} {s : Sl} (h : (restore ρ ρ5)[j]? = some s) : ∃ a b, ρ[j]? = some a ∧ ρ5[j]? = some b ∧ s = rst a b := by
  unfold restore at h
  rw [List.getElem?_zipWith] at h
  cases e1 : ρ[j]? with
  | none => rw [e1] at h; simp at h
  | some a =>
    cases e2 : ρ5[j]? with
    | none => rw [e1, e2] at h; simp at h
    | some b => rw [e1, e2] at h; exact ⟨a, b, rfl, rfl, by simpa using h.symm⟩
/-- behind one turn of a comprehension -/
theorem env_restore {G2 F2 G5 F5 : Hp} {σ σ3 : St} {ρ2 ρ3 ρ5 : List Sl} {vs : List Nat} (e2 : Env K G2 F2 σ ρ2) (hn : NoC vs ρ2) (g : Same G2 G5) (h3 : ∀ j, j ∉ vs → ρ3[j]? = ρ2[j]?) (sh : Shp ρ3 ρ5) (e5 : Env K G5 F5 σ3 ρ5) (hl : ρ2.length = ρ5.length) :
    Env K G5 F5 σ (restore ρ2 ρ5) ∧ Shp ρ2 (restore ρ2 ρ5) ∧ NoC vs (restore ρ2 ρ5) ∧ cells (restore ρ2 ρ5) = cells ρ2 := by
  have hc := cells_of_adr (restore_adr hl)
  have key : ∀ (j : Nat) (p : Addr) (x : D), ρ2[j]? = some (Sl.cell p x) → ∃ y, ρ5[j]? = some (Sl.cell p y) := fun j p x e => by
    have hj : j ∉ vs := fun z => hn j z p x e
    exact sh j p x (by rw [h3 j hj]; exact e)
  refine ⟨⟨?_, fun j s hs => ?_, by rw [hc]; exact e2.nd⟩, fun j p x e => ?_, fun j hj p x e => ?_, hc⟩
  · unfold restore; rw [List.length_zipWith, ← hl, Nat.min_self]; exact e2.len
  · obtain ⟨a, b, ha, hb, rfl⟩ := restore_get hs
    obtain ⟨o, h1, h2⟩ := e2.at_ j a ha
    refine ⟨o, h1, ?_⟩
    cases a with
    | no => exact True.intro
    | d x => obtain ⟨v, e, r⟩ := h2; exact ⟨v, e, r.mono g⟩
    | cell p x =>
      obtain ⟨y, hy⟩ := key j p x ha
      rw [hb] at hy
      cases hy
      show SlOk K G5 F5 (if p = p then .cell p y else .cell p x) o
      rw [if_pos rfl]
      exact ⟨h2.1, (e5.cell hb).2⟩
  · obtain ⟨y, hy⟩ := key j p x e
    refine ⟨y, ?_⟩
    unfold restore
    rw [List.getElem?_zipWith, e, hy]
    show some (if p = p then Sl.cell p y else .cell p x) = _
    rw [if_pos rfl]
  · obtain ⟨a, b, ha, hb, e3⟩ := restore_get e
    cases a with
    | no => cases e3
    | d x => cases e3
    | cell q z => exact hn j hj q z ha
theorem env_lens {G F G5 F5 : Hp} {σ σ3 : St} {ρ2 ρ5 : List Sl} (e2 : Env K G F σ ρ2) (e5 : Env K G5 F5 σ3 ρ5) (h : σ3.length = σ.length) : ρ2.length = ρ5.length := by
  rw [← e2.len, ← e5.len, h]
/-- [e for x in xs if t]: Jv by the turn, what is made so far, the slots -/
theorem ed_lc {ρ : List Sl} {wi : TI} {g : TG} {tt : TT} {te : TE} {vs : List Nat} {post : Ar → List Sl → Prop}
    (h : EI K ρ wi fun its ρ1 => NoC vs ρ1 ∧ ∃ Jv : Nat → List D → List Sl → Prop, Jv 0 [] ρ1 ∧
      (∀ (k : Nat) x acc ρ2, its[k]? = some x → Jv k acc ρ2 → ∃ ps, GT K g x ps ∧ (∀ q ∈ ps, q.1 ∈ vs) ∧ TD K (setS (wipeS ρ2 vs) ps) tt fun b ρ4 =>
        if b = true then EP K ρ4 te fun y ρ5 => acc.length < sizeLine ∧ Jv (k + 1) (acc ++ [y]) (restore ρ2 ρ5) else Jv (k + 1) acc (restore ρ2 ρ4)) ∧
      ∀ acc ρ2, Jv its.length acc ρ2 → ∀ p, post (.n p (.lst acc)) ρ2) : ED K ρ (tLc wi g tt te vs) post := by
  intro G F H σ f e Q k
  refine h G F H σ f e _ fun J its ρ1 G1 F1 H1 s1 sh1 e1 wk ⟨hn, Jv, h0, hs, hd⟩ Dd hD => ?_
  have hF : F1 Dd = none := none_of_same s1.fr.f hD
  have ncD : ∀ {G2 F2 : Hp} {σ2 : St} {ρ2 : List Sl}, Env K G2 F2 σ2 ρ2 → F2 Dd = none → Dd ∉ cells ρ2 := fun e2 hz z => by
    obtain ⟨i, y, e⟩ := cells_mem z
    obtain ⟨o, ho⟩ := (e2.cell e).2.some
    rw [hz] at ho; cases ho
  have nc1 : Dd ∉ cells ρ1 := ncD e1 hF
  have e1' : Env K G1 (upd F1 Dd (.lst [])) σ ρ1 := e1.mono (.refl _) fun q hq => upd_ne fun z => nc1 (z ▸ hq)
  have s1' : Nx ρ1 G1 F1 ρ1 G1 (upd F1 Dd (.lst [])) (upd H1 Dd (.lst [])) := ⟨.refl _, s1.fr.newF hD, fun b o hb _ => by
    have : b ≠ Dd := fun z => by rw [z, hF] at hb; cases hb
    rw [upd_ne this]; exact hb, fun _ h => .inl h⟩
  refine ⟨fun i m H2 => m = its.length - i ∧ i ≤ its.length ∧ ∃ acc xs ρ2 G2 F2, Nx ρ1 G1 F1 ρ2 G2 F2 H2 ∧ Shp ρ1 ρ2 ∧ Env K G2 F2 σ ρ2 ∧ NoC vs ρ2 ∧ Dd ∉ cells ρ2 ∧ F2 Dd = some (.lst xs) ∧ Reps K G2 xs acc ∧ Jv i acc ρ2,
    ⟨its.length, by simp, Nat.zero_le _, [], [], ρ1, G1, _, s1', .refl _, e1', hn, nc1, upd_same, .nil, h0⟩, ?_⟩
  rintro i m H2 ⟨rfl, hi, acc, xs, ρ2, G2, F2, s2, sh2, e2, n2, nc2, hD2, r2, j2⟩
  obtain ⟨w1, w2, w3⟩ := wk G2 F2 H2 s2.ex s2.fr i
  by_cases hlt : i < its.length
  · refine .inr ⟨w1 hlt, fun H3 => ∃ acc xs ρ2 G2 F2, Nx ρ1 G1 F1 ρ2 G2 F2 H3 ∧ Shp ρ1 ρ2 ∧ Env K G2 F2 σ ρ2 ∧ NoC vs ρ2 ∧ Dd ∉ cells ρ2 ∧ F2 Dd = some (.lst xs) ∧ Reps K G2 xs acc ∧ Jv (i + 1) acc ρ2, fun H3 z => ⟨its.length - (i + 1), by omega, rfl, hlt, z⟩, fun x H' hy => ?_⟩
    have hx : its[i]? = some its[i] := List.getElem?_eq_getElem hlt
    obtain ⟨G3, a1, a2, a3, a4⟩ := w3 x H' hy _ hx
    obtain ⟨ps, gt, hps, td⟩ := hs i _ acc ρ2 hx j2
    refine gt G3 F2 H' (L2.wipe σ vs) x a2 a3 _ fun us ok => ?_
    have hus : ∀ u ∈ us, u.1 ∈ vs := fun u hu => by
      have : u.1 ∈ ps.map (·.1) := by rw [← ok.idx]; exact List.mem_map.mpr ⟨u, hu, rfl⟩
      obtain ⟨q, hq, e⟩ := List.mem_map.mp this
      rw [← e]; exact hps q hq
    refine ⟨wipe_setV hus, ?_⟩
    have e3 : Env K G3 F2 (setV (L2.wipe σ vs) us) (setS (wipeS ρ2 vs) ps) := ((e2.mono a1 fun _ _ => rfl).wipe vs).setMany ok
    have hl3 : (setV (L2.wipe σ vs) us).length = σ.length := by rw [setV_len, wipe_length]
    have c3 : ∀ p, p ∈ cells (setS (wipeS ρ2 vs) ps) → p ∈ cells ρ2 := fun p hp => cells_wipe (cells_setS hp)
    have g3 : ∀ j, j ∉ vs → (setS (wipeS ρ2 vs) ps)[j]? = ρ2[j]? := fun j hj => by
      rw [setS_get (fun q hq z => hj (by rw [← z]; exact hps q hq)), wipeS_get _ _ _ hj]
    -- from the block's end to the next turn
    have fin : ∀ (ρ5 : List Sl) (G5 F5 H5 : Hp), Nx (setS (wipeS ρ2 vs) ps) G3 F2 ρ5 G5 F5 H5 → Shp (setS (wipeS ρ2 vs) ps) ρ5 → Env K G5 F5 (setV (L2.wipe σ vs) us) ρ5 →
        Nx ρ1 G1 F1 (restore ρ2 ρ5) G5 F5 H5 ∧ Shp ρ1 (restore ρ2 ρ5) ∧ Env K G5 F5 σ (restore ρ2 ρ5) ∧ NoC vs (restore ρ2 ρ5) ∧ Dd ∉ cells (restore ρ2 ρ5) ∧ F5 Dd = some (.lst xs) ∧ Reps K G5 xs acc := by
      intro ρ5 G5 F5 H5 s5 sh5 e5
      obtain ⟨q1, q2, q3, q4⟩ := env_restore e2 n2 (a1.trans s5.ex) g3 sh5 e5 (env_lens e2 e5 hl3)
      have s25 : Nx ρ2 G2 F2 (restore ρ2 ρ5) G5 F5 H5 := ⟨a1.trans s5.ex, s5.fr, fun b o hb hn => s5.keep b o hb fun z => hn (c3 b z), fun p hp => .inl (by rw [q4] at hp; exact hp)⟩
      exact ⟨s2.trans s25, sh2.trans q2, q1, q3, by rw [q4]; exact nc2, s25.keep _ _ hD2 nc2, r2.mono s25.ex⟩
    refine td G3 F2 H' _ a2 e3 _ fun b ρ4 G4 F4 H4 s4 sh4 e4 q4 => ?_
    cases b with
    | false =>
      rw [if_neg Bool.false_ne_true] at q4 ⊢
      obtain ⟨t1, t2, t3, t4, t5, t6, t7⟩ := fin ρ4 G4 F4 H4 s4 sh4 e4
      exact ⟨acc, xs, _, G4, F4, t1, t2, t3, t4, t5, t6, t7, q4⟩
    | true =>
      rw [if_pos rfl] at q4 ⊢
      refine q4 G4 F4 H4 _ s4.fr e4 _ fun v y ρ5 G5 F5 H5 s5 sh5 e5 r5 ⟨hlen, q5⟩ => ?_
      obtain ⟨t1, t2, t3, t4, t5, t6, t7⟩ := fin ρ5 G5 F5 H5 (s4.trans s5) (sh4.trans sh5) e5
      refine ⟨xs, t1.fr.f _ _ t6, by rw [t7.len]; exact hlen, acc ++ [y], xs ++ [v], _, G5, upd F5 Dd (.lst (xs ++ [v])), ⟨t1.ex, t1.fr.setF t6, fun b o hb hn => ?_, t1.cel⟩, t2, t3.mono (.refl _) fun q hq => upd_ne fun z => t5 (z ▸ hq), t4, t5, upd_same, t7.app (.one r5), q5⟩
      have : b ≠ Dd := fun z => by rw [z, hF] at hb; cases hb
      rw [upd_ne this]
      exact t1.keep b o hb hn
  · have ei : i = its.length := by omega
    refine .inl ⟨w2 ei, k _ (.n Dd (.lst acc)) ρ2 G2 F2 H2 (s1.trans s2) (sh1.trans sh2) e2 ⟨rfl, ⟨xs, hD2, r2⟩, nc2⟩ (fun p y z => ?_) (hd acc ρ2 (ei ▸ j2) Dd)⟩
    cases z
    exact nx_back s1 sh1 e1 hF
end
end DL
namespace DL
open PySem L2
variable [HasT]
/-! ### arguments: data, or the cell of a slot -/
/-- a value as an argument: a new object is given up -/
def asG (post : Ar → List Sl → Prop) (a : Ar) (ρ : List Sl) : Prop := match a with
  | .d x => post (.d x) ρ
  | .n _ x => post (.d x) ρ
  | .c i => post (.c i) ρ
def noN : Ar → Bool
  | .n _ _ => false
  | _ => true
def EG (K : PySem.W.Frag) (ρ : List Sl) (ta : TA) (post : List Ar → List Sl → Prop) : Prop :=
  ∀ (G F H : Hp) (σ : St), Fr G F H → Env K G F σ ρ → ∀ Q : List V → Hp → Prop,
    (∀ vs as ρ' G' F' H', Nx ρ G F ρ' G' F' H' → Shp ρ ρ' → Env K G' F' σ ρ' → ArsOk K G' F' ρ' as vs → as.all noN = true → post as ρ' → Q vs H') → ta σ H Q
section
variable {K : PySem.W.Frag} {ρ : List Sl} {te : TE} {tr : TA}
theorem eg_nil {post : List Ar → List Sl → Prop} (q : post [] ρ) : EG K ρ tNil post := fun G F H σ f e Q k => k [] [] ρ G F H (.refl f) (.refl ρ) e .nil rfl q
theorem eg_cons {post : List Ar → List Sl → Prop} (h : ED K ρ te (asG fun a ρ1 => EG K ρ1 tr fun as ρ2 => post (a :: as) ρ2)) : EG K ρ (tCons te tr) post := by
  intro G F H σ f e Q k
  refine h G F H σ f e _ fun v a ρ1 G1 F1 H1 s1 sh1 e1 o1 w1 h1 => ?_
  have go : ∀ (a : Ar) (G2 F2 : Hp), Nx ρ G F ρ1 G2 F2 H1 → Env K G2 F2 σ ρ1 → ArOk K G2 F2 ρ1 a v → noN a = true → EG K ρ1 tr (fun as ρ2 => post (a :: as) ρ2) → tr σ H1 fun vs H2 => Q (v :: vs) H2 := by
    intro a G2 F2 s2 e2 o2 n2 h2
    refine h2 G2 F2 H1 σ s2.fr e2 _ fun vs as ρ3 G3 F3 H3 s3 sh3 e3 o3 n3 q => ?_
    exact k _ (a :: as) ρ3 G3 F3 H3 (s2.trans s3) (sh1.trans sh3) e3 (.cons (o2.step s3 sh3) o3) (by rw [List.all_cons, n2, n3]; rfl) q
  cases a with
  | d x => exact go (.d x) G1 F1 s1 e1 o1 rfl h1
  | c i => exact go (.c i) G1 F1 s1 e1 o1 rfl h1
  | n p x =>
    obtain ⟨rfl, h, hn⟩ := o1
    obtain ⟨G2, F2, e2, f2, hf, ev2, r⟩ := nx_give s1.fr e1 h hn
    have hp := w1 p x rfl
    refine go (.d x) G2 F2 ⟨s1.ex.trans e2, f2, fun b u hb hc => ?_, s1.cel⟩ ev2 r rfl h1
    have hbp : b ≠ p := fun z => by rw [z, hp] at hb; cases hb
    exact (hf b hbp).trans (s1.keep b u hb hc)
end
/-! ### a def's promise -/
/-- from data and cells: what is handed back (data, or a new object), and the cells behind -/
def RsOk' (K : PySem.W.Frag) (F G' F' : Hp) (ρ' : List Sl) : Rs → V → Prop
  | .d x, v => Rep K G' v x
  | .n x, v => ∃ p, v = .ref p ∧ F p = none ∧ CellOk K G' F' p x ∧ p ∉ cells ρ'
abbrev DSp := List Sl → (Rs → List Sl → Prop) → Prop
def spD (K : PySem.W.Frag) (n : Nat) (R : DSp) : Sp := fun vs H Q _ => vs.length = n ∧ ∃ G F ρ post, Fr G F H ∧ Env K G F (vs.map some) ρ ∧ R ρ post ∧
  ∀ u z ρ' G' F' H', Nx ρ G F ρ' G' F' H' → Shp ρ ρ' → Env K G' F' (vs.map some) ρ' → RsOk' K F G' F' ρ' z u → post z ρ' → Q u H'
theorem spD_len {K : PySem.W.Frag} {n : Nat} {R : DSp} : ∀ vs H Q E, spD K n R vs H Q E → vs.length = n := fun _ _ _ _ h => h.1
def arS (ρ : List Sl) : Ar → Sl
  | .d x => .d x
  | .c i => ρ.getD i .no
  | .n _ _ => .no
/-- the cells that were handed in, as they are behind the call -/
def wb : List Ar → List Sl → List Sl → List Sl
  | .c i :: as, r :: ρ', ρ => wb as ρ' (ρ.set i r)
  | _ :: as, _ :: ρ', ρ => wb as ρ' ρ
  | _, _, ρ => ρ
def idx : List Ar → List Nat
  | .c i :: as => i :: idx as
  | _ :: as => idx as
  | [] => []
theorem wb_at {K : PySem.W.Frag} {G F : Hp} {σ : St} : ∀ {as : List Ar} {ρ' ρ : List Sl},
    (∀ (k i : Nat), as[k]? = some (.c i) → ∃ p x x', ρ[i]? = some (.cell p x) ∧ ρ'[k]? = some (.cell p x') ∧ σ[i]? = some (some (.ref p)) ∧ CellOk K G F p x') →
    (∀ (j : Nat) s, ρ[j]? = some s → j ∉ idx as → ∃ o, σ[j]? = some o ∧ SlOk K G F s o) → as.length = ρ'.length →
    (∀ (j : Nat) s, (wb as ρ' ρ)[j]? = some s → ∃ o, σ[j]? = some o ∧ SlOk K G F s o) ∧ (wb as ρ' ρ).map Sl.adr = ρ.map Sl.adr
  | [], ρ', ρ, _, h2, _ => ⟨fun j s hs => h2 j s (by unfold wb at hs; exact hs) (by unfold idx; simp), by unfold wb; rfl⟩
  | a :: as, [], ρ, _, _, hl => by simp at hl
  | .d x :: as, r :: ρ', ρ, h1, h2, hl => by
    have := wb_at (as := as) (ρ' := ρ') (ρ := ρ) (fun k i e => by obtain ⟨p, x, x', a, b, c⟩ := h1 (k + 1) i (by simpa using e); exact ⟨p, x, x', a, by simpa using b, c⟩) (fun j s hs hj => h2 j s hs hj) (by simpa using hl)
    exact this
  | .n p x :: as, r :: ρ', ρ, h1, h2, hl => by
    have := wb_at (as := as) (ρ' := ρ') (ρ := ρ) (fun k i e => by obtain ⟨p, x, x', a, b, c⟩ := h1 (k + 1) i (by simpa using e); exact ⟨p, x, x', a, by simpa using b, c⟩) (fun j s hs hj => h2 j s hs hj) (by simpa using hl)
    exact this
  | .c i :: as, r :: ρ', ρ, h1, h2, hl => by
    obtain ⟨p, x, x', e1, e2, e3, e4⟩ := h1 0 i rfl
    have hr : r = .cell p x' := by simpa using e2
    subst hr
    have hi : i < ρ.length := (List.getElem?_eq_some_iff.mp e1).1
    have := wb_at (as := as) (ρ' := ρ') (ρ := ρ.set i (.cell p x')) (fun k j e => by
      obtain ⟨q, y, y', a, b, c, d⟩ := h1 (k + 1) j (by simpa using e)
      by_cases hj : i = j
      · subst hj
        rw [e1] at a
        cases a
        exact ⟨p, x', y', by rw [List.getElem?_set_self hi], by simpa using b, c, d⟩
      · exact ⟨q, y, y', by rw [List.getElem?_set_ne hj]; exact a, by simpa using b, c, d⟩) (fun j s hs hj => by
      rw [List.getElem?_set] at hs
      by_cases hij : i = j
      · subst hij
        rw [if_pos rfl, if_pos hi] at hs
        cases hs
        exact ⟨_, e3, rfl, e4⟩
      · rw [if_neg hij] at hs
        refine h2 j s hs fun z => ?_
        have z' : j ∈ i :: idx as := z
        rcases List.mem_cons.mp z' with q | q
        · exact hij q.symm
        · exact hj q) (by simpa using hl)
    refine ⟨this.1, this.2.trans ?_⟩
    rw [List.map_set]
    refine List.ext_getElem? fun j => ?_
    rw [List.getElem?_set, List.length_map]
    by_cases hij : i = j
    · subst hij
      rw [if_pos rfl, if_pos hi, List.getElem?_map, e1]; rfl
    · rw [if_neg hij]
theorem arsOk_len {K : PySem.W.Frag} {G F : Hp} {ρ : List Sl} {as : List Ar} {vs : List V} (o : ArsOk K G F ρ as vs) : vs.length = as.length := by
  induction o with
  | nil => rfl
  | cons _ _ ih => simp [ih]
theorem idx_mem {i : Nat} : ∀ (as : List Ar) (q : Nat), as[q]? = some (.c i) → i ∈ idx as := by
  intro as
  induction as with
  | nil => intro q h; simp at h
  | cons b as ih =>
    intro q h
    cases q with
    | zero =>
      have h : b = .c i := by simpa using h
      subst h
      exact List.mem_cons_self
    | succ q =>
      have := ih q (by simpa using h)
      cases b with
      | c i => exact List.mem_cons_of_mem _ this
      | d x => exact this
      | n p x => exact this
section
variable {K : PySem.W.Frag} {ρ : List Sl}
theorem arS_env {G F H : Hp} {σ : St} {as : List Ar} {vs : List V} (ev : Env K G F σ ρ) (o : ArsOk K G F ρ as vs) (n : as.all noN = true) (nd : (cells (as.map (arS ρ))).Nodup) : Env K G F (vs.map some) (as.map (arS ρ)) := by
  have at_ : ∀ (as : List Ar) (vs : List V), ArsOk K G F ρ as vs → as.all noN = true → vs.length = as.length ∧ ∀ (i : Nat) s, (as.map (arS ρ))[i]? = some s → ∃ o, (vs.map some)[i]? = some o ∧ SlOk K G F s o := by
    intro as vs o
    induction o with
    | nil => intro _; exact ⟨rfl, fun i s h => by simp at h⟩
    | cons r t ih =>
      rename_i a v as vs
      intro n
      rw [List.all_cons, Bool.and_eq_true] at n
      obtain ⟨l, ih⟩ := ih n.2
      refine ⟨by simp [l], fun i s h => ?_⟩
      cases i with
      | succ i =>
        obtain ⟨u, a1, a2⟩ := ih i s (by simpa using h)
        exact ⟨u, by simpa using a1, a2⟩
      | zero =>
        have hs : arS ρ a = s := by simpa using h
        subst hs
        refine ⟨some v, rfl, ?_⟩
        cases a with
        | d x => exact ⟨v, rfl, r⟩
        | c i =>
          obtain ⟨p, x, e, rfl⟩ := r
          show SlOk K G F (ρ.getD i .no) _
          rw [List.getD_eq_getElem?_getD, e]
          exact ⟨rfl, (ev.cell e).2⟩
        | n p x => exact absurd n.1 Bool.false_ne_true
  obtain ⟨l, h⟩ := at_ as vs o n
  exact ⟨by simp [l], h, nd⟩
/-- a call of a def by its promise -/
theorem ed_call {n : Nat} {R : DSp} {E : XK} {ta : TA} {post : Ar → List Sl → Prop}
    (h : EG K ρ ta fun as ρ1 => as.length = n ∧ (cells (as.map (arS ρ1))).Nodup ∧ R (as.map (arS ρ1)) fun z ρ' => rsA post (wb as ρ' ρ1) z) : ED K ρ (tCall (spD K n R) [] E ta) post := by
  intro G F H σ f e Q k
  refine h G F H σ f e _ fun vs as ρ1 G1 F1 H1 s1 sh1 e1 o1 n1 ⟨hl, nd, hR⟩ => ?_
  have lv : vs.length = as.length := arsOk_len o1
  have ea : Env K G1 F1 (vs.map some) (as.map (arS ρ1)) := arS_env (H := H1) e1 o1 n1 nd
  rw [List.append_nil]
  refine ⟨lv.trans hl, G1, F1, _, _, s1.fr, ea, hR, fun u z ρ' G2 F2 H2 s2 sh2 e2 ok po => ?_⟩
  -- the cells of the arguments are cells of the caller
  have sub : ∀ p ∈ cells (as.map (arS ρ1)), p ∈ cells ρ1 := fun p hp => by
    obtain ⟨i, x, hx⟩ := cells_mem hp
    rw [List.getElem?_map] at hx
    cases ha : as[i]? with
    | none => rw [ha] at hx; cases hx
    | some a =>
      rw [ha] at hx
      have hx : arS ρ1 a = .cell p x := by simpa using hx
      cases a with
      | d y => cases hx
      | n q y => cases hx
      | c j =>
        have : ρ1.getD j .no = .cell p x := hx
        rw [List.getD_eq_getElem?_getD] at this
        cases hj : ρ1[j]? with
        | none => rw [hj] at this; cases this
        | some s => rw [hj] at this; exact mem_cells (hj.trans (congrArg some this))
  have lρ : as.length = ρ'.length := by
    have := e2.len
    rw [List.length_map, lv] at this
    exact this
  have cAt : ∀ (q i : Nat), as[q]? = some (.c i) → ∃ p x x', ρ1[i]? = some (.cell p x) ∧ ρ'[q]? = some (.cell p x') ∧ σ[i]? = some (some (.ref p)) ∧ CellOk K G2 F2 p x' := fun q i hq => by
    have : ∀ (as : List Ar) (vs : List V), ArsOk K G1 F1 ρ1 as vs → ∀ (q i : Nat), as[q]? = some (.c i) → ∃ p x, ρ1[i]? = some (.cell p x) := by
      intro as vs o
      induction o with
      | nil => intro q i h; simp at h
      | cons r _ ih =>
        intro q i h
        cases q with
        | succ q => exact ih q i (by simpa using h)
        | zero =>
          have h := by simpa using h
          subst h
          obtain ⟨p, x, e, _⟩ := r
          exact ⟨p, x, e⟩
    obtain ⟨p, x, hx⟩ := this as vs o1 q i hq
    have hs : (as.map (arS ρ1))[q]? = some (.cell p x) := by
      rw [List.getElem?_map, hq]
      show some (ρ1.getD i .no) = _
      rw [List.getD_eq_getElem?_getD, hx]; rfl
    obtain ⟨x', hx'⟩ := sh2 q p x hs
    exact ⟨p, x, x', hx, hx', (e1.cell hx).1, (e2.cell hx').2⟩
  have inIdx : ∀ (as : List Ar) (j : Nat), j ∈ idx as → ∃ q : Nat, as[q]? = some (.c j) := by
    intro as
    induction as with
    | nil => intro j h; unfold idx at h; simp at h
    | cons a as ih =>
      intro j h
      cases a with
      | d x => obtain ⟨q, hq⟩ := ih j h; exact ⟨q + 1, by simpa using hq⟩
      | n p x => obtain ⟨q, hq⟩ := ih j h; exact ⟨q + 1, by simpa using hq⟩
      | c i =>
        have h' : j ∈ i :: idx as := h
        rcases List.mem_cons.mp h' with e | e
        · exact ⟨0, by rw [e]; rfl⟩
        · obtain ⟨q, hq⟩ := ih j e; exact ⟨q + 1, by simpa using hq⟩
  -- a slot that was not handed in
  have oldS : ∀ (j : Nat) s, ρ1[j]? = some s → j ∉ idx as → ∃ o, σ[j]? = some o ∧ SlOk K G2 F2 s o := fun j s hs hj => by
    obtain ⟨o, h1, h2⟩ := e1.at_ j s hs
    refine ⟨o, h1, h2.mono s2.ex fun p x es => ?_⟩
    subst es
    obtain ⟨u, hu⟩ := (e1.cell hs).2.some
    refine (s2.keep p u hu fun z => ?_).trans hu.symm
    obtain ⟨q, y, hq⟩ := cells_mem z
    rw [List.getElem?_map] at hq
    cases ha : as[q]? with
    | none => rw [ha] at hq; cases hq
    | some a =>
      rw [ha] at hq
      cases a with
      | d y => cases hq
      | n w y => cases hq
      | c i =>
        have : ρ1.getD i .no = .cell p y := by simpa [arS] using hq
        rw [List.getD_eq_getElem?_getD] at this
        obtain ⟨p2, x2, x2', e1', _⟩ := cAt q i ha
        rw [e1'] at this
        cases this
        have ij := nd_at e1.nd e1' hs
        refine hj ?_
        rw [← ij]
        exact idx_mem as q ha
  obtain ⟨w1, w2⟩ := wb_at (K := K) (G := G2) (F := F2) (σ := σ) cAt oldS lρ
  have hc : cells (wb as ρ' ρ1) = cells ρ1 := cells_of_adr w2
  have lw : (wb as ρ' ρ1).length = ρ1.length := by
    have := congrArg List.length w2
    simpa using this
  have ew : Env K G2 F2 σ (wb as ρ' ρ1) := ⟨by rw [lw]; exact e1.len, w1, by rw [hc]; exact e1.nd⟩
  have s12 : Nx ρ1 G1 F1 (wb as ρ' ρ1) G2 F2 H2 := ⟨s2.ex, s2.fr, fun b o hb hn => s2.keep b o hb fun z => hn (sub b z), fun p hp => .inl (by rw [hc] at hp; exact hp)⟩
  have shw : Shp ρ1 (wb as ρ' ρ1) := fun i p x hx => by
    have hi : i < (wb as ρ' ρ1).length := by rw [lw]; exact (List.getElem?_eq_some_iff.mp hx).1
    have : ((wb as ρ' ρ1).map Sl.adr)[i]? = some (some p) := by rw [w2, List.getElem?_map, hx]; rfl
    rw [List.getElem?_map, List.getElem?_eq_getElem hi] at this
    cases es : (wb as ρ' ρ1)[i] with
    | cell q y => rw [es] at this; cases this; exact ⟨y, by rw [List.getElem?_eq_getElem hi, es]⟩
    | d y => rw [es] at this; cases this
    | no => rw [es] at this; cases this
  cases z with
  | d x => exact k u (.d x) _ G2 F2 H2 (s1.trans s12) (sh1.trans shw) ew ok .d po
  | n x =>
    obtain ⟨p, rfl, hp, hcell, _⟩ := ok
    refine k _ (.n p x) _ G2 F2 H2 (s1.trans s12) (sh1.trans shw) ew ⟨rfl, hcell, fun z => ?_⟩ (fun q y e => by cases e; exact nx_back s1 sh1 e1 hp) (po p)
    rw [hc] at z
    obtain ⟨i, y, e⟩ := cells_mem z
    obtain ⟨o, ho⟩ := (e1.cell e).2.some
    rw [hp] at ho; cases ho
end
end DL
namespace DL
open PySem L2
variable [HasT]
/-! ### a def's body -/
def EndC : List Sl → List Sl → (List Sl → Prop) → Prop
  | [], _, k => k []
  | .cell p _ :: ρ, s :: ρ', k => match s with
    | .cell q y => q = p ∧ EndC ρ ρ' fun r => k (.cell p y :: r)
    | _ => False
  | .d x :: ρ, _ :: ρ', k => EndC ρ ρ' fun r => k (.d x :: r)
  | .no :: ρ, _ :: ρ', k => EndC ρ ρ' fun r => k (.no :: r)
  | _ :: _, [], _ => False
def endP (n : Nat) (ρ : List Sl) (post : Rs → List Sl → Prop) (a : Ar) (ρ' : List Sl) : Prop := match a with
  | .d x => EndC ρ ρ' (post (.d x))
  | .n _ x => EndC ρ ρ' (post (.n x))
  | .c i => match ρ'[i]? with
    | some (.cell _ x) => n ≤ i ∧ EndC ρ ρ' (post (.n x))
    | _ => False
section
variable {K : PySem.W.Frag}
theorem endC_ok {G F G' F' : Hp} : ∀ {ρ ρ' : List Sl} {vs : List V} {σ' : St} {k : List Sl → Prop}, EndC ρ ρ' k →
    (∀ (i : Nat) s, ρ[i]? = some s → ∃ o, (vs.map some)[i]? = some o ∧ SlOk K G F s o) → (∀ (i : Nat) s, ρ'[i]? = some s → ∃ o, σ'[i]? = some o ∧ SlOk K G' F' s o) → Same G G' → vs.length = ρ.length →
    ∃ r, k r ∧ r.length = ρ.length ∧ r.map Sl.adr = ρ.map Sl.adr ∧ (∀ (i : Nat) s, r[i]? = some s → ∃ o, (vs.map some)[i]? = some o ∧ SlOk K G' F' s o) ∧ (∀ (i : Nat) p x, ρ[i]? = some (.cell p x) → ∃ y, ρ'[i]? = some (.cell p y))
  | [], ρ', vs, σ', k, h, h1, h2, g, hl => ⟨[], h, rfl, rfl, fun i s e => by simp at e, fun i p x e => by simp at e⟩
  | s :: ρ, [], vs, σ', k, h, h1, h2, g, hl => by cases s <;> exact False.elim h
  | s :: ρ, t :: ρ', [], σ', k, h, h1, h2, g, hl => by simp at hl
  | s :: ρ, t :: ρ', v :: vs, [], k, h, h1, h2, g, hl => by obtain ⟨o, e, _⟩ := h2 0 t rfl; simp at e
  | s :: ρ, t :: ρ', v :: vs, o :: σ', k, h, h1, h2, g, hl => by
    have a1 : ∀ (i : Nat) s, ρ[i]? = some s → ∃ o, (vs.map some)[i]? = some o ∧ SlOk K G F s o := fun i s e => by
      obtain ⟨o, x, y⟩ := h1 (i + 1) s (by simpa using e); exact ⟨o, by simpa using x, y⟩
    have a2 : ∀ (i : Nat) s, ρ'[i]? = some s → ∃ o, σ'[i]? = some o ∧ SlOk K G' F' s o := fun i s e => by
      obtain ⟨o, x, y⟩ := h2 (i + 1) s (by simpa using e); exact ⟨o, by simpa using x, y⟩
    have hl' : vs.length = ρ.length := by simpa using hl
    obtain ⟨u, u1, u2⟩ := h1 0 s rfl
    have u1 : some v = u := by simpa using u1
    subst u1
    have fin : ∀ (s' : Sl), s'.adr = s.adr → SlOk K G' F' s' (some v) → (∀ p x, s = .cell p x → ∃ y, t = .cell p y) → EndC ρ ρ' (fun r => k (s' :: r)) →
        ∃ r, k r ∧ r.length = (s :: ρ).length ∧ r.map Sl.adr = (s :: ρ).map Sl.adr ∧ (∀ (i : Nat) s, r[i]? = some s → ∃ o, ((v :: vs).map some)[i]? = some o ∧ SlOk K G' F' s o) ∧ (∀ (i : Nat) p x, (s :: ρ)[i]? = some (.cell p x) → ∃ y, (t :: ρ')[i]? = some (.cell p y)) := by
      intro s' ha hs ht hk
      obtain ⟨r, b1, b2, b3, b4, b5⟩ := endC_ok hk a1 a2 g hl'
      refine ⟨s' :: r, b1, by simp [b2], by simp [ha, b3], fun i z e => ?_, fun i p x e => ?_⟩
      · cases i with
        | zero => have e : s' = z := by simpa using e
                  subst e; exact ⟨_, rfl, hs⟩
        | succ i => obtain ⟨o, x, y⟩ := b4 i z (by simpa using e); exact ⟨o, by simpa using x, y⟩
      · cases i with
        | zero => have e : s = .cell p x := by simpa using e
                  obtain ⟨y, hy⟩ := ht p x e; exact ⟨y, by simp [hy]⟩
        | succ i => obtain ⟨y, hy⟩ := b5 i p x (by simpa using e); exact ⟨y, by simpa using hy⟩
    cases s with
    | no => exact fin .no rfl trivial (fun p x e => by cases e) h
    | d x => obtain ⟨w, e, r⟩ := u2; exact fin (.d x) rfl ⟨w, e, r.mono g⟩ (fun p x e => by cases e) h
    | cell p x =>
      cases t with
      | no => exact False.elim h
      | d y => exact False.elim h
      | cell q y =>
        obtain ⟨rfl, h⟩ := h
        obtain ⟨_, _, _, c⟩ := h2 0 _ rfl
        exact fin (.cell q y) rfl ⟨u2.1, c⟩ (fun p x e => by cases e; exact ⟨y, rfl⟩) h
theorem cells_rep : ∀ m : Nat, (List.replicate m Sl.no).filterMap Sl.adr = []
  | 0 => rfl
  | m + 1 => by rw [List.replicate_succ, List.filterMap_cons]; exact cells_rep m
/-- THE RULE of a body -/
theorem fn_body {n m : Nat} {N : List Str} {R : DSp} {vs : List V} {H : Hp} {Q : VK} {E : XK} {t : TS} (h : spD K n R vs H Q E) (hm : N.length = n + m)
    (hb : ∀ ρ post, ρ.length = n → R ρ post → SD K (ρ ++ List.replicate m .no) t { nx := endP n ρ post (.d .non), rt := endP n ρ post }) : t { nx := fun _ H' => Q .non H', rt := Q } (L2.start N vs) H := by
  obtain ⟨hl, G, F, ρ, post, f, ev, hR, fin⟩ := h
  have lρ : ρ.length = n := by rw [← ev.len, List.length_map]; exact hl
  have hst : L2.start N vs = vs.map some ++ List.replicate m none := by unfold L2.start; rw [hm, hl, Nat.add_sub_cancel_left]
  have cz : cells (ρ ++ List.replicate m .no) = cells ρ := by
    unfold cells
    rw [List.filterMap_append]
    rw [cells_rep, List.append_nil]
  have e0 : Env K G F (L2.start N vs) (ρ ++ List.replicate m .no) := by
    rw [hst]
    refine ⟨by simp [lρ, hl], fun i s hs => ?_, by rw [cz]; exact ev.nd⟩
    by_cases hi : i < ρ.length
    · rw [List.getElem?_append_left hi] at hs
      obtain ⟨o, h1, h2⟩ := ev.at_ i s hs
      exact ⟨o, by rw [List.getElem?_append_left (by simp; omega)]; exact h1, h2⟩
    · rw [List.getElem?_append_right (by omega)] at hs
      have hm2 : i - ρ.length < m := by
        have := (List.getElem?_eq_some_iff.mp hs).1
        simpa using this
      have : s = .no := by
        rw [List.getElem?_replicate, if_pos hm2] at hs
        exact (Option.some.inj hs).symm
      subst this
      refine ⟨none, ?_, trivial⟩
      rw [List.getElem?_append_right (by simp; omega), List.getElem?_replicate, if_pos (by simp; omega)]
  have go : ∀ (v : V) (a : Ar) (ρ' : List Sl) (σ' : St) (G' F' H' : Hp), Nx (ρ ++ List.replicate m .no) G F ρ' G' F' H' → Env K G' F' σ' ρ' → ArOk K G' F' ρ' a v → NewC (ρ ++ List.replicate m .no) F a → endP n ρ post a ρ' → Q v H' := by
    intro v a ρ' σ' G' F' H' s e o nw q
    have fin2 : ∀ z, EndC ρ ρ' (post z) → (∀ r, r.map Sl.adr = ρ.map Sl.adr → (∀ (i : Nat) p x, ρ[i]? = some (.cell p x) → ∃ y, ρ'[i]? = some (.cell p y)) → RsOk' K F G' F' r z v) → Q v H' := by
      intro z hz hr
      obtain ⟨r, b1, b2, b3, b4, b5⟩ := endC_ok (K := K) (vs := vs) hz ev.at_ e.at_ s.ex (by omega)
      have cr : cells r = cells ρ := cells_of_adr b3
      have er : Env K G' F' (vs.map some) r := ⟨by rw [b2, List.length_map]; omega, b4, by rw [cr]; exact ev.nd⟩
      refine fin v z r G' F' H' ⟨s.ex, s.fr, fun b o hb hn => s.keep b o hb (by rw [cz]; exact hn), fun p hp => .inl (by rw [cr] at hp; exact hp)⟩ (fun i p x hx => ?_) er (hr r b3 b5) b1
      have hi : i < r.length := by rw [b2]; exact (List.getElem?_eq_some_iff.mp hx).1
      have : (r.map Sl.adr)[i]? = some (some p) := by rw [b3, List.getElem?_map, hx]; rfl
      rw [List.getElem?_map, List.getElem?_eq_getElem hi] at this
      cases es : r[i] with
      | cell q y => rw [es] at this; cases this; exact ⟨y, by rw [List.getElem?_eq_getElem hi, es]⟩
      | d y => rw [es] at this; cases this
      | no => rw [es] at this; cases this
    -- an argument's cell is a cell still
    have still : (∀ (i : Nat) p x, ρ[i]? = some (.cell p x) → ∃ y, ρ'[i]? = some (.cell p y)) → ∀ p, p ∈ cells ρ → ∃ (i : Nat) (y : D), i < n ∧ ρ'[i]? = some (.cell p y) := fun h p hp => by
      obtain ⟨i, x, hx⟩ := cells_mem hp
      obtain ⟨y, hy⟩ := h i p x hx
      exact ⟨i, y, by rw [← lρ]; exact (List.getElem?_eq_some_iff.mp hx).1, hy⟩
    cases a with
    | d x => exact fin2 (.d x) q fun r _ _ => o
    | n p x =>
      obtain ⟨rfl, hc, hn⟩ := o
      refine fin2 (.n x) q fun r b3 b5 => ⟨p, rfl, ?_, hc, fun z => ?_⟩
      · rcases nw p x rfl with z | z
        · rw [cz] at z
          obtain ⟨i, y, _, hy⟩ := still b5 p z
          exact absurd (mem_cells hy) hn
        · exact z
      · rw [cells_of_adr b3] at z
        obtain ⟨i, y, _, hy⟩ := still b5 p z
        exact hn (mem_cells hy)
    | c i =>
      obtain ⟨p, x, hx, rfl⟩ := o
      have q : (match ρ'[i]? with | some (.cell _ x) => n ≤ i ∧ EndC ρ ρ' (post (.n x)) | _ => False) := q
      rw [hx] at q
      obtain ⟨hi, q⟩ := q
      have no : (∀ (i : Nat) p x, ρ[i]? = some (.cell p x) → ∃ y, ρ'[i]? = some (.cell p y)) → p ∉ cells ρ := fun b5 z => by
        obtain ⟨j, y, hj, hy⟩ := still b5 p z
        have := nd_at e.nd hx hy
        omega
      refine fin2 (.n x) q fun r b3 b5 => ⟨p, rfl, ?_, (e.cell hx).2, fun z => no b5 (by rw [cells_of_adr b3] at z; exact z)⟩
      rcases s.cel p (mem_cells hx) with z | z
      · rw [cz] at z; exact absurd z (no b5)
      · exact z
  refine hb ρ post lρ hR G F H _ f e0 _ ⟨fun ρ' σ' G' F' H' s e q => ?_, go, fun _ _ _ _ _ _ _ q => q.elim, fun _ _ _ _ _ _ _ q => q.elim, fun _ _ _ _ _ _ _ _ q => q.elim⟩
  exact go .non (.d .non) ρ' σ' G' F' H' s e Rep.non ArNew.d.c' q
end
end DL
namespace DL
open PySem L2 PyProof.Rows
variable [HasT]
/-! ### data to the library's data -/
mutual
def toP : D → PyData
  | .non => .none
  | .bl b => .bool b
  | .int i => .int i
  | .str s => .str (S s)
  | .lst ds => .list (toPs ds)
  | .tup ds => .tuple (toPs ds)
  | .dct _ => .dict []
  | .obj _ => .dict []
  | .ty _ => .dict []
  | .cls _ => .dict []
  | .exc _ _ _ => .dict []
  | .fnc _ _ => .dict []
def toPs : List D → List PyData
  | [] => []
  | d :: ds => toP d :: toPs ds
end
/-! to be compared and shown: plain, its texts well formed -/
mutual
def okD : D → Bool
  | .non => true
  | .bl _ => true
  | .int _ => true
  | .str s => s.all fun c => decide (c < 0x110000)
  | .lst ds => okDs ds
  | .tup ds => okDs ds
  | .dct _ => false
  | .obj _ => false
  | .ty _ => false
  | .cls _ => false
  | .exc _ _ _ => false
  | .fnc _ _ => false
def okDs : List D → Bool
  | [] => true
  | d :: ds => okD d && okDs ds
end
mutual
def depD : D → Nat
  | .lst ds => depDs ds + 1
  | .tup ds => depDs ds + 1
  | _ => 0
def depDs : List D → Nat
  | [] => 0
  | d :: ds => max (depD d) (depDs ds)
end
mutual
theorem canLay_ok : ∀ {x : D}, okD x = true → PyData.canLay0 (toP x) = true
  | .non, _ => by simp [toP, PyData.canLay0]
  | .bl _, _ => by simp [toP, PyData.canLay0]
  | .int _, _ => by simp [toP, PyData.canLay0]
  | .str s, h => by
    rw [toP, PyData.canLay0]
    have h : (s.all fun c => decide (c < 0x110000)) = true := by simpa [okD] using h
    show (s.toArray.all fun c => decide (c < 0x110000)) = true
    rw [List.all_toArray]
    exact h
  | .lst ds, h => by
    rw [toP, PyData.canLay0]; exact canLays_ok (by simpa [okD] using h)
  | .tup ds, h => by
    rw [toP, PyData.canLay0]; exact canLays_ok (by simpa [okD] using h)
  | .dct _, h => by simp [okD] at h
  | .obj _, h => by simp [okD] at h
  | .ty _, h => by simp [okD] at h
  | .cls _, h => by simp [okD] at h
  | .exc _ _ _, h => by simp [okD] at h
  | .fnc _ _, h => by simp [okD] at h
theorem canLays_ok : ∀ {xs : List D}, okDs xs = true → PyData.canLayAll0 (toPs xs) = true
  | [], _ => by simp [toPs, PyData.canLayAll0]
  | d :: ds, h => by
    have h' : okD d = true ∧ okDs ds = true := by simpa [okDs] using h
    rw [toPs, PyData.canLayAll0, canLay_ok h'.1, canLays_ok h'.2]; rfl
end
mutual
theorem dep_eq : ∀ x : D, okD x = true → PyData.depth (toP x) = depD x
  | .non, _ => by simp [toP, PyData.depth, depD]
  | .bl _, _ => by simp [toP, PyData.depth, depD]
  | .int _, _ => by simp [toP, PyData.depth, depD]
  | .str s, _ => by simp [toP, PyData.depth, depD]
  | .lst ds, h => by rw [toP, PyData.depth, depD, deps_eq ds (by simpa [okD] using h)]
  | .tup ds, h => by rw [toP, PyData.depth, depD, deps_eq ds (by simpa [okD] using h)]
  | .dct _, h => by simp [okD] at h
  | .obj _, h => by simp [okD] at h
  | .ty _, h => by simp [okD] at h
  | .cls _, h => by simp [okD] at h
  | .exc _ _ _, h => by simp [okD] at h
  | .fnc _ _, h => by simp [okD] at h
theorem deps_eq : ∀ xs : List D, okDs xs = true → PyData.depthAll (toPs xs) = depDs xs
  | [], _ => by simp [toPs, PyData.depthAll, depDs]
  | d :: ds, h => by
    have h' : okD d = true ∧ okDs ds = true := by simpa [okDs] using h
    rw [toPs, PyData.depthAll, depDs, dep_eq d h'.1, deps_eq ds h'.2]
end
theorem shaped_ok {x : D} (h : okD x = true) (hd : depD x ≤ 64) : SeqAt.shaped (toP x) = true := by
  show (PyData.canLay0 (toP x) && decide (PyData.depth (toP x) ≤ 64)) = true
  rw [canLay_ok h, dep_eq x h, decide_eq_true hd]; rfl
section
variable {K : PySem.W.Frag} {G H : Hp}
mutual
theorem Rep.dp : ∀ {x : D} {v : V}, Rep K G v x → okD x = true → Dp K G v (toP x)
  | .non, _, h, _ => by cases h; rw [toP]; exact .non
  | .bl _, _, h, _ => by cases h; rw [toP]; exact .bl _
  | .int _, _, h, _ => by cases h; rw [toP]; exact .int _
  | .str _, _, h, _ => by cases h; rw [toP]; exact .str _
  | .lst ds, _, h, ok => by cases h with | lst h1 h2 => rw [toP]; exact .lst h1 (Reps.dp h2 (by simpa [okD] using ok))
  | .tup ds, _, h, ok => by cases h with | tup h1 h2 => rw [toP]; exact .tup h1 (Reps.dp h2 (by simpa [okD] using ok))
  | .dct _, _, h, ok => by simp [okD] at ok
  | .obj _, _, h, ok => by simp [okD] at ok
  | .ty _, _, h, ok => by simp [okD] at ok
  | .cls _, _, h, ok => by simp [okD] at ok
  | .exc _ _ _, _, h, ok => by simp [okD] at ok
  | .fnc _ _, _, h, ok => by simp [okD] at ok
theorem Reps.dp : ∀ {xs : List D} {vs : List V}, Reps K G vs xs → okDs xs = true → DpAll K G vs (toPs xs)
  | [], _, h, _ => by cases h; rw [toPs]; exact .nil
  | d :: ds, _, h, ok => by
    have h' : okD d = true ∧ okDs ds = true := by simpa [okDs] using ok
    cases h with | cons h1 h2 => rw [toPs]; exact .cons (Rep.dp h1 h'.1) (Reps.dp h2 h'.2)
end
end
/-- == of data -/
def eqD (x y : D) : Bool := PyData.eqv (toP x) (toP y)
theorem od_eqD {K : PySem.W.Frag} {x y : D} {post : Rs → Prop} (hx : okD x = true) (hy : okD y = true) (dx : depD x ≤ 64) (dy : depD y ≤ 64) (q : post (.d (.bl (eqD x y)))) : OD K (rEqD K) x y post := by
  intro G F H v w f rx ry Q k
  exact ⟨toP x, toP y, (rx.rep f.g).dp hx, (ry.rep f.g).dp hy, shaped_ok hx dx, shaped_ok hy dy, k _ (.d (.bl _)) G F H (.refl _) (.refl _) f (Rep.bl _) q⟩
theorem od_neD {K : PySem.W.Frag} {x y : D} {post : Rs → Prop} (hx : okD x = true) (hy : okD y = true) (dx : depD x ≤ 64) (dy : depD y ≤ 64) (q : post (.d (.bl (!eqD x y)))) : OD K (rNeD K) x y post := by
  intro G F H v w f rx ry Q k
  exact ⟨toP x, toP y, (rx.rep f.g).dp hx, (ry.rep f.g).dp hy, shaped_ok hx dx, shaped_ok hy dy, k _ (.d (.bl _)) G F H (.refl _) (.refl _) f (Rep.bl _) q⟩
theorem eqD_str (a b : List Nat) : eqD (.str a) (.str b) = decide (a = b) := by
  unfold eqD
  rw [toP, toP, PyData.eqv]
  have : (S a == S b) = decide (a = b) := by
    rw [Bool.eq_iff_iff]; simp [S]
  exact this
theorem eqD_int (a b : Int) : eqD (.int a) (.int b) = decide (a = b) := by
  unfold eqD
  rw [toP, toP, PyData.eqv]
  rw [Bool.eq_iff_iff]; simp
theorem eqD_bl (a b : Bool) : eqD (.bl a) (.bl b) = decide (a = b) := by
  unfold eqD
  rw [toP, toP, PyData.eqv]
  cases a <;> cases b <;> rfl
theorem eqD_refl {x : D} (h : okD x = true) : eqD x x = true := SeqAt.eqv_refl _ (canLay_ok h)
theorem eqD_nil (ds : List D) : eqD (.lst ds) (.lst []) = ds.isEmpty := by
  unfold eqD
  rw [toP, toP, toPs, PyData.eqv]
  cases ds with
  | nil => rfl
  | cons d ds => rw [toPs]; rfl
theorem eqD_lst_cons (x y : D) (xs ys : List D) : eqD (.lst (x :: xs)) (.lst (y :: ys)) = (eqD x y && eqD (.lst xs) (.lst ys)) := by
  unfold eqD
  rw [toP, toP, toP, toP, toPs, toPs, PyData.eqv, PyData.eqv, PyData.eqvAll]
theorem eqD_tup_cons (x y : D) (xs ys : List D) : eqD (.tup (x :: xs)) (.tup (y :: ys)) = (eqD x y && eqD (.tup xs) (.tup ys)) := by
  unfold eqD
  rw [toP, toP, toP, toP, toPs, toPs, PyData.eqv, PyData.eqv, PyData.eqvAll]
theorem eqD_lst_nil : eqD (.lst []) (.lst []) = true := by unfold eqD; rw [toP, toPs, PyData.eqv]; rfl
theorem eqD_tup_nil : eqD (.tup []) (.tup []) = true := by unfold eqD; rw [toP, toPs, PyData.eqv]; rfl
theorem eqD_lst_nc (y : D) (ys : List D) : eqD (.lst []) (.lst (y :: ys)) = false := by unfold eqD; rw [toP, toP, toPs, toPs, PyData.eqv]; rfl
theorem eqD_lst_cn (y : D) (ys : List D) : eqD (.lst (y :: ys)) (.lst []) = false := by unfold eqD; rw [toP, toP, toPs, toPs, PyData.eqv]; rfl
theorem eqD_strs : ∀ (xs ys : List (List Nat)), eqD (.lst (xs.map .str)) (.lst (ys.map .str)) = decide (xs = ys)
  | [], [] => by rw [List.map_nil, eqD_lst_nil]; rfl
  | [], y :: ys => by rw [List.map_nil, List.map_cons, eqD_lst_nc]; rfl
  | x :: xs, [] => by rw [List.map_nil, List.map_cons, eqD_lst_cn]; rfl
  | x :: xs, y :: ys => by
    rw [List.map_cons, List.map_cons, eqD_lst_cons, eqD_str, eqD_strs xs ys, Bool.eq_iff_iff]; simp
theorem eqD_ints : ∀ (xs ys : List Int), eqD (.lst (xs.map .int)) (.lst (ys.map .int)) = decide (xs = ys)
  | [], [] => by rw [List.map_nil, eqD_lst_nil]; rfl
  | [], y :: ys => by rw [List.map_nil, List.map_cons, eqD_lst_nc]; rfl
  | x :: xs, [] => by rw [List.map_nil, List.map_cons, eqD_lst_cn]; rfl
  | x :: xs, y :: ys => by
    rw [List.map_cons, List.map_cons, eqD_lst_cons, eqD_int, eqD_ints xs ys, Bool.eq_iff_iff]; simp
/-! ### operations -/
section
variable {K : PySem.W.Frag} {post : Rs → Prop}
theorem back_d {G F H : Hp} {Q : VK} {u : V} {x : D} (f : Fr G F H) (k : Back K G F post Q) (r : Rep K G u x) (q : post (.d x)) : Q u H := k u (.d x) G F H (.refl _) (.refl _) f r q
/-- a new list -/
theorem back_n {G F H : Hp} {Q : VK} {p : Addr} {xs : List V} {ds : List D} (f : Fr G F H) (k : Back K G F post Q) (hp : H p = none) (r : Reps K G xs ds) (q : post (.n (.lst ds))) : Q (.ref p) (upd H p (.lst xs)) :=
  k _ (.n (.lst ds)) G (upd F p (.lst xs)) _ (.refl _) (same_new (none_of_same f.f hp)) (f.newF hp) ⟨p, rfl, none_of_same f.f hp, xs, upd_same, r⟩ q
/-- a new tuple -/
theorem back_t {G F H : Hp} {Q : VK} {p : Addr} {xs : List V} {ds : List D} (f : Fr G F H) (k : Back K G F post Q) (hp : H p = none) (r : Reps K G xs ds) (q : post (.d (.tup ds))) : Q (.ref p) (upd H p (.tup xs)) :=
  k _ (.d (.tup ds)) (upd G p (.tup xs)) F _ (same_new (none_of_same f.g hp)) (.refl _) (f.newG hp) (.tup (.inl (.inl upd_same)) (r.mono (same_new (none_of_same f.g hp)))) q
theorem od_I {C : Int → Int → Prop} {g : Int → Int → V} {i j : Int} {x : D} (hc : C i j) (hg : ∀ G, Rep K G (g i j) x) (q : post (.d x)) : OD K (rI C g) (.int i) (.int j) post := by
  intro G F H v w f rx ry Q k
  cases rx; cases ry
  exact ⟨i, j, rfl, rfl, hc, back_d f k (hg G) q⟩
theorem od_I0 {g : Int → Int → V} {i j : Int} {x : D} (hg : ∀ G, Rep K G (g i j) x) (q : post (.d x)) : OD K (rI0 g) (.int i) (.int j) post := by
  intro G F H v w f rx ry Q k
  cases rx; cases ry
  exact ⟨i, j, rfl, rfl, back_d f k (hg G) q⟩
/-- + -/
def rStrCat : R2 := fun x y H Q => ∃ i j, x = .str i ∧ y = .str j ∧ i.length + j.length ≤ sizeLine ∧ Q (.str (i ++ j)) H
def rCatL (K : PySem.W.Frag) : R2 := fun x y H Q => ∃ l b xs zs, x = .ref l ∧ y = .ref b ∧ SqL K H l xs ∧ SqL K H b zs ∧ xs.length + zs.length ≤ sizeLine ∧ ∀ p, H p = none → Q (.ref p) (upd H p (.lst (xs ++ zs)))
theorem op_catL {X : Cx} : OpR X (binaryOp .Add) (rCatL X.K) := by
  intro pins s σ H x y v u Q I rx ry h
  obtain ⟨l, b, xs, zs, rfl, rfl, hH, hB, hz, q⟩ := h
  cases rx
  cases ry
  obtain ⟨its, r, pl, hl⟩ := I.list hH
  obtain ⟨its2, r2, pl2, hl2⟩ := I.list hB
  have l1 := r.length
  have l2 := r2.length
  obtain ⟨⟨cls, dd, data, sl⟩, ho, hc, n, hd⟩ := pl.isList
  obtain ⟨⟨cls2, dd2, data2, sl2⟩, ho2, hc2, n2, hd2⟩ := pl2.isList
  simp only at hc hd hc2 hd2
  subst hc hd hc2 hd2
  have e : its.toArray ++ its2.toArray = (its ++ its2).toArray := by simp
  refine concat_meets ⟨_, ho, rfl⟩ ⟨_, ho2, rfl⟩ noFill_list_add seq_list_add PySem.F.slot_list_add PySem.F.entry_list_add (PySem.F.args_list_add_2 _ _) (list_addW l b its.toArray its2.toArray n n2 dd dd2 sl sl2 (by rw [List.size_toArray, List.size_toArray, ← l1, ← l2]; exact hz)) ⟨ho, ho2, ?_⟩
  rw [e]
  exact ⟨.ref _, _, I.lnew (t' := s.toks) (r.append r2) (by rw [List.length_append]; exact hz), rfl, q _ I.fresh⟩
end
end DL
namespace DL
open PySem L2 PyProof.Rows
variable [HasT]
/-! ### operators by several readings -/
def rAddP (K : PySem.W.Frag) : R2 := fun x y H Q => rI0 (fun i j => .int (i + j)) x y H Q ∨ (rStrCat x y H Q ∨ (rCatL K x y H Q ∨ rCatA K x y H Q))
theorem op_addP {X : Cx} : OpR X (binaryOp .Add) (rAddP X.K) := OpR.or op_add (OpR.or op_add_str (OpR.or op_catL op_catA))
theorem S_app (a b : List Nat) : S a ++ S b = S (a ++ b) := by
  show (⟨a.toArray ++ b.toArray⟩ : Str) = ⟨(a ++ b).toArray⟩
  simp
/-- text * int -/
def rStrRep : R2 := fun x y H Q => ∃ (z : List Nat) (k : Int), x = .str (S z) ∧ y = .int k ∧ -(2 ^ 63) ≤ k ∧ k < 2 ^ 63 ∧ z.length * k.toNat ≤ sizeLine ∧ Q (.str (S (List.replicate k.toNat z).flatten)) H
theorem foldl_app (z : List Nat) : ∀ (n : Nat) (acc : Array Nat), (List.replicate n z.toArray).foldl (· ++ ·) acc = acc ++ (List.replicate n z).flatten.toArray
  | 0, acc => by simp
  | n + 1, acc => by rw [List.replicate_succ, List.foldl_cons, foldl_app z n, List.replicate_succ, List.flatten_cons]; simp
theorem op_repS {X : Cx} : OpR X (binaryOp .Mult) rStrRep := by
  intro pins s σ H x y v u Q I rx ry h
  obtain ⟨z, k, rfl, rfl, h1, h2, hz, q⟩ := h
  obtain ⟨t, rfl⟩ := rx
  obtain ⟨t', rfl⟩ := ry
  have hs : sizeLine = 16777216 := sizeLine_eq
  refine P.mul_str (by
    have e1 : decide (k < -(2 ^ 63 : Int)) = false := decide_eq_false (by omega)
    have e2 : decide (k ≥ 2 ^ 63) = false := decide_eq_false (by omega)
    rw [e1, e2]; rfl) (fun h3 h4 => ?_) (fun h3 h4 => ?_) ?_
  · rw [S_len]
    have hk : 0 < k := by omega
    have h5 : (z.length : Int) * k ≤ 16777216 := by
      have : ((z.length * k.toNat : Nat) : Int) ≤ 16777216 := by omega
      rw [Int.natCast_mul, Int.toNat_of_nonneg (by omega)] at this
      exact this
    intro h6
    have h7 : (z.length : Int) * k > (2 ^ 63 - 1) / k * k := Int.mul_lt_mul_of_pos_right h6 hk
    have h8 : (2 ^ 63 - 1) / k * k + (2 ^ 63 - 1) % k = 2 ^ 63 - 1 := Int.ediv_mul_add_emod ..
    have h9 : (2 ^ 63 - 1) % k < k := Int.emod_lt_of_pos _ hk
    have h10 : 0 < (z.length : Int) := by
      cases z with
      | nil => simp [S, Str.length] at h4
      | cons c z => simp
    have h11 : k ≤ (z.length : Int) * k := by
      have := Int.mul_le_mul_of_nonneg_right (show (1 : Int) ≤ z.length by omega) (Int.le_of_lt hk)
      omega
    omega
  · rw [S_len]; exact short24 (by omega)
  · by_cases c1 : k < 1
    · rw [if_pos c1]
      have : k.toNat = 0 := by omega
      rw [this] at q
      exact ⟨by decide, .str _, H, I.tok _, ⟨_, rfl⟩, q⟩
    · rw [if_neg c1]
      by_cases c2 : (k == 1 || (S z).length == 0) = true
      · rw [if_pos c2]
        have e : (List.replicate k.toNat z).flatten = z := by
          rw [Bool.or_eq_true, beq_iff_eq, beq_iff_eq, S_len] at c2
          rcases c2 with c2 | c2
          · subst c2; simp
          · have : z = [] := List.eq_nil_of_length_eq_zero c2
            subst this; simp
        rw [e] at q
        exact ⟨.str _, H, I, ⟨_, rfl⟩, q⟩
      · rw [if_neg c2]
        have e : (⟨(List.replicate k.toNat (S z).cps).foldl (· ++ ·) #[]⟩ : Str) = S (List.replicate k.toNat z).flatten := by
          show (⟨(List.replicate k.toNat z.toArray).foldl (· ++ ·) #[]⟩ : Str) = _
          rw [foldl_app]; simp
        refine ⟨?_, .str _, H, I.tok _, ⟨_, by rw [e]⟩, q⟩
        rw [e, S_len, List.length_flatten]
        simp
        rw [Nat.mul_comm]; exact hz
def rMulP (K : PySem.W.Frag) : R2 := fun x y H Q => rI CMulW (fun i j => .int (i * j)) x y H Q ∨ (rStrRep x y H Q ∨ (rRep x y H Q ∨ rRepT K x y H Q))
theorem op_mulP {X : Cx} : OpR X (binaryOp .Mult) (rMulP X.K) := OpR.or op_mulW (OpR.or op_repS (OpR.or op_rep op_repT))
/-- a sign in a text, a flat thing in a list or tuple -/
def rInP (K : PySem.W.Frag) : R2 := fun x y H Q => (∃ (c : Nat) (z : Str), x = .str ⟨#[c]⟩ ∧ y = .str z ∧ Q (.bl (decide (c ∈ z.cps.toList))) H) ∨ rIn K false x y H Q
def rNotInP (K : PySem.W.Frag) : R2 := fun x y H Q => (∃ (c : Nat) (z : Str), x = .str ⟨#[c]⟩ ∧ y = .str z ∧ Q (.bl (!decide (c ∈ z.cps.toList))) H) ∨ rIn K true x y H Q
theorem op_inP {X : Cx} : OpR X (compareOp .In) (rInP X.K) := OpR.or op_in_sign op_in_seq
theorem op_notInP {X : Cx} : OpR X (compareOp .NotIn) (rNotInP X.K) := OpR.or op_notIn_sign op_notIn_seq
section
variable {K : PySem.W.Frag} {post : Rs → Prop}
theorem od_add_int {i j : Int} (q : post (.d (.int (i + j)))) : OD K (rAddP K) (.int i) (.int j) post := by
  intro G F H v w f rx ry Q k
  exact .inl (od_I0 (g := fun i j => .int (i + j)) (fun _ => .int _) q G F H v w f rx ry Q k)
theorem od_add_str {a b : List Nat} (hz : a.length + b.length ≤ sizeLine) (q : post (.d (.str (a ++ b)))) : OD K (rAddP K) (.str a) (.str b) post := by
  intro G F H v w f rx ry Q k
  cases rx; cases ry
  refine .inr (.inl ⟨S a, S b, rfl, rfl, by rw [S_len, S_len]; exact hz, ?_⟩)
  rw [S_app]
  exact back_d f k (.str _) q
theorem od_add_lst {a b : List D} (hz : a.length + b.length ≤ sizeLine) (q : post (.n (.lst (a ++ b)))) : OD K (rAddP K) (.lst a) (.lst b) post := by
  intro G F H v w f rx ry Q k
  obtain ⟨p, xs, rfl, h1, h2⟩ := rx
  obtain ⟨p', ys, rfl, h3, h4⟩ := ry
  exact .inr (.inr (.inl ⟨p, p', xs, ys, rfl, rfl, h1, h3, by rw [h2.len, h4.len]; exact hz, fun l hl => back_n f k hl (h2.app h4) q⟩))
theorem od_add_tup {a b : List D} (hz : a.length + b.length ≤ sizeLine) (q : post (.d (.tup (a ++ b)))) : OD K (rAddP K) (.tup a) (.tup b) post := by
  intro G F H v w f rx ry Q k
  cases rx with
  | tup h1 h2 =>
    cases ry with
    | tup h3 h4 =>
      refine .inr (.inr (.inr ⟨_, _, _, _, rfl, rfl, sqt_mono f.g h1, sqt_mono f.g h3, by rw [h2.len, h4.len]; exact hz, fun e => ?_, fun _ e => ?_, fun _ _ l hl => back_t f k hl (h2.app h4) q⟩))
      · subst e
        cases h2
        exact back_d f k (.tup h3 h4) q
      · subst e
        cases h4
        rw [List.append_nil] at q
        exact back_d f k (.tup h1 h2) q
theorem od_mul_int {i j : Int} (h : CMulW i j) (q : post (.d (.int (i * j)))) : OD K (rMulP K) (.int i) (.int j) post := by
  intro G F H v w f rx ry Q k
  exact .inl (od_I (g := fun i j => .int (i * j)) h (fun _ => .int _) q G F H v w f rx ry Q k)
theorem od_mul_str {a : List Nat} {k : Int} (h1 : -(2 ^ 63) ≤ k) (h2 : k < 2 ^ 63) (hz : a.length * k.toNat ≤ sizeLine) (q : post (.d (.str (List.replicate k.toNat a).flatten))) : OD K (rMulP K) (.str a) (.int k) post := by
  intro G F H v w f rx ry Q kk
  cases rx; cases ry
  exact .inr (.inl ⟨a, k, rfl, rfl, h1, h2, hz, back_d f kk (.str _) q⟩)
theorem od_in_sign {c : Nat} {z : List Nat} (q : post (.d (.bl (decide (c ∈ z))))) : OD K (rInP K) (.str [c]) (.str z) post := by
  intro G F H v w f rx ry Q k
  cases rx; cases ry
  refine .inl ⟨c, S z, rfl, rfl, ?_⟩
  rw [S_tl]
  exact back_d f k (.bl _) q
theorem od_notin_sign {c : Nat} {z : List Nat} (q : post (.d (.bl (!decide (c ∈ z))))) : OD K (rNotInP K) (.str [c]) (.str z) post := by
  intro G F H v w f rx ry Q k
  cases rx; cases ry
  refine .inl ⟨c, S z, rfl, rfl, ?_⟩
  rw [S_tl]
  exact back_d f k (.bl _) q
/-! is None -/
theorem od_isN {r : R2} (hr : r = fun x y H Q => y = .non ∧ Q (.bl (decide (x = .non))) H) {x : D} {b : Bool} (hb : b = (match x with | .non => true | _ => false)) (q : post (.d (.bl b))) : OD K r x .non post := by
  subst hr
  intro G F H v w f rx ry Q k
  cases ry
  refine ⟨rfl, ?_⟩
  have : decide (v = V.non) = b := by
    subst hb
    cases x with
    | non => cases rx; rfl
    | bl _ => cases rx; rfl
    | int _ => cases rx; rfl
    | str _ => cases rx; rfl
    | lst _ => obtain ⟨a, xs, rfl, _⟩ := rx; rfl
    | tup _ => cases rx; rfl
    | dct _ => obtain ⟨a, xs, rfl, _⟩ := rx; rfl
    | obj _ => cases rx; rfl
    | ty _ => cases rx; rfl
    | cls _ => cases rx; rfl
    | exc _ _ _ => cases rx <;> rfl
    | fnc _ _ => cases rx; rfl
  rw [this]
  exact back_d f k (.bl _) q
theorem ud_neg {i : Int} (q : post (.d (.int (-i)))) : UD K (rU fun i => .int (-i)) (.int i) post := by
  intro G F H v f rx Q k
  cases rx
  exact ⟨i, rfl, back_d f k (.int _) q⟩
/-! ### subscripts -/
theorem atI_rep {G : Hp} {xs : List V} {ds : List D} {i : Int} {x : D} (r : Reps K G xs ds) (h : atI ds i = some x) : ∃ v, atI xs i = some v ∧ Rep K G v x := by
  unfold atI at h ⊢
  rw [r.len]
  cases e : ixN ds.length i with
  | none => rw [e] at h; cases h
  | some j => rw [e] at h; exact r.get h
theorem od_ix_lst {ds : List D} {i : Int} {x : D} (h : atI ds i = some x) (q : post (.d x)) : OD K (rIx K) (.lst ds) (.int i) post := by
  intro G F H v w f rx ry Q k
  obtain ⟨p, xs, rfl, h1, h2⟩ := rx
  cases ry
  obtain ⟨u, hu, ru⟩ := atI_rep h2 h
  exact .inl ⟨p, xs, i, u, rfl, rfl, h1, hu, back_d f k ru q⟩
theorem od_ix_tup {ds : List D} {i : Int} {x : D} (h : atI ds i = some x) (q : post (.d x)) : OD K (rIx K) (.tup ds) (.int i) post := by
  intro G F H v w f rx ry Q k
  cases rx with
  | tup h1 h2 =>
    cases ry
    obtain ⟨u, hu, ru⟩ := atI_rep h2 h
    exact .inr (.inl ⟨_, _, i, u, rfl, rfl, sqt_mono f.g h1, hu, back_d f k ru q⟩)
theorem od_ix_str {z : List Nat} {i : Int} {c : Nat} (hz : z.length ≤ sizeLine) (h : atI z i = some c) (q : post (.d (.str [c]))) : OD K (rIx K) (.str z) (.int i) post := by
  intro G F H v w f rx ry Q k
  cases rx; cases ry
  exact .inr (.inr ⟨S z, i, c, rfl, rfl, by rw [S_len]; exact hz, by rw [S_tl]; exact h, back_d f k (.str [c]) q⟩)
/-! ### slices -/
def cutL {α : Type} (l : List α) (lo hi : Option Int) : List α := (l.drop (HT.sIx l.length 0 lo)).take (HT.sIx l.length l.length hi - HT.sIx l.length 0 lo)
def rSlP (K : PySem.W.Frag) : V → Option Int → Option Int → Hp → VK → Prop := fun x lo hi H Q => rSlS x lo hi H Q ∨ (rSlL K x lo hi H Q ∨ rSlA K x lo hi H Q)
theorem sl_P {X : Cx} : SlR X (rSlP X.K) := SlR.or sl_str (SlR.or sl_list sl_tupA)
theorem sld_str {z : List Nat} {lo hi : Option Int} (hz : z.length ≤ sizeLine) (q : post (.d (.str (cutL z lo hi)))) : SlD K (rSlP K) (.str z) lo hi post := by
  intro G F H v f rx Q k
  cases rx
  refine .inl ⟨S z, rfl, by rw [S_len]; exact hz, ?_⟩
  have : cutS (S z) lo hi = S (cutL z lo hi) := by
    unfold cutS cutL
    rw [S_tl, S_len]
  rw [this]
  exact back_d f k (.str _) q
theorem cutV_rep {G : Hp} {xs : List V} {ds : List D} {lo hi : Option Int} (r : Reps K G xs ds) : Reps K G (cutV xs lo hi) (cutL ds lo hi) := by
  unfold cutV cutL
  rw [r.len]
  exact (r.drop _).take _
theorem sld_lst {ds : List D} {lo hi : Option Int} (q : post (.n (.lst (cutL ds lo hi)))) : SlD K (rSlP K) (.lst ds) lo hi post := by
  intro G F H v f rx Q k
  obtain ⟨p, xs, rfl, h1, h2⟩ := rx
  exact .inr (.inl ⟨p, xs, rfl, h1, fun l hl => back_n f k hl (cutV_rep h2) q⟩)
theorem sld_tup {ds : List D} {lo hi : Option Int} (q : post (.d (.tup (cutL ds lo hi)))) : SlD K (rSlP K) (.tup ds) lo hi post := by
  intro G F H v f rx Q k
  cases rx with
  | tup h1 h2 =>
    refine .inr (.inr ⟨_, _, rfl, sqt_mono f.g h1, fun e => ?_, fun _ l hl => back_t f k hl (cutV_rep h2) q⟩)
    have : cutL ds lo hi = ds := by
      unfold cutL
      rw [← h2.len, e.1, e.2]
      rw [h2.len]; simp
    rw [this] at q
    exact back_d f k (.tup h1 h2) q
/-! ### calls of built-ins -/
def lenD : D → Option Nat
  | .str s => some s.length | .lst ds => some ds.length | .tup ds => some ds.length | _ => none
theorem cd_len {r : List V → Hp → VK → Prop} (hr : r = fun xs H Q => ∃ x n, xs = [x] ∧ LenV K x H n ∧ Q (.int n) H) {x : D} {n : Nat} (hn : lenD x = some n) (hz : ∀ s, x = .str s → s.length ≤ sizeLine) (q : post (.d (.int n))) : CD K r [x] post := by
  subst hr
  intro G F H vs f rx Q k
  cases rx with
  | cons rx r2 =>
    cases r2
    refine ⟨_, n, rfl, ?_, back_d f k (.int _) q⟩
    cases x with
    | str s => cases rx; cases hn; exact ⟨by rw [S_len]; exact hz s rfl, by rw [S_len]⟩
    | lst ds => obtain ⟨p, xs, rfl, h1, h2⟩ := rx; cases hn; exact .inl ⟨xs, h1, h2.len.symm⟩
    | tup ds => cases rx with | tup h1 h2 => cases hn; exact .inr ⟨_, sqt_mono f.g h1, h2.len.symm⟩
    | _ => cases hn
theorem cd_int2 {r : List V → Hp → VK → Prop} {g : Int → Int → Int} (hr : r = fun xs H Q => ∃ i j, xs = [.int i, .int j] ∧ Q (.int (g i j)) H) {i j : Int} (q : post (.d (.int (g i j)))) : CD K r [.int i, .int j] post := by
  subst hr
  intro G F H vs f rx Q k
  cases rx with
  | cons r1 r2 =>
    cases r2 with
    | cons r3 r4 => cases r4; cases r1; cases r3; exact ⟨i, j, rfl, back_d f k (.int _) q⟩
theorem cd_list_seq {r : List V → Hp → VK → Prop} (hr : r = fun xs H Q => ∃ p ys, xs = [.ref p] ∧ (SqL K H p ys ∨ SqT K H p ys) ∧ ∀ l, H l = none → Q (.ref l) (upd H l (.lst ys))) {x : D} {ds : List D} (hx : x = .lst ds ∨ x = .tup ds) (q : post (.n (.lst ds))) : CD K r [x] post := by
  subst hr
  intro G F H vs f rx Q k
  cases rx with
  | cons rx r2 =>
    cases r2
    rcases hx with rfl | rfl
    · obtain ⟨p, xs, rfl, h1, h2⟩ := rx
      exact ⟨p, xs, rfl, .inl h1, fun l hl => back_n f k hl h2 q⟩
    · cases rx with | tup h1 h2 => exact ⟨_, _, rfl, .inr (sqt_mono f.g h1), fun l hl => back_n f k hl h2 q⟩
theorem cd_tuple_seq {r : List V → Hp → VK → Prop} (hr : r = fun xs H Q => ∃ p ys, xs = [.ref p] ∧ ((SqL K H p ys ∧ ∀ l, H l = none → Q (.ref l) (upd H l (.tup ys))) ∨ (SqT K H p ys ∧ Q (.ref p) H))) {x : D} {ds : List D} (hx : x = .lst ds ∨ x = .tup ds) (q : post (.d (.tup ds))) : CD K r [x] post := by
  subst hr
  intro G F H vs f rx Q k
  cases rx with
  | cons rx r2 =>
    cases r2
    rcases hx with rfl | rfl
    · obtain ⟨p, xs, rfl, h1, h2⟩ := rx
      exact ⟨p, xs, rfl, .inl ⟨h1, fun l hl => back_t f k hl h2 q⟩⟩
    · cases rx with | tup h1 h2 => exact ⟨_, _, rfl, .inr ⟨sqt_mono f.g h1, back_d f k (.tup h1 h2) q⟩⟩
theorem reps_bls {G : Hp} : ∀ {bs : List Bool} {vs : List V}, Reps K G vs (bs.map D.bl) → vs = bs.map V.bl
  | [], _, h => by cases h; rfl
  | b :: bs, _, h => by cases h with | cons h1 h2 => cases h1; rw [reps_bls h2]; rfl
theorem reps_ints {G : Hp} : ∀ {bs : List Int} {vs : List V}, Reps K G vs (bs.map D.int) → vs = bs.map V.int
  | [], _, h => by cases h; rfl
  | b :: bs, _, h => by cases h with | cons h1 h2 => cases h1; rw [reps_ints h2]; rfl
theorem reps_strs {G : Hp} : ∀ {bs : List (List Nat)} {vs : List V}, Reps K G vs (bs.map D.str) → vs = (bs.map S).map V.str
  | [], _, h => by cases h; rfl
  | b :: bs, _, h => by cases h with | cons h1 h2 => cases h1; rw [reps_strs h2]; rfl
theorem cd_any {bs : List Bool} (q : post (.d (.bl (bs.any id)))) : CD K (rAny K) [.lst (bs.map .bl)] post := by
  intro G F H vs f rx Q k
  cases rx with
  | cons rx r2 =>
    cases r2
    obtain ⟨p, xs, rfl, h1, h2⟩ := rx
    rw [reps_bls h2] at h1
    exact ⟨p, bs, rfl, h1, back_d f k (.bl _) q⟩
theorem cd_all {bs : List Bool} (q : post (.d (.bl (bs.all id)))) : CD K (rAll K) [.lst (bs.map .bl)] post := by
  intro G F H vs f rx Q k
  cases rx with
  | cons rx r2 =>
    cases r2
    obtain ⟨p, xs, rfl, h1, h2⟩ := rx
    rw [reps_bls h2] at h1
    exact ⟨p, bs, rfl, h1, back_d f k (.bl _) q⟩
theorem cd_sum {ns : List Int} (q : post (.d (.int ns.sum))) : CD K (rSum K) [.lst (ns.map .int)] post := by
  intro G F H vs f rx Q k
  cases rx with
  | cons rx r2 =>
    cases r2
    obtain ⟨p, xs, rfl, h1, h2⟩ := rx
    rw [reps_ints h2] at h1
    exact ⟨p, ns, rfl, h1, back_d f k (.int _) q⟩
/-! ### isinstance of data -/
def kindD : D → Option String
  | .non => some "NoneType" | .bl _ => some "bool" | .int _ => some "int" | .str _ => some "str" | .lst _ => some "list" | .tup _ => some "tuple" | .dct _ => some "dict" | _ => none
theorem tyX_of {G H : Hp} {v : V} {x : D} {t : String} (g : Same G H) (h : RepT K G H v x) (e : kindD x = some t) : TyX K H v (.type t) := by
  have lst : ∀ {a : Addr} {xs : List V}, SqL K H a xs → TyX K H (.ref a) (.type "list") := fun h => by
    rcases h with (h | ⟨o, h⟩) | ⟨o, its, n, h1, h2, _⟩
    · exact .base (.lst h)
    · exact .base (.frz h)
    · exact .kList h1 h2
  have tup : ∀ {a : Addr} {xs : List V}, SqT K H a xs → TyX K H (.ref a) (.type "tuple") := fun h => by
    rcases h with (h | ⟨o, h⟩) | ⟨o, its, n, h1, h2, _⟩
    · exact .base (.tup h)
    · exact .fTuple h
    · exact .kTuple h1 h2
  cases x with
  | non => cases h; cases e; exact .base .non
  | bl b => cases h; cases e; exact .base (.bl _)
  | int b => cases h; cases e; exact .base (.int _)
  | str b => cases h; cases e; exact .base (.str _)
  | lst ds => obtain ⟨a, xs, rfl, h1, h2⟩ := h; cases e; exact lst h1
  | tup ds => cases h with | tup h1 h2 => cases e; exact tup (sqt_mono g h1)
  | dct ds => obtain ⟨a, xs, rfl, h1, h2⟩ := h; cases e; exact .base (.dK h1)
  | _ => cases e
theorem cd_isi {x : D} {t n : String} {b : Bool} (hx : kindD x = some t) (hb : kitB t n = some b) (q : post (.d (.bl b))) : CD K (rIsi K) [x, .ty n] post := by
  intro G F H vs f rx Q k
  cases rx with
  | cons rx r2 =>
    cases r2 with
    | cons r3 r4 =>
      cases r4
      cases r3
      exact ⟨_, _, _, _, b, rfl, .ty n, tyX_of f.g rx hx, kit_ty hb, back_d f k (.bl _) q⟩
/-! ### methods of texts -/
theorem md_0 {C : Str → Prop} {g : Str → V} {r : V → List V → Hp → VK → Prop} (hr : r = fun x xs H Q => ∃ a, x = .str a ∧ xs = [] ∧ C a ∧ Q (g a) H) {z : List Nat} {y : D} (hc : C (S z)) (hg : ∀ G, Rep K G (g (S z)) y) (q : post (.d y)) : MD K r (.str z) [] post := by
  subst hr
  intro G F H v vs f rx rs Q k
  cases rx; cases rs
  exact ⟨S z, rfl, rfl, hc, back_d f k (hg G) q⟩
theorem md_1 {g : Str → Str → V} {r : V → List V → Hp → VK → Prop} (hr : r = fun x xs H Q => ∃ a b, x = .str a ∧ xs = [.str b] ∧ Q (g a b) H) {z w : List Nat} {y : D} (hg : ∀ G, Rep K G (g (S z) (S w)) y) (q : post (.d y)) : MD K r (.str z) [.str w] post := by
  subst hr
  intro G F H v vs f rx rs Q k
  cases rx
  cases rs with
  | cons r1 r2 => cases r2; cases r1; exact ⟨S z, S w, rfl, rfl, back_d f k (hg G) q⟩
theorem txt_join (a : List Nat) (ys : List (List Nat)) : Txt.join (S a) (ys.map S) = S (TL.joinL a ys) := by
  rw [TL.join_eq]
  have h := TL.tl_join (S a) (ys.map S)
  have e : (ys.map S).map TL.tl = ys := by
    rw [List.map_map]
    have : (TL.tl ∘ S) = id := by funext l; exact S_tl l
    rw [this, List.map_id]
  rw [e, show TL.tl (S a) = a from S_tl a] at h
  rw [← S_of (Str.join (S a) (ys.map S))]
  exact congrArg S h
theorem joinL_nil (ys : List (List Nat)) : TL.joinL [] ys = ys.flatten := by
  induction ys with
  | nil => rfl
  | cons y ys ih =>
    cases ys with
    | nil => simp [TL.joinL]
    | cons z r => rw [TL.joinL, ih]; simp
def rJoin (K : PySem.W.Frag) : V → List V → Hp → VK → Prop := fun x xs H Q => ∃ a p, ∃ ys : List Str, x = .str a ∧ xs = [.ref p] ∧ (SqL K H p (ys.map V.str) ∨ SqT K H p (ys.map V.str)) ∧ (ys.map (·.length)).sum + ys.length * a.length ≤ 16777216 ∧ Q (.str (Txt.join a ys)) H
theorem md_join {a : List Nat} {ys : List (List Nat)} (hz : (ys.map (·.length)).sum + ys.length * a.length ≤ 16777216) (q : post (.d (.str (TL.joinL a ys)))) : MD K (rJoin K) (.str a) [.lst (ys.map .str)] post := by
  intro G F H v vs f rx rs Q k
  cases rx
  cases rs with
  | cons r1 r2 =>
    cases r2
    obtain ⟨p, xs, rfl, h1, h2⟩ := r1
    rw [reps_strs h2] at h1
    refine ⟨S a, p, ys.map S, rfl, rfl, .inl h1, ?_, ?_⟩
    · rw [List.map_map, List.length_map, S_len]
      have : ((fun x : Str => x.length) ∘ S) = List.length := by funext l; exact S_len l
      rw [this]; exact hz
    · rw [txt_join]
      exact back_d f k (.str _) q
end
end DL
namespace DL
open PySem L2 PyProof.Rows
variable [HasT]
/-! ### zip of two texts -/
def Zi2 (x y : Str) : It :=
  ⟨fun k _ => k < x.cps.size ∧ k < y.cps.size,
   fun k H v H' => ∃ T c d, v = .ref T ∧ H T = none ∧ H' = upd H T (.tup [.str ⟨#[c]⟩, .str ⟨#[d]⟩]) ∧ x.cps[k]? = some c ∧ y.cps[k]? = some d,
   fun k _ => k ≤ x.cps.size ∧ k ≤ y.cps.size ∧ (k = x.cps.size ∨ k = y.cps.size)⟩
/-- the five records of the walk -/
def ZiAt (x y : Str) (t u : Tok) (z TI TO p q : Addr) (k : Nat) (h : Heap) : Prop :=
  IsZip h z TI TO .none ∧ IsTupOf2 h TI (.ref p) (.ref q) ∧ (∃ a b, IsTupOf2 h TO a b) ∧ h.IsStrIter p (strIterType x) x t k ∧ h.IsStrIter q (strIterType y) y u k
theorem zi_turn {P : Program} {w : World} {K : PySem.W.Frag} {elts : List Expr} {kk : Nat} {tpos : Pos} {x y : Str} {t u : Tok} {z TI TO p q : Addr} (Z : ZipSep2 z TI TO p q [p] [q]) :
    Turn P w K (.Tuple elts kk tpos) (Zi2 x y) [z, TI, TO, p, q] z (ZiAt x y t u z TI TO p q) where
  mem := List.mem_cons_self
  obj := fun k h st c hc => by
    obtain ⟨a1, a2, ⟨_, _, a3⟩, ⟨o4, a4, _, d4⟩, ⟨o5, a5, _, d5⟩⟩ := st
    simp only [List.mem_cons, List.not_mem_nil, or_false] at hc
    rcases hc with rfl | rfl | rfl | rfl | rfl
    · exact ⟨_, a1, fun v e => nomatch e⟩
    · exact ⟨_, a2, fun v e => nomatch e⟩
    · exact ⟨_, a3, fun v e => nomatch e⟩
    · exact ⟨o4, a4, fun v e => by rw [d4] at e; cases e⟩
    · exact ⟨o5, a5, fun v e => by rw [d5] at e; cases e⟩
  keep := fun k h h' st kp => by
    obtain ⟨a1, a2, ⟨a, b, a3⟩, ⟨o4, a4, r4⟩, ⟨o5, a5, r5⟩⟩ := st
    have five : ∀ c, c ∈ [z, TI, TO, p, q] → ∀ o, h.get? c = some o → h'.get? c = some o := kp
    exact ⟨five z (by simp) _ a1, five TI (by simp) _ a2, ⟨a, b, five TO (by simp) _ a3⟩, ⟨o4, five p (by simp) _ a4, r4⟩, ⟨o5, five q (by simp) _ a5, r5⟩⟩
  item := by
    intro X eP ew eK hc k pins s σ H E I hf st hg
    subst eP ew eK
    obtain ⟨a1, a2, ⟨a, b, a3⟩, a4, a5⟩ := st
    have lz : z < s.heap.objs.size := Heap.lt_size a1
    have old : ∀ c ∈ [z, TI, TO, p, q], c < s.heap.objs.size := fun c hcm => by
      simp only [List.mem_cons, List.not_mem_nil, or_false] at hcm
      rcases hcm with rfl | rfl | rfl | rfl | rfl
      · exact lz
      · exact Heap.lt_size a2
      · exact Heap.lt_size a3
      · obtain ⟨_, e, _⟩ := a4; exact Heap.lt_size e
      · obtain ⟨_, e, _⟩ := a5; exact Heap.lt_size e
    have D1 := Draws.text (prog := X.prog) (w := X.w) (A := X.A.in1) (I.ok.hd hc) p x t
    have D2 := Draws.text (prog := X.prog) (w := X.w) (A := X.A.in1) (I.ok.hd hc) q y u
    refine wpAny_pyNext_zipD2_item Z D1 D2 a1 a2 a3 a4 a5 hg.1 hg.2 fun v1 v2 h' tk y1 y2 b1 b2 b3 b4 b5 b6 b7 => ?_
    obtain ⟨c, tc, hcx, rfl⟩ := y1
    obtain ⟨d, td, hdy, rfl⟩ := y2
    refine ⟨_, rfl, wpAny_letOwnedTupleGo_zip (s := { s with heap := h', toks := tk }) b1 fun g g1 sb => ?_⟩
    have up : ∀ e o, e ≠ z → h'.get? e = some o → g.get? e = some o := fun e o ne q => (sb.2 e ne).trans q
    have tup : g.get? s.heap.objs.size = some { cls := .type "tuple", data := .seq #[.str ⟨#[c]⟩ tc, .str ⟨#[d]⟩ td] } := up _ _ (Nat.ne_of_gt lz) b5
    have ok : ObjOk X.prog X.w (upd H s.heap.objs.size (.tup [.str ⟨#[c]⟩, .str ⟨#[d]⟩])) g s.heap.objs.size (.tup [.str ⟨#[c]⟩, .str ⟨#[d]⟩]) :=
      ⟨(by decide : 2 ≤ sizeLine), [.str ⟨#[c]⟩ tc, .str ⟨#[d]⟩ td], .cons ⟨tc, rfl⟩ (.cons ⟨td, rfl⟩ .nil), ⟨_, tup, rfl, _, rfl⟩⟩
    have I' : Inv X pins σ (upd H s.heap.objs.size (.tup [.str ⟨#[c]⟩, .str ⟨#[d]⟩])) { s with heap := g, toks := tk } := by
      refine I.turnedNew (t' := tk) (ch := [z, TI, TO, p, q]) (fun e o hb q' => ?_) hf (Nat.le_refl _) ok
      simp only [List.mem_cons, List.not_mem_nil, or_false, not_or] at hb
      exact up e o hb.1 (b7 e o hb.1 hb.2.2.1 hb.2.2.2.1 hb.2.2.2.2 q')
    refine ⟨.ref s.heap.objs.size, _, I', rfl, ⟨_, c, d, rfl, I.hok.fresh (Nat.le_refl _), rfl, hcx, hdy⟩, ⟨g1, ?_, ⟨_, _, up _ _ Z.TOz b2⟩, ?_, ?_⟩, fun e he => ?_⟩
    · exact up _ _ Z.TIz (b7 TI _ Z.TIz Z.TITO Z.TIi1 Z.TIi2 a2)
    · obtain ⟨o, e1, e2⟩ := b3; exact ⟨o, up p o (Z.zi1).symm e1, e2⟩
    · obtain ⟨o, e1, e2⟩ := b4; exact ⟨o, up q o (Z.zi2).symm e1, e2⟩
    · rw [upd_ne (Nat.ne_of_lt (old e he))]
      exact (hf e he).1
  done := by
    intro X eP ew eK hc k pins s σ H E I hf st hg
    subst eP ew eK
    obtain ⟨a1, a2, ⟨a, b, a3⟩, a4, a5⟩ := st
    have D1 := Draws.text (prog := X.prog) (w := X.w) (A := X.A.in1) (I.ok.hd hc) p x t
    have D2 := Draws.text (prog := X.prog) (w := X.w) (A := X.A.in1) (I.ok.hd hc) q y u
    refine wpAny_pyNext_zipD2_end Z D1 D2 a1 a2 a3 a4 a5 hg.1 hg.2.1 hg.2.2 fun h' tk kp => ⟨rfl, ?_⟩
    refine I.turnedL (t' := tk) (ch := [z, TI, TO, p, q]) (fun e o hb q' => ?_) hf
    simp only [List.mem_cons, List.not_mem_nil, or_false, not_or] at hb
    exact kp e o hb.1 hb.2.2.1 hb.2.2.2.1 hb.2.2.2.2 q'
  self := fun A k s Q E st h => wpAny_pyIter_zip st.1 h
def iZip2 (ta : TA) : TI := fun σ H R => ta σ H fun vs H1 => ∃ x y : Str, vs = [.str x, .str y] ∧ R (Zi2 x y) H1
theorem pi_zip2 {X : Cx} {e e2 : Expr} {ta : TA} {p pos tpos : Pos} {elts : List Expr} {kk : Nat} (hg : Gl X "zip") (hm : X.mg "zip" = none) (ha : PA X [e, e2] ta)
    (hs : starEach [e, e2] X.env = (false, eval e X.env) :: starEach [e2] X.env := by rfl) (hpl : (backTo pos (starEach [e2] X.env)).any (·.1) = false := by rfl) :
    PI X (.Tuple elts kk tpos) (.Call (.Name "zip" p) [e, e2] [] pos) (iZip2 ta) := by
  refine ⟨fun pins s σ H R I h => Call_ (ld_blt I hg hm boot_zip (callWith_type1 (thn (ha.run pos pins s σ H _ I h) fun us s1 hh => ?_) hs hpl))⟩
  obtain ⟨vs, H1, I1, r1, x, y, ex, q⟩ := hh
  subst ex
  obtain ⟨u1, u2, rfl, ⟨t, rfl⟩, ⟨u, rfl⟩⟩ := Vals.two r1
  refine zip_begins2 (begins_text x t) (begins_text y u) trivial trivial fun h' a1 a2 a3 a4 a5 a6 kp => wpAny_pyIter_zip a1 ?_
  have n : s1.heap.objs.size = s1.heap.objs.size := rfl
  refine ⟨_, [s1.heap.objs.size + 4, s1.heap.objs.size + 2, s1.heap.objs.size + 3, s1.heap.objs.size, s1.heap.objs.size + 1], _, Zi2 x y, H1, rfl, I1.kept (t' := s1.toks) kp, zi_turn (t := t) (u := u) ?_, ⟨a1, a2, ⟨_, _, a3⟩, ⟨_, a4, rfl, rfl⟩, ⟨_, a5, rfl, rfl⟩⟩, fun c hc => ?_, q⟩
  · constructor <;> simp <;> omega
  · have le : s1.heap.objs.size ≤ c := by
      simp only [List.mem_cons, List.not_mem_nil, or_false] at hc
      rcases hc with rfl | rfl | rfl | rfl | rfl
      · exact Nat.le_add_right _ _
      · exact Nat.le_add_right _ _
      · exact Nat.le_add_right _ _
      · exact Nat.le_refl _
      · exact Nat.le_add_right _ _
    exact I1.fpOk le (I1.hok.fresh le)
/-- the items: pairs of signs -/
theorem walks_zip2 {K : PySem.W.Frag} {G : Hp} {l m : List Nat} : Walks K G (Zi2 (S l) (S m)) (List.zipWith (fun c d => D.tup [.str [c], .str [d]]) l m) := by
  intro G2 F2 H2 e f i
  refine ⟨fun hi => ?_, fun hi => ?_, fun x H' hy z hz => ?_⟩
  · rw [List.length_zipWith] at hi
    show i < (S l).cps.size ∧ i < (S m).cps.size
    simp only [S, List.size_toArray]
    omega
  · rw [List.length_zipWith] at hi
    show i ≤ (S l).cps.size ∧ i ≤ (S m).cps.size ∧ (i = (S l).cps.size ∨ i = (S m).cps.size)
    simp only [S, List.size_toArray]
    omega
  · obtain ⟨T, c, d, rfl, hT, rfl, hc, hd⟩ := hy
    have hc : l[i]? = some c := by simpa using hc
    have hd : m[i]? = some d := by simpa using hd
    rw [List.getElem?_zipWith, hc, hd] at hz
    have ez := Option.some.inj hz
    subst ez
    have g : Same G2 (upd G2 T (.tup [.str ⟨#[c]⟩, .str ⟨#[d]⟩])) := same_new (none_of_same f.g hT)
    exact ⟨_, g, f.newG hT, .tup (.inl (.inl upd_same)) (.cons (.str [c]) (.cons (.str [d]) .nil)), same_new hT⟩
theorem ei_zip2 {K : PySem.W.Frag} {ρ : List Sl} {ta : TA} {post : List D → List Sl → Prop} (h : EA K ρ ta fun as ρ1 => ∃ l m, as = [.d (.str l), .d (.str m)] ∧ post (List.zipWith (fun c d => D.tup [.str [c], .str [d]]) l m) ρ1) : EI K ρ (iZip2 ta) post := by
  intro G F H σ f e R k
  refine h G F H σ f e _ fun vs as ρ1 G1 F1 H1 s1 sh1 e1 o1 ⟨l, m, ea, q⟩ => ?_
  subst ea
  cases o1 with
  | cons r1 r2 =>
    cases r2 with
    | cons r3 r4 =>
      cases r4
      cases r1
      cases r3
      exact ⟨S l, S m, rfl, k _ _ ρ1 G1 F1 H1 s1 sh1 e1 walks_zip2 q⟩
end DL
namespace DL
open PySem L2 PyProof.Rows
variable [HasT]
/-! ### signs of ASCII -/
def lowC (c : Nat) : Nat := if 65 ≤ c ∧ c ≤ 90 then c + 32 else c
def uppC (c : Nat) : Nat := if 97 ≤ c ∧ c ≤ 122 then c - 32 else c
def flipC (c : Nat) : Nat := if 65 ≤ c ∧ c ≤ 90 then c + 32 else if 97 ≤ c ∧ c ≤ 122 then c - 32 else c
def islC (c : Nat) : Bool := decide (97 ≤ c ∧ c ≤ 122)
def isuC (c : Nat) : Bool := decide (65 ≤ c ∧ c ≤ 90)
theorem ascii_low : ∀ c : Nat, c < 128 → Unicode.lowerOf c = [lowC c] := by
  have h : (List.range 128).all (fun c => Unicode.lowerOf c == [lowC c]) = true := by decide +kernel
  intro c hc
  exact eq_of_beq (List.all_eq_true.mp h c (List.mem_range.mpr hc))
theorem ascii_upp : ∀ c : Nat, c < 128 → Unicode.upperOf c = [uppC c] := by
  have h : (List.range 128).all (fun c => Unicode.upperOf c == [uppC c]) = true := by decide +kernel
  intro c hc
  exact eq_of_beq (List.all_eq_true.mp h c (List.mem_range.mpr hc))
theorem ascii_isl : ∀ c : Nat, c < 128 → Unicode.isLower c = islC c := by
  have h : (List.range 128).all (fun c => Unicode.isLower c == islC c) = true := by decide +kernel
  intro c hc
  exact eq_of_beq (List.all_eq_true.mp h c (List.mem_range.mpr hc))
theorem ascii_isu : ∀ c : Nat, c < 128 → Unicode.isUpper c = isuC c := by
  have h : (List.range 128).all (fun c => Unicode.isUpper c == isuC c) = true := by decide +kernel
  intro c hc
  exact eq_of_beq (List.all_eq_true.mp h c (List.mem_range.mpr hc))
theorem ascii_ist : ∀ c : Nat, c < 128 → Unicode.isTitle c = false := by
  have h : (List.range 128).all (fun c => Unicode.isTitle c == false) = true := by decide +kernel
  intro c hc
  exact eq_of_beq (List.all_eq_true.mp h c (List.mem_range.mpr hc))
theorem flat_one (g : Nat → Nat) : ∀ l : List Nat, (l.map fun c => [g c]).flatten = l.map g
  | [] => rfl
  | c :: l => by rw [List.map_cons, List.flatten_cons, flat_one g l]; rfl
theorem placed_map {l : List Nat} {f : Nat → Nat → List Nat} {g : Nat → Nat} (h : ∀ (i c : Nat), l[i]? = some c → f i c = [g c]) : (⟨placed (S l) f⟩ : Str) = S (l.map g) := by
  show (⟨(l.toArray.mapIdx fun i c => (f i c).toArray).flatten⟩ : Str) = ⟨(l.map g).toArray⟩
  congr 1
  apply Array.toList_inj.mp
  rw [Array.toList_flatten]
  simp only [Array.toList_mapIdx]
  have : List.mapIdx (fun i c => (f i c).toArray) l = l.map fun c => #[g c] := by
    apply List.ext_getElem?
    intro i
    rw [List.getElem?_mapIdx, List.getElem?_map]
    cases e : l[i]? with
    | none => rfl
    | some c => simp [h i c e]
  rw [this, List.map_map]
  exact flat_one g l
def ascii (l : List Nat) : Prop := ∀ c ∈ l, c < 128
theorem lowerAt_ascii {l : List Nat} {i c : Nat} (hl : ascii l) (h : l[i]? = some c) : Unicode.lowerAt (S l).cps i = [lowC c] := by
  have hc : c < 128 := hl c (List.mem_of_getElem? h)
  unfold Unicode.lowerAt
  have : (S l).cps[i]? = some c := by simpa using h
  rw [this]
  show (if (c == 0x3A3 && Unicode.endsWord (S l).cps i) = true then [0x3C2] else Unicode.lowerOf c) = _
  have e : (c == 0x3A3) = false := beq_eq_false_iff_ne.mpr (by omega)
  rw [e, Bool.false_and, if_neg Bool.false_ne_true, ascii_low c hc]
theorem txt_lower {l : List Nat} (h : ascii l) : Txt.lower (S l) = S (l.map lowC) := placed_map (l := l) fun i c e => lowerAt_ascii h e
theorem txt_upper {l : List Nat} (h : ascii l) : Txt.upper (S l) = S (l.map uppC) := placed_map (l := l) fun i c e => ascii_upp c (h c (List.mem_of_getElem? e))
theorem txt_swapcase {l : List Nat} (h : ascii l) : Txt.swapcase (S l) = S (l.map flipC) := placed_map (l := l) fun i c e => by
  have hc : c < 128 := h c (List.mem_of_getElem? e)
  rw [ascii_isu c hc, ascii_isl c hc, lowerAt_ascii h e, ascii_upp c hc]
  unfold isuC islC flipC lowC uppC
  by_cases h1 : 65 ≤ c ∧ c ≤ 90
  · simp [h1]
  · simp only [h1, decide_false, Bool.false_eq_true, if_false]
    by_cases h2 : 97 ≤ c ∧ c ≤ 122 <;> simp [h2]
theorem any_eq_of {p q : Nat → Bool} {l : List Nat} (h : ∀ c ∈ l, p c = q c) : l.any p = l.any q := by
  induction l with
  | nil => rfl
  | cons c l ih => rw [List.any_cons, List.any_cons, h c List.mem_cons_self, ih fun d hd => h d (List.mem_cons_of_mem _ hd)]
theorem txt_islower {l : List Nat} (h : ascii l) : Txt.islower (S l) = (l.any islC && !l.any isuC) := by
  show (l.toArray.any Unicode.isLower && !l.toArray.any fun c => Unicode.isUpper c || Unicode.isTitle c) = _
  rw [List.any_toArray, List.any_toArray]
  have e1 : l.any Unicode.isLower = l.any islC := any_eq_of fun c hc => ascii_isl c (h c hc)
  have e2 : (l.any fun c => Unicode.isUpper c || Unicode.isTitle c) = l.any isuC := any_eq_of fun c hc => by rw [ascii_isu c (h c hc), ascii_ist c (h c hc), Bool.or_false]
  rw [e1, e2]
/-! ### e[::-1] -/
def rRevP (K : PySem.W.Frag) : V → Hp → VK → Prop := fun x H Q => (∃ l, x = .str (S l) ∧ l.length ≤ sizeLine ∧ Q (.str (S l.reverse)) H) ∨ ∃ a xs, x = .ref a ∧ SqL K H a xs ∧ ∀ p, H p = none → Q (.ref p) (upd H p (.lst xs.reverse))
/-- the slice [::-1] of a value, the slice object at sl -/
def RvR (X : Cx) (r : V → Hp → VK → Prop) : Prop :=
  ∀ (pins : List (Addr × Obj)) (s : Shared) (σ : L2.St) (H : Hp) (x : V) (v : Value) (sl : Addr) (t : Tok) (Q : VK), Inv X pins σ H s → RelV x v → s.heap.IsSliceOf sl .none .none (.int (-1) t) → r x H Q →
    ∃ T id, typeLookup (.type T) "__getitem__" = pure (some (.builtin id)) ∧ s.TypeIs v T ∧ wpAny (model X.prog X.w) X.A (getItem v (.ref sl)) (L2.EP X pins σ Q) X.xe s
theorem rv_P {X : Cx} : RvR X (rRevP X.K) := by
  intro pins s σ H x v sl t Q I rx hs h
  rcases h with ⟨l, rfl, hz, q⟩ | ⟨a, xs, rfl, hx, q⟩
  · obtain ⟨t', rfl⟩ := rx
    refine ⟨"str", _, F.slot_str_getitem.lookup, typeIs_str _ _ _, ?_⟩
    obtain ⟨o, h1, h2, h3⟩ := hs
    refine wpAny_getItem_str_slice (l := none) (u := none) (st := some (-1, t)) ⟨o, h1, h2, h3⟩ rfl ?_
    have e : Txt.sliceBy (S l) none none (-1, t) = S l.reverse := by
      rw [← S_of (Txt.sliceBy (S l) none none (-1, t)), step_rev_list]
      congr 2
      rw [S_len]
      apply List.ext_getElem
      · simp
      · intro i h1 h2
        have hi : i < l.length := by simpa using h2
        simp [Array.getD, show l.length - 1 - i < l.length by omega]
    have e2 : sliceMade (S l) t' none none (some (-1, t)) = .str (Txt.sliceBy (S l) none none (-1, t)) := by
      unfold sliceMade Txt.sliceBy
      rw [if_neg (by show ¬ (((-1 : Int) == 1) && _) = true; simp)]
      show Made.str _ = Made.str _
      congr 1
    rw [e2, e]
    exact ⟨by rw [S_len, List.length_reverse]; exact hz, .str _, H, I.tok _, ⟨_, rfl⟩, q⟩
  · cases rx
    obtain ⟨its, r, ht, hz⟩ := I.list hx
    refine ⟨"list", _, slot_list_getitem.lookup, ht.isList.typeIs, ?_⟩
    refine wpAny_getItem_list_slice ht.isList hs .none .none (.int (-1) t) (by decide) ?_ (by rw [List.size_toArray, ← r.length]; exact hz)
    rw [PySem.W.krv_pick]
    exact ⟨.ref _, _, I.laid (t' := s.toks) (o := .lst xs.reverse) (fun b ob q => Heap.get?_push_of_some _ q) (Nat.le_refl _) ⟨by rw [List.length_reverse]; exact hz, its.reverse, 0, r.reverse, Heap.get?_push_size _ rfl⟩, rfl, q _ (I.hok.fresh (Nat.le_refl _))⟩
theorem pe_rev {X : Cx} {e : Expr} {te : TE} {k : Nat} {r : V → Hp → VK → Prop} {p1 p2 p3 pos : Pos} (hr : RvR X r) (he : PE X e te) : PE X (.Subscript e (.Slice none none (some (.UnaryOp .USub (.Constant (.int 1) k p1) p2)) p3) pos) (tUn r te) := by
  refine ⟨fun pins s σ H Q I h => Subscript_ (thn (he.run pins s σ H _ I h) fun v s1 ⟨x, H1, I1, r1, q1⟩ => ?_)⟩
  have part : PO X (some (.UnaryOp .USub (.Constant (.int 1) k p1) p2)) (tPart (tUn (rU fun i => .int (-i)) (tC (.int 1)))) := po_some (pe_un un_neg pe_int)
  refine wpAny_Slice ?_
  rw [evalPart_none]
  refine wpAny_pure (wpAny_pure ?_)
  refine thn (part.run pins s1 σ H1 (fun o H2 => o = some (-1) ∧ H2 = H1) I1 ⟨1, rfl, -1, rfl, rfl, rfl⟩) fun vs s4 ⟨o, H4, I4, ps, eo, e4⟩ => ?_
  subst eo e4
  cases ps with
  | int i t =>
    have I5 : Inv X pins σ H4 { s4 with heap := s4.heap.push { cls := .type "slice", data := .fields #[.none, .none, .int (-1) t] } } := I4.kept (t' := s4.toks) fun b ob q => Heap.get?_push_of_some _ q
    obtain ⟨T, id, h1, h2, h3⟩ := hr pins _ σ H4 x v s4.heap.objs.size t Q I5 r1 (Heap.IsSliceOf.new ..) q1
    exact tail_any (ops := [v, .ref s4.heap.objs.size]) h2 h1 h3 (by with_unfolding_all rfl)
section
variable {K : PySem.W.Frag} {post : Rs → Prop}
theorem ud_rev_str {l : List Nat} (hz : l.length ≤ sizeLine) (q : post (.d (.str l.reverse))) : UD K (rRevP K) (.str l) post := by
  intro G F H v f rx Q k
  cases rx
  exact .inl ⟨l, rfl, hz, back_d f k (.str _) q⟩
theorem ud_rev_lst {l : List D} (q : post (.n (.lst l.reverse))) : UD K (rRevP K) (.lst l) post := by
  intro G F H v f rx Q k
  obtain ⟨a, xs, rfl, h1, h2⟩ := rx
  exact .inr ⟨a, xs, rfl, h1, fun p hp => back_n f k hp h2.rev q⟩
/-! ### methods of texts -/
def rLow : V → List V → Hp → VK → Prop := fun x xs H Q => ∃ a, x = .str a ∧ xs = [] ∧ a.length ≤ 5592405 ∧ Q (.str (Txt.lower a)) H
def rUpp : V → List V → Hp → VK → Prop := fun x xs H Q => ∃ a, x = .str a ∧ xs = [] ∧ a.length ≤ 5592405 ∧ Q (.str (Txt.upper a)) H
def rSwp : V → List V → Hp → VK → Prop := fun x xs H Q => ∃ a, x = .str a ∧ xs = [] ∧ a.length ≤ 5592405 ∧ Q (.str (Txt.swapcase a)) H
def rIsl : V → List V → Hp → VK → Prop := fun x xs H Q => ∃ a, x = .str a ∧ xs = [] ∧ True ∧ Q (.bl (Txt.islower a)) H
theorem mt_swap {X : Cx} : MtR X "str.swapcase" rSwp :=
  mt0 (C := fun a => a.length ≤ 5592405) (g := fun a => .str (Txt.swapcase a)) fun a _ s _ hc h => PySem.SC.swapcase (fit_swapcase hc) (h _ (s.toks + 1) ⟨_, rfl⟩)
theorem md_low {l : List Nat} (ha : ascii l) (hz : l.length ≤ 5592405) (q : post (.d (.str (l.map lowC)))) : MD K rLow (.str l) [] post :=
  md_0 (C := fun a => a.length ≤ 5592405) (g := fun a => .str (Txt.lower a)) rfl (by rw [S_len]; exact hz) (fun _ => by rw [txt_lower ha]; exact .str _) q
theorem md_upp {l : List Nat} (ha : ascii l) (hz : l.length ≤ 5592405) (q : post (.d (.str (l.map uppC)))) : MD K rUpp (.str l) [] post :=
  md_0 (C := fun a => a.length ≤ 5592405) (g := fun a => .str (Txt.upper a)) rfl (by rw [S_len]; exact hz) (fun _ => by rw [txt_upper ha]; exact .str _) q
theorem md_swp {l : List Nat} (ha : ascii l) (hz : l.length ≤ 5592405) (q : post (.d (.str (l.map flipC)))) : MD K rSwp (.str l) [] post :=
  md_0 (C := fun a => a.length ≤ 5592405) (g := fun a => .str (Txt.swapcase a)) rfl (by rw [S_len]; exact hz) (fun _ => by rw [txt_swapcase ha]; exact .str _) q
theorem md_isl {l : List Nat} (ha : ascii l) (q : post (.d (.bl (l.any islC && !l.any isuC)))) : MD K rIsl (.str l) [] post :=
  md_0 (C := fun _ => True) (g := fun a => .bl (Txt.islower a)) rfl trivial (fun _ => by rw [txt_islower ha]; exact .bl _) q
/-! ### truth -/
theorem td_truth {ρ : List Sl} {te : TE} {tt : TT} {post : Bool → List Sl → Prop} (htt : tt = fun σ H Q => te σ H fun x H1 => ∃ k, TruV K x H1 k ∧ Q k H1) (h : ED K ρ te fun a ρ1 => ∃ k, truD (arD ρ1 a) = some k ∧ (∀ s, arD ρ1 a = .str s → s.length ≤ sizeLine) ∧ post k ρ1) : TD K ρ tt post := by
  subst htt
  intro G F H σ f e Q q
  refine h G F H σ f e _ fun v a ρ1 G1 F1 H1 s1 sh1 e1 o1 w1 ⟨k, hk, hz, po⟩ => ?_
  exact ⟨k, truV_of s1.fr.g (o1.top s1.fr e1) hk hz, q k ρ1 G1 F1 H1 s1 sh1 e1 po⟩
end
end DL
namespace DL
open PySem PySem.Spec PyProof.Rows L2
variable [HasT]
/-! ### defs by their names -/
section
variable {P : Program} {w : World} {K : PySem.W.Frag} {mg : Str → Option Value} {base : Heap}
/-- the def x of the text stands -/
def FunAt (K : PySem.W.Frag) (mg : Str → Option Value) (x : Str) (st : Stmt) (ps : List Str) : Prop := ∃ f fd, Fun K x x st f fd ∧ mg x = some (.ref f) ∧ Binds K fd ps []
/-- fd is the function at f -/
def FnAt (K : PySem.W.Frag) (f : Addr) (fd : FuncData) : Prop := ∃ (oc : Value) (od : Option Addr) (osl : Array (Option Value)), K.lookup f = some ⟨oc, od, .func fd, osl⟩
theorem fnAt_of {x y : Str} {st : Stmt} {f : Addr} {fd : FuncData} (F : Fun K x y st f fd) : FnAt K f fd := by
  obtain ⟨⟨oc, od, kV, doc, pm, an, cdv, ct, osl, h1, h2, h3⟩, h4⟩ := F
  exact ⟨oc, od, osl, h2⟩
theorem FnAt.one {f : Addr} {fd fd2 : FuncData} (a : FnAt K f fd) (b : FnAt K f fd2) : fd2 = fd := by
  obtain ⟨oc, od, osl, h⟩ := a
  obtain ⟨oc2, od2, osl2, h2⟩ := b
  rw [h] at h2
  injection h2 with h2
  injection h2 with _ _ h2 _
  injection h2 with h2
  exact h2.symm
/-- .. and keeps its promise -/
def DOk (P : Program) (w : World) (K : PySem.W.Frag) (mg : Str → Option Value) (base : Heap) (x : Str) (k : Nat) (ps : List Str) (sp : Sp) : Prop :=
  ∃ f fd, mg x = some (.ref f) ∧ PySem.W.keepIn K (.ref f) = true ∧ (Binds K fd ps [] ∧ FnAt K f fd) ∧ FnOk P w K mg base CX0 k f fd ps sp
theorem mk_def {x : Str} {st : Stmt} {N ps : List Str} {R : DSp} {k n m : Nat} (F : FunAt K mg x st ps) (Sc : FnScope N ps (defScope st)) (hps : ps.length = n) (hN : N.length = n + m)
    (hbody : ∀ (f : Addr) (cdv : Value) (A : Around) (outer : List PySem.Env) (s : Shared) (H : Hp) (E : XK), Room k (A.deeper (envOfC x (defScope st) s.heap.objs.size f cdv)) →
      ∃ t, PSs (cxOf CX0 P w K mg base N x (defScope st) f cdv A outer s H E).nox (defBody st) t ∧ ∀ ρ post, ρ.length = n → R ρ post → SD K (ρ ++ List.replicate m .no) t { nx := endP n ρ post (.d .non), rt := endP n ρ post }) :
    DOk P w K mg base x (k + 1) ps (spD K n R) := by
  obtain ⟨f, fd, hf, hg, hb⟩ := F
  refine ⟨f, fd, hg, hf.kp, ⟨hb, fnAt_of hf⟩, hf.ok Sc (fun vs H Q E h => (spD_len vs H Q E h).trans hps.symm) fun cdv A outer s H vs Q E hr h => ?_⟩
  obtain ⟨t, ht, q⟩ := hbody f cdv A outer s H E hr
  exact ⟨t, ht, fn_body h hN q⟩
end
section
variable {X : Cx}
theorem pe_callD {x : Str} {k : Nat} {ps : List Str} {sp : Sp} {p pos : Pos} {e : Expr} {es : List Expr} {t : TA} (Dk : DOk X.prog X.w X.K X.mg X.base x k ps sp) (hr : Room k X.A) (ha : PA X (e :: es) t) (hg : Gl X x := by rfl) (hdb : (x == ("__debug__" : Str)) = false := by decide)
    (he : starEach (e :: es) X.env = (false, eval e X.env) :: starEach es X.env := by rfl) (hpl : (backTo pos (starEach es X.env)).any (·.1) = false := by rfl) :
    PE X (.Call (.Name x p) (e :: es) [] pos) (tCall sp [] E0 t) := by
  obtain ⟨f, fd, h1, h2, h3, h4⟩ := Dk
  exact pe_call h4 hr hg h1 h2 h3.1 .nil pass0 ha (hdb := hdb) (he := he) (hpl := hpl)
theorem pe_call0D {x : Str} {k : Nat} {ps : List Str} {sp : Sp} {p pos : Pos} (Dk : DOk X.prog X.w X.K X.mg X.base x k ps sp) (hr : Room k X.A) (hg : Gl X x := by rfl) (hdb : (x == ("__debug__" : Str)) = false := by decide) :
    PE X (.Call (.Name x p) [] [] pos) (tCall sp [] E0 tNil) := by
  obtain ⟨f, fd, h1, h2, h3, h4⟩ := Dk
  exact pe_call0 h4 hr hg h1 h2 h3.1 .nil pass0 (hdb := hdb)
theorem pe_gI {x : Str} {i : Int} {pos : Pos} (h : ∃ t, X.mg x = some (.int i t)) (hg : Gl X x := by rfl) (hd : (x == ("__debug__" : Str)) = false := by decide) : PE X (.Name x pos) (tC (.int i)) := by
  obtain ⟨t, h⟩ := h
  exact pe_glob hg h ⟨t, rfl⟩ hd
theorem pe_gS {x : Str} {z : Str} {pos : Pos} (h : ∃ t, X.mg x = some (.str z t)) (hg : Gl X x := by rfl) (hd : (x == ("__debug__" : Str)) = false := by decide) : PE X (.Name x pos) (tC (.str z)) := by
  obtain ⟨t, h⟩ := h
  exact pe_glob hg h ⟨t, rfl⟩ hd
end
/-! ### named readings -/
def tTru (K : PySem.W.Frag) (te : TE) : TT := fun σ H Q => te σ H fun x H1 => ∃ k, TruV K x H1 k ∧ Q k H1
def rLen (K : PySem.W.Frag) : List V → Hp → VK → Prop := fun xs H Q => ∃ x n, xs = [x] ∧ LenV K x H n ∧ Q (.int n) H
def rMax2 : List V → Hp → VK → Prop := fun xs H Q => ∃ i j, xs = [.int i, .int j] ∧ Q (.int (if j > i then j else i)) H
def rMin2 : List V → Hp → VK → Prop := fun xs H Q => ∃ i j, xs = [.int i, .int j] ∧ Q (.int (if j < i then j else i)) H
def rTupOf (K : PySem.W.Frag) : List V → Hp → VK → Prop := fun xs H Q => ∃ p ys, xs = [.ref p] ∧ ((SqL K H p ys ∧ ∀ l, H l = none → Q (.ref l) (upd H l (.tup ys))) ∨ (SqT K H p ys ∧ Q (.ref p) H))
def rLstOf (K : PySem.W.Frag) : List V → Hp → VK → Prop := fun xs H Q => ∃ p ys, xs = [.ref p] ∧ (SqL K H p ys ∨ SqT K H p ys) ∧ ∀ l, H l = none → Q (.ref l) (upd H l (.lst ys))
def rIsN : R2 := fun x y H Q => y = .non ∧ Q (.bl (decide (x = .non))) H
def rNotN : R2 := fun x y H Q => y = .non ∧ Q (.bl (!decide (x = .non))) H
section
variable {X : Cx}
theorem pt_tru {a : Expr} {ta : TE} (ha : PE X a ta) (he : ∀ whole, isTrue a X.env whole = (do let v ← whole; standAt a.pos; holding [v] (truthy v)) := by intro _; rfl) : PT X a (tTru X.K ta) := pt_truth ha he
theorem c_len : CallR X (.builtin "len") (rLen X.K) := call_len
theorem c_max2 (hc : X.calm = true) : CallR X (.builtin "max") rMax2 := call_max2 hc
theorem c_min2 (hc : X.calm = true) : CallR X (.builtin "min") rMin2 := call_min2 hc
theorem c_tupOf : CallR X (.type "tuple") (rTupOf X.K) := call_tuple_of
theorem c_lstOf : CallR X (.type "list") (rLstOf X.K) := call_list_of
theorem m_join : MtR X "str.join" (rJoin X.K) := mt_join
theorem m_low : MtR X "str.lower" rLow := mt_lower
theorem m_upp : MtR X "str.upper" rUpp := mt_upper
theorem m_isl : MtR X "str.islower" rIsl := mt_islower
theorem o_isN : OpR X (compareOp .Is) rIsN := op_isN
theorem o_notN : OpR X (compareOp .IsNot) rNotN := op_notN
end
section
variable {K : PySem.W.Frag} {ρ : List Sl}
theorem td_tru {te : TE} {post : Bool → List Sl → Prop} (h : ED K ρ te fun a ρ1 => ∃ k, truD (arD ρ1 a) = some k ∧ (∀ s, arD ρ1 a = .str s → s.length ≤ sizeLine) ∧ post k ρ1) : TD K ρ (tTru K te) post := td_truth rfl h
variable {post : Rs → Prop}
theorem cd_ln {x : D} {n : Nat} (hn : lenD x = some n) (hz : ∀ s, x = .str s → s.length ≤ sizeLine) (q : post (.d (.int n))) : CD K (rLen K) [x] post := cd_len rfl hn hz q
theorem cd_mx {i j : Int} (q : post (.d (.int (if j > i then j else i)))) : CD K rMax2 [.int i, .int j] post := cd_int2 (g := fun i j => if j > i then j else i) rfl q
theorem cd_mn {i j : Int} (q : post (.d (.int (if j < i then j else i)))) : CD K rMin2 [.int i, .int j] post := cd_int2 (g := fun i j => if j < i then j else i) rfl q
theorem cd_tupL {ds : List D} (q : post (.d (.tup ds))) : CD K (rTupOf K) [.lst ds] post := cd_tuple_seq rfl (.inl rfl) q
theorem cd_tupT {ds : List D} (q : post (.d (.tup ds))) : CD K (rTupOf K) [.tup ds] post := cd_tuple_seq rfl (.inr rfl) q
theorem cd_lstL {ds : List D} (q : post (.n (.lst ds))) : CD K (rLstOf K) [.lst ds] post := cd_list_seq rfl (.inl rfl) q
theorem cd_lstT {ds : List D} (q : post (.n (.lst ds))) : CD K (rLstOf K) [.tup ds] post := cd_list_seq rfl (.inr rfl) q
theorem od_sub {i j : Int} (q : post (.d (.int (i - j)))) : OD K (rI0 fun i j => .int (i - j)) (.int i) (.int j) post := od_I0 (g := fun i j => .int (i - j)) (fun _ => .int _) q
theorem od_lt {i j : Int} (q : post (.d (.bl (decide (i < j))))) : OD K (rI0 fun i j => .bl (decide (i < j))) (.int i) (.int j) post := od_I0 (g := fun i j => .bl (decide (i < j))) (fun _ => .bl _) q
theorem od_le {i j : Int} (q : post (.d (.bl (decide (i ≤ j))))) : OD K (rI0 fun i j => .bl (decide (i ≤ j))) (.int i) (.int j) post := od_I0 (g := fun i j => .bl (decide (i ≤ j))) (fun _ => .bl _) q
theorem od_gt {i j : Int} (q : post (.d (.bl (decide (j < i))))) : OD K (rI0 fun i j => .bl (decide (j < i))) (.int i) (.int j) post := od_I0 (g := fun i j => .bl (decide (j < i))) (fun _ => .bl _) q
theorem od_ge {i j : Int} (q : post (.d (.bl (decide (j ≤ i))))) : OD K (rI0 fun i j => .bl (decide (j ≤ i))) (.int i) (.int j) post := od_I0 (g := fun i j => .bl (decide (j ≤ i))) (fun _ => .bl _) q
theorem od_mod {i j : Int} (hj : 0 < j) (q : post (.d (.int (i % j)))) : OD K (rI (fun _ j => 0 < j) fun i j => .int (i % j)) (.int i) (.int j) post := od_I (C := fun _ j => 0 < j) (g := fun i j => .int (i % j)) hj (fun _ => .int _) q
theorem od_div {i j : Int} (hj : CDivW i j) (q : post (.d (.int (i / j)))) : OD K (rI CDivW fun i j => .int (i / j)) (.int i) (.int j) post := od_I (g := fun i j => .int (i / j)) hj (fun _ => .int _) q
theorem od_pow {i j : Int} (hj : CPow i j) (q : post (.d (.int (i ^ j.toNat)))) : OD K (rI CPow fun i j => .int (i ^ j.toNat)) (.int i) (.int j) post := od_I (g := fun i j => .int (i ^ j.toNat)) hj (fun _ => .int _) q
theorem nox_K {CX : CXT} {P : Program} {w : World} {K : PySem.W.Frag} {mg : Str → Option Value} {base : Heap} {N : List Str} {qual : Str} {scope : Scope} {f : Addr} {cd : Value} {A : Around} {outer : List PySem.Env} {s : Shared} {H : Hp} {E : XK} : (cxOf CX P w K mg base N qual scope f cd A outer s H E).K = K := rfl
end
end DL
namespace DL
open PySem L2
variable [HasT]
/-! ### by constructors -/
section
variable {K : PySem.W.Frag} {ρ : List Sl} {x : D} {p : Addr} {i : Nat} {s : Sl}
theorem arD_d : arD ρ (.d x) = x := rfl
theorem arD_n : arD ρ (.n p x) = x := rfl
theorem arD_c0 : arD (.cell p x :: ρ) (.c 0) = x := rfl
theorem arD_cS : arD (s :: ρ) (.c (i + 1)) = arD ρ (.c i) := rfl
theorem isB_bl {post : Bool → List Sl → Prop} {b : Bool} : isB post (.d (.bl b)) ρ = post b ρ := rfl
theorem isBs_bl {post : Bool → Prop} {b : Bool} : isBs post (.d (.bl b)) = post b := rfl
theorem asgP_d {P : List Sl → Prop} : asgP i P (.d x) ρ = P (ρ.set i (.d x)) := rfl
theorem asgP_n {P : List Sl → Prop} : asgP i P (.n p x) ρ = P (ρ.set i (.cell p x)) := rfl
theorem asD_d {P : D → List Sl → Prop} : asD P (.d x) ρ = P x ρ := rfl
theorem asD_n {P : D → List Sl → Prop} : asD P (.n p x) ρ = P x ρ := rfl
theorem asG_d {P : Ar → List Sl → Prop} : asG P (.d x) ρ = P (.d x) ρ := rfl
theorem asG_n {P : Ar → List Sl → Prop} : asG P (.n p x) ρ = P (.d x) ρ := rfl
theorem asG_c {P : Ar → List Sl → Prop} : asG P (.c i) ρ = P (.c i) ρ := rfl
theorem isI_i {P : Option Int → List Sl → Prop} {k : Int} : isI P (.d (.int k)) ρ = P (some k) ρ := rfl
theorem isStr_s {P : List Nat → List Sl → Prop} {l : List Nat} : isStr P (.str l) ρ = P l ρ := rfl
theorem isLst_l {P : List D → List Sl → Prop} {l : List D} : isLst P (.lst l) ρ = P l ρ := rfl
theorem isTup_l {P : List D → List Sl → Prop} {l : List D} : isTup P (.tup l) ρ = P l ρ := rfl
theorem rsA_d {P : Ar → List Sl → Prop} : rsA P ρ (.d x) = P (.d x) ρ := rfl
theorem rsA_n {P : Ar → List Sl → Prop} : rsA P ρ (.n x) = ∀ p, P (.n p x) ρ := rfl
theorem isL_c {P : Nat → Addr → List D → List Sl → Prop} : isL P (.c i) ρ = ∃ p ds, ρ[i]? = some (.cell p (.lst ds)) ∧ P i p ds ρ := rfl
theorem arS_d : arS ρ (.d x) = .d x := rfl
theorem arS_c0 : arS (s :: ρ) (.c 0) = s := rfl
theorem arS_cS : arS (s :: ρ) (.c (i + 1)) = arS ρ (.c i) := rfl
theorem wb_nil {r : List Sl} : wb [] r ρ = ρ := rfl
theorem wb_d {as : List Ar} {r : List Sl} : wb (.d x :: as) (s :: r) ρ = wb as r ρ := rfl
theorem wb_c {as : List Ar} {r : List Sl} : wb (.c i :: as) (s :: r) ρ = wb as r (ρ.set i s) := rfl
theorem cells_nil : cells [] = [] := rfl
theorem cells_no : cells (.no :: ρ) = cells ρ := rfl
theorem cells_d : cells (.d x :: ρ) = cells ρ := rfl
theorem cells_c : cells (.cell p x :: ρ) = p :: cells ρ := rfl
theorem endP_d {n : Nat} {post : Rs → List Sl → Prop} {ρ' : List Sl} : endP n ρ post (.d x) ρ' = EndC ρ ρ' (post (.d x)) := rfl
theorem endP_n {n : Nat} {post : Rs → List Sl → Prop} {ρ' : List Sl} : endP n ρ post (.n p x) ρ' = EndC ρ ρ' (post (.n x)) := rfl
theorem endC_nil {k : List Sl → Prop} {ρ' : List Sl} : EndC [] ρ' k = k [] := rfl
theorem endC_d {k : List Sl → Prop} {ρ' : List Sl} : EndC (.d x :: ρ) (s :: ρ') k = EndC ρ ρ' fun r => k (.d x :: r) := rfl
theorem endC_no {k : List Sl → Prop} {ρ' : List Sl} : EndC (.no :: ρ) (s :: ρ') k = EndC ρ ρ' fun r => k (.no :: r) := rfl
theorem endC_c {k : List Sl → Prop} {ρ' : List Sl} {q : Addr} {y : D} : EndC (.cell p x :: ρ) (.cell q y :: ρ') k = (q = p ∧ EndC ρ ρ' fun r => k (.cell p y :: r)) := rfl
theorem setS_nil : setS ρ [] = ρ := rfl
theorem setS_c {ps : List (Nat × D)} : setS ρ ((i, x) :: ps) = setS (ρ.set i (.d x)) ps := rfl
theorem wipeS_nil : wipeS ρ [] = ρ := rfl
theorem wipeS_c {vs : List Nat} : wipeS ρ (i :: vs) = (wipeS ρ vs).set i .no := rfl
theorem restore_nil {r : List Sl} : restore [] r = [] := rfl
theorem restore_d {r : List Sl} : restore (.d x :: ρ) (s :: r) = .d x :: restore ρ r := rfl
theorem restore_no {r : List Sl} : restore (.no :: ρ) (s :: r) = .no :: restore ρ r := rfl
theorem restore_c {r : List Sl} {y : D} : restore (.cell p x :: ρ) (.cell p y :: r) = .cell p y :: restore ρ r := by
  show (if p = p then Sl.cell p y else .cell p x) :: restore ρ r = _
  rw [if_pos rfl]
/-! truth -/
def truP (post : Bool → Prop) (x : D) : Prop := match x with
  | .non => post false
  | .bl b => post b
  | .int i => post (i != 0)
  | .str s => s.length ≤ sizeLine ∧ post (!s.isEmpty)
  | .lst ds => post (!ds.isEmpty)
  | .tup ds => post (!ds.isEmpty)
  | .dct ds => post (!ds.isEmpty)
  | _ => False
theorem td_tr {te : TE} {post : Bool → List Sl → Prop} (h : ED K ρ te fun a ρ1 => truP (fun b => post b ρ1) (arD ρ1 a)) : TD K ρ (tTru K te) post :=
  td_tru (h.imp fun a ρ1 q => by
    cases e : arD ρ1 a with
    | str s => rw [e] at q; exact ⟨_, rfl, fun s' e' => by cases e'; exact q.1, q.2⟩
    | obj a => rw [e] at q; exact q.elim
    | ty a => rw [e] at q; exact q.elim
    | cls _ => rw [e] at q; exact q.elim
    | exc _ _ _ => rw [e] at q; exact q.elim
    | fnc _ _ => rw [e] at q; exact q.elim
    | _ => rw [e] at q; exact ⟨_, rfl, (fun s' e' => by cases e'), q⟩)
theorem truP_bl {post : Bool → Prop} {b : Bool} : truP post (.bl b) = post b := rfl
theorem truP_non {post : Bool → Prop} : truP post .non = post false := rfl
theorem truP_lst {post : Bool → Prop} {ds : List D} : truP post (.lst ds) = post (!ds.isEmpty) := rfl
theorem truP_tup {post : Bool → Prop} {ds : List D} : truP post (.tup ds) = post (!ds.isEmpty) := rfl
theorem truP_str {post : Bool → Prop} {ds : List Nat} : truP post (.str ds) = (ds.length ≤ sizeLine ∧ post (!ds.isEmpty)) := rfl
theorem truP_int {post : Bool → Prop} {k : Int} : truP post (.int k) = post (k != 0) := rfl
variable {post : Rs → Prop}
theorem cd_len_s {l : List Nat} (hz : l.length ≤ sizeLine) (q : post (.d (.int (l.length : Nat)))) : CD K (rLen K) [.str l] post := cd_ln rfl (fun s e => by cases e; exact hz) q
theorem cd_len_l {l : List D} (q : post (.d (.int (l.length : Nat)))) : CD K (rLen K) [.lst l] post := cd_ln rfl (fun s e => by cases e) q
theorem cd_len_t {l : List D} (q : post (.d (.int (l.length : Nat)))) : CD K (rLen K) [.tup l] post := cd_ln rfl (fun s e => by cases e) q
/-! isinstance -/
def isaD (x : D) (n : String) : Bool := match x with
  | .bl _ => n == "bool" || n == "int"
  | .int _ => n == "int"
  | .str _ => n == "str"
  | .lst _ => n == "list"
  | .tup _ => n == "tuple"
  | .dct _ => n == "dict"
  | _ => false
theorem kit_all : ∀ t ∈ ["NoneType", "bool", "int", "str", "list", "tuple", "dict"], ∀ n ∈ ["int", "str", "bool", "tuple", "list", "dict"], kitB t n = some (if t = "bool" then (n == "bool" || n == "int") else n == t) := by decide +kernel
theorem cd_isa {n : String} (hx : (kindD x).isSome = true) (hn : ["int", "str", "bool", "tuple", "list", "dict"].contains n = true) (q : post (.d (.bl (isaD x n)))) : CD K (rIsi K) [x, .ty n] post := by
  have hn : n ∈ ["int", "str", "bool", "tuple", "list", "dict"] := by simpa using hn
  have go : ∀ t, t ∈ ["NoneType", "bool", "int", "str", "list", "tuple", "dict"] → kindD x = some t → (if t = "bool" then (n == "bool" || n == "int") else n == t) = isaD x n → CD K (rIsi K) [x, .ty n] post := fun t ht hk e =>
    cd_isi hk (by rw [kit_all t ht n hn, e]) q
  cases x with
  | non => exact go "NoneType" (by simp) rfl (by
      have : n ≠ "NoneType" := fun e => by subst e; revert hn; decide
      rw [if_neg (by decide)]
      exact beq_eq_false_iff_ne.mpr this)
  | bl b => exact go "bool" (by simp) rfl (by rw [if_pos rfl]; rfl)
  | int b => exact go "int" (by simp) rfl (by rw [if_neg (by decide)]; rfl)
  | str b => exact go "str" (by simp) rfl (by rw [if_neg (by decide)]; rfl)
  | lst b => exact go "list" (by simp) rfl (by rw [if_neg (by decide)]; rfl)
  | tup b => exact go "tuple" (by simp) rfl (by rw [if_neg (by decide)]; rfl)
  | dct b => exact go "dict" (by simp) rfl (by rw [if_neg (by decide)]; rfl)
  | _ => cases hx
end
section
variable {i : Int} {n : String} {b : Bool} {s : List Nat} {ds : List D}
theorem isaD_int : isaD (.int i) n = (n == "int") := rfl
theorem isaD_bl : isaD (.bl b) n = (n == "bool" || n == "int") := rfl
theorem isaD_str : isaD (.str s) n = (n == "str") := rfl
theorem isaD_lst : isaD (.lst ds) n = (n == "list") := rfl
theorem isaD_tup : isaD (.tup ds) n = (n == "tuple") := rfl
theorem isaD_non : isaD .non n = false := rfl
end
end DL
namespace DL
open PySem PySem.Spec PyProof.Rows L2
variable [HasT]
/-! ### the rules with the written part as a letter of its own (a comprehension's block has the def's) -/
section
variable {X : Cx} {K : PySem.W.Frag}
theorem k_add (hK : X.K = K) : OpR X (binaryOp .Add) (rAddP K) := by subst hK; exact op_addP
theorem k_mul (hK : X.K = K) : OpR X (binaryOp .Mult) (rMulP K) := by subst hK; exact op_mulP
theorem k_in (hK : X.K = K) : OpR X (compareOp .In) (rInP K) := by subst hK; exact op_inP
theorem k_notin (hK : X.K = K) : OpR X (compareOp .NotIn) (rNotInP K) := by subst hK; exact op_notInP
theorem k_eq (hK : X.K = K) (hu : X.A.units + 64 < cLine) : OpR X (compareOp .Eq) (rEqD K) := by subst hK; exact op_eqD hu
theorem k_ne (hK : X.K = K) (hu : X.A.units + 64 < cLine) : OpR X (compareOp .NotEq) (rNeD K) := by subst hK; exact op_neD hu
theorem k_ix (hK : X.K = K) : IxR X (rIx K) := by subst hK; exact ix_seq
theorem k_sl (hK : X.K = K) : SlR X (rSlP K) := by subst hK; exact sl_P
theorem k_rv (hK : X.K = K) : RvR X (rRevP K) := by subst hK; exact rv_P
theorem k_isi (hK : X.K = K) : CallR X (.builtin "isinstance") (rIsi K) := by subst hK; exact call_isi
theorem k_len (hK : X.K = K) : CallR X (.builtin "len") (rLen K) := by subst hK; exact c_len
theorem k_tup (hK : X.K = K) : CallR X (.type "tuple") (rTupOf K) := by subst hK; exact c_tupOf
theorem k_lst (hK : X.K = K) : CallR X (.type "list") (rLstOf K) := by subst hK; exact c_lstOf
theorem k_any (hK : X.K = K) (hc : X.calm = true) : CallR X (.builtin "any") (rAny K) := by subst hK; exact cr_any hc
theorem k_all (hK : X.K = K) (hc : X.calm = true) : CallR X (.builtin "all") (rAll K) := by subst hK; exact cr_all hc
theorem k_sum (hK : X.K = K) (hc : X.calm = true) : CallR X (.builtin "sum") (rSum K) := by subst hK; exact cr_sum hc
theorem k_join (hK : X.K = K) : MtR X "str.join" (rJoin K) := by subst hK; exact m_join
theorem k_tru (hK : X.K = K) {a : Expr} {ta : TE} (ha : PE X a ta) (he : ∀ whole, isTrue a X.env whole = (do let v ← whole; standAt a.pos; holding [v] (truthy v)) := by intro _; rfl) : PT X a (tTru K ta) := by subst hK; exact pt_tru ha he
theorem k_list (hK : X.K = K) {tg e : Expr} {te : TE} (he : PE X e te) : PI X tg e (iList K te) := by subst hK; exact pi_list he
theorem k_tupI (hK : X.K = K) {tg e : Expr} {te : TE} (he : PE X e te) : PI X tg e (iTup K te) := by subst hK; exact pi_tup he
theorem k_gtup (hK : X.K = K) {pos : Pos} {es : List Expr} {k : Nat} {t : TGs} {n : Nat} (hc : X.calm = true) (h : PGs X es t)
    (hn : (assignEach es X.env).length = n := by rfl) (hst : (assignEach es X.env).findIdx? (·.1) = none := by rfl) : PG X (.Tuple es k pos) (gTup K n t) := by subst hK; exact pg_tup hc h hn hst
variable {o e : Expr} {es : List Expr} {to : TE} {t : TA} {name : Str} {apos cpos : Pos} {Ty id : String} {r : V → List V → Hp → VK → Prop}
theorem k_bm0 (hK : X.K = K) (pa : PlainAttrs Ty) (slot : Slot Ty name id) (hty : typeOf (.builtin id) = pure (.type "method_descriptor")) (hm : MtR X id r) (ho : PE X o to)
    (hbase : attributeBase o name X.env (eval o X.env) = eval o X.env := by rfl) (hline : (apos.endLine == cpos.line) = true := by rfl) : PE X (.Call (.Attribute o name apos) [] [] cpos) (tBM0 K Ty r to) := by subst hK; exact pe_bm0 pa slot hty hm ho hbase hline
theorem k_bm (hK : X.K = K) (pa : PlainAttrs Ty) (slot : Slot Ty name id) (hty : typeOf (.builtin id) = pure (.type "method_descriptor")) (hm : MtR X id r) (ho : PE X o to) (ha : PA X (e :: es) t)
    (hbase : attributeBase o name X.env (eval o X.env) = eval o X.env := by rfl)
    (hfew : ((backTo cpos (starEach (e :: es) X.env)).all (fun x => !x.1) && (backToKw cpos (keywordEach [] X.env)).all (fun x => x.1.isSome)
      && decide ((e :: es).length + ([] : List Keyword).length + (if ([] : List Keyword).isEmpty then 0 else 1) < 30)) = true := by rfl)
    (hline : (apos.endLine == cpos.line) = true := by rfl) (hs : starEach (e :: es) X.env = (false, eval e X.env) :: starEach es X.env := by rfl) (hplain : (backTo cpos (starEach es X.env)).any (·.1) = false := by rfl) :
    PE X (.Call (.Attribute o name apos) (e :: es) [] cpos) (tBM K Ty r to t) := by subst hK; exact pe_bm pa slot hty hm ho ha hbase hfew hline hs hplain
end
/-! ### a call asks what its promise asks -/
section
variable {K : PySem.W.Frag} {ρ : List Sl}
theorem od_eq {x y : D} {post : Rs → Prop} (hx : okD x = true) (hy : okD y = true) (dx : depD x ≤ 64) (dy : depD y ≤ 64) (q : post (.d (.bl (eqD x y)))) : OD K (rEqD K) x y post := od_eqD hx hy dx dy q
theorem cells_none {ρ : List Sl} (h : ∀ s ∈ ρ, s.adr = none) : (cells ρ).Nodup := by
  have : cells ρ = [] := List.filterMap_eq_nil_iff.mpr h
  rw [this]; exact List.nodup_nil
end
end DL
namespace DL
open PySem PySem.Spec PyProof.Rows L2
variable [HasT]
section
variable {K : PySem.W.Frag} {ρ : List Sl}
theorem td_yes {post : Bool → List Sl → Prop} (h : post true ρ) : TD K ρ tYes post := fun G F H σ f e Q k => k true ρ G F H (.refl f) (.refl _) e h
/-- a comprehension without tests, whose elements change nothing -/
theorem ed_map {wi : TI} {g : TG} {te : TE} {vs : List Nat} {post : Ar → List Sl → Prop} {α β : Type} (c : α → D) (f : β → α)
    (h : EI K ρ wi fun its ρ1 => NoC vs ρ1 ∧ ∃ (xs : List β) (d : β → D), its = xs.map d ∧ xs.length ≤ sizeLine ∧
      (∀ x ∈ xs, ∃ ps, GT K g (d x) ps ∧ (∀ q ∈ ps, q.1 ∈ vs) ∧ EP K (setS (wipeS ρ1 vs) ps) te fun y ρ5 => y = c (f x) ∧ restore ρ1 ρ5 = ρ1) ∧
      ∀ p, post (.n p (.lst ((xs.map f).map c))) ρ1) : ED K ρ (tLc wi g tYes te vs) post := by
  refine ed_lc ?_
  intro G F H σ ff e R k
  refine h G F H σ ff e R fun J its ρ1 G1 F1 H1 s1 sh1 e1 wk ⟨hn, xs, d, ei, hl, hs, hp⟩ => ?_
  refine k J its ρ1 G1 F1 H1 s1 sh1 e1 wk ⟨hn, fun i acc ρ2 => ρ2 = ρ1 ∧ i ≤ xs.length ∧ acc = ((xs.take i).map f).map c, ⟨rfl, Nat.zero_le _, rfl⟩, fun i x acc ρ2 hx ⟨er, hi, ea⟩ => ?_, fun acc ρ2 ⟨er, hi, ea⟩ p => ?_⟩
  · subst er ei ea
    rw [List.getElem?_map] at hx
    obtain ⟨b, hb, rfl⟩ := Option.map_eq_some_iff.mp hx
    have lt : i < xs.length := (List.getElem?_eq_some_iff.mp hb).1
    obtain ⟨ps, gt, hv, ep⟩ := hs b (List.mem_of_getElem? hb)
    refine ⟨ps, gt, hv, td_yes ?_⟩
    rw [if_pos rfl]
    refine ep.imp fun y ρ5 q => ?_
    obtain ⟨rfl, q⟩ := q
    refine ⟨?_, q, lt, ?_⟩
    · rw [List.length_map, List.length_map, List.length_take]; omega
    · rw [List.take_add_one, hb]; simp
  · subst er ei ea
    rw [List.length_map, List.take_length]
    exact hp p
/-- a comprehension with a test -/
theorem ed_filt {wi : TI} {g : TG} {tt : TT} {te : TE} {vs : List Nat} {post : Ar → List Sl → Prop} {α β : Type} (c : α → D) (f : β → Option α)
    (h : EI K ρ wi fun its ρ1 => NoC vs ρ1 ∧ ∃ (xs : List β) (d : β → D), its = xs.map d ∧ xs.length ≤ sizeLine ∧
      (∀ x ∈ xs, ∃ ps, GT K g (d x) ps ∧ (∀ q ∈ ps, q.1 ∈ vs) ∧ TD K (setS (wipeS ρ1 vs) ps) tt fun b ρ4 => if b = true then EP K ρ4 te fun y ρ5 => (∃ a, f x = some a ∧ y = c a) ∧ restore ρ1 ρ5 = ρ1 else f x = none ∧ restore ρ1 ρ4 = ρ1) ∧
      ∀ p, post (.n p (.lst ((xs.filterMap f).map c))) ρ1) : ED K ρ (tLc wi g tt te vs) post := by
  refine ed_lc ?_
  intro G F H σ ff e R k
  refine h G F H σ ff e R fun J its ρ1 G1 F1 H1 s1 sh1 e1 wk ⟨hn, xs, d, ei, hl, hs, hp⟩ => ?_
  refine k J its ρ1 G1 F1 H1 s1 sh1 e1 wk ⟨hn, fun i acc ρ2 => ρ2 = ρ1 ∧ i ≤ xs.length ∧ acc = ((xs.take i).filterMap f).map c, ⟨rfl, Nat.zero_le _, rfl⟩, fun i x acc ρ2 hx ⟨er, hi, ea⟩ => ?_, fun acc ρ2 ⟨er, hi, ea⟩ p => ?_⟩
  · subst er ei ea
    rw [List.getElem?_map] at hx
    obtain ⟨b, hb, rfl⟩ := Option.map_eq_some_iff.mp hx
    have lt : i < xs.length := (List.getElem?_eq_some_iff.mp hb).1
    obtain ⟨ps, gt, hv, td⟩ := hs b (List.mem_of_getElem? hb)
    refine ⟨ps, gt, hv, td.imp fun bb ρ4 q => ?_⟩
    cases bb with
    | true =>
      rw [if_pos rfl] at q ⊢
      refine q.imp fun y ρ5 q => ?_
      obtain ⟨⟨a, ha, rfl⟩, q⟩ := q
      refine ⟨?_, q, lt, ?_⟩
      · have := List.length_filterMap_le f (xs.take i)
        rw [List.length_map]; rw [List.length_take] at this; omega
      · rw [List.take_add_one, hb]; simp [List.filterMap_append, ha]
    | false =>
      rw [if_neg (by decide)] at q ⊢
      refine ⟨q.2, lt, ?_⟩
      rw [List.take_add_one, hb]; simp [List.filterMap_append, q.1]
  · subst er ei ea
    rw [List.length_map, List.take_length]
    exact hp p
/-- name op= e by ints -/
theorem sd_augI {i : Nat} {te : TE} {g : Int → Int → Int} {P : PD} {a : Int} (ha : ρ[i]? = some (.d (.int a)))
    (h : EP K ρ te fun y ρ1 => ∃ b, y = .int b ∧ ρ1[i]? = some (.d (.int a)) ∧ P.nx (ρ1.set i (.d (.int (g a b))))) : SD K ρ (tAug i te (ipI g)) P := by
  intro G F H σ f e Dn k
  obtain ⟨o, hv, v, rfl, r⟩ := e.at_ _ _ ha
  cases r
  refine ⟨_, hv, h G F H σ f e _ fun v x ρ1 G1 F1 H1 s1 sh1 e1 o1 ⟨b, ex, _, q⟩ => ?_⟩
  subst ex
  cases o1
  exact ⟨a, b, rfl, rfl, k.nx _ _ G1 F1 H1 (nx_set s1 fun p z => by cases z) (e1.setd i (.int _)) q⟩
theorem log2_small {n : Nat} (h : n < 10 ^ 200) : n.log2 < 1000 := by
  by_cases z : n = 0
  · subst z; decide
  · exact (Nat.log2_lt z).mpr (Nat.lt_of_lt_of_le h (by decide +kernel))
theorem cmulW {i j : Int} (hi : i.natAbs < 10 ^ 200) (hj : j.natAbs < 10 ^ 200) : CMulW i j := by
  have := log2_small hi
  have := log2_small hj
  unfold CMulW
  omega
theorem ei_zipT {ta : TA} {post : List D → List Sl → Prop} (h : EA K ρ ta fun as ρ1 => ∃ l m, as = [.d (.str l), .d (.str m)] ∧ post ((List.zip l m).map fun p => D.tup [.str [p.1], .str [p.2]]) ρ1) : EI K ρ (iZip2 ta) post := by
  refine ei_zip2 ?_
  intro G F H σ f e R k
  refine h G F H σ f e _ fun vs as ρ1 G1 F1 H1 s1 sh1 e1 o1 ⟨l, m, ea, q⟩ => ?_
  refine k vs as ρ1 G1 F1 H1 s1 sh1 e1 o1 ⟨l, m, ea, ?_⟩
  have : List.zipWith (fun c d => D.tup [.str [c], .str [d]]) l m = (List.zip l m).map fun p => D.tup [.str [p.1], .str [p.2]] := by
    rw [List.zip, List.map_zipWith]
  rw [this]; exact q
theorem cutL_from {α : Type} {l : List α} {n : Nat} : cutL l (some (n : Int)) none = l.drop n := by
  unfold cutL HT.sIx
  simp only [if_neg (show ¬ ((n : Int) < 0) by omega), Int.toNat_natCast]
  by_cases h : n ≤ l.length
  · rw [Nat.min_eq_left h, List.take_of_length_le (by rw [List.length_drop]; omega)]
  · rw [Nat.min_eq_right (by omega), List.drop_of_length_le (Nat.le_refl _), List.drop_of_length_le (by omega), List.take_nil]
theorem cutL_to {α : Type} {l : List α} {n : Nat} : cutL l none (some (n : Int)) = l.take n := by
  unfold cutL HT.sIx
  simp only [if_neg (show ¬ ((n : Int) < 0) by omega), Int.toNat_natCast, List.drop_zero, Nat.sub_zero]
  by_cases h : n ≤ l.length
  · rw [Nat.min_eq_left h]
  · rw [Nat.min_eq_right (by omega), List.take_length, List.take_of_length_le (by omega)]
theorem cutL_mid {α : Type} {l : List α} {a b : Nat} (h1 : a ≤ b) (h2 : b ≤ l.length) : cutL l (some (a : Int)) (some (b : Int)) = (l.drop a).take (b - a) := by
  unfold cutL HT.sIx
  simp only [if_neg (show ¬ ((a : Int) < 0) by omega), if_neg (show ¬ ((b : Int) < 0) by omega), Int.toNat_natCast]
  rw [Nat.min_eq_left h2, Nat.min_eq_left (Nat.le_trans h1 h2)]
variable {x y : D} {post : Rs → Prop}
theorem okD_asc {a : List Nat} (h : ascii a) : okD (.str a) = true := by
  unfold okD
  exact List.all_eq_true.mpr fun c hc => decide_eq_true (Nat.lt_trans (h c hc) (by decide))
theorem od_eq_s {a b : List Nat} (ha : ascii a) (hb : ascii b) (q : post (.d (.bl (decide (a = b))))) : OD K (rEqD K) (.str a) (.str b) post := od_eqD (okD_asc ha) (okD_asc hb) (by simp [depD]) (by simp [depD]) (by rw [eqD_str]; exact q)
theorem od_ne_s {a b : List Nat} (ha : ascii a) (hb : ascii b) (q : post (.d (.bl (!decide (a = b))))) : OD K (rNeD K) (.str a) (.str b) post := od_neD (okD_asc ha) (okD_asc hb) (by simp [depD]) (by simp [depD]) (by rw [eqD_str]; exact q)
theorem od_eq_i {a b : Int} (q : post (.d (.bl (decide (a = b))))) : OD K (rEqD K) (.int a) (.int b) post := od_eqD (by simp [okD]) (by simp [okD]) (by simp [depD]) (by simp [depD]) (by rw [eqD_int]; exact q)
theorem od_ne_i {a b : Int} (q : post (.d (.bl (!decide (a = b))))) : OD K (rNeD K) (.int a) (.int b) post := od_neD (by simp [okD]) (by simp [okD]) (by simp [depD]) (by simp [depD]) (by rw [eqD_int]; exact q)
theorem join1 (l : List Nat) : TL.joinL [] (l.map fun c => [c]) = l := by
  rw [joinL_nil]; induction l with
  | nil => rfl
  | cons c l ih => simpa using ih
theorem md_join1 {l : List Nat} (hz : l.length ≤ 16777216) (q : post (.d (.str l))) : MD K (rJoin K) (.str []) [.lst (l.map fun c => .str [c])] post := by
  have e : (l.map fun c => D.str [c]) = (l.map fun c => [c]).map .str := by rw [List.map_map]; rfl
  rw [e]
  have : ∀ l : List Nat, (List.map (fun x : List Nat => x.length) (l.map fun c => [c])).sum = l.length := fun l => by
    induction l with
    | nil => rfl
    | cons c l ih => simp only [List.map_cons, List.sum_cons, ih, List.length_cons, List.length_nil]; omega
  exact md_join (by rw [this]; simpa using hz) (by rw [join1]; exact q)
theorem isEmpty_snoc {α : Type} {l : List α} {z : α} : (l ++ [z]).isEmpty = false := by cases l <;> rfl
theorem atI_last {α : Type} {l : List α} {z : α} : atI (l ++ [z]) (-1) = some z := by
  have : ixN (l ++ [z]).length (-1) = some l.length := by
    unfold ixN; rw [List.length_append, List.length_singleton]; simp; try omega
  unfold atI
  rw [this]; simp
end
end DL
namespace DL
open PySem PySem.Spec PySem.W PyProof.Rows L2
variable [HasT]

theorem mk_plain : plainId "str.maketrans" = true := by decide +kernel
theorem mk_entry : entryFor table "str.maketrans" = some Builtin.«str.maketrans» := entryFor_of_tree (by kernel_rfl)
theorem mk_args (a b : Value) : argsOk "str.maketrans" ⟨[a, b], []⟩ := by unfold argsOk; kernel_rfl
theorem mk_find (K : PySem.W.Frag) : findCls K (.type "str") (.type "type") (Str.ofString "maketrans") = some (.val (.builtin "str.maketrans")) := by first | kernel_rfl | rfl
theorem paired_len {α β : Type} {r : α → β → Prop} {l : List α} {m : List β} (h : Paired r l m) : l.length = m.length := by
  induction h with
  | nil => rfl
  | cons _ _ ih => rw [List.length_cons, List.length_cons, ih]
section
variable {prog : Program} {w : World} {A : Around} {E : Value → Shared → Prop} {s : Shared}
theorem mk_get {K : PySem.W.Frag} {pl : Sem Bool} {Q : Value × List Value → Shared → Prop} (X : K.In s.heap) (h : ∀ k, Q (.builtin "str.maketrans", []) { s with toks := k }) :
    wpAny (model prog w) A (getMethod (.type "str") (Str.ofString "maketrans") pl) Q E s := by
  have e1 : typeOf (.type "str") = pure (.type "type") := by first | rfl | kernel_rfl
  have e2 : opaqueClassAbove (.type "str") = pure none := by
    unfold opaqueClassAbove
    dsimp only
    rw [show Manifest.isStub "str" = false by decide +kernel]
    all_goals rfl
  have l1 : Looks (model prog w) s.heap (typeOf (.type "str")) (.type "type") := Looks.of_pure e1
  have l2 : Looks (model prog w) s.heap (opaqueClassAbove (.type "str")) none := Looks.of_pure e2
  have l3 : findIn K (.type "type") "__getattribute__" = some (some (.builtin "type.__getattribute__")) := type_tga
  unfold getMethod
  unfold specialOf
  refine wpAny_bind (wpAny_bind (l1.here ((looks_findIn X l3).here ?_)))
  dsimp only
  rw [if_pos canon_tga]
  refine wpAny_bind (wpAny_mono (Q := fun v s2 => v = .builtin "str.maketrans" ∧ ∃ k, s2 = { s with toks := k }) (E := E) ?_ (fun v s2 z => ?_) fun _ _ z => z)
  · refine cls_open X l2 l1 l3 (looks_hook X (r := none) (by rfl)) (by show subIn K _ _ = _; rfl) (mk_find K) ?_
    show wpAny _ _ (pure (PySem.Fin.done (PySem.Flow.ret (Value.builtin "str.maketrans")))) _ _ _
    refine wpAny_pure ?_
    show wpAny _ _ (handedOut (.builtin "str.maketrans")) _ _ _
    exact wpAny_pure ⟨rfl, _, rfl⟩
  · obtain ⟨rfl, k, rfl⟩ := z
    exact wpAny_pure (h k)
theorem mk_check {a b : Value} : checkBuiltinCall "str.maketrans" ⟨[a, b], []⟩ = pure () := by first | kernel_rfl | rfl
/-- the pairs of a table of signs -/
def tabKV (ps : List (Nat × Nat)) : List (Key × V) := ps.foldl (fun kvs p => putK kvs (.inl (p.1 : Int)) (.int (p.2 : Int))) []
theorem tabKV_len (ps : List (Nat × Nat)) : (tabKV ps).length ≤ ps.length := by
  unfold tabKV
  have : ∀ (ps : List (Nat × Nat)) (kvs : List (Key × V)), (ps.foldl (fun kvs p => putK kvs (.inl (p.1 : Int)) (.int (p.2 : Int))) kvs).length ≤ kvs.length + ps.length := by
    intro ps
    induction ps with
    | nil => intro kvs; simp
    | cons p ps ih =>
      intro kvs
      have h1 := ih (putK kvs (.inl (p.1 : Int)) (.int (p.2 : Int)))
      have h2 : (putK kvs (.inl (p.1 : Int)) (V.int (p.2 : Int)) : List (Key × V)).length ≤ kvs.length + 1 := by unfold putK; split <;> simp
      simp only [List.foldl_cons, List.length_cons]
      omega
  simpa using this ps []
theorem tabKV_snoc (ps : List (Nat × Nat)) (p : Nat × Nat) : tabKV (ps ++ [p]) = putK (tabKV ps) (.inl (p.1 : Int)) (.int (p.2 : Int)) := by unfold tabKV; rw [List.foldl_append]; rfl
theorem mk_call {x y : Str} {t u : Tok} {Q : Value → Shared → Prop} (h : wpAny (model prog w) A.in1 (Builtin.«str.maketrans» ⟨[.str x t, .str y u], []⟩) (fun fin s' => ∃ v, fin = .done (.ret v) ∧ Q v s') E s) :
    wpAny (model prog w) A (call (.builtin "str.maketrans") [.str x t, .str y u]) Q E s := by
  refine wpAny_call (codeAny_call_builtin mk_plain mk_entry ?_)
  rw [mk_check]
  refine wpAny_pure (wpAny_mono h (fun fin s' z => ?_) fun _ _ z => z)
  obtain ⟨v, rfl, z⟩ := z
  exact z
theorem mk_run {x y : Str} {t u : Tok} {Q : Fin → Shared → Prop} (hl : (x.length != y.length) = false) (hz : (x.cps.toList.zip y.cps.toList).length ≤ 1000)
    (h : ∀ (h' : Heap) (k : Nat) (vs : List (Key × Value)), (∀ b o, s.heap.get? b = some o → h'.get? b = some o) → h'.DictOf (mixKind prog w) s.heap.objs.size vs → KV (tabKV (x.cps.toList.zip y.cps.toList)) vs → Q (.done (.ret (.ref s.heap.objs.size))) { s with heap := h', toks := k }) :
    wpAny (model prog w) A (Builtin.«str.maketrans» ⟨[.str x t, .str y u], []⟩) Q E s := by
  unfold Builtin.«str.maketrans»
  refine wpAny_bind (wpAny_of_eq (a := ()) rfl ?_)
  refine wpAny_bind (wpAny_of_eq (a := ()) (by first | rfl | kernel_rfl) ?_)
  refine wpAny_bind (wpAny_of_eq (a := some y) (by first | rfl | kernel_rfl) ?_)
  refine wpAny_bind (wpAny_of_eq (a := none) (by first | rfl | kernel_rfl) ?_)
  refine wpAny_bind (wpAny_newObj_type ?_)
  refine wpAny_bind (wpAny_holding ?_)
  refine wpAny_bind (wpAny_of_eq (a := some x) (by first | rfl | kernel_rfl) ?_)
  dsimp only
  rw [hl, if_neg (by decide)]
  generalize hzz : x.cps.toList.zip y.cps.toList = ps at *
  refine wpAny_bind (wpAny_forIn_list _ (fun rest _ s' => ∃ past vs h' k, ps = past ++ rest ∧ s' = { s with heap := h', toks := k } ∧ (∀ b o, s.heap.get? b = some o → h'.get? b = some o) ∧ h'.DictOf (mixKind prog w) s.heap.objs.size vs ∧ KV (tabKV past) vs) _ ?_ ?_ ps PUnit.unit ?_)
  · rintro ⟨a, b⟩ rest _ s' ⟨past, vs, h', k, e1, rfl, e2, e3, e4⟩
    refine wpAny_bind (wpAny_mkInt ?_)
    refine wpAny_bind (wpAny_mkInt ?_)
    have hv : vs.length ≤ sizeLine := by
      rw [← paired_len e4]
      refine Nat.le_trans (tabKV_len past) (Nat.le_trans (m := 1000) ?_ (by decide))
      have := congrArg List.length e1
      simp only [List.length_append] at this
      omega
    refine wpAny_bind (wpAny_dictSet_pairs (knd := mixKind prog w) (k := .inl (a : Int)) (by simp [mixKind, keyIs, Value.isInt]) e3 (fun h2 d2 sb => ?_) hv)
    refine wpAny_pure ⟨past ++ [(a, b)], _, h2, _, by rw [e1]; simp, rfl, fun c o hc => ?_, d2, ?_⟩
    · rw [sb.2 c (Nat.ne_of_lt (Heap.lt_size hc))]; exact e2 c o hc
    · rw [tabKV_snoc]
      exact KV.put e4 _ (show RelV (.int (b : Int)) (.int (b : Int) _) from ⟨_, rfl⟩)
  · rintro _ s' ⟨past, vs, h', k, e1, rfl, e2, e3, e4⟩
    rw [List.append_nil] at e1
    subst e1
    refine wpAny_bind ?_
    rw [show ((none : Option Str).getD Str.empty).cps = #[] from rfl]
    refine wpAny_of_eq (a := PUnit.unit) (by first | rfl | kernel_rfl) ?_
    exact wpAny_pure (wpAny_pure (h h' k vs e2 e3 e4))
  · exact ⟨[], [], _, _, rfl, rfl, fun b o e => Heap.get?_push_of_some _ e, Heap.DictOf.new s.heap, .nil⟩
/-- what a table of signs tells of a sign -/
def TabOf (f : Key → Option Value) (g : Nat → Nat) (x : List Nat) : Prop := ∀ c ∈ x, ∃ t, f (.inl (c : Int)) = some (.int (g c : Int) t)
theorem tl_int {d : Addr} {c : Nat} {g : Nat → Nat} {f : Key → Option Value} {Q : Builtin.Str.Mapped → Shared → Prop} (hm : s.heap.MapOf (mixKind prog w) d f) (hf : ∃ t, f (.inl (c : Int)) = some (.int (g c : Int) t)) (hg : g c < 128)
    (h : ∀ k, Q (.char (g c)) { s with toks := k }) : wpAny (model prog w) A (Builtin.Str.tableLookup (.ref d) c) Q E s := by
  obtain ⟨t, hf⟩ := hf
  unfold Builtin.Str.tableLookup
  refine wpAny_bind (wpAny_attempt (wpAny_bind (wpAny_mkInt ?_)))
  refine wpAny_getItem_of (knd := mixKind prog w) (k := .inl (c : Int)) (by simp [mixKind, keyIs, Value.isInt]) hm hf ?_
  refine wpAny_bind (wpAny_of_eq (a := some (g c : Int)) rfl ?_)
  dsimp only
  rw [if_neg (by simp; omega)]
  exact wpAny_pure (h _)
def TrI (x : List Nat) (g : Nat → Nat) (s : Shared) (rest : List Nat) (st : List Str × Nat × Bool × List (Nat × Option Nat) × Bool) (s' : Shared) : Prop :=
  ∃ past known k, x = past ++ rest ∧ st = ((past.map fun c => (⟨#[g c]⟩ : Str)).reverse, past.length, true, known, false) ∧ (∀ c a, List.lookup c known = some a → a = some (g c)) ∧ s' = { s with toks := k }
theorem cps_fold {g : Nat → Nat} : ∀ (l : List Nat) (acc : Array Nat), List.foldl (fun acc (p : Str) => acc ++ p.cps) acc (l.map fun c => (⟨#[g c]⟩ : Str)) = acc ++ (l.map g).toArray := by
  intro l
  induction l with
  | nil => intro acc; simp
  | cons c l ih => intro acc; rw [List.map_cons, List.foldl_cons, ih]; apply Array.toList_inj.mp; simp
theorem tr_run {x : List Nat} {t : Tok} {d : Addr} {g : Nat → Nat} {f : Key → Option Value} {Q : Fin → Shared → Prop} (hx : ascii x) (hg : ∀ c ∈ x, g c < 128) (hz : x.length ≤ 1000000) (hm : s.heap.MapOf (mixKind prog w) d f) (hf : TabOf f g x)
    (h : ∀ t' k, Q (.done (.ret (.str (S (x.map g)) t'))) { s with toks := k }) :
    wpAny (model prog w) A (Builtin.«str.translate» ⟨[.str (S x) t, .ref d], []⟩) Q E s := by
  unfold Builtin.«str.translate»
  refine wpAny_bind (wpAny_of_eq (a := (Value.str (S x) t, S x, Value.ref d)) (by first | rfl | kernel_rfl) ?_)
  dsimp only
  by_cases h0 : ((S x).length == 0) = true
  · rw [if_pos h0]
    have e : x = [] := by rw [beq_iff_eq, S_len] at h0; exact List.eq_nil_of_length_eq_zero h0
    subst e
    exact wpAny_bind (wpAny_rule (wpAny_bind (wpAny_of_eq (a := .str (S []) t) (by first | rfl | kernel_rfl) (wpAny_pure (h t _)))))
  · rw [if_neg h0, List.forIn_toArray, show (x.toArray.all fun c => decide (c < 128)) = true from by simpa [ascii] using hx]
    refine wpAny_bind (wpAny_forIn_list _ (TrI x g s) _ ?_ ?_ x _ ⟨[], [], s.toks, rfl, rfl, (fun c a z => nomatch z), rfl⟩)
    · rintro c rest st s' ⟨past, known, k, e1, rfl, e3, rfl⟩
      have hcx : c ∈ x := by rw [e1]; simp
      have hpl : past.length ≤ 1000000 := by
        have := congrArg List.length e1
        simp only [List.length_append] at this
        omega
      dsimp only
      rw [short24 (by omega), if_neg (by decide), if_pos rfl]
      have hgc := hg c hcx
      have more : ∀ (kn : List (Nat × Option Nat)) (k' : Nat), (∀ c a, List.lookup c kn = some a → a = some (g c)) →
          TrI x g s rest (({ cps := #[g c] } : Str) :: (past.map fun c => (⟨#[g c]⟩ : Str)).reverse, past.length + 1, true, kn, false) { s with toks := k' } := fun kn k' hk => by
        refine ⟨past ++ [c], kn, k', by rw [e1]; simp, ?_, hk, rfl⟩
        simp
      cases hl : List.lookup c known with
      | some a =>
        have ha := e3 c a hl
        subst ha
        refine wpAny_bind (wpAny_pure ?_)
        exact wpAny_pure (more known k e3)
      | none =>
        refine wpAny_bind (tl_int (s := { s with toks := k }) hm (hf c hcx) hgc fun k2 => ?_)
        dsimp only
        rw [if_pos hgc]
        refine wpAny_bind (wpAny_pure ?_)
        refine wpAny_pure (more _ k2 fun c' a' z => ?_)
        rw [List.lookup_cons] at z
        split at z
        · rename_i hcc
          rw [beq_iff_eq.mp hcc]
          exact (Option.some.inj z).symm
        · exact e3 c' a' z
    · rintro st s' ⟨past, known, k, e1, rfl, e3, rfl⟩
      rw [List.append_nil] at e1
      subst e1
      dsimp only
      rw [short24 (by omega), if_neg (by decide), List.reverse_reverse, cps_fold]
      refine wpAny_bind (wpAny_mkStr (wpAny_pure ?_) ?_)
      · have e : ({ cps := #[] ++ (x.map g).toArray } : Str) = S (x.map g) := by rw [Array.empty_append] <;> rfl
        rw [e]
        exact h _ _
      · show (#[] ++ (x.map g).toArray).size ≤ sizeLine
        rw [Array.empty_append, List.size_toArray, List.length_map]
        exact Nat.le_trans hz (by decide)
end
def tMk (ta : TA) : TE := fun σ H Q => ta σ H fun vs H1 => ∃ l m : List Nat, vs = [.str (S l), .str (S m)] ∧ l.length = m.length ∧ l.length ≤ 1000 ∧ ∀ d, H1 d = none → Q (.ref d) (upd H1 d (.dK (tabKV (List.zip l m))))
theorem pe_mk {X : Cx} {p apos pos : Pos} {e1 e2 : Expr} {ta : TA} {pl : Sem Bool} (hg : Gl X "str") (hm : X.mg "str" = none) (ha : PA X [e1, e2] ta)
    (hs : starEach [e1, e2] X.env = (false, eval e1 X.env) :: starEach [e2] X.env := by rfl) (hpl : (backTo pos (starEach [e2] X.env)).any (·.1) = false := by rfl)
    (ht : eval (.Call (.Attribute (.Name "str" p) "maketrans" apos) [e1, e2] [] pos) X.env = (do
      let ov ← eval (.Name "str" p) X.env
      standAt apos.atName
      let (f, first) ← holding [ov] (getMethod ov "maketrans" pl)
      callWith pos f first (backTo pos (starEach [e1, e2] X.env)) (backToKw pos (keywordEach [] X.env))) := by rfl) :
    PE X (.Call (.Attribute (.Name "str" p) "maketrans" apos) [e1, e2] [] pos) (tMk ta) := by
  refine ⟨fun pins s σ H Q I h => ?_⟩
  refine methodCall_KW (pl := pl) (ld_blt I hg hm (show bootBuiltins "str" = some (.type "str") by decide +kernel) ?_) ht
  refine mk_get I.kIn fun k1 => ?_
  have I0 : Inv X pins σ H { s with toks := k1 } := I.kept (h' := s.heap) (t' := k1) fun _ _ z => z
  have hA := ha.run pos pins _ σ H _ I0 h
  rw [hs] at hA ⊢
  refine Calls.callWith_builtin (by show (false || (backTo pos (starEach [e2] X.env)).any (·.1)) = false; rw [hpl] <;> rfl) (Calls.evalArgs_plain ?_)
  refine thn hA fun us s2 ⟨vs, H2, I2, r2, l, m, ev, hlen, hle, q⟩ => ?_
  subst ev
  obtain ⟨u1, u2, rfl, ⟨t, rfl⟩, ⟨u, rfl⟩⟩ := Vals.two r2
  refine mk_call (mk_run (A := X.A.in1) (by rw [S_len, S_len, hlen]; simp) ?_ fun h' k vs2 h1 h2 h3 => ⟨_, rfl, ?_⟩)
  · show (List.zip (S l).cps.toList (S m).cps.toList).length ≤ 1000
    simp only [S, List.toList_toArray, List.length_zip]
    omega
  · have ez : List.zip (S l).cps.toList (S m).cps.toList = List.zip l m := by simp only [S, List.toList_toArray]
    rw [ez] at h3
    have kl : (tabKV (List.zip l m)).length ≤ sizeLine := Nat.le_trans (tabKV_len _) (Nat.le_trans (m := 1000) (by rw [List.length_zip]; omega) (by decide))
    exact ⟨.ref s2.heap.objs.size, _, I2.laid (a := s2.heap.objs.size) (o := .dK (tabKV (List.zip l m))) (t' := k) h1 (Nat.le_refl _) ⟨kl, beq_eq_false_iff_ne.mpr (Ne.symm (Nat.ne_of_lt I2.big)), vs2, h3, h2⟩, rfl, q _ (I2.hok.fresh (Nat.le_refl _))⟩
def rTrans : V → List V → Hp → VK → Prop := fun x xs H Q => ∃ (l : List Nat) (d : Addr) (kvs : List (Key × V)) (g : Nat → Nat), x = .str (S l) ∧ xs = [.ref d] ∧ H d = some (.dK kvs) ∧ ascii l ∧ l.length ≤ 1000000 ∧ (∀ c ∈ l, g c < 128 ∧ valV kvs (.inl (c : Int)) = some (.int (g c : Int))) ∧ Q (.str (S (l.map g))) H
theorem mt_trans {X : Cx} : MtR X "str.translate" rTrans := by
  intro pins s σ H x xs v us Q I rx rs h
  obtain ⟨l, d, kvs, g, rfl, rfl, hd, ha, hl, hv, q⟩ := h
  obtain ⟨t, rfl⟩ := rx
  cases rs with
  | cons r1 rs =>
    cases rs
    cases r1
    obtain ⟨_, _, vs, hk, hdo⟩ := I.hok d _ hd
    refine wpAny_call_entry F.slot_str_translate (typeIs_str _ _ _) F.entry_str_translate (tr_run (g := g) ha (fun c hc => (hv c hc).1) hl hdo.mapOf (fun c hc => ?_) fun t' k => ?_) (F.args_str_translate_2 _ _)
    · have e := KV.val hk (.inl (c : Int))
      rw [(hv c hc).2] at e
      cases ev : valueAt vs (.inl (c : Int)) with
      | none => rw [ev] at e; cases e
      | some u =>
        rw [ev] at e
        obtain ⟨t2, rfl⟩ := e
        exact ⟨t2, rfl⟩
    · exact ⟨_, rfl, .str _, H, I.kept (h' := s.heap) (t' := k) (fun _ _ z => z), ⟨t', rfl⟩, q⟩
end DL
namespace DL
open PySem PySem.Spec PySem.W PyProof.Rows L2
variable [HasT]
/-! ### x.translate(str.maketrans(..)) -/
section
variable {K : PySem.W.Frag} {ρ : List Sl}
theorem ed_trans {te : TE} {ta : TA} {post : Ar → List Sl → Prop} (h : ED K ρ te fun a ρ1 => ∃ s, arD ρ1 a = .str s ∧ EA K ρ1 ta fun as ρ2 => ∃ l m g, as = [.d (.str l), .d (.str m)] ∧ l.length = m.length ∧ l.length ≤ 1000 ∧ ascii s ∧ s.length ≤ 1000000 ∧
    (∀ c ∈ s, g c < 128 ∧ valV (tabKV (List.zip l m)) (.inl (c : Int)) = some (.int (g c : Int))) ∧ post (.d (.str (s.map g))) ρ2) : ED K ρ (tBM K "str" rTrans te (tCons (tMk ta) tNil)) post := by
  intro G F H σ f e Q k
  refine h G F H σ f e _ fun v a ρ1 G1 F1 H1 s1 sh1 e1 o1 w1 ⟨s, es, h1⟩ => ?_
  have t1 := o1.top s1.fr e1
  rw [es] at t1
  refine ⟨tyV_of t1 rfl, ?_⟩
  cases t1
  refine h1 G1 F1 H1 σ s1.fr e1 _ fun vs as ρ2 G2 F2 H2 s2 sh2 e2 o2 ⟨l, m, g, ea, h2, h3, h4, h5, h6, po⟩ => ?_
  subst ea
  cases o2 with
  | cons r1 r2 =>
    cases r2 with
    | cons r3 r4 =>
      cases r4
      cases r1
      cases r3
      refine ⟨l, m, rfl, h2, h3, fun d hd => ?_⟩
      have f3 : Fr (upd G2 d (.dK (tabKV (List.zip l m)))) F2 (upd H2 d (.dK (tabKV (List.zip l m)))) := s2.fr.newG hd
      have g3 : Same G2 (upd G2 d (.dK (tabKV (List.zip l m)))) := same_new (none_of_same s2.fr.g hd)
      have s3 : Nx ρ2 G2 F2 ρ2 (upd G2 d (.dK (tabKV (List.zip l m)))) F2 (upd H2 d (.dK (tabKV (List.zip l m)))) := ⟨g3, f3, fun _ _ h _ => h, fun _ h => .inl h⟩
      exact ⟨s, d, _, g, rfl, rfl, upd_same, h4, h5, h6, k _ (.d (.str _)) ρ2 _ F2 _ ((s1.trans s2).trans s3) (sh1.trans sh2) (e2.mono g3 fun _ _ => rfl) (.str _) (fun p x z => by cases z) po⟩
end
/-! ### min of data -/
def rMinD (K : PySem.W.Frag) : List V → Hp → VK → Prop := fun vs H Q => ∃ (a : Addr) (xs : List V) (d0 : PyData) (ds : List PyData), vs = [.ref a] ∧ SqL K H a xs ∧ DpAll K H xs (d0 :: ds) ∧ AlikeAll (d0 :: ds) ∧ PyData.depthAll (d0 :: ds) ≤ 60 ∧
  ∀ (i : Nat) v d, xs[i]? = some v → (d0 :: ds)[i]? = some d → d = minD d0 ds → Q v H
theorem dpAll_len {K : PySem.W.Frag} {H : Hp} : ∀ {xs : List V} {ds : List PyData}, DpAll K H xs ds → xs.length = ds.length
  | [], [], _ => rfl
  | _ :: xs, _ :: ds, h => by cases h with | cons _ h => rw [List.length_cons, List.length_cons, dpAll_len h]
theorem dpAll_at {K : PySem.W.Frag} {H : Hp} : ∀ {xs : List V} {ds : List PyData} {i : Nat} {v : V} {d : PyData}, DpAll K H xs ds → xs[i]? = some v → ds[i]? = some d → Dp K H v d
  | _ :: _, _ :: _, 0, v, d, .cons h _, e1, e2 => by cases e1; cases e2; exact h
  | _ :: xs, _ :: ds, i + 1, v, d, .cons _ h, e1, e2 => dpAll_at (i := i) h e1 e2
theorem cr_minD {X : Cx} (hc : X.calm = true) (hu : X.A.units + 64 < cLine) : CallR X (.builtin "min") (rMinD X.K) := by
  intro pins s σ H vs us Q I r h
  obtain ⟨a, xs, d0, ds, rfl, hs, hd, ha, hdep, q⟩ := h
  obtain ⟨its, rv, hl, _⟩ := I.list hs
  rw [Vals.ref1 r]
  obtain ⟨as, hr⟩ := Dp.readsAll I (d0 :: ds) xs its hd rv
  refine min_list_data (I.ok.hd hc) hl.isList (by simpa using hr) ha (by omega) fun i v h' tk bs hv hrd hk => ?_
  have hv : its[i]? = some v := by simpa using hv
  have hi : i < xs.length := by rw [rv.length]; exact (List.getElem?_eq_some_iff.mp hv).1
  have hi2 : i < (d0 :: ds).length := by rw [← dpAll_len hd]; exact hi
  have e1 : xs[i]? = some xs[i] := List.getElem?_eq_getElem hi
  have e2 : (d0 :: ds)[i]? = some (d0 :: ds)[i] := List.getElem?_eq_getElem hi2
  obtain ⟨u, hu2, ru⟩ := rv.get e1
  rw [hv] at hu2
  cases hu2
  obtain ⟨bs2, r2⟩ := Dp.reads I _ _ v (dpAll_at hd e1 e2) ru
  have same := (Reads.unique (reads_keeps hk r2) _ _ hrd).1
  exact ⟨xs[i], H, I.kept (h' := h') (t' := tk) hk, ru, q i _ _ e1 e2 same⟩
theorem k_min {X : Cx} {K : PySem.W.Frag} (hK : X.K = K) (hc : X.calm = true) (hu : X.A.units + 64 < cLine) : CallR X (.builtin "min") (rMinD K) := by subst hK; exact cr_minD hc hu
section
variable {K : PySem.W.Frag} {post : Rs → Prop}
theorem minD_S : ∀ (xs : List (List Nat)) (x : List Nat), ∃ m ∈ x :: xs, minD (.str (S x)) (xs.map fun s => PyData.str (S s)) = .str (S m) ∧ ∀ y ∈ x :: xs, ¬ y < m := by
  intro xs
  induction xs with
  | nil => intro x; exact ⟨x, by simp, rfl, fun y hy => by rw [List.mem_singleton.mp hy]; exact List.lt_irrefl _⟩
  | cons z xs ih =>
    intro x
    have e : minD (.str (S x)) ((z :: xs).map fun s => PyData.str (S s)) = minD (.str (S (if z < x then z else x))) (xs.map fun s => PyData.str (S s)) := by
      unfold minD
      have : dataLt (.str (S z)) (.str (S x)) = decide (z < x) := by rw [dataLt_str]
      rw [List.map_cons, List.foldl_cons, this]
      by_cases h : z < x
      · rw [if_pos h, if_pos (decide_eq_true h)]
      · rw [if_neg h, if_neg (by simpa using h)]
    obtain ⟨m, hm, hd, hl⟩ := ih (if z < x then z else x)
    rw [e, hd]
    by_cases h : z < x
    · rw [if_pos h] at hm hl
      refine ⟨m, List.mem_cons_of_mem _ hm, rfl, fun y hy => ?_⟩
      rcases List.mem_cons.mp hy with rfl | hy
      · exact fun q => hl z List.mem_cons_self (List.lt_trans h q)
      · exact hl y hy
    · rw [if_neg h] at hm hl
      refine ⟨m, (List.mem_cons.mp hm).elim (fun z => z ▸ List.mem_cons_self) fun z => List.mem_cons_of_mem _ (List.mem_cons_of_mem _ z), rfl, fun y hy => ?_⟩
      rcases List.mem_cons.mp hy with rfl | hy
      · exact hl y List.mem_cons_self
      · rcases List.mem_cons.mp hy with rfl | hy
        · exact fun q => hl x List.mem_cons_self (List.lt_of_le_of_lt (List.not_lt.mp h) q)
        · exact hl y (List.mem_cons_of_mem _ hy)
theorem S_inj {a b : List Nat} (h : S a = S b) : a = b := by
  have : (S a).cps.toList = (S b).cps.toList := by rw [h]
  simpa [S] using this
theorem dp_strs {G : Hp} : ∀ {ss : List (List Nat)} {vs : List V}, Reps K G vs (ss.map .str) → DpAll K G vs (ss.map fun s => PyData.str (S s)) ∧ vs = ss.map fun s => V.str (S s)
  | [], [], _ => ⟨.nil, rfl⟩
  | s :: ss, _ :: vs, .cons h1 h2 => by
    cases h1
    obtain ⟨h3, h4⟩ := dp_strs h2
    exact ⟨.cons (.str _) h3, by rw [h4]; rfl⟩
/-- min of texts -/
theorem cd_min_s {ss : List (List Nat)} (hne : ss ≠ []) (q : ∀ m ∈ ss, (∀ y ∈ ss, ¬ y < m) → post (.d (.str m))) : CD K (rMinD K) [.lst (ss.map .str)] post := by
  intro G F H vs f rx Q k
  cases rx with
  | cons rx r2 =>
    cases r2
    obtain ⟨p, xs, rfl, h1, h2⟩ := rx
    obtain ⟨hd, ev⟩ := dp_strs (Reps.mono f.g h2)
    cases ss with
    | nil => exact absurd rfl hne
    | cons s0 ss =>
      obtain ⟨m, hm, em, hl⟩ := minD_S ss s0
      refine ⟨p, xs, _, _, rfl, h1, hd, ⟨fun x hx y hy => ?_, fun x hx => ?_⟩, ?_, fun i v d hv hdd e => ?_⟩
      · obtain ⟨a, _, rfl⟩ := List.mem_map.mp (show x ∈ (s0 :: ss).map fun s => PyData.str (S s) from hx)
        obtain ⟨b, _, rfl⟩ := List.mem_map.mp (show y ∈ (s0 :: ss).map fun s => PyData.str (S s) from hy)
        rfl
      · obtain ⟨a, _, rfl⟩ := List.mem_map.mp (show x ∈ (s0 :: ss).map fun s => PyData.str (S s) from hx)
        exact fun z => by cases z
      · have : ∀ l : List (List Nat), PyData.depthAll (l.map fun s => PyData.str (S s)) ≤ 0 := by
          intro l
          induction l with
          | nil => simp [PyData.depthAll]
          | cons s l ih => simp only [List.map_cons, PyData.depthAll, PyData.depth] at ih ⊢; omega
        exact Nat.le_trans (this (s0 :: ss)) (by decide)
      · have hdd : ((s0 :: ss).map fun s => PyData.str (S s))[i]? = some d := hdd
        rw [List.getElem?_map] at hdd
        obtain ⟨a, ha, rfl⟩ := Option.map_eq_some_iff.mp hdd
        rw [em] at e
        have ea : a = m := S_inj (PyData.str.inj e)
        subst ea
        rw [ev, List.getElem?_map, ha] at hv
        cases hv
        exact back_d f k (.str a) (q a hm hl)
/-- repr of a truth value -/
def trueL : List Nat := [84, 114, 117, 101]
def falseL : List Nat := [70, 97, 108, 115, 101]
def rReprB : List V → Hp → VK → Prop := fun xs H Q => ∃ b : Bool, xs = [.bl b] ∧ Q (.str (S (if b = true then trueL else falseL))) H
theorem cr_reprB {X : Cx} : CallR X (.builtin "repr") rReprB := by
  intro pins s σ H xs us Q I r h
  obtain ⟨b, rfl, q⟩ := h
  cases r with
  | cons r1 r2 =>
    cases r2
    cases r1
    have e : (S (if b = true then trueL else falseL)) = (if b then "True" else "False" : Str) := by cases b <;> decide +kernel
    exact PySem.P.repr_of_bool ⟨.str _, H, I.tok _, ⟨_, by rw [e]⟩, q⟩
theorem cd_reprB {b : Bool} (q : post (.d (.str (if b = true then trueL else falseL)))) : CD K rReprB [.bl b] post := by
  intro G F H vs f rx Q k
  cases rx with
  | cons rx r2 =>
    cases r2
    cases rx
    exact ⟨b, rfl, back_d f k (.str _) q⟩
/-- l.index(x): the first place -/
def md_indexP : True := trivial
theorem k_indexD {X : Cx} (hK : X.K = K) (hu : X.A.units + 65 < cLine) : MtR X "list.index" (rIndexD K) := by subst hK; exact mt_indexD hu
theorem md_index_s {ss : List (List Nat)} {s : List Nat} {j : Nat} (hs : ∀ a ∈ ss, ascii a) (h : ss[j]? = some s) (hno : ∀ m, m < j → ss[m]? ≠ some s) (q : post (.d (.int (j : Nat)))) : MD K (rIndexD K) (.lst (ss.map .str)) [.str s] post := by
  intro G F H v vs f rx rs Q k
  obtain ⟨p, xs, rfl, h1, h2⟩ := rx
  obtain ⟨hd, ev⟩ := dp_strs (Reps.mono f.g h2)
  cases rs with
  | cons r1 r2 =>
    cases r2
    cases r1
    have ok1 : okD (.str s) = true := okD_asc (hs s (List.mem_of_getElem? h))
    have ok2 : ∀ l : List (List Nat), (∀ a ∈ l, ascii a) → okDs (l.map .str) = true := by
      intro l
      induction l with
      | nil => intro _; simp [okDs]
      | cons a l ih => intro z; simp only [List.map_cons, okDs, Bool.and_eq_true]; exact ⟨okD_asc (z a List.mem_cons_self), ih fun b hb => z b (List.mem_cons_of_mem _ hb)⟩
    have dp2 : ∀ l : List (List Nat), depDs (l.map .str) = 0 := by
      intro l
      induction l with
      | nil => simp [depDs]
      | cons a l ih => simp only [List.map_cons, depDs, ih, depD]; rfl
    have tp : ∀ l : List (List Nat), toPs (l.map .str) = l.map fun s => PyData.str (S s) := by
      intro l
      induction l with
      | nil => rfl
      | cons a l ih => simp only [List.map_cons, toPs, toP, ih]
    have sh2 : SeqAt.shaped (.list (ss.map fun s => PyData.str (S s))) = true := by
      have := shaped_ok (x := .lst (ss.map .str)) (by unfold okD; exact ok2 ss hs) (by unfold depD; rw [dp2]; decide)
      rwa [toP, tp] at this
    have sh1 : SeqAt.shaped (.str (S s)) = true := by
      have := shaped_ok ok1 (by simp [depD])
      rwa [toP] at this
    have ee : ∀ a b : List Nat, PyData.eqv (.str (S a)) (.str (S b)) = decide (a = b) := fun a b => by
      have := eqD_str a b
      unfold eqD at this
      rwa [toP, toP] at this
    refine ⟨p, .str (S s), .str (S s), ss.map fun s => PyData.str (S s), j, .str (S s), rfl, rfl, .lst h1 hd, .str _, sh2, sh1, by rw [List.getElem?_map, h]; rfl, by rw [ee]; exact decide_eq_true rfl, fun m z' hm hz => ?_, back_d f k (.int _) q⟩
    rw [List.getElem?_map] at hz
    obtain ⟨a, ha, rfl⟩ := Option.map_eq_some_iff.mp hz
    rw [ee]
    exact decide_eq_false fun e => hno m hm (by rw [ha, e])
end
theorem units65 {k : Nat} {A : Around} (r : Room k A) : A.units + 65 < cLine := by have := r.un; omega
end DL
namespace DL
open PySem PySem.Spec PySem.W PyProof.Rows L2
variable [HasT]
section
variable {K : PySem.W.Frag} {ρ : List Sl}
theorem ei_rngN {ta : TA} {post : List D → List Sl → Prop} (h : EA K ρ ta fun as ρ1 => ∃ n : Nat, as = [.d (.int (n : Int))] ∧ n < 2 ^ 62 ∧ post ((List.range n).map fun k => D.int (k : Nat)) ρ1) : EI K ρ (iRng1 ta) post := by
  refine ei_rng1 ?_
  intro G F H σ f e R k
  refine h G F H σ f e _ fun vs as ρ1 G1 F1 H1 s1 sh1 e1 o1 ⟨n, ea, hn, q⟩ => ?_
  refine k vs as ρ1 G1 F1 H1 s1 sh1 e1 o1 ⟨(n : Int), ea, by omega, by omega, ?_⟩
  simpa using q
theorem sld_from {s : List Nat} {k : Nat} {post : Rs → Prop} (hz : s.length ≤ sizeLine) (q : post (.d (.str (s.drop k)))) : SlD K (rSlP K) (.str s) (some (k : Int)) none post := sld_str hz (by rw [cutL_from]; exact q)
theorem sld_to {s : List Nat} {k : Nat} {post : Rs → Prop} (hz : s.length ≤ sizeLine) (q : post (.d (.str (s.take k)))) : SlD K (rSlP K) (.str s) none (some (k : Int)) post := sld_str hz (by rw [cutL_to]; exact q)
theorem sld_mid {s : List Nat} {a b : Nat} {post : Rs → Prop} (hz : s.length ≤ sizeLine) (h1 : a ≤ b) (h2 : b ≤ s.length) (q : post (.d (.str ((s.drop a).take (b - a))))) : SlD K (rSlP K) (.str s) (some (a : Int)) (some (b : Int)) post := sld_str hz (by rw [cutL_mid h1 h2]; exact q)
end
section
variable {K : PySem.W.Frag} {post : Rs → Prop}
theorem okDs_int : ∀ ns : List Int, okDs (ns.map .int) = true
  | [] => by simp [okDs]
  | n :: ns => by simp only [List.map_cons, okDs, okD, okDs_int ns, Bool.and_self]
theorem depDs_int : ∀ ns : List Int, depDs (ns.map .int) = 0
  | [] => by simp [depDs]
  | n :: ns => by simp only [List.map_cons, depDs, depD, depDs_int ns]; rfl
theorem od_ne_li {ns ms : List Int} (q : post (.d (.bl (!decide (ns = ms))))) : OD K (rNeD K) (.lst (ns.map .int)) (.lst (ms.map .int)) post :=
  od_neD (by unfold okD; exact okDs_int _) (by unfold okD; exact okDs_int _) (by unfold depD; rw [depDs_int]; decide) (by unfold depD; rw [depDs_int]; decide) (by rw [eqD_ints]; exact q)
theorem od_ne_li0 {ns : List Int} (q : post (.d (.bl (!decide (ns = []))))) : OD K (rNeD K) (.lst (ns.map .int)) (.lst []) post := od_ne_li (ms := []) q
theorem okDs_str : ∀ {l : List (List Nat)}, (∀ a ∈ l, ascii a) → okDs (l.map .str) = true
  | [], _ => by simp [okDs]
  | a :: l, z => by
    simp only [List.map_cons, okDs, Bool.and_eq_true]
    exact ⟨okD_asc (z a List.mem_cons_self), okDs_str fun b hb => z b (List.mem_cons_of_mem _ hb)⟩
theorem depDs_str : ∀ ns : List (List Nat), depDs (ns.map .str) = 0
  | [] => by simp [depDs]
  | n :: ns => by simp only [List.map_cons, depDs, depD, depDs_str ns]; rfl
theorem od_ne_ls {ns ms : List (List Nat)} (h1 : ∀ a ∈ ns, ascii a) (h2 : ∀ a ∈ ms, ascii a) (q : post (.d (.bl (!decide (ns = ms))))) : OD K (rNeD K) (.lst (ns.map .str)) (.lst (ms.map .str)) post :=
  od_neD (by unfold okD; exact okDs_str h1) (by unfold okD; exact okDs_str h2) (by unfold depD; rw [depDs_str]; decide) (by unfold depD; rw [depDs_str]; decide) (by rw [eqD_strs]; exact q)
theorem od_ne_ls0 {ns : List (List Nat)} (h1 : ∀ a ∈ ns, ascii a) (q : post (.d (.bl (!decide (ns = []))))) : OD K (rNeD K) (.lst (ns.map .str)) (.lst []) post := od_ne_ls (ms := []) h1 (fun _ h => by cases h) q
theorem md_sindex {l c : List Nat} {i : Nat} (h : Builtin.Str.occurrences (S l) (S c) 0 (S l).length 1 = [i]) (q : post (.d (.int (i : Nat)))) :
    MD K (fun x xs H Q => ∃ a b i rest, x = .str a ∧ xs = [.str b] ∧ Builtin.Str.occurrences a b 0 a.length 1 = i :: rest ∧ Q (.int (i : Nat)) H) (.str l) [.str c] post := by
  intro G F H v vs f rx rs Q k
  cases rx
  cases rs with
  | cons r1 r2 =>
    cases r2
    cases r1
    exact ⟨_, _, i, [], rfl, rfl, h, back_d f k (.int _) q⟩
theorem od_ne_sg {l : List Nat} (h1 : ascii l) (q : post (.d (.bl (!decide (l = []))))) : OD K (rNeD K) (.lst (l.map fun c => .str [c])) (.lst []) post := by
  have e : (l.map fun c => D.str [c]) = (l.map fun c => [c]).map .str := by rw [List.map_map]; rfl
  rw [e]
  refine od_ne_ls0 (fun a ha => ?_) ?_
  · obtain ⟨c, hc, rfl⟩ := List.mem_map.mp ha
    exact fun d hd => by rw [List.mem_singleton.mp hd]; exact h1 c hc
  · have : decide ((l.map fun c => [c]) = []) = decide (l = []) := by cases l <;> simp
    rw [this]; exact q
theorem cdivW {i j : Int} (h : 0 < j) (h2 : j.natAbs < 10 ^ 200) : CDivW i j := ⟨h, Nat.lt_trans (log2_small h2) (by decide)⟩
end
theorem restore_g {s t : Sl} {r r2 : List Sl} : restore (s :: r) (t :: r2) = rst s t :: restore r r2 := rfl
theorem rst_self {s : Sl} : rst s s = s := by cases s <;> simp [rst]
theorem rst_dr {s : Sl} {x : D} : rst s (.d x) = s := by cases s <;> rfl
theorem rst_nor {s : Sl} : rst s .no = s := by cases s <;> rfl
theorem noC1 {ρ : List Sl} {j : Nat} {z : Sl} (h : ρ[j]? = some z) (hz : z.adr = none) : NoC [j] ρ := by
  intro i hi p x e
  rw [List.mem_singleton.mp hi, h] at e
  cases e
  cases hz
/-! ### the least rotation -/
def rotW (s : List Nat) (k : Nat) : List Nat := s.drop k ++ s.take k
def leastB (t : List Nat) (k : Nat) : Bool := (List.range t.length).all fun j => decide (¬ rotW t j < rotW t k)
def leastAt (t : List Nat) : Nat := ((List.range t.length).find? (leastB t)).getD 0
theorem leastB_iff {t : List Nat} {k : Nat} : leastB t k = true ↔ ∀ j, j < t.length → ¬ rotW t j < rotW t k := by
  unfold leastB
  rw [List.all_eq_true]
  exact ⟨fun h j hj => of_decide_eq_true (h j (List.mem_range.mpr hj)), fun h j hj => decide_eq_true (h j (List.mem_range.mp hj))⟩
theorem least_some {t : List Nat} (h : ∃ k, k < t.length ∧ leastB t k = true) : leastAt t < t.length ∧ leastB t (leastAt t) = true ∧ ∀ i, i < leastAt t → leastB t i = false := by
  obtain ⟨k, hk, hp⟩ := h
  unfold leastAt
  cases hf : (List.range t.length).find? (leastB t) with
  | none => exact absurd hp (List.find?_eq_none.mp hf k (List.mem_range.mpr hk))
  | some j =>
    obtain ⟨h1, h2, h3⟩ := List.find?_range_eq_some.mp hf
    refine ⟨List.mem_range.mp h2, h1, fun i hi => ?_⟩
    have := h3 i hi
    simpa using this
theorem least_ok {t m : List Nat} (hm : m ∈ (List.range t.length).map (rotW t)) (hl : ∀ y ∈ (List.range t.length).map (rotW t), ¬ y < m) :
    leastAt t < t.length ∧ ((List.range t.length).map (rotW t))[leastAt t]? = some m ∧ ∀ i, i < leastAt t → ((List.range t.length).map (rotW t))[i]? ≠ some m := by
  obtain ⟨k, hk, rfl⟩ := List.mem_map.mp hm
  have hk := List.mem_range.mp hk
  have lk : leastB t k = true := leastB_iff.mpr fun j hj => hl _ (List.mem_map.mpr ⟨j, List.mem_range.mpr hj, rfl⟩)
  obtain ⟨h1, h2, h3⟩ := least_some ⟨k, hk, lk⟩
  have eq : rotW t (leastAt t) = rotW t k := List.le_antisymm (List.not_lt.mp (leastB_iff.mp h2 k hk)) (List.not_lt.mp (leastB_iff.mp lk _ h1))
  refine ⟨h1, ?_, fun i hi z => ?_⟩
  · rw [List.getElem?_map, List.getElem?_range h1]; exact congrArg some eq
  · have hi2 : i < t.length := Nat.lt_trans hi h1
    rw [List.getElem?_map, List.getElem?_range hi2] at z
    have z : rotW t i = rotW t k := Option.some.inj z
    have : leastB t i = true := leastB_iff.mpr fun j hj => by rw [z]; exact leastB_iff.mp lk j hj
    rw [h3 i hi] at this
    cases this
end DL
namespace DL
open PySem PySem.Spec PyProof.Rows L2
variable [HasT]
/-! ### the top's defs and constants -/
def DefAt (K : PySem.W.Frag) (x : Str) (st : Stmt) : Prop :=
  ∃ (f : Addr) (od an : Option Addr) (sl : Array (Option Value)) (oc kV dc pm cd ct : Value), PySem.W.nsIn K mainGlobals x = some (some (.ref f)) ∧
    K.lookup f = some ⟨oc, od, .func (PySem.W.fnOf x x (defArgs st) (defBody st) (defScope st) .none kV dc pm an cd ct), sl⟩ ∧ PySem.W.codeIn K cd x = true ∧ PySem.W.keepIn K (.ref f) = true
theorem defAt_mk {K : PySem.W.Frag} {x : Str} {st : Stmt} {f : Addr} {od an : Option Addr} {sl : Array (Option Value)} {oc kV dc pm cd ct : Value} (a : PySem.W.nsIn K mainGlobals x = some (some (.ref f)))
    (l : K.lookup f = some ⟨oc, od, .func (PySem.W.fnOf x x (defArgs st) (defBody st) (defScope st) .none kV dc pm an cd ct), sl⟩) (c : PySem.W.codeIn K cd x = true) (k : PySem.W.keepIn K (.ref f) = true) : DefAt K x st :=
  ⟨f, od, an, sl, oc, kV, dc, pm, cd, ct, a, l, c, k⟩
theorem constI_mk {K : PySem.W.Frag} {x : Str} {i : Int} {t : Tok} (a : PySem.W.nsIn K mainGlobals x = some (some (.int i t))) : ∃ t, PySem.W.nsIn K mainGlobals x = some (some (.int i t)) := ⟨t, a⟩
theorem constS_mk {K : PySem.W.Frag} {x : Str} {z : Str} {t : Tok} (a : PySem.W.nsIn K mainGlobals x = some (some (.str z t))) : ∃ t, PySem.W.nsIn K mainGlobals x = some (some (.str z t)) := ⟨t, a⟩
section
variable {K : PySem.W.Frag} {h : Heap} {mg : Str → Option Value} {x : Str} {st : Stmt}
theorem funAt_of {ps : List Str} (X : K.In h) (G : h.Ns mainGlobals mg) (D : DefAt K x st)
    (hb : ∀ (kV doc pm : Value) (an : Option Addr) (cdv ct : Value) (us : List Value), us.length = ps.length → bindArgs (PySem.W.fnOf x x (defArgs st) (defBody st) (defScope st) .none kV doc pm an cdv ct) ⟨us, []⟩ = pure (ps.zip us)) : FunAt K mg x st ps := by
  obtain ⟨f, od, an, sl, oc, kV, dc, pm, cd, ct, a, l, c, k⟩ := D
  have F := fun_mk (st := st) l c k
  exact ⟨f, _, F, PySem.W.mg_of X G a, F.binds (ps := ps) hb⟩
theorem constI_of {i : Int} (X : K.In h) (G : h.Ns mainGlobals mg) (D : ∃ t, PySem.W.nsIn K mainGlobals x = some (some (.int i t))) : ∃ t, mg x = some (.int i t) := by
  obtain ⟨t, D⟩ := D
  exact ⟨t, PySem.W.mg_of X G D⟩
theorem constS_of {z : Str} (X : K.In h) (G : h.Ns mainGlobals mg) (D : ∃ t, PySem.W.nsIn K mainGlobals x = some (some (.str z t))) : ∃ t, mg x = some (.str z t) := by
  obtain ⟨t, D⟩ := D
  exact ⟨t, PySem.W.mg_of X G D⟩
theorem mk_fn {P : Program} {w : World} {base : Heap} {N ps : List Str} {R : DSp} {k n m : Nat} {f : Addr} {fd : FuncData} (F : Fun K x x st f fd) (Sc : FnScope N ps (defScope st)) (hps : ps.length = n) (hN : N.length = n + m)
    (hbody : ∀ (f : Addr) (cdv : Value) (A : Around) (outer : List PySem.Env) (s : Shared) (H : Hp) (E : XK), Room k (A.deeper (envOfC x (defScope st) s.heap.objs.size f cdv)) →
      ∃ t, PSs (cxOf CX0 P w K mg base N x (defScope st) f cdv A outer s H E).nox (defBody st) t ∧ ∀ ρ post, ρ.length = n → R ρ post → SD K (ρ ++ List.replicate m .no) t { nx := endP n ρ post (.d .non), rt := endP n ρ post }) :
    FnOk P w K mg base CX0 (k + 1) f fd ps (spD K n R) := by
  refine F.ok Sc (fun vs H Q E h => (spD_len vs H Q E h).trans hps.symm) fun cdv A outer s H vs Q E hr h => ?_
  obtain ⟨t, ht, q⟩ := hbody f cdv A outer s H E hr
  exact ⟨t, ht, fn_body h hN q⟩
end
/-! ### a law's promise is met by a frozen list of ints -/
theorem reps_of_ints {K : PySem.W.Frag} {G : Hp} : ∀ ns : List Int, Reps K G (ns.map V.int) (ns.map .int)
  | [] => .nil
  | n :: ns => .cons (.int n) (reps_of_ints ns)
/-- of the heap: the script alone -/
def noT (H : Hp) (a : Addr) : Hp := fun b => if b = a then (match H a with | some (.lst xs) => some (.lst xs) | some (.frz o u) => some (.frz o u) | _ => none) else none
theorem noT_some {H : Hp} {a b : Addr} {o : HO} (h : noT H a b = some o) : b = a ∧ H b = some o ∧ ∀ ps, o ≠ .tbl ps := by
  unfold noT at h
  split at h
  · rename_i e
    subst e
    split at h
    · rename_i xs q; cases h; exact ⟨rfl, q, fun _ z => nomatch z⟩
    · rename_i x u q; cases h; exact ⟨rfl, q, fun _ z => nomatch z⟩
    · cases h
  · cases h
theorem law_in {K : PySem.W.Frag} {H : Hp} {a : Addr} {ns : List Int} {R : DSp} {Q : VK} {E : XK} (hS : SqL K H a (ns.map V.int)) (hT : ∀ p ∈ HasT.T, H p.1 = some (.tbl #[]))
    (hR : ∀ post, (∀ ρ2, post (.d (.bl true)) ρ2) → R [.d (.lst (ns.map .int))] post) (hQ : ∀ H', Q (.bl true) H') : spD K 1 R [.ref a] H Q E := by
  have hS2 : SqL K (noT H a) a (ns.map V.int) := by
    rcases hS with (h | ⟨o, h⟩) | h
    · exact .inl (.inl (by unfold noT; rw [if_pos rfl, h]))
    · exact .inl (.inr ⟨o, by unfold noT; rw [if_pos rfl, h]⟩)
    · exact .inr h
  refine ⟨rfl, noT H a, fun _ => none, [.d (.lst (ns.map .int))], fun z _ => z = .d (.bl true), ⟨fun b o e => (noT_some e).2.1, (fun b o e => by cases e), fun _ _ _ => rfl, fun p hp => LamX.TabS.nil (hT p hp), (fun b φ e => by cases e), fun b ps e => (noT_some e).2.2 ps rfl, fun b φ e => by cases e⟩, ⟨rfl, fun i s hs => ?_, List.nodup_nil⟩, hR _ fun _ => rfl, fun u z ρ' G' F' H' _ _ _ r e => ?_⟩
  · cases i with
    | zero => cases hs; exact ⟨some (.ref a), rfl, .ref a, rfl, .lst hS2 (reps_of_ints ns)⟩
    | succ i => cases hs
  · subst e
    cases r
    exact hQ H'
end DL
namespace DL
open PySem PySem.Spec PySem.W PyProof.Rows L2
variable [HasT]
/-! ### min(xs, key=f), f an own def -/
def dOf : Rs → D
  | .d x => x
  | .n x => x
/-- the place of the first of the least keys -/
def bestK (kd : Nat → D) : Nat → Nat := argBest (fun i j => dataLt (toP (kd i)) (toP (kd j)))
structure LSt (X : Cx) (pins : List (Addr × Obj)) (σ : L2.St) (G0 F0 : Hp) (l it S : Addr) (i : Nat) (s : Shared) (G F H : Hp) : Prop where
  g : Same G0 G
  f : Same F0 F
  fr : Fr G F H
  I : Inv X pins σ H s
  ui : H it = none
  uS : H S = none
  hit : s.heap.IsListIter it l i
section
variable {X : Cx} {pins : List (Addr × Obj)} {σ : L2.St} {G0 F0 : Hp} {l it S f : Addr} {xs : List V} {ds : List D} {kd : Nat → D} {R : DSp} {k : Nat} {A : Around} {Rz : Result → Shared → Prop}
theorem key_call {i j : Nat} {s : Shared} {G F H : Hp} {x : V} {u : Value} {d : D} {oS : Obj} {E : Value → Shared → Prop} {Q : Value → Shared → Prop}
    (Fn : FnR X.prog X.w X.K X.mg X.base CX0 k f (spD X.K 1 R)) (hr : Room k A) (hA : A.frames = some X.stack) (ri : FbM.Rec X pins it) (rS : FbM.Rec X pins S) (L : LSt X pins σ G0 F0 l it S j s G F H) (hS : s.heap.get? S = some oS)
    (rx : RelV x u) (rd : Rep X.K G x d) (hk : R [.d d] fun z _ => dOf z = kd i)
    (q : ∀ ku s' G' F' H' kv, LSt X pins σ G0 F0 l it S j s' G' F' H' → s'.heap.get? S = some oS → RelV kv ku → Rep X.K G' kv (kd i) → Same G G' → Q ku s') :
    wpAny (model X.prog X.w) A (call (.ref f) [u]) Q E s := by
  have e0 := L.I.env0
  have e1 : Env0 X.prog X.w X.K X.mg X.base A X.stack s H := ⟨hA, e0.mod, e0.bs, e0.bsz, e0.funs, e0.frf, e0.hok, e0.bare⟩
  have D : spD X.K 1 R [x] H (fun v H' => ∃ G' F', Same G G' ∧ Same F F' ∧ Fr G' F' H' ∧ Rep X.K G' v (kd i)) E0 := by
    refine ⟨rfl, G, F, [.d d], _, L.fr, ⟨rfl, fun i s hs => ?_, cells_none (by simp [Sl.adr])⟩, hk, fun v z ρ' G' F' H' nx sh en ok po => ?_⟩
    · cases i with
      | zero => cases hs; exact ⟨_, rfl, x, rfl, rd⟩
      | succ i => cases hs
    · have kp : ∀ b o, F b = some o → F' b = some o := fun b o hb => nx.keep b o hb (by simp [cells, Sl.adr])
      cases z with
      | d y => exact ⟨G', F', nx.ex, kp, nx.fr, (show y = kd i from po) ▸ ok⟩
      | n y =>
        obtain ⟨p, rfl, hp, hc, hn⟩ := ok
        obtain ⟨G2, F2, e1, f2, hf, ev2, r⟩ := nx_give nx.fr en hc hn
        refine ⟨G2, F2, nx.ex.trans e1, fun b o hb => ?_, f2, (show y = kd i from po) ▸ r⟩
        have hbp : b ≠ p := fun z => by rw [z, hp] at hb; cases hb
        exact (hf b hbp).trans (kp b o hb)
  refine wpAny_call (codeAny_mono (Fn A X.stack s H [u] [x] _ E0 hr e1 (.cons rx .nil) D) fun rr s2 hrr => ?_)
  cases rr with
  | error e => exact False.elim hrr
  | ok fl =>
    cases fl with
    | next => exact False.elim hrr
    | brk => exact False.elim hrr
    | cont => exact False.elim hrr
    | ret v =>
      obtain ⟨v', H', os, bare, un, hok, rv', G', F', g', f', fr', rp⟩ := (show CE X.stack X.prog X.w H _ _ v s2 from hrr)
      have I2 : Inv X pins σ H' s2 := L.I.call' os un hok bare (fun b y => absurd y List.not_mem_nil)
      have keep : ∀ {b : Addr} {o : Obj}, FbM.Rec X pins b → H b = none → s.heap.get? b = some o → s2.heap.get? b = some o := fun rb ub eb => un.keep _ _ eb ub rb.fr List.not_mem_nil
      obtain ⟨oi, ho, hc, hdt⟩ := id L.hit
      exact q v s2 G' F' H' v' ⟨L.g.trans g', fun b o hb => f' b o (L.f b o hb), fr', I2, un.free _ _ ho L.ui List.not_mem_nil, un.free _ _ hS L.uS List.not_mem_nil, oi, keep ri L.ui ho, hc, hdt⟩ (keep rS L.uS hS) rv' rp g'
theorem mk_loop (hh : A.handled = none) (hr : Room k A.in1) (hA : A.frames = some X.stack) (Fn : FnR X.prog X.w X.K X.mg X.base CX0 k f (spD X.K 1 R)) (ri : FbM.Rec X pins it) (rS : FbM.Rec X pins S) (Si : S ≠ it) (li : l ≠ it) (lS : l ≠ S) (kw : List (Str × Value))
    (hl : ∀ G F H, Same G0 G → Same F0 F → Fr G F H → SqL X.K H l xs) (hd : Reps X.K G0 xs ds) (hk : ∀ i d, ds[i]? = some d → R [.d d] fun z _ => dOf z = kd i)
    (hal : ∀ i j, i < xs.length → j < xs.length → alike (toP (kd i)) (toP (kd j)) = true) (hok : ∀ i, i < xs.length → okD (kd i) = true ∧ toP (kd i) ≠ .none ∧ depD (kd i) ≤ 60)
    (hR : ∀ xv u s' G F H, xs[bestK kd (xs.length - 1)]? = some xv → RelV xv u → Same G0 G → Same F0 F → Fr G F H → Inv X pins σ H s' → Rz (.ok (.ret u)) s') :
    ∀ (n j : Nat) (s : Shared) (G F H : Hp) (vb kb : Value) (xb kv : V) (c : Nat), xs.length - (j + 1) = n → j + 1 ≤ xs.length → LSt X pins σ G0 F0 l it S (j + 1) s G F H → xs[bestK kd j]? = some xb → RelV xb vb → RelV kv kb → Rep X.K G kv (kd (bestK kd j)) →
      s.heap.get? S = some { cls := .type "list", dict := none, data := .seq #[vb, kb] c, slots := #[] } → codeAny (model X.prog X.w) A (.builtin "min.loop" ⟨[.ref it, .ref f, .ref S], kw⟩) Rz s := by
  have hname : (toString "min" ++ toString ".loop" : String) = "min.loop" := by decide
  intro n
  induction n with
  | zero =>
    intro j s G F H vb kb xb kv c hn hj L hxb rb rk rpk hS
    have hin : j + 1 = xs.length := by omega
    obtain ⟨its, rv, pl, _⟩ := L.I.list (hl G F H L.g L.f L.fr)
    refine codeAny_builtin PySem.F.entry_min_loop ?_
    rw [Around.under_plainId PySem.F.plain_min_loop _]
    show wpAny _ A.in1 (seqItems? (.ref S) >>= _) _ _ s
    refine wpAny_bind (wpAny_seqItems hS rfl ?_)
    show wpAny _ A.in1 (tryCatch (pyNext (.ref it)) _ >>= _) _ _ s
    refine wpAny_bind (wpAny_tryCatch (wpAny_pyNext_list_end (show A.in1.handled = none from hh) L.hit pl.isList (by simp; rw [← rv.length]; omega) fun h' he => ?_))
    have hS' : h'.get? S = some { cls := .type "list", dict := none, data := .seq #[vb, kb] c, slots := #[] } := he S _ Si hS
    have I2 : Inv X pins σ H { s with heap := h' } := ri.turn (t' := s.toks) L.I L.ui fun c o hc e => he c o hc e
    show wpAny _ A.in1 (updateSeq S (fun _ => #[]) >>= _) _ _ _
    refine wpAny_bind ?_
    refine wpAny_updateSeq hS' rfl (wpAny_bind (wpAny_letGo (wpAny_pure ?_)))
    have e1 : j = xs.length - 1 := by omega
    subst e1
    refine hR xb vb _ G F H hxb rb L.g L.f L.fr ?_
    exact rS.turn (t' := s.toks) I2 L.uS fun c o hc e => (Heap.get?_update_other _ _ (Ne.symm hc)).trans e
  | succ n ih =>
    intro j s G F H vb kb xb kv c hn hj L hxb rb rk rpk hS
    have hlt : j + 1 < xs.length := by omega
    have bj : bestK kd j < xs.length := (List.getElem?_eq_some_iff.mp hxb).1
    obtain ⟨its, rv, pl, _⟩ := L.I.list (hl G F H L.g L.f L.fr)
    have hxi : xs[j + 1]? = some xs[j + 1] := List.getElem?_eq_getElem hlt
    obtain ⟨u, hu, rx⟩ := rv.get hxi
    obtain ⟨d, hdi, rd⟩ := hd.getv hxi
    refine codeAny_builtin PySem.F.entry_min_loop ?_
    rw [Around.under_plainId PySem.F.plain_min_loop _]
    show wpAny _ A.in1 (seqItems? (.ref S) >>= _) _ _ s
    refine wpAny_bind (wpAny_seqItems hS rfl ?_)
    show wpAny _ A.in1 (tryCatch (pyNext (.ref it)) _ >>= _) _ _ s
    refine wpAny_bind (wpAny_tryCatch (wpAny_pyNext_list_item L.hit pl.isList (x := u) (by simpa using hu) fun h1 hit1 sb1 => ?_))
    have hS1 : h1.get? S = some { cls := .type "list", dict := none, data := .seq #[vb, kb] c, slots := #[] } := sb1.extBut S _ Si hS
    have I1 : Inv X pins σ H { s with heap := h1 } := ri.turn (t' := s.toks) L.I L.ui fun c o hc e => sb1.extBut c o hc e
    have L1 : LSt X pins σ G0 F0 l it S (j + 2) { s with heap := h1 } G F H := ⟨L.g, L.f, L.fr, I1, L.ui, L.uS, hit1⟩
    show wpAny _ A.in1 (tryCatch (holding [u] (call (.ref f) [u])) _ >>= _) _ _ _
    refine wpAny_bind (wpAny_tryCatch (wpAny_holding (key_call (i := j + 1) Fn hr (show A.in1.frames = _ from hA) ri rS L1 hS1 rx (rd.mono L.g) (hk _ _ hdi) fun kx s2 G2 F2 H2 kv2 L2 hS2 rk2 rp2 g2 => ?_)))
    show wpAny _ A.in1 (tryCatch (holding [u, kx] (richCompare .Lt kx kb >>= _)) _ >>= _) _ _ _
    have ok1 := hok _ hlt
    have ok2 := hok _ bj
    obtain ⟨as1, rd1⟩ := Dp.reads L2.I _ _ _ (Rep.dp (rp2.mono L2.fr.g) ok1.1) rk2
    obtain ⟨as2, rd2⟩ := Dp.reads L2.I _ _ _ (Rep.dp (rpk.mono (g2.trans L2.fr.g)) ok2.1) rk
    refine wpAny_bind (wpAny_tryCatch (wpAny_holding (wpAny_bind (rcLt_alike _ _ _ s2 kx kb _ _ rd1 rd2 (hal _ _ hlt bj) ok1.2.1 ?_ X.prog X.w _ _ ?_))))
    · have := hr.units
      rw [dep_eq _ ok1.1, dep_eq _ ok2.1]
      omega
    refine wpAny_bind (wpAny_holding (wpAny_truthy_bool ?_))
    refine wpAny_bind (wpAny_letGo (wpAny_pure ?_))
    cases hb : dataLt (toP (kd (j + 1))) (toP (kd (bestK kd j))) with
    | true =>
      have eb : bestK kd (j + 1) = j + 1 := by unfold bestK at hb ⊢; simp only [argBest, hb, if_true]
      simp only [if_true]
      refine wpAny_bind ?_
      refine wpAny_updateSeq hS2 rfl (wpAny_bind (wpAny_letGo ?_))
      rw [hname]
      have I3 : Inv X pins σ H2 { s2 with heap := s2.heap.update S (Obj.mapSeq fun _ => #[u, kx]) } := rS.turn (t' := s2.toks) L2.I L2.uS fun c o hc e => (Heap.get?_update_other _ _ (Ne.symm hc)).trans e
      obtain ⟨oi, ho, hc, hdt⟩ := id L2.hit
      refine wpAny_pure ⟨plainId_quiet PySem.F.plain_min_loop _, ih (j + 1) _ G2 F2 H2 u kx xs[j + 1] kv2 _ (by omega) hlt ⟨L2.g, L2.f, L2.fr, I3, L2.ui, L2.uS, oi, (Heap.get?_update_other _ _ Si).trans ho, hc, hdt⟩ (by rw [eb]; exact hxi) rx rk2 (by rw [eb]; exact rp2) (Heap.get?_update_self _ hS2 rfl)⟩
    | false =>
      have eb : bestK kd (j + 1) = bestK kd j := by unfold bestK at hb ⊢; simp only [argBest, hb, Bool.false_eq_true, if_false]
      simp only [Bool.false_eq_true, if_false]
      refine wpAny_bind (wpAny_letGo ?_)
      rw [hname]
      exact wpAny_pure ⟨plainId_quiet PySem.F.plain_min_loop _, ih (j + 1) _ G2 F2 H2 vb kb xb kv _ (by omega) hlt L2 (by rw [eb]; exact hxb) rb rk (by rw [eb]; exact rpk.mono g2) hS2⟩
end
end DL
namespace DL
open PySem PySem.Spec PySem.W PyProof.Rows L2
variable [HasT]
section
variable {X : Cx} {pins : List (Addr × Obj)} {σ : L2.St} {G0 F0 : Hp} {l it S f : Addr} {xs : List V} {ds : List D} {kd : Nat → D} {R : DSp} {k : Nat}
theorem mk_first {A : Around} {Rz : Result → Shared → Prop} (hh : A.handled = none) (hr : Room k A.in1) (hA : A.frames = some X.stack) (Fn : FnR X.prog X.w X.K X.mg X.base CX0 k f (spD X.K 1 R)) (ri : FbM.Rec X pins it) (rS : FbM.Rec X pins S) (Si : S ≠ it) (li : l ≠ it) (lS : l ≠ S) (kw : List (Str × Value))
    (hl : ∀ G F H, Same G0 G → Same F0 F → Fr G F H → SqL X.K H l xs) (hd : Reps X.K G0 xs ds) (hk : ∀ i d, ds[i]? = some d → R [.d d] fun z _ => dOf z = kd i)
    (hal : ∀ i j, i < xs.length → j < xs.length → alike (toP (kd i)) (toP (kd j)) = true) (hok : ∀ i, i < xs.length → okD (kd i) = true ∧ toP (kd i) ≠ .none ∧ depD (kd i) ≤ 60)
    (hR : ∀ xv u s' G F H, xs[bestK kd (xs.length - 1)]? = some xv → RelV xv u → Same G0 G → Same F0 F → Fr G F H → Inv X pins σ H s' → Rz (.ok (.ret u)) s') (hn : 0 < xs.length)
    {s : Shared} {G F H : Hp} {c : Nat} (L : LSt X pins σ G0 F0 l it S 0 s G F H) (hS : s.heap.get? S = some { cls := .type "list", dict := none, data := .seq #[] c, slots := #[] }) :
    codeAny (model X.prog X.w) A (.builtin "min.loop" ⟨[.ref it, .ref f, .ref S], kw⟩) Rz s := by
  have hname : (toString "min" ++ toString ".loop" : String) = "min.loop" := by decide
  obtain ⟨its, rv, pl, _⟩ := L.I.list (hl G F H L.g L.f L.fr)
  have hxi : xs[0]? = some xs[0] := List.getElem?_eq_getElem hn
  obtain ⟨u, hu, rx⟩ := rv.get hxi
  obtain ⟨d, hdi, rd⟩ := hd.getv hxi
  refine codeAny_builtin PySem.F.entry_min_loop ?_
  rw [Around.under_plainId PySem.F.plain_min_loop _]
  show wpAny _ A.in1 (seqItems? (.ref S) >>= _) _ _ s
  refine wpAny_bind (wpAny_seqItems hS rfl ?_)
  show wpAny _ A.in1 (tryCatch (pyNext (.ref it)) _ >>= _) _ _ s
  refine wpAny_bind (wpAny_tryCatch (wpAny_pyNext_list_item L.hit pl.isList (x := u) (by simpa using hu) fun h1 hit1 sb1 => ?_))
  have hS1 : h1.get? S = some { cls := .type "list", dict := none, data := .seq #[] c, slots := #[] } := sb1.extBut S _ Si hS
  have I1 : Inv X pins σ H { s with heap := h1 } := ri.turn (t' := s.toks) L.I L.ui fun c o hc e => sb1.extBut c o hc e
  have L1 : LSt X pins σ G0 F0 l it S 1 { s with heap := h1 } G F H := ⟨L.g, L.f, L.fr, I1, L.ui, L.uS, hit1⟩
  show wpAny _ A.in1 (tryCatch (holding [u] (call (.ref f) [u])) _ >>= _) _ _ _
  refine wpAny_bind (wpAny_tryCatch (wpAny_holding (key_call (i := 0) Fn hr (show A.in1.frames = _ from hA) ri rS L1 hS1 rx (rd.mono L.g) (hk _ _ hdi) fun kx s2 G2 F2 H2 kv2 L2 hS2 rk2 rp2 g2 => ?_)))
  show wpAny _ A.in1 (updateSeq S (fun _ => #[u, kx]) >>= _) _ _ _
  refine wpAny_bind ?_
  refine wpAny_updateSeq hS2 rfl ?_
  rw [hname]
  have I3 : Inv X pins σ H2 { s2 with heap := s2.heap.update S (Obj.mapSeq fun _ => #[u, kx]) } := rS.turn (t' := s2.toks) L2.I L2.uS fun c o hc e => (Heap.get?_update_other _ _ (Ne.symm hc)).trans e
  obtain ⟨oi, ho, hc, hdt⟩ := id L2.hit
  refine wpAny_pure ⟨plainId_quiet PySem.F.plain_min_loop _, mk_loop hh hr hA Fn ri rS Si li lS _ hl hd hk hal hok hR _ 0 _ G2 F2 H2 u kx xs[0] kv2 _ rfl hn ⟨L2.g, L2.f, L2.fr, I3, L2.ui, L2.uS, oi, (Heap.get?_update_other _ _ Si).trans ho, hc, hdt⟩ hxi rx rk2 rp2 (Heap.get?_update_self _ hS2 rfl)⟩
/-- a list's place: given up, or a cell's -/
def LAt (K : PySem.W.Frag) (G F : Hp) (l : Addr) (xs : List V) : Prop := SqL K G l xs ∨ F l = some (.lst xs)
theorem LAt.sq {K : PySem.W.Frag} {G F G' F' H' : Hp} (h : LAt K G F l xs) (g : Same G G') (f : Same F F') (fr : Fr G' F' H') : SqL K H' l xs := by
  rcases h with h | h
  · exact (g.trans fr.g).seq h
  · exact .inl (.inl (fr.f _ _ (f _ _ h)))
def rMinK (K : PySem.W.Frag) (R : DSp) (v : V) (H : Hp) (Q : VK) : Prop := ∃ (l : Addr) (xs : List V) (G F : Hp) (ds : List D) (kd : Nat → D), v = .ref l ∧ Fr G F H ∧ LAt K G F l xs ∧ Reps K G xs ds ∧ 0 < xs.length ∧
  (∀ i d, ds[i]? = some d → R [.d d] fun z _ => dOf z = kd i) ∧ (∀ i j, i < xs.length → j < xs.length → alike (toP (kd i)) (toP (kd j)) = true) ∧ (∀ i, i < xs.length → okD (kd i) = true ∧ toP (kd i) ≠ .none ∧ depD (kd i) ≤ 60) ∧
  ∀ xv G' F' H', xs[bestK kd (xs.length - 1)]? = some xv → Same G G' → Same F F' → Fr G' F' H' → Q xv H'
theorem mink_call (hc : X.calm = true) (hr : Room (k + 1) X.A) (Fn : FnR X.prog X.w X.K X.mg X.base CX0 k f (spD X.K 1 R)) {s : Shared} {H : Hp} {v : V} {u : Value} {Q : VK} (I : Inv X pins σ H s) (rv : RelV v u) (h : rMinK X.K R v H Q) :
    wpAny (model X.prog X.w) X.A (call (.builtin "min") [u] [(Str.ofString "key", .ref f)]) (L2.EP X pins σ Q) X.xe s := by
  obtain ⟨l, xs, G, F, ds, kd, rfl, fr, la, hd, hn, hk, hal, hok, q⟩ := h
  obtain rfl : u = .ref l := rv
  have hname : (toString "min" ++ toString ".loop" : String) = "min.loop" := by decide
  obtain ⟨its, rvs, pl, _⟩ := I.list (la.sq (.refl _) (.refl _) fr)
  have hlt : l < s.heap.objs.size := by obtain ⟨_, e, _⟩ := pl.isList; exact Heap.lt_size e
  refine PyProof.Rows.kmk_tree PySem.F.kind_min PySem.F.plain_min PySem.F.entry_min (PyProof.Rows.kmk_min_key _ _) ?_
  show wpAny _ X.A.in1 (Builtin.Builtins.bindParams "min" ["key", "default"] 0 ⟨[], [(Str.ofString "key", .ref f)]⟩ >>= _) _ _ s
  refine wpAny_bind (wpAny_of_eq (show Builtin.Builtins.bindParams "min" ["key", "default"] 0 ⟨[], [(Str.ofString "key", .ref f)]⟩ = pure [some (.ref f), none] from rfl) ?_)
  refine wpAny_bind (wpAny_pure ?_)
  refine wpAny_bind (wpAny_pyIter_list pl.isList ?_)
  refine wpAny_bind (wpAny_newObj_type ?_)
  rw [hname]
  have ri := FbM.rec_new I (b := s.heap.objs.size) (Nat.le_refl _)
  have rS := FbM.rec_new I (b := s.heap.objs.size + 1) (Nat.le_succ _)
  generalize hI : (s.heap.push { cls := .type "list_iterator", data := .fields #[.ref l, .int 0 0] }) = h1
  have sz1 : h1.objs.size = s.heap.objs.size + 1 := by rw [← hI, Heap.size_push]
  have k1 : ∀ b o, s.heap.get? b = some o → h1.get? b = some o := fun b o e => by rw [← hI]; exact Heap.get?_push_of_some _ e
  have it1 : h1.IsListIter s.heap.objs.size l 0 := by rw [← hI]; exact ⟨_, Heap.get?_push_size _ rfl, rfl, rfl⟩
  show wpAny _ _ (pure _) _ _ _
  refine wpAny_pure ⟨plainId_quiet PySem.F.plain_min_loop _, ?_⟩
  simp only [sz1]
  have k2 : ∀ b o, s.heap.get? b = some o → (h1.push { cls := .type "list", data := .seq #[] 0 }).get? b = some o := fun b o e => Heap.get?_push_of_some _ (k1 b o e)
  refine mk_first (G0 := G) (F0 := F) (G := G) (F := F) (H := H) (I.ok.hd hc) hr.in1 I.ok.frames Fn ri rS (Nat.succ_ne_self _) (Nat.ne_of_lt hlt) (Nat.ne_of_lt (Nat.lt_succ_of_lt hlt)) _ (fun G' F' H' g f fr' => la.sq g f fr') hd hk hal hok (fun xv u s' G' F' H' e rx g f fr' I' => ⟨xv, H', I', rx, q xv G' F' H' e g f fr'⟩) hn
    ⟨.refl _, .refl _, fr, I.kept (t' := s.toks) k2, I.hok.fresh (Nat.le_refl _), I.hok.fresh (Nat.le_succ _), ?_⟩ (by rw [← sz1]; exact Heap.get?_push_size _ rfl)
  obtain ⟨oi, ho, hcl, hdt⟩ := it1
  exact ⟨oi, Heap.get?_push_of_some _ ho, hcl, hdt⟩
end
end DL
namespace DL
open PySem PySem.Spec PySem.W PyProof.Rows L2
variable [HasT]
def tMinK (K : PySem.W.Frag) (R : DSp) (te : TE) : TE := fun σ H Q => te σ H fun v H1 => rMinK K R v H1 Q
theorem k_minK {X : Cx} {K : PySem.W.Frag} {x : Str} {k : Nat} {ps : List Str} {R : DSp} {p p2 kp pos : Pos} {e : Expr} {te : TE} (hK : X.K = K) (hc : X.calm = true) (Dk : DOk X.prog X.w X.K X.mg X.base x k ps (spD X.K 1 R)) (hr : Room (k + 1) X.A) (hmin : X.mg "min" = none) (ha : PA X [e] (tCons te tNil))
    (hgm : Gl X "min" := by rfl) (hg : Gl X x := by rfl) (hdb : (x == ("__debug__" : Str)) = false := by decide)
    (h1 : backTo pos (starEach [e] X.env) = (false, eval e X.env) :: backTo pos (starEach [] X.env) := by rfl) (h2 : (backTo pos (starEach [e] X.env)).any (·.1) = false := by rfl)
    (h3 : (backToKw pos (keywordEach [⟨some (Str.ofString "key"), .Name x p2, kp⟩] X.env)).all (·.1.isSome) = true := by rfl) (h4 : (backToKw pos (keywordEach [⟨some (Str.ofString "key"), .Name x p2, kp⟩] X.env)).any (·.1.isNone) = false := by rfl)
    (h5 : (backToKw pos (keywordEach [⟨some (Str.ofString "key"), .Name x p2, kp⟩] X.env)).filterMap (·.1) = [Str.ofString "key"] := by rfl) :
    PE X (.Call (.Name "min" p) [e] [⟨some (Str.ofString "key"), .Name x p2, kp⟩] pos) (tMinK K R te) := by
  subst hK
  obtain ⟨f, fd, m1, m2, m3, m4⟩ := Dk
  have Fn : FnR X.prog X.w X.K X.mg X.base CX0 k f (spD X.K 1 R) := by
    have := m4.raw m3.1 .nil
    simpa using this
  have hk : PK X [⟨some (Str.ofString "key"), .Name x p2, kp⟩] (tCons (tC (.ref f)) tNil) := pk_cons (pe_glob (pos := p2) hg m1 (v := .ref f) rfl hdb) pk_nil
  refine ⟨fun pins s σ H Q I h => ?_⟩
  refine wpAny_Call_Name_kw (ld_blt I hgm hmin (show bootBuiltins "min" = some (.builtin "min") by decide +kernel) ?_ (by decide) (by decide))
  refine PyProof.Rows.callWith_kw (thn (ha.run pos pins s σ H (fun vs H1 => match vs with | [v] => rMinK X.K R v H1 Q | _ => False) I h) fun us s1 ⟨vs, H1, I1, r1, q1⟩ => ?_) h1 h2 h3 h4
  match vs, q1 with
  | [v], q1 =>
    refine thn (hk.run pos pins s1 σ H1 (fun zs H2 => zs = [.ref f] ∧ rMinK X.K R v H2 Q) I1 ⟨rfl, q1⟩) fun ws s2 ⟨zs, H2, I2, r2, e2, q2⟩ => ?_
    subst e2
    rw [h5]
    obtain ⟨u, rfl, ru⟩ := vals1 r1
    obtain ⟨w1, rfl, e1⟩ := vals1 r2
    obtain rfl : w1 = Value.ref f := e1
    exact mink_call hc hr Fn I2 ru q2
/-! ### the first of the least -/
theorem best_ok {N : Nat} {lt : Nat → Nat → Prop} {f : Nat → Nat → Bool} (hf : ∀ i j, i ≤ N → j ≤ N → (f i j = true ↔ lt i j)) (asy : ∀ a b, lt a b → ¬ lt b a) (ntr : ∀ a b c, lt a b → lt a c ∨ lt c b) : ∀ n, n ≤ N → argBest f n ≤ n ∧ (∀ j, j ≤ n → ¬ lt j (argBest f n)) ∧ ∀ j, j < argBest f n → lt (argBest f n) j := by
  intro n
  induction n with
  | zero => exact fun _ => ⟨Nat.le_refl _, fun j hj => by
      have : j = 0 := by omega
      subst this
      exact fun h => asy _ _ h h, fun j hj => absurd hj (Nat.not_lt_zero _)⟩
  | succ n ih =>
    intro hN
    obtain ⟨i1, i2, i3⟩ := ih (by omega)
    by_cases hb : f (n + 1) (argBest f n) = true
    · have eb : argBest f (n + 1) = n + 1 := by simp only [argBest, hb, if_true]
      rw [eb]
      have key : ∀ j, j ≤ n → lt (n + 1) j := fun j hj => (ntr _ _ j ((hf _ _ hN (by omega)).mp hb)).elim id fun z => absurd z (i2 j hj)
      refine ⟨Nat.le_refl _, fun j hj => ?_, fun j hj => key j (by omega)⟩
      by_cases e : j = n + 1
      · subst e; exact fun h => asy _ _ h h
      · exact asy _ _ (key j (by omega))
    · have eb : argBest f (n + 1) = argBest f n := by simp only [argBest, hb, if_false, Bool.false_eq_true]
      rw [eb]
      refine ⟨by omega, fun j hj => ?_, i3⟩
      by_cases e : j = n + 1
      · subst e; exact fun h => hb ((hf _ _ hN (by omega)).mpr h)
      · exact i2 j (by omega)
theorem listLt_ntr {a b : List Int} (c : List Int) (h : a < b) : a < c ∨ c < b := by
  by_cases h1 : a < c
  · exact .inl h1
  · exact .inr (List.lt_of_le_of_lt (List.not_lt.mp h1) h)
section
variable {K : PySem.W.Frag} {ρ : List Sl} {te : TE} {post : Ar → List Sl → Prop} {R : DSp}
theorem ed_minK (h : ED K ρ te fun a ρ1 => ∃ ds kd, arD ρ1 a = .lst ds ∧ 0 < ds.length ∧ (∀ i d, ds[i]? = some d → R [.d d] fun z _ => dOf z = kd i) ∧ (∀ i j, i < ds.length → j < ds.length → alike (toP (kd i)) (toP (kd j)) = true) ∧
    (∀ i, i < ds.length → okD (kd i) = true ∧ toP (kd i) ≠ .none ∧ depD (kd i) ≤ 60) ∧ ∀ d, ds[bestK kd (ds.length - 1)]? = some d → post (.d d) ρ1) : ED K ρ (tMinK K R te) post := by
  intro G F H σ f e Q k
  refine h G F H σ f e _ fun v a ρ1 G1 F1 H1 s1 sh1 e1 o1 w1 ⟨ds, kd, ea, hn, hk, hal, hok, po⟩ => ?_
  have main : ∀ l xs, v = .ref l → LAt K G1 F1 l xs → Reps K G1 xs ds → rMinK K R v H1 Q := fun l xs ev la r => by
    have hl := r.len
    refine ⟨l, xs, G1, F1, ds, kd, ev, s1.fr, la, r, by omega, hk, by rw [hl]; exact hal, by rw [hl]; exact hok, fun xv G' F' H' ex g' f' fr' => ?_⟩
    obtain ⟨d, hd, rd⟩ := r.getv ex
    rw [hl] at hd
    have s3 : Nx ρ1 G1 F1 ρ1 G' F' H' := ⟨g', fr', fun b o h _ => f' b o h, fun _ h => .inl h⟩
    have e3 : Env K G' F' σ ρ1 := e1.mono g' fun p hp => by
      obtain ⟨i, x, e⟩ := cells_mem hp
      obtain ⟨o, ho⟩ := (e1.cell e).2.some
      rw [ho, f' _ _ ho]
    exact k xv (.d d) ρ1 G' F' H' (s1.trans s3) sh1 e3 (rd.mono g') .d (po d hd)
  cases a with
  | d x =>
    have ea : x = .lst ds := ea
    subst ea
    cases o1 with
    | lst h1 h2 => exact main _ _ rfl (.inl h1) h2
  | c i =>
    obtain ⟨p, x, hx, rfl⟩ := o1
    have hc := (e1.cell hx).2
    have ea : (match ρ1[i]? with | some (.cell _ x) => x | _ => D.non) = .lst ds := ea
    rw [hx] at ea
    have ea : x = .lst ds := ea
    subst ea
    obtain ⟨xs, h1, h2⟩ := hc
    exact main _ _ rfl (.inr h1) h2
  | n p x =>
    obtain ⟨rfl, hc, _⟩ := o1
    have ea : x = .lst ds := ea
    subst ea
    obtain ⟨xs, h1, h2⟩ := hc
    exact main _ _ rfl (.inr h1) h2
theorem toPs_int : ∀ ns : List Int, toPs (ns.map .int) = ns.map .int
  | [] => rfl
  | n :: ns => by simp only [List.map_cons, toPs, toP, toPs_int ns]
theorem alikeAll_int : ∀ ns ms : List Int, alikeAll (ns.map .int) (ms.map .int) = true
  | [], _ => by simp [alikeAll]
  | _ :: _, [] => by simp [alikeAll]
  | n :: ns, m :: ms => by simp only [List.map_cons, alikeAll, alike, alikeAll_int ns ms, Bool.and_self]
/-- keys that are lists of ints -/
theorem ed_minKI {α : Type} (c : α → D) (key : α → List Int) (h : ED K ρ te fun a ρ1 => ∃ ss : List α, arD ρ1 a = .lst (ss.map c) ∧ ss ≠ [] ∧ (∀ x ∈ ss, R [.d (c x)] fun z _ => dOf z = .lst ((key x).map .int)) ∧
    ∀ m ∈ ss, (∀ y ∈ ss, ¬ key y < key m) → post (.d (c m)) ρ1) : ED K ρ (tMinK K R te) post := by
  refine ed_minK (h.imp fun a ρ1 ⟨ss, ea, hne, hk, po⟩ => ?_)
  have hn : 0 < ss.length := List.length_pos_iff.mpr hne
  refine ⟨ss.map c, fun i => match ss[i]? with | some x => .lst ((key x).map .int) | none => .non, ea, by rw [List.length_map]; exact hn, fun i d hd => ?_, fun i j hi hj => ?_, fun i hi => ?_, fun d hd => ?_⟩
  · rw [List.getElem?_map] at hd
    obtain ⟨x, hx, rfl⟩ := Option.map_eq_some_iff.mp hd
    simp only [hx]
    exact hk x (List.mem_of_getElem? hx)
  · rw [List.length_map] at hi hj
    simp only [List.getElem?_eq_getElem hi, List.getElem?_eq_getElem hj, toP, toPs_int, alike]
    exact alikeAll_int _ _
  · rw [List.length_map] at hi
    simp only [List.getElem?_eq_getElem hi]
    refine ⟨by unfold okD; exact okDs_int _, by simp [toP], by unfold depD; rw [depDs_int]; decide⟩
  · rw [List.length_map, List.getElem?_map] at hd
    obtain ⟨m, hm, rfl⟩ := Option.map_eq_some_iff.mp hd
    let ky : Nat → List Int := fun i => match ss[i]? with | some x => key x | none => []
    have kat : ∀ i (hi : i < ss.length), ky i = key ss[i] := fun i hi => by show (match ss[i]? with | some x => key x | none => []) = _; rw [List.getElem?_eq_getElem hi]
    obtain ⟨b1, b2, b3⟩ := best_ok (N := ss.length - 1) (lt := fun i j => ky i < ky j) (f := fun i j => dataLt (toP (match ss[i]? with | some x => D.lst ((key x).map .int) | none => .non)) (toP (match ss[j]? with | some x => D.lst ((key x).map .int) | none => .non))) (fun i j hi hj => by
      have hi : i < ss.length := by omega
      have hj : j < ss.length := by omega
      rw [kat i hi, kat j hj]
      simp only [List.getElem?_eq_getElem hi, List.getElem?_eq_getElem hj, toP, toPs_int]
      rw [dataLt_list]
      have := dataLt_ints (key ss[i]) (key ss[j])
      unfold rowLt at this
      rw [this, decide_eq_true_eq]) (fun a b h1 h2 => List.lt_asymm h1 h2) (fun a b c h => listLt_ntr _ h) _ (Nat.le_refl _)
    refine po m (List.mem_of_getElem? hm) fun y hy => ?_
    obtain ⟨j, hj, rfl⟩ := List.getElem_of_mem hy
    have hb := (List.getElem?_eq_some_iff.mp hm).1
    have e1 := kat _ hb
    have e2 := kat j hj
    have : m = ss[bestK (fun i => match ss[i]? with | some x => D.lst ((key x).map .int) | none => .non) (ss.length - 1)] := by
      rw [List.getElem?_eq_getElem hb] at hm; exact (Option.some.inj hm).symm
    rw [this, ← e1, ← e2]
    exact b2 j (by omega)
end
end DL
namespace DL
open PySem PySem.Spec PyProof.Rows L2
variable [HasT]
/-! ### words and rings as lists of signs -/
def al : List Nat := [97, 65, 98, 66, 99, 67, 100, 68]
def alph (r : Int) : List Nat := al.take (2 * r).toNat
def Rk (r : Int) : Prop := 2 ≤ r ∧ r ≤ 4
def hlo (r : Int) (x : D) : Bool := match x with
  | .str s => (s.map fun c => decide (c ∈ alph r)).all id
  | _ => false
def okT (x : D) : Prop := (kindD x).isSome = true ∧ ∀ s, x = .str s → s.length ≤ 100000
def redB (s : List Nat) : Bool := !((List.zip s (s.drop 1)).map fun p => decide (p.1 = flipC p.2)).any id
def wordB (r : Int) (x : D) : Bool := match x with
  | .str s => hlo r x && (decide (s.length ≤ 100) && redB s)
  | _ => false
def push1 (k : List Nat) (c : Nat) : List Nat := if k.getLast? = some (flipC c) then k.dropLast else k ++ [c]
def freeW (s : List Nat) : List Nat := s.foldl push1 []
def invW (s : List Nat) : List Nat := s.reverse.map flipC
def markC (c : Nat) : Nat := if c = 97 then 48 else if c = 65 then 49 else if c = 98 then 50 else if c = 66 then 51 else if c = 99 then 52 else if c = 67 then 53 else if c = 100 then 54 else 55
def peel : Nat → List Nat → List Nat
  | 0, s => s
  | n + 1, s => if 1 < s.length ∧ s[0]? = (s.getLast?).map flipC then peel n ((s.drop 1).dropLast) else s
def coreW (s : List Nat) : List Nat := peel s.length s
def firstW (s : List Nat) : List Nat := rotW s (leastAt (s.map markC))
def rankC (c : Nat) : Int := if c = 97 then 0 else if c = 65 then 1 else if c = 98 then 2 else if c = 66 then 3 else if c = 99 then 4 else if c = 67 then 5 else if c = 100 then 6 else 7
def prs : List D := [.int 2147483647, .int 2147483629, .int 2147483587, .int 2147483579, .int 2147483563, .int 2147483549, .int 2147483543, .int 2147483497] ++ [.int 2147483489, .int 2147483477, .int 2147483423]
theorem primes11 (j : Int) (h0 : 0 ≤ j) (h1 : j < 11) : ∃ pr : Int, atI prs j = some (.int pr) ∧ 0 < pr ∧ pr < 2 ^ 31 := by
  have : j = 0 ∨ j = 1 ∨ j = 2 ∨ j = 3 ∨ j = 4 ∨ j = 5 ∨ j = 6 ∨ j = 7 ∨ j = 8 ∨ j = 9 ∨ j = 10 := by omega
  rcases this with rfl | rfl | rfl | rfl | rfl | rfl | rfl | rfl | rfl | rfl | rfl <;> exact ⟨_, rfl, by decide, by decide⟩
theorem size1 {n : Nat} (h : n ≤ 100000) : n ≤ sizeLine := Nat.le_trans h (by decide)
theorem size2 {n : Nat} (h : n ≤ 100000) : n ≤ 5592405 := Nat.le_trans h (by decide)
theorem alph_asc {r : Int} : ascii (alph r) := fun c hc => by
  have : c ∈ al := List.mem_of_mem_take hc
  exact (show ∀ c ∈ al, c < 128 by decide) c this
theorem hlo_mem {r : Int} {s : List Nat} (h : hlo r (.str s) = true) : ∀ c ∈ s, c ∈ alph r := by
  intro c hc
  have h2 : (s.map fun c => decide (c ∈ alph r)).all id = true := h
  rw [List.all_map, List.all_eq_true] at h2
  exact of_decide_eq_true (h2 c hc)
theorem asc_of {r : Int} {s : List Nat} (h : ∀ c ∈ s, c ∈ alph r) : ascii s := fun c hc => alph_asc c (h c hc)
theorem asc1 {c : Nat} (h : c < 128) : ascii [c] := fun d hd => by rw [List.mem_singleton.mp hd]; exact h
theorem flip_asc {c : Nat} (h : c < 128) : flipC c < 128 := by unfold flipC; split; omega; split <;> omega
theorem asc_flip {s : List Nat} (h : ascii s) : ascii (s.map flipC) := fun c hc => by
  obtain ⟨d, hd, rfl⟩ := List.mem_map.mp hc
  exact flip_asc (h d hd)
theorem asc_push {k : List Nat} {c : Nat} (h : ascii k) (hc : c < 128) : ascii (push1 k c) := by
  unfold push1
  split
  · exact fun d hd => h d (List.dropLast_subset _ hd)
  · intro d hd
    rcases List.mem_append.mp hd with z | z
    · exact h d z
    · rw [List.mem_singleton.mp z]; exact hc
theorem free_snoc (s : List Nat) (c : Nat) : freeW (s ++ [c]) = push1 (freeW s) c := by unfold freeW; rw [List.foldl_append]; rfl
theorem asc_free : ∀ {s : List Nat}, ascii s → ascii (freeW s) := by
  intro s
  unfold freeW
  have : ∀ (s k : List Nat), ascii s → ascii k → ascii (s.foldl push1 k) := by
    intro s
    induction s with
    | nil => intro k _ hk; exact hk
    | cons c s ih => intro k hs hk; exact ih _ (fun d hd => hs d (List.mem_cons_of_mem _ hd)) (asc_push hk (hs c List.mem_cons_self))
  exact fun h => this s [] h (fun _ h => by cases h)
theorem free_len : ∀ (s : List Nat), (freeW s).length ≤ s.length := by
  intro s
  unfold freeW
  have : ∀ (s k : List Nat), (s.foldl push1 k).length ≤ k.length + s.length := by
    intro s
    induction s with
    | nil => intro k; simp
    | cons c s ih =>
      intro k
      have h := ih (push1 k c)
      have : (push1 k c).length ≤ k.length + 1 := by unfold push1; split <;> simp <;> omega
      simp only [List.foldl_cons, List.length_cons]; omega
  exact Nat.le_trans (this s []) (by simp)
theorem eq_nil_or_snoc {α : Type} (k : List α) : k = [] ∨ ∃ k' z, k = k' ++ [z] := by
  rcases List.eq_nil_or_concat k with h | ⟨k', z, h⟩
  · exact .inl h
  · exact .inr ⟨k', z, by rw [h]; simp⟩
theorem push_pop (k : List Nat) (b : Nat) : push1 (k ++ [flipC b]) b = k := by unfold push1; simp
theorem push_add {k : List Nat} {z b : Nat} (h : z ≠ flipC b) : push1 (k ++ [z]) b = k ++ [z] ++ [b] := by unfold push1; simp [h]
theorem alph_eq {r : Int} (h : Rk r) : cutL [97, 65, 98, 66, 99, 67, 100, 68] none (some (2 * r)) = alph r := by
  obtain ⟨h1, h2⟩ := h
  have : r = 2 ∨ r = 3 ∨ r = 4 := by omega
  rcases this with rfl | rfl | rfl <;> decide +kernel
theorem asc_rot {t : List Nat} {k : Nat} (h : ascii t) : ascii (rotW t k) := fun c hc => by
  rcases List.mem_append.mp hc with z | z
  · exact h c (List.mem_of_mem_drop z)
  · exact h c (List.mem_of_mem_take z)
theorem asc_marks {s : List Nat} (h : ∀ c ∈ s, c ∈ al) : ascii (s.map markC) := fun c hc => by
  obtain ⟨d, hd, rfl⟩ := List.mem_map.mp hc
  exact (show ∀ c ∈ al, markC c < 128 by decide) d (h d hd)
def midW (s : List Nat) (i : Nat) : List Nat := (s.drop i).take (s.length - 2 * i)
theorem mid_len {s : List Nat} {i : Nat} (h : 2 * i ≤ s.length) : (midW s i).length = s.length - 2 * i := by
  unfold midW; rw [List.length_take, List.length_drop]; omega
theorem mid_at {s : List Nat} {i j : Nat} (h : j < s.length - 2 * i) : (midW s i)[j]? = s[i + j]? := by
  unfold midW; rw [List.getElem?_take, if_pos h, List.getElem?_drop]
theorem mid_next {s : List Nat} {i : Nat} (h : 1 < s.length - 2 * i) : ((midW s i).drop 1).dropLast = midW s (i + 1) := by
  have hl : ((midW s i).drop 1).length = s.length - 2 * i - 1 := by rw [List.length_drop, mid_len (by omega)]
  rw [List.dropLast_eq_take, hl]
  unfold midW
  rw [List.drop_take, List.drop_drop, List.take_take]
  congr 1
  omega
theorem peel_step {s : List Nat} {i n : Nat} (h : 1 < s.length - 2 * i) (e : s[i]? = (s[s.length - i - 1]?).map flipC) : peel (n + 1) (midW s i) = peel n (midW s (i + 1)) := by
  have a1 : 1 < (midW s i).length := by rw [mid_len (by omega)]; exact h
  have a2 : (midW s i)[0]? = ((midW s i).getLast?).map flipC := by
    rw [List.getLast?_eq_getElem?, mid_len (by omega), mid_at (by omega), mid_at (by omega), show i + (s.length - 2 * i - 1) = s.length - i - 1 by omega, Nat.add_zero]
    exact e
  show (if 1 < (midW s i).length ∧ (midW s i)[0]? = ((midW s i).getLast?).map flipC then peel n (((midW s i).drop 1).dropLast) else midW s i) = _
  rw [if_pos ⟨a1, a2⟩, mid_next h]
theorem peel_stop {s : List Nat} {i n : Nat} (h2 : 2 * i ≤ s.length) (h : ¬ (1 < s.length - 2 * i ∧ s[i]? = (s[s.length - i - 1]?).map flipC)) : peel n (midW s i) = midW s i := by
  cases n with
  | zero => rfl
  | succ n =>
    unfold peel
    rw [if_neg]
    rintro ⟨a, b⟩
    rw [mid_len h2] at a
    rw [List.getLast?_eq_getElem?, mid_len h2, mid_at (by omega), mid_at (by omega), show i + (s.length - 2 * i - 1) = s.length - i - 1 by omega] at b
    exact h ⟨a, b⟩
theorem mid_zero (s : List Nat) : midW s 0 = s := by unfold midW; simp
def ringW (s : List Nat) : List Nat := firstW (coreW s)
def ringB (r : Int) (x : D) : Bool := match x with
  | .str s => wordB r (.str s) && (decide (s ≠ []) && decide (ringW s = s))
  | _ => false
theorem peel_mem : ∀ (n : Nat) {s : List Nat} {c : Nat}, c ∈ peel n s → c ∈ s := by
  intro n
  induction n with
  | zero => intro s c h; exact h
  | succ n ih =>
    intro s c h
    unfold peel at h
    split at h
    · exact List.mem_of_mem_drop (List.dropLast_subset _ (ih h))
    · exact h
theorem peel_len : ∀ (n : Nat) (s : List Nat), (peel n s).length ≤ s.length := by
  intro n
  induction n with
  | zero => intro s; exact Nat.le_refl _
  | succ n ih =>
    intro s
    unfold peel
    split
    · exact Nat.le_trans (ih _) (by rw [List.length_dropLast, List.length_drop]; omega)
    · exact Nat.le_refl _
theorem core_mem {s : List Nat} {c : Nat} (h : c ∈ coreW s) : c ∈ s := peel_mem _ h
theorem core_len (s : List Nat) : (coreW s).length ≤ s.length := peel_len _ s
def Red (s : List Nat) : Prop := ∀ (i a b : Nat), s[i]? = some a → s[i + 1]? = some b → a ≠ flipC b
theorem red_iff {s : List Nat} : redB s = true ↔ Red s := by
  unfold redB
  rw [Bool.not_eq_true', List.any_map, List.any_eq_false]
  constructor
  · intro h i a b h1 h2 e
    refine h (a, b) (List.mem_of_getElem? (i := i) ?_) (decide_eq_true e)
    rw [List.getElem?_zip_eq_some]
    exact ⟨h1, by rw [List.getElem?_drop, Nat.add_comm]; exact h2⟩
  · rintro h ⟨a, b⟩ hm e
    obtain ⟨i, hi⟩ := List.getElem?_of_mem hm
    rw [List.getElem?_zip_eq_some] at hi
    exact h i a b hi.1 (by have := hi.2; rw [List.getElem?_drop, Nat.add_comm] at this; exact this) (of_decide_eq_true e)
theorem red_inner {s : List Nat} (h : Red s) : Red ((s.drop 1).dropLast) := by
  intro i a b h1 h2
  rw [List.dropLast_eq_take, List.getElem?_take] at h1 h2
  split at h1
  · split at h2
    · rw [List.getElem?_drop] at h1 h2
      exact h (1 + i) a b h1 (by rw [← h2]; congr 1)
    · cases h2
  · cases h1
theorem peel_pos : ∀ (n : Nat) {s : List Nat}, Red s → 0 < s.length → 0 < (peel n s).length := by
  intro n
  induction n with
  | zero => intro s _ h; exact h
  | succ n ih =>
    intro s h h0
    unfold peel
    split
    · rename_i hc
      obtain ⟨h1, h2⟩ := hc
      refine ih (red_inner h) ?_
      rw [List.length_dropLast, List.length_drop]
      by_cases h3 : s.length = 2
      · exfalso
        match s, h3 with
        | [a, b], _ => exact h 0 a b rfl rfl (Option.some.inj h2)
      · omega
    · exact h0
theorem core_pos {s : List Nat} (h : Red s) (h0 : 0 < s.length) : 0 < (coreW s).length := peel_pos _ h h0
theorem word_red {r : Int} {s : List Nat} (h : wordB r (.str s) = true) : Red s := by
  have h : (hlo r (.str s) && (decide (s.length ≤ 100) && redB s)) = true := h
  simp only [Bool.and_eq_true, decide_eq_true_eq] at h
  exact red_iff.mp h.2.2
theorem alph_al {r : Int} {c : Nat} (h : c ∈ alph r) : c ∈ al := List.mem_of_mem_take h
theorem al_asc {s : List Nat} (h : ∀ c ∈ s, c ∈ al) : ascii s := fun c hc => (show ∀ c ∈ al, c < 128 by decide) c (h c hc)
theorem rot_mem {t : List Nat} {k c : Nat} (h : c ∈ rotW t k) : c ∈ t := by
  rcases List.mem_append.mp h with z | z
  · exact List.mem_of_mem_drop z
  · exact List.mem_of_mem_take z
theorem ring_mem {s : List Nat} {c : Nat} (h : c ∈ ringW s) : c ∈ s := core_mem (rot_mem h)
theorem asc_ring {s : List Nat} (h : ∀ c ∈ s, c ∈ al) : ascii (ringW s) := al_asc fun c hc => h c (ring_mem hc)
def okNext (s : List Nat) (c : Nat) : Bool := match s.getLast? with
  | none => true
  | some z => decide (c ≠ flipC z)
theorem flip_flip (c : Nat) : flipC (flipC c) = c := by
  unfold flipC
  repeat' split
  all_goals omega
theorem some_next {r : Int} (h : Rk r) (s : List Nat) : 0 < ((alph r).filterMap fun c => if okNext s c = true then some c else none).length := by
  have a1 : 97 ∈ alph r := by obtain ⟨x, y⟩ := h; have : r = 2 ∨ r = 3 ∨ r = 4 := by omega
                              rcases this with rfl | rfl | rfl <;> decide
  have a2 : 65 ∈ alph r := by obtain ⟨x, y⟩ := h; have : r = 2 ∨ r = 3 ∨ r = 4 := by omega
                              rcases this with rfl | rfl | rfl <;> decide
  by_cases o : okNext s 97 = true
  · exact List.length_pos_of_mem (List.mem_filterMap.mpr ⟨97, a1, by rw [if_pos o]⟩)
  · refine List.length_pos_of_mem (List.mem_filterMap.mpr ⟨65, a2, by rw [if_pos]; show okNext s 65 = true; unfold okNext at o ⊢; split at o
                                                                      · exact absurd rfl o
                                                                      · rename_i z hz
                                                                        have : 97 = flipC z := by simpa using o
                                                                        exact decide_eq_true (by rw [← this]; decide)⟩)
theorem red_snoc {s : List Nat} {c : Nat} (h : Red s) (o : okNext s c = true) : Red (s ++ [c]) := by
  intro i a b h1 h2
  rcases Nat.lt_trichotomy (i + 1) s.length with g | g | g
  · rw [List.getElem?_append_left (by omega)] at h1 h2
    exact h i a b h1 h2
  · rw [List.getElem?_append_left (by omega)] at h1
    rw [List.getElem?_append_right (by omega), show i + 1 - s.length = 0 by omega] at h2
    cases h2
    have hl : s.getLast? = some a := by rw [List.getLast?_eq_getElem?, show s.length - 1 = i by omega]; exact h1
    unfold okNext at o
    rw [hl] at o
    have o : c ≠ flipC a := of_decide_eq_true o
    intro e
    exact o (by rw [e, flip_flip])
  · rw [List.getElem?_append_right (by omega)] at h2
    have : i + 1 - s.length ≥ 1 := by omega
    rw [List.getElem?_eq_none (by simp; omega)] at h2
    cases h2
theorem alph_len (r : Int) : (alph r).length ≤ 8 := by unfold alph; rw [List.length_take]; exact Nat.le_trans (Nat.min_le_right _ _) (by decide)
theorem okT_word {r : Int} {s : List Nat} (h : wordB r (.str s) = true) : okT (.str s) := ⟨rfl, fun t e => by
  cases e
  have h : (hlo r (.str s) && (decide (s.length ≤ 100) && redB s)) = true := h
  simp only [Bool.and_eq_true, decide_eq_true_eq] at h
  omega⟩
theorem word_len {r : Int} {s : List Nat} (h : wordB r (.str s) = true) : s.length ≤ 100 := by
  have h : (hlo r (.str s) && (decide (s.length ≤ 100) && redB s)) = true := h
  simp only [Bool.and_eq_true, decide_eq_true_eq] at h
  exact h.2.1
theorem word_mem {r : Int} {s : List Nat} (h : wordB r (.str s) = true) : ∀ c ∈ s, c ∈ alph r := by
  have h : (hlo r (.str s) && (decide (s.length ≤ 100) && redB s)) = true := h
  simp only [Bool.and_eq_true, decide_eq_true_eq] at h
  exact hlo_mem h.1
theorem word_asc {r : Int} {s : List Nat} (h : wordB r (.str s) = true) : ascii s := asc_of (word_mem h)
end DL
namespace DL
variable [HasT]
/-! ### reduced words -/
theorem red_nil : Red [] := fun i a b h => by simp at h
theorem red_app {s t : List Nat} : Red (s ++ t) ↔ Red s ∧ Red t ∧ ∀ z x, s.getLast? = some z → t[0]? = some x → z ≠ flipC x := by
  constructor
  · intro h
    refine ⟨fun i a b h1 h2 => ?_, fun i a b h1 h2 => ?_, fun z x h1 h2 => ?_⟩
    · have l2 := (List.getElem?_eq_some_iff.mp h2).1
      exact h i a b (by rw [List.getElem?_append_left (by omega)]; exact h1) (by rw [List.getElem?_append_left l2]; exact h2)
    · exact h (s.length + i) a b (by rw [List.getElem?_append_right (by omega)]; simpa using h1) (by rw [List.getElem?_append_right (by omega), show s.length + i + 1 - s.length = i + 1 by omega]; exact h2)
    · rw [List.getLast?_eq_getElem?] at h1
      have l1 := (List.getElem?_eq_some_iff.mp h1).1
      exact h (s.length - 1) z x (by rw [List.getElem?_append_left l1]; exact h1) (by rw [List.getElem?_append_right (by omega), show s.length - 1 + 1 - s.length = 0 by omega]; exact h2)
  · rintro ⟨h1, h2, h3⟩ i a b e1 e2
    rcases Nat.lt_trichotomy (i + 1) s.length with g | g | g
    · rw [List.getElem?_append_left (by omega)] at e1 e2
      exact h1 i a b e1 e2
    · rw [List.getElem?_append_left (by omega)] at e1
      rw [List.getElem?_append_right (by omega), show i + 1 - s.length = 0 by omega] at e2
      exact h3 a b (by rw [List.getLast?_eq_getElem?, show s.length - 1 = i by omega]; exact e1) e2
    · rw [List.getElem?_append_right (by omega)] at e1 e2
      exact h2 (i - s.length) a b e1 (by rw [show i - s.length + 1 = i + 1 - s.length by omega]; exact e2)
theorem red_one (a : Nat) : Red [a] := fun i x y h1 h2 => by simp at h2
theorem red_snoc_iff {s : List Nat} {c : Nat} : Red (s ++ [c]) ↔ Red s ∧ ∀ z, s.getLast? = some z → z ≠ flipC c := by
  rw [red_app]
  exact ⟨fun h => ⟨h.1, fun z hz => h.2.2 z c hz rfl⟩, fun h => ⟨h.1, red_one c, fun z x hz hx => by cases hx; exact h.2 z hz⟩⟩
theorem red_cons_iff {s : List Nat} {c : Nat} : Red (c :: s) ↔ Red s ∧ ∀ x, s[0]? = some x → c ≠ flipC x := by
  rw [show c :: s = [c] ++ s from rfl, red_app]
  exact ⟨fun h => ⟨h.2.1, fun x hx => h.2.2 c x rfl hx⟩, fun h => ⟨red_one c, h.1, fun z x hz hx => by cases hz; exact h.2 x hx⟩⟩
theorem red_drop1 {s : List Nat} (h : Red s) : Red (s.drop 1) := by
  cases s with
  | nil => exact red_nil
  | cons a s => exact (red_cons_iff.mp h).1
theorem flip_inj {a b : Nat} (h : flipC a = flipC b) : a = b := by rw [← flip_flip a, h, flip_flip]
theorem push_red {k : List Nat} {c : Nat} (h : Red k) : Red (push1 k c) := by
  unfold push1
  split
  · rename_i e
    rcases eq_nil_or_snoc k with rfl | ⟨k', z, rfl⟩
    · exact red_nil
    · rw [List.dropLast_concat]; exact (red_snoc_iff.mp h).1
  · rename_i e
    exact red_snoc_iff.mpr ⟨h, fun z hz e2 => e (by rw [hz, e2])⟩
theorem fold_red : ∀ (b : List Nat) {k : List Nat}, Red k → Red (b.foldl push1 k)
  | [], _, h => h
  | _ :: b, _, h => fold_red b (push_red h)
theorem free_red (s : List Nat) : Red (freeW s) := fold_red s red_nil
theorem push_push {k : List Nat} {c : Nat} (h : Red k) : push1 (push1 k (flipC c)) c = k := by
  rcases eq_nil_or_snoc k with rfl | ⟨k', z, rfl⟩
  · show push1 [flipC c] c = []
    exact push_pop [] c
  · by_cases e : z = flipC (flipC c)
    · have e2 : push1 (k' ++ [z]) (flipC c) = k' := by rw [e]; exact push_pop k' (flipC c)
      rw [e2, e, flip_flip]
      unfold push1
      rw [if_neg]
      · intro h2
        exact (red_snoc_iff.mp h).2 _ h2 (by rw [e, flip_flip])
    · rw [push_add e]
      exact push_pop _ c
theorem fold_free {k : List Nat} (h : Red k) (b : List Nat) : (freeW b).foldl push1 k = b.foldl push1 k := by
  have : ∀ n (b : List Nat), b.length = n → (freeW b).foldl push1 k = b.foldl push1 k := by
    intro n
    induction n with
    | zero => intro b hb; rw [List.length_eq_zero_iff.mp hb]; rfl
    | succ n ih =>
      intro b hb
      rcases eq_nil_or_snoc b with rfl | ⟨b', c, rfl⟩
      · rfl
      · have ib := ih b' (by simp at hb; omega)
        rw [free_snoc, List.foldl_append, List.foldl_cons, List.foldl_nil, ← ib]
        rcases eq_nil_or_snoc (freeW b') with e | ⟨m, z, e⟩
        · rw [e]; rfl
        · rw [e]
          by_cases ez : z = flipC c
          · subst ez
            rw [push_pop, List.foldl_append, List.foldl_cons, List.foldl_nil, push_push (fold_red m h)]
          · rw [push_add ez, List.foldl_append (l := m ++ [z])]; rfl
  exact this _ b rfl
theorem free_app (a b : List Nat) : freeW (a ++ b) = b.foldl push1 (freeW a) := by unfold freeW; rw [List.foldl_append]
theorem free_app_r (a b : List Nat) : freeW (a ++ freeW b) = freeW (a ++ b) := by rw [free_app, free_app, fold_free (free_red a)]
theorem free_of_red : ∀ {s : List Nat}, Red s → freeW s = s := by
  intro s
  have : ∀ n (s : List Nat), s.length = n → Red s → freeW s = s := by
    intro n
    induction n with
    | zero => intro s hs _; rw [List.length_eq_zero_iff.mp hs]; rfl
    | succ n ih =>
      intro s hs h
      rcases eq_nil_or_snoc s with rfl | ⟨s', c, rfl⟩
      · rfl
      · have h2 := red_snoc_iff.mp h
        rw [free_snoc, ih s' (by simp at hs; omega) h2.1]
        unfold push1
        rw [if_neg]
        exact fun e => h2.2 _ e rfl
  exact this _ s rfl
theorem free_app_l (a b : List Nat) : freeW (freeW a ++ b) = freeW (a ++ b) := by rw [free_app, free_app, free_of_red (free_red a)]
theorem free_free (a : List Nat) : freeW (freeW a) = freeW a := free_of_red (free_red a)
theorem free_mem {s : List Nat} {c : Nat} (h : c ∈ freeW s) : c ∈ s := by
  have : ∀ (s k : List Nat), c ∈ s.foldl push1 k → c ∈ k ∨ c ∈ s := by
    intro s
    induction s with
    | nil => intro k h; exact .inl h
    | cons x s ih =>
      intro k h
      rcases ih _ h with z | z
      · unfold push1 at z
        split at z
        · exact .inl (List.dropLast_subset _ z)
        · rcases List.mem_append.mp z with z | z
          · exact .inl z
          · rw [List.mem_singleton.mp z]; exact .inr List.mem_cons_self
      · exact .inr (List.mem_cons_of_mem _ z)
  exact (this s [] h).elim (fun z => by cases z) id
theorem free_pair (a b : List Nat) (x : Nat) : freeW (a ++ [x, flipC x] ++ b) = freeW (a ++ b) := by
  have e : freeW (a ++ [x, flipC x]) = freeW a := by
    rw [free_app]
    show push1 (push1 (freeW a) x) (flipC x) = freeW a
    have := push_push (c := flipC x) (free_red a)
    rwa [flip_flip] at this
  rw [← free_app_l, e, free_app_l]
/-! ### inverses -/
theorem inv_nil : invW [] = [] := rfl
theorem inv_app (a b : List Nat) : invW (a ++ b) = invW b ++ invW a := by unfold invW; rw [List.reverse_append, List.map_append]
theorem inv_one (c : Nat) : invW [c] = [flipC c] := rfl
theorem inv_cons (c : Nat) (a : List Nat) : invW (c :: a) = invW a ++ [flipC c] := inv_app [c] a
theorem inv_snoc (c : Nat) (a : List Nat) : invW (a ++ [c]) = flipC c :: invW a := inv_app a [c]
theorem inv_inv (a : List Nat) : invW (invW a) = a := by
  unfold invW
  rw [← List.map_reverse, List.map_map, List.reverse_reverse]
  have : (flipC ∘ flipC) = id := funext fun c => flip_flip c
  rw [this, List.map_id]
theorem inv_len (a : List Nat) : (invW a).length = a.length := by unfold invW; simp
theorem inv_mem {a : List Nat} {c : Nat} : c ∈ invW a ↔ flipC c ∈ a := by
  unfold invW
  rw [List.mem_map]
  constructor
  · rintro ⟨d, hd, rfl⟩; rw [flip_flip]; exact List.mem_reverse.mp hd
  · intro h; exact ⟨flipC c, List.mem_reverse.mpr h, flip_flip c⟩
theorem inv_red {s : List Nat} (h : Red s) : Red (invW s) := by
  induction s with
  | nil => exact red_nil
  | cons c s ih =>
    have h2 := red_cons_iff.mp h
    rw [inv_cons, red_snoc_iff]
    refine ⟨ih h2.1, fun z hz e => ?_⟩
    cases s with
    | nil => cases hz
    | cons x s =>
      rw [inv_cons] at hz
      have hz : flipC x = z := by simpa using hz
      rw [flip_flip] at e
      exact h2.2 x rfl (by rw [hz, e])
theorem free_inv (s : List Nat) : freeW (invW s) = invW (freeW s) := by
  have : ∀ n (s : List Nat), s.length = n → freeW (invW s) = freeW (invW (freeW s)) := by
    intro n
    induction n with
    | zero => intro s hs; rw [List.length_eq_zero_iff.mp hs]; rfl
    | succ n ih =>
      intro s hs
      rcases eq_nil_or_snoc s with rfl | ⟨s', c, rfl⟩
      · rfl
      · have ib := ih s' (by simp at hs; omega)
        rw [inv_snoc, show flipC c :: invW s' = [flipC c] ++ invW s' from rfl, ← free_app_r, ib, free_app_r, free_snoc]
        rcases eq_nil_or_snoc (freeW s') with e | ⟨m, z, e⟩
        · rw [e]; rfl
        · rw [e]
          by_cases ez : z = flipC c
          · subst ez
            rw [push_pop, inv_snoc]
            have := free_pair [] (invW m) (flipC c)
            simpa using this
          · rw [push_add ez, inv_snoc c (m ++ [z])]; rfl
  rw [this _ s rfl, free_of_red (inv_red (free_red s))]
theorem free_inv_r (a : List Nat) : freeW (a ++ invW a) = [] := by
  have : ∀ n (a : List Nat), a.length = n → freeW (a ++ invW a) = [] := by
    intro n
    induction n with
    | zero => intro s hs; rw [List.length_eq_zero_iff.mp hs]; rfl
    | succ n ih =>
      intro a ha
      rcases eq_nil_or_snoc a with rfl | ⟨a', c, rfl⟩
      · rfl
      · rw [inv_snoc]
        have := free_pair a' (invW a') c
        simp only [List.append_assoc, List.cons_append, List.nil_append] at this ⊢
        rw [this]
        exact ih a' (by simp at ha; omega)
  exact this _ a rfl
theorem free_inv_l (a : List Nat) : freeW (invW a ++ a) = [] := by
  have := free_inv_r (invW a)
  rwa [inv_inv] at this
end DL
namespace DL
variable [HasT]
/-! ### rotations -/
def IsRot (s y : List Nat) : Prop := ∃ a b, s = a ++ b ∧ y = b ++ a
theorem IsRot.refl (s : List Nat) : IsRot s s := ⟨[], s, rfl, by simp⟩
theorem IsRot.symm {s y : List Nat} : IsRot s y → IsRot y s := fun ⟨a, b, h1, h2⟩ => ⟨b, a, h2, h1⟩
theorem IsRot.trans {s y z : List Nat} : IsRot s y → IsRot y z → IsRot s z := by
  rintro ⟨a, b, rfl, rfl⟩ ⟨c, d, h, rfl⟩
  rcases List.append_eq_append_iff.mp h with ⟨e, h1, h2⟩ | ⟨e, h1, h2⟩
  · exact ⟨e, d ++ b, by rw [h2, List.append_assoc], by rw [h1, List.append_assoc]⟩
  · exact ⟨a ++ c, e, by rw [h1, List.append_assoc], by rw [h2, List.append_assoc]⟩
theorem rot_is (s : List Nat) (k : Nat) : IsRot s (rotW s k) := ⟨s.take k, s.drop k, by rw [List.take_append_drop], rfl⟩
theorem IsRot.at {s y : List Nat} (h : IsRot s y) (hs : s ≠ []) : ∃ k, k < s.length ∧ y = rotW s k := by
  obtain ⟨a, b, rfl, rfl⟩ := h
  by_cases hb : b = []
  · subst hb
    have : 0 < (a ++ []).length := List.length_pos_iff.mpr hs
    exact ⟨0, this, by simp [rotW]⟩
  · have : 0 < b.length := List.length_pos_iff.mpr hb
    exact ⟨a.length, by rw [List.length_append]; omega, by unfold rotW; simp⟩
theorem IsRot.mem {s y : List Nat} (h : IsRot s y) {c : Nat} : c ∈ y ↔ c ∈ s := by
  obtain ⟨a, b, rfl, rfl⟩ := h
  simp [or_comm]
theorem IsRot.len {s y : List Nat} (h : IsRot s y) : y.length = s.length := by
  obtain ⟨a, b, rfl, rfl⟩ := h
  simp [Nat.add_comm]
theorem rot_map (f : Nat → Nat) (s : List Nat) (k : Nat) : (rotW s k).map f = rotW (s.map f) k := by unfold rotW; simp
theorem mark_inj : ∀ a ∈ al, ∀ b ∈ al, markC a = markC b → a = b := by decide
theorem marks_inj : ∀ {s t : List Nat}, (∀ c ∈ s, c ∈ al) → (∀ c ∈ t, c ∈ al) → s.map markC = t.map markC → s = t
  | [], [], _, _, _ => rfl
  | [], _ :: _, _, _, h => by simp at h
  | _ :: _, [], _, _, h => by simp at h
  | a :: s, b :: t, h1, h2, h => by
    rw [List.map_cons, List.map_cons] at h
    have ⟨e1, e2⟩ := List.cons.inj h
    rw [mark_inj a (h1 a List.mem_cons_self) b (h2 b List.mem_cons_self) e1, marks_inj (fun c hc => h1 c (List.mem_cons_of_mem _ hc)) (fun c hc => h2 c (List.mem_cons_of_mem _ hc)) e2]
theorem least_ex (t : List Nat) (h : 0 < t.length) : ∃ k, k < t.length ∧ leastB t k = true := by
  obtain ⟨m, hm, _, hl⟩ := minD_S (((List.range t.length).map (rotW t)).drop 1) (rotW t 0)
  have e : rotW t 0 :: ((List.range t.length).map (rotW t)).drop 1 = (List.range t.length).map (rotW t) := by
    obtain ⟨n, hn⟩ : ∃ n, t.length = n + 1 := ⟨t.length - 1, by omega⟩
    rw [hn, List.range_succ_eq_map]; rfl
  rw [e] at hm hl
  obtain ⟨k, hk, rfl⟩ := List.mem_map.mp hm
  exact ⟨k, List.mem_range.mp hk, leastB_iff.mpr fun j hj => hl _ (List.mem_map.mpr ⟨j, List.mem_range.mpr hj, rfl⟩)⟩
theorem first_rot (s : List Nat) : IsRot s (firstW s) := rot_is s _
theorem first_least {s : List Nat} (h : 0 < s.length) {y : List Nat} (hy : IsRot s y) : ¬ y.map markC < (firstW s).map markC := by
  obtain ⟨k, hk, rfl⟩ := hy.at (List.length_pos_iff.mp h)
  have hm : 0 < (s.map markC).length := by rw [List.length_map]; exact h
  obtain ⟨h1, h2, h3⟩ := least_some (least_ex _ hm)
  unfold firstW
  rw [rot_map, rot_map]
  exact leastB_iff.mp h2 k (by rw [List.length_map]; exact hk)
theorem first_uniq {s m : List Nat} (hl : ∀ c ∈ s, c ∈ al) (h : 0 < s.length) (hm : IsRot s m) (hmin : ∀ y, IsRot s y → ¬ y.map markC < m.map markC) : m = firstW s :=
  marks_inj (fun c hc => hl c (hm.mem.mp hc)) (fun c hc => hl c ((first_rot s).mem.mp hc)) (List.le_antisymm (List.not_lt.mp (hmin _ (first_rot s))) (List.not_lt.mp (first_least h hm)))
theorem first_of_rot {s y : List Nat} (hl : ∀ c ∈ s, c ∈ al) (h : 0 < s.length) (hy : IsRot s y) : firstW y = firstW s :=
  (first_uniq hl h (hy.trans (first_rot y)) fun z hz => first_least (by rw [hy.len]; exact h) (hy.symm.trans hz))
/-! ### cyclically reduced words -/
def CRr (s : List Nat) : Prop := Red s ∧ ∀ x z, s[0]? = some x → s.getLast? = some z → z ≠ flipC x
theorem al_flip : ∀ c ∈ al, flipC c ∈ al ∧ flipC c ≠ c := by decide
theorem CRr.rot {s y : List Nat} (h : CRr s) (hy : IsRot s y) : CRr y := by
  obtain ⟨a, b, rfl, rfl⟩ := hy
  obtain ⟨h1, h2⟩ := h
  rw [red_app] at h1
  by_cases ha : a = []
  · subst ha; simp only [List.nil_append, List.append_nil] at *; exact ⟨h1.2.1, h2⟩
  by_cases hb : b = []
  · subst hb; simp only [List.nil_append, List.append_nil] at *; exact ⟨h1.1, h2⟩
  obtain ⟨x, a, rfl⟩ := List.exists_cons_of_ne_nil ha
  obtain ⟨y, b, rfl⟩ := List.exists_cons_of_ne_nil hb
  refine ⟨red_app.mpr ⟨h1.2.1, h1.1, fun z w hz hw => h2 w z (by simpa using hw) (by rw [List.getLast?_append]; rw [hz]; rfl)⟩, fun w z hw hz => ?_⟩
  refine h1.2.2 z w ?_ (by simpa using hw)
  rw [List.getLast?_append] at hz
  cases hla : (x :: a).getLast? with
  | none => simp at hla
  | some q => rw [hla] at hz; exact hz
def condW (s : List Nat) : Prop := 1 < s.length ∧ s[0]? = (s.getLast?).map flipC
instance (s : List Nat) : Decidable (condW s) := inferInstanceAs (Decidable (_ ∧ _))
theorem peel_succ (n : Nat) (s : List Nat) : peel (n + 1) s = if condW s then peel n ((s.drop 1).dropLast) else s := rfl
theorem peel_not {s : List Nat} (h : ¬ condW s) : ∀ n, peel n s = s
  | 0 => rfl
  | n + 1 => by rw [peel_succ, if_neg h]
theorem inner_len (s : List Nat) : ((s.drop 1).dropLast).length = s.length - 2 := by rw [List.length_dropLast, List.length_drop]; omega
theorem peel_fuel : ∀ (n m : Nat) (s : List Nat), s.length ≤ n → s.length ≤ m → peel n s = peel m s
  | 0, m, s, h, _ => by rw [peel_not (fun c => by have := c.1; omega)]; exact (peel_not (fun c => by have := c.1; omega) m).symm
  | n + 1, 0, s, _, h => by rw [peel_not (fun c => by have := c.1; omega)]; rfl
  | n + 1, m + 1, s, h1, h2 => by
    rw [peel_succ, peel_succ]
    split
    · exact peel_fuel n m _ (by rw [inner_len]; omega) (by rw [inner_len]; omega)
    · rfl
theorem peel_done : ∀ (n : Nat) (s : List Nat), s.length ≤ n → ¬ condW (peel n s)
  | 0, s, h => fun c => by have := c.1; have e : peel 0 s = s := rfl; rw [e] at this; omega
  | n + 1, s, h => by
    rw [peel_succ]
    split
    · exact peel_done n _ (by rw [inner_len]; omega)
    · assumption
theorem core_not (s : List Nat) : ¬ condW (coreW s) := peel_done _ s (Nat.le_refl _)
theorem core_id {s : List Nat} (h : ¬ condW s) : coreW s = s := peel_not h _
theorem core_wrap {t : List Nat} {a : Nat} : coreW (a :: (t ++ [flipC a])) = coreW t := by
  unfold coreW
  have hl : (a :: (t ++ [flipC a])).length = t.length + 2 := by simp
  have hc : condW (a :: (t ++ [flipC a])) := by
    refine ⟨by rw [hl]; omega, ?_⟩
    rw [← List.cons_append, List.getLast?_concat]
    simp [flip_flip]
  rw [hl, peel_succ, if_pos hc]
  have e : ((a :: (t ++ [flipC a])).drop 1).dropLast = t := by simp
  rw [e]
  exact peel_fuel _ _ _ (by omega) (Nat.le_refl _)
theorem condW_iff {s : List Nat} (h : condW s) : ∃ a t, s = a :: (t ++ [flipC a]) := by
  obtain ⟨h1, h2⟩ := h
  cases s with
  | nil => simp at h1
  | cons a s =>
    rcases eq_nil_or_snoc s with rfl | ⟨t, z, rfl⟩
    · simp at h1
    · refine ⟨a, t, ?_⟩
      rw [← List.cons_append, List.getLast?_concat] at h2
      have h2 : a = flipC z := by simpa using h2
      rw [h2, flip_flip]
theorem peel_split : ∀ (n : Nat) (s : List Nat), ∃ p, s = p ++ peel n s ++ invW p
  | 0, s => ⟨[], by simp [peel, invW]⟩
  | n + 1, s => by
    rw [peel_succ]
    split
    · rename_i h
      obtain ⟨a, t, rfl⟩ := condW_iff h
      have e : ((a :: (t ++ [flipC a])).drop 1).dropLast = t := by simp
      rw [e]
      obtain ⟨p, hp⟩ := peel_split n t
      refine ⟨a :: p, ?_⟩
      rw [inv_cons, List.cons_append, List.cons_append, ← List.append_assoc, ← hp]
    · exact ⟨[], by simp [invW]⟩
theorem core_split (s : List Nat) : ∃ p, s = p ++ coreW s ++ invW p := peel_split _ s
theorem core_red {s : List Nat} (h : Red s) : Red (coreW s) := by
  obtain ⟨p, hp⟩ := core_split s
  rw [hp] at h
  exact (red_app.mp (red_app.mp h).1).2.1
theorem crr_of {s : List Nat} (hl : ∀ c ∈ s, c ∈ al) (h : Red s) (hc : ¬ condW s) : CRr s := by
  refine ⟨h, fun x z h1 h2 e => hc ?_⟩
  cases s with
  | nil => cases h1
  | cons a s =>
    have h1 : a = x := by simpa using h1
    subst h1
    refine ⟨?_, by rw [h2]; simp [e, flip_flip]⟩
    cases s with
    | nil =>
      have h2 : a = z := by simpa using h2
      subst h2
      exact absurd e (fun e => (al_flip a (hl a List.mem_cons_self)).2 e.symm)
    | cons b s => simp
theorem CRr.not {s : List Nat} (h : CRr s) : ¬ condW s := by
  intro c
  obtain ⟨a, t, rfl⟩ := condW_iff c
  exact h.2 a (flipC a) rfl (by rw [← List.cons_append, List.getLast?_concat]) rfl
theorem CRr.core {s : List Nat} (h : CRr s) : coreW s = s := core_id h.not
theorem core_crr {s : List Nat} (hl : ∀ c ∈ s, c ∈ al) (h : Red s) : CRr (coreW s) := crr_of (fun c hc => hl c (core_mem hc)) (core_red h) (core_not s)
/-! ### rings -/
def ringO (s : List Nat) : List Nat := if s = [] then [] else ringW s
theorem ringO_crr {s y : List Nat} (hl : ∀ c ∈ s, c ∈ al) (h : CRr s) (hy : IsRot s y) : ringO y = ringO s := by
  unfold ringO
  by_cases e : s = []
  · subst e
    have := hy.len
    rw [List.length_eq_zero_iff.mp this]
  · have hn : 0 < s.length := List.length_pos_iff.mpr e
    have e2 : y ≠ [] := List.length_pos_iff.mp (by rw [hy.len]; exact hn)
    rw [if_neg e, if_neg e2]
    unfold ringW
    rw [h.core, (h.rot hy).core]
    exact first_of_rot hl hn hy
def lpush (a : Nat) (t : List Nat) : List Nat := if t[0]? = some (flipC a) then t.drop 1 else a :: t
theorem free_cons {a : Nat} {t : List Nat} (h : Red t) : freeW (a :: t) = lpush a t := by
  unfold lpush
  split
  · rename_i e
    cases t with
    | nil => cases e
    | cons b t =>
      have e : b = flipC a := by simpa using e
      subst e
      have := free_pair [] t a
      simp only [List.nil_append, List.cons_append] at this
      rw [this]
      exact free_of_red (red_cons_iff.mp h).1
  · rename_i e
    exact free_of_red (red_cons_iff.mpr ⟨h, fun x hx e2 => e (by rw [hx, e2, flip_flip])⟩)
theorem ring_swap {b : Nat} {t : List Nat} (hl : ∀ c ∈ t, c ∈ al) (hb : b ∈ al) (h1 : Red (b :: t)) (h2 : Red (t ++ [b])) : ringO (b :: t) = ringO (t ++ [b]) := by
  have hr : IsRot (t ++ [b]) (b :: t) := ⟨t, [b], rfl, rfl⟩
  have hla : ∀ c ∈ t ++ [b], c ∈ al := fun c hc => (List.mem_append.mp hc).elim (hl c) fun z => by rw [List.mem_singleton.mp z]; exact hb
  refine ringO_crr hla ⟨h2, fun x z hx hz => ?_⟩ hr
  rw [List.getLast?_concat] at hz
  cases hz
  cases t with
  | nil =>
    have hx : b = x := by simpa using hx
    subst hx
    exact fun e => (al_flip b hb).2 e.symm
  | cons y t =>
    have hx : y = x := by simpa using hx
    subst hx
    exact (red_cons_iff.mp h1).2 y rfl
theorem ringO_wrap {t : List Nat} {a : Nat} (ht : t ≠ []) : ringO (a :: (t ++ [flipC a])) = ringO t := by
  unfold ringO ringW
  rw [if_neg (by simp), if_neg ht, core_wrap]
theorem ring_turn1 {a : Nat} {t : List Nat} (hl : ∀ c ∈ t, c ∈ al) (ha : a ∈ al) (h : Red t) : ringO (lpush a t) = ringO (push1 t a) := by
  have hfa := (al_flip a ha).1
  rcases eq_nil_or_snoc t with rfl | ⟨m, z, rfl⟩
  · rfl
  have h2 := red_snoc_iff.mp h
  by_cases e1 : (m ++ [z])[0]? = some (flipC a)
  · have el : lpush a (m ++ [z]) = (m ++ [z]).drop 1 := by unfold lpush; rw [if_pos e1]
    rw [el]
    cases m with
    | nil =>
      have e1 : z = flipC a := by simpa using e1
      subst e1
      have : push1 ([] ++ [flipC a]) a = [] := push_pop [] a
      rw [this]; rfl
    | cons y m =>
      have e1 : y = flipC a := by simpa using e1
      subst e1
      have hm : ∀ c ∈ m, c ∈ al := fun c hc => hl c (List.mem_append_left _ (List.mem_cons_of_mem _ hc))
      have hd : (flipC a :: m ++ [z]).drop 1 = m ++ [z] := rfl
      rw [hd]
      by_cases ez : z = flipC a
      · subst ez
        rw [push_pop]
        refine (ring_swap hm hfa h2.1 ?_).symm
        exact (red_cons_iff.mp h).1
      · rw [push_add ez]
        have := ringO_wrap (t := m ++ [z]) (a := flipC a) (by simp)
        rw [flip_flip] at this
        rw [show flipC a :: m ++ [z] ++ [a] = flipC a :: (m ++ [z] ++ [a]) from rfl, this]
  · have el : lpush a (m ++ [z]) = a :: (m ++ [z]) := by unfold lpush; rw [if_neg e1]
    rw [el]
    by_cases ez : z = flipC a
    · subst ez
      rw [push_pop]
      refine ringO_wrap fun hm => e1 ?_
      subst hm; rfl
    · rw [push_add ez]
      refine ring_swap hl ha (red_cons_iff.mpr ⟨h, fun x hx e2 => e1 (by rw [hx, e2, flip_flip])⟩) (red_snoc_iff.mpr ⟨h, fun w hw e2 => ez ?_⟩)
      rw [List.getLast?_concat] at hw
      cases hw
      exact e2
/-- the ring of a product does not change when its factors change places -/
theorem ring_comm : ∀ (s t : List Nat), (∀ c ∈ s, c ∈ al) → (∀ c ∈ t, c ∈ al) → ringO (freeW (s ++ t)) = ringO (freeW (t ++ s))
  | [], t, _, _ => by simp
  | x :: s, t, h1, h2 => by
    have hx := h1 x List.mem_cons_self
    have hs : ∀ c ∈ s, c ∈ al := fun c hc => h1 c (List.mem_cons_of_mem _ hc)
    have e1 : freeW (x :: s ++ t) = lpush x (freeW (s ++ t)) := by
      rw [← free_cons (free_red _), show x :: freeW (s ++ t) = [x] ++ freeW (s ++ t) from rfl, free_app_r]; rfl
    have hf : ∀ c ∈ freeW (s ++ t), c ∈ al := fun c hc => (List.mem_append.mp (free_mem hc)).elim (hs c) (h2 c)
    rw [e1, ring_turn1 hf hx (free_red _), ← free_snoc, List.append_assoc, ring_comm s (t ++ [x]) hs fun c hc => (List.mem_append.mp hc).elim (h2 c) fun z => by rw [List.mem_singleton.mp z]; exact hx]
    simp
theorem ring_conj {u s : List Nat} (hu : ∀ c ∈ u, c ∈ al) (hs : ∀ c ∈ s, c ∈ al) : ringO (freeW (u ++ s ++ invW u)) = ringO (freeW s) := by
  have hi : ∀ c ∈ invW u, c ∈ al := fun c hc => by have := (al_flip _ (hu _ (inv_mem.mp hc))).1; rwa [flip_flip] at this
  rw [List.append_assoc, ring_comm u (s ++ invW u) hu fun c hc => (List.mem_append.mp hc).elim (hs c) (hi c), List.append_assoc, ← free_app_r, free_inv_l, List.append_nil]
theorem inv_al {u : List Nat} (hu : ∀ c ∈ u, c ∈ al) : ∀ c ∈ invW u, c ∈ al := fun c hc => by have := (al_flip _ (hu _ (inv_mem.mp hc))).1; rwa [flip_flip] at this
section
variable {s : List Nat} (hl : ∀ c ∈ s, c ∈ al) (h : Red s)
include hl h
theorem ringO_rot : IsRot (coreW s) (ringO s) := by
  unfold ringO
  split
  · rename_i e; subst e; exact .refl _
  · exact first_rot _
theorem ringO_al : ∀ c ∈ ringO s, c ∈ al := fun c hc => hl c (core_mem ((ringO_rot hl h).mem.mp hc))
theorem ringO_is : CRr (ringO s) := (core_crr hl h).rot (ringO_rot hl h)
theorem ringO_nil : ringO s = [] ↔ s = [] := by
  constructor
  · intro e
    have := (ringO_rot hl h).len
    rw [e] at this
    rcases Nat.eq_zero_or_pos s.length with z | z
    · exact List.length_eq_zero_iff.mp z
    · have := core_pos h z; simp_all
  · rintro rfl; rfl
theorem ringO_len : (ringO s).length ≤ s.length := by rw [(ringO_rot hl h).len]; exact core_len s
/-- the rotations of a ring have this ring -/
theorem ringO_of_rot {y : List Nat} (hy : IsRot (ringO s) y) : ringO y = ringO s := by
  have hc := core_crr hl h
  have hla : ∀ c ∈ coreW s, c ∈ al := fun c hc => hl c (core_mem hc)
  rw [ringO_crr hla hc ((ringO_rot hl h).trans hy)]
  unfold ringO
  by_cases e : s = []
  · subst e; rfl
  · have hn := core_pos h (List.length_pos_iff.mpr e)
    rw [if_neg e, if_neg (List.length_pos_iff.mp hn)]
    unfold ringW
    rw [hc.core]
theorem ringO_ringO : ringO (ringO s) = ringO s := ringO_of_rot hl h (.refl _)
theorem ringO_inv : ringO (invW s) = ringO (invW (ringO s)) := by
  have hc := core_crr hl h
  have hla : ∀ c ∈ coreW s, c ∈ al := fun c hc => hl c (core_mem hc)
  obtain ⟨p, hp⟩ := core_split s
  have hpl : ∀ c ∈ p, c ∈ al := fun c hc => hl c (by rw [hp]; exact List.mem_append_left _ (List.mem_append_left _ hc))
  have e1 : invW s = p ++ invW (coreW s) ++ invW p := by
    have := congrArg invW hp
    rw [inv_app, inv_app, inv_inv] at this
    rw [this, List.append_assoc]
  have a1 : ringO (invW s) = ringO (freeW (invW (coreW s))) := by
    rw [← free_of_red (inv_red h), e1]
    exact ring_conj hpl (inv_al hla)
  obtain ⟨a, b, ha, hb⟩ := ringO_rot hl h
  have a2 : ringO (invW (ringO s)) = ringO (freeW (invW (coreW s))) := by
    rw [← free_of_red (inv_red (ringO_is hl h).1), hb, ha, inv_app, inv_app]
    have hA : ∀ c ∈ a, c ∈ al := fun c hc => hla c (by rw [ha]; exact List.mem_append_left _ hc)
    have hB : ∀ c ∈ b, c ∈ al := fun c hc => hla c (by rw [ha]; exact List.mem_append_right _ hc)
    exact ring_comm _ _ (inv_al hA) (inv_al hB)
  rw [a1, a2]
end
/-! ### the two orders of the letters -/
theorem lt_marks : ∀ {s t : List Nat}, (∀ c ∈ s, c ∈ al) → (∀ c ∈ t, c ∈ al) → (s.map markC < t.map markC ↔ s.map rankC < t.map rankC)
  | [], [], _, _ => by simp
  | [], b :: t, _, _ => by simp
  | a :: s, [], _, _ => by simp
  | a :: s, b :: t, h1, h2 => by
    have ih := lt_marks (s := s) (t := t) (fun c hc => h1 c (List.mem_cons_of_mem _ hc)) (fun c hc => h2 c (List.mem_cons_of_mem _ hc))
    have o := (show ∀ a ∈ al, ∀ b ∈ al, (markC a < markC b ↔ rankC a < rankC b) ∧ (markC a = markC b ↔ rankC a = rankC b) by decide) a (h1 a List.mem_cons_self) b (h2 b List.mem_cons_self)
    simp only [List.map_cons, List.cons_lt_cons_iff]
    rw [o.1, o.2, ih]
theorem round_min {s m : List Nat} (hl : ∀ c ∈ s, c ∈ al) (h : 0 < s.length) (hm : m ∈ (List.range s.length).map (rotW s)) (hmin : ∀ y ∈ (List.range s.length).map (rotW s), ¬ y.map rankC < m.map rankC) : m = firstW s := by
  obtain ⟨k, hk, rfl⟩ := List.mem_map.mp hm
  refine first_uniq hl h (rot_is s k) fun y hy e => ?_
  obtain ⟨j, hj, rfl⟩ := hy.at (List.length_pos_iff.mp h)
  refine hmin _ (List.mem_map.mpr ⟨j, List.mem_range.mpr hj, rfl⟩) ?_
  exact (lt_marks (fun c hc => hl c (rot_mem hc)) (fun c hc => hl c (rot_mem hc))).mp e
end DL
namespace DL
open PySem PySem.Spec PyProof.Rows L2
variable [HasT]
section
variable {K : PySem.W.Frag} {post : Rs → Prop}
theorem cutL_in {α : Type} {l : List α} (h : 1 ≤ l.length) : cutL l (some 1) (some (-1)) = (l.drop 1).dropLast := by
  unfold cutL HT.sIx
  rw [List.dropLast_eq_take, List.length_drop]
  have e1 : (if (1 : Int) < 0 then (1 + (l.length : Int)).toNat else min l.length (1 : Int).toNat) = 1 := by
    rw [if_neg (by decide)]
    show min l.length 1 = 1
    omega
  simp only [show ¬ ((1 : Int) < 0) by decide, show ((-1 : Int) < 0) by decide, if_true, if_false]
  have e2 : ((1 : Int)).toNat = 1 := rfl
  simp only [e2]
  have : (l.length : Int) + -1 = ((l.length - 1 : Nat) : Int) := by omega
  congr 1
  · omega
  · congr 1
    omega
theorem sld_in {s : List Nat} (hz : s.length ≤ sizeLine) (h : 1 ≤ s.length) (q : post (.d (.str ((s.drop 1).dropLast)))) : SlD K (rSlP K) (.str s) (some 1) (some (-1)) post := sld_str hz (by rw [cutL_in h]; exact q)
theorem od_eq_ls {ns ms : List (List Nat)} (h1 : ∀ a ∈ ns, ascii a) (h2 : ∀ a ∈ ms, ascii a) (q : post (.d (.bl (decide (ns = ms))))) : OD K (rEqD K) (.lst (ns.map .str)) (.lst (ms.map .str)) post :=
  od_eqD (by unfold okD; exact okDs_str h1) (by unfold okD; exact okDs_str h2) (by unfold depD; rw [depDs_str]; decide) (by unfold depD; rw [depDs_str]; decide) (by rw [eqD_strs]; exact q)
theorem od_ne_b {a b : Bool} (q : post (.d (.bl (!decide (a = b))))) : OD K (rNeD K) (.bl a) (.bl b) post := od_neD (by simp [okD]) (by simp [okD]) (by simp [depD]) (by simp [depD]) (by rw [eqD_bl]; exact q)
theorem od_eq_b {a b : Bool} (q : post (.d (.bl (decide (a = b))))) : OD K (rEqD K) (.bl a) (.bl b) post := od_eqD (by simp [okD]) (by simp [okD]) (by simp [depD]) (by simp [depD]) (by rw [eqD_bl]; exact q)
end
theorem word_mk {r : Int} {s : List Nat} (h1 : ∀ c ∈ s, c ∈ alph r) (h2 : s.length ≤ 100) (h3 : Red s) : wordB r (.str s) = true := by
  have a : hlo r (.str s) = true := by
    show ((s.map fun c => decide (c ∈ alph r)).all id) = true
    rw [List.all_map, List.all_eq_true]
    exact fun c hc => decide_eq_true (h1 c hc)
  show (hlo r (.str s) && (decide (s.length ≤ 100) && redB s)) = true
  rw [a, red_iff.mpr h3, decide_eq_true h2]; rfl
theorem alph_flip {r : Int} (h : Rk r) : ∀ c ∈ alph r, flipC c ∈ alph r := by
  obtain ⟨h1, h2⟩ := h
  have : r = 2 ∨ r = 3 ∨ r = 4 := by omega
  rcases this with rfl | rfl | rfl <;> decide
theorem inv_alph {r : Int} (h : Rk r) {s : List Nat} (hs : ∀ c ∈ s, c ∈ alph r) : ∀ c ∈ invW s, c ∈ alph r := fun c hc => by
  have := alph_flip h _ (hs _ (inv_mem.mp hc)); rwa [flip_flip] at this
theorem rep_len (s : List Nat) : ∀ k : Nat, (List.replicate k s).flatten.length = k * s.length
  | 0 => by simp
  | k + 1 => by rw [List.replicate_succ, List.flatten_cons, List.length_append, rep_len s k, Nat.succ_mul]; omega
theorem rep_mem {s : List Nat} {c : Nat} : ∀ {k : Nat}, c ∈ (List.replicate k s).flatten → c ∈ s
  | 0, h => by simp at h
  | k + 1, h => by
    rw [List.replicate_succ, List.flatten_cons] at h
    exact (List.mem_append.mp h).elim id rep_mem
end DL
namespace DL
open PySem PySem.Spec PyProof.Rows L2
variable [HasT]
/-! ### promises that are kept where nothing is being shown (repr of nested data) -/
def RunG (P : Program) (w : World) (K : PySem.W.Frag) (mg : Str → Option Value) (base : Heap) (X : CXT) (k : Nat) (f : Addr) (fd : FuncData) (ps : List Str) (sp : Sp) : Prop :=
  ∀ (A : Around) (o : List PySem.Env) (s : Shared) (H : Hp) (args : Args) (us : List Value) (vs : List V) (Q : VK) (E : XK), A.guards = some [] → Room k A → Env0 P w K mg base A o s H →
    BindsTo s fd args (ps.zip us) → Vals vs us → sp vs H Q E → codeAny (model P w) A (.call (.ref f) args) (CR X o P w H s Q E) s
section
variable {P : Program} {w : World} {K : PySem.W.Frag} {mg : Str → Option Value} {base : Heap} {x : Str} {st : Stmt} {N ps : List Str} {k : Nat} {f : Addr} {fd : FuncData} {sp : Sp}
theorem runG_of {X : CXT} (Fn : Fun K x x st f fd) (Sc : FnScope N ps (defScope st)) (hlen : ∀ vs H Q E, sp vs H Q E → vs.length = ps.length)
    (hb : ∀ (cdv : Value) (A : Around) (o : List PySem.Env) (s : Shared) (H : Hp) (vs : List V) (Q : VK) (E : XK), fd.code = cdv → A.guards = some [] → Room k (A.deeper (envOfC x (defScope st) s.heap.objs.size f cdv)) → sp vs H Q E →
      ∃ t, PSs (cxOf X P w K mg base N x (defScope st) f cdv A o s H E) (defBody st) t ∧ t { nx := fun _ H' => Q .non H', rt := Q } (start N vs) H) : RunG P w K mg base X (k + 1) f fd ps sp := by
  intro A o s H args us vs Q E gu room env bnd rv asked
  obtain ⟨oc, od, kV, dc, pm, an, cdv, ct, sl, rfl, look, code⟩ := Fn.ex
  have hl := hlen _ _ _ _ asked
  have old : ∀ b ob, base.get? b = some ob → s.heap.get? b = some ob := fun b ob e => (env.bs b ob e).1
  have inK : K.In s.heap := env.mod.kin.keeps old
  have kinds : ∀ y ∈ ps.zip us, (defScope st).names.lookup y.1 = some .local ∨ ((defScope st).names.lookup y.1 = some .cell ∧ ((cellsFrom (s.heap.objs.size + 1) (defScope st).names []).lookup y.1).isSome = true) := by
    rintro ⟨n, v⟩ hy
    exact (Sc.par n (List.of_mem_zip hy).1).imp id fun c => ⟨c, PySem.W.cellsFrom_some _ _ _ (.inl c)⟩
  refine codeAny_call_function room.depth (inK _ _ look) rfl Sc.co Sc.gen rfl (PySem.W.codeRec_of inK code) (bnd _ _ _ _ (wpAny_newFunctionEnv_cells Sc.kind kinds fun env' he s1 call => ?_))
  subst he
  refine ⟨(env.mod.nolimit.keeps old).keeps call.toInCall.keep, codeAny_func ?_⟩
  obtain ⟨t, rule, reads⟩ := hb cdv A o s H vs Q E rfl gu (room.deeper _) asked
  have I0 := inv_start (CX := X) (cd := cdv) (f := f) (qual := x) (E := E) Sc room.hd env hl rv call
  have done : ∀ {τ : L2.St} {H' : Hp} {v : V} {u : Value} {s' : Shared}, Inv (cxOf X P w K mg base N x (defScope st) f cdv A o s H E) [] τ H' s' → RelV v u → Q v H' → CE o P w H s Q u s' :=
    fun J r q => ⟨_, _, J.os, J.bare, J.base, J.hok, r, q⟩
  refine wpAny_mono (rule.run [] s1 (start N vs) H _ I0 reads) (fun out s' got => ?_) fun _ _ got => got
  match out, got with
  | .ret u, ⟨v, τ, H', J, r, q⟩ => exact done J r q
  | .next, ⟨τ, H', J, q⟩ => exact done (v := V.non) (u := Value.none) J rfl q
  | .brk, ⟨_, _, _, q⟩ => exact q.elim
  | .cont, ⟨_, _, _, q⟩ => exact q.elim
/-- the law's call, its promise kept where nothing is being shown -/
theorem law_runs {mb : Str → Option Value} {X : CXT} {a : Addr} {p : Str} {s1 : Shared} {vs : List Value} {ns : List Int} (inK : K.In s1.heap) (top : s1.heap.Ns mainGlobals mg) (blt : s1.heap.Ns builtinsNs mb) (boot : ∀ y : Str, y ≠ "__name__" → mb y = bootBuiltins y)
    (lim : s1.heap.NoLimit) (gens : s1.gens = #[]) (obj : s1.heap.get? a = some { cls := .type "list", data := .seq vs.toArray }) (its : IntsAre vs ns) (len : ns.length ≤ sizeLine) (room : Room k callerA)
    (run : ∀ b : Heap, K.In b → b.Ns mainGlobals mg → RunG P w K mg b X k f fd [p] sp) (bind : ∀ (s : Shared) (u : Value), BindsTo s fd ⟨[u], []⟩ [(p, u)])
    (asked : ∀ H : Hp, Only H → SqL K H a (ns.map V.int) → sp [.ref a] H (fun v _ => v = .bl true) fun _ _ _ => False) (noX : ∀ H e s', ¬ X [] H s1 (fun _ _ _ => False) e s') :
    codeAny (model P w) callerA (.call (.ref f) ⟨[.ref a], []⟩) (fun r s' => r = .ok (.ret (.bool true)) ∧ OldK s1.heap s'.heap ∧ s'.os = s1.os ∧ AllBare s'.gens) s1 := by
  have vals := vals_ints its
  have go : ∀ H : Hp, Only H → SqL K H a (ns.map V.int) → HOk P w H s1.heap → (∀ b u, H b = some u → b = a ∧ K.lookup a = none) →
      codeAny (model P w) callerA (.call (.ref f) ⟨[.ref a], []⟩) (fun r s' => r = .ok (.ret (.bool true)) ∧ OldK s1.heap s'.heap ∧ s'.os = s1.os ∧ AllBare s'.gens) s1 := by
    intro H only sq ok mine
    have free : ∀ b ob, s1.heap.get? b = some ob → (b = a → K.lookup a = none → False) → H b = none := fun b ob e ne => by
      cases q : H b with
      | none => rfl
      | some u => exact (ne (mine b u q).1 (mine b u q).2).elim
    have dict : ∀ {b : Addr} {m : Str → Option Value}, s1.heap.Ns b m → (hidT s1.heap H).Ns b m := by
      rintro b m ⟨o, es, ep, e, d, r⟩
      refine ⟨o, es, ep, hidT_get e (free b o e fun h _ => ?_), d, r⟩
      subst h
      rw [obj] at e
      cases e
      have d : Data.seq vs.toArray _ = Data.dict es ep := d
      cases d
    have inB : K.In (hidT s1.heap H) := fun b o e => hidT_get (inK b o e) (free b o (inK b o e) fun h n => by subst h; rw [n] at e; cases e)
    obtain ⟨mc, l1, l2⟩ := lim
    have env : Env0 P w K mg (hidT s1.heap H) callerA [] s1 H :=
      { frames := rfl, mod := ⟨inB, dict top, ⟨mb, dict blt, boot⟩, mc, dict l1, l2⟩, bs := fun b o e => of_hidT e, bsz := Nat.le_of_eq (hidT_size _ _), funs := trivial, frf := (fun b hb => by cases (show b ∈ ([] : List Addr) from hb)), hok := ok, bare := .of_eq gens }
    have got := run _ inB (dict top) callerA [] s1 H ⟨[.ref a], []⟩ [.ref a] [.ref a] _ _ rfl room env (bind s1 (.ref a)) (.cons rfl .nil) (asked H only sq)
    refine codeAny_mono got fun r s' h => ?_
    match r, h with
    | .error e, h => exact (noX H e s' h).elim
    | .ok .next, h => exact h.elim
    | .ok .brk, h => exact h.elim
    | .ok .cont, h => exact h.elim
    | .ok (.ret u), ⟨v, H', os, bare, un, ok', rv, q⟩ =>
      have q : v = .bl true := q
      subst q
      obtain rfl : u = Value.bool true := rv
      refine ⟨rfl, OldK.of_keep fun b o e => ?_, os, bare⟩
      cases q : H b with
      | none => exact un.keep b o e q (fun z => by cases (show b ∈ ([] : List Addr) from z)) (fun z => by cases z)
      | some u =>
        rcases only b with z | ⟨ob, ys, z⟩
        · exact nomatch q.symm.trans z
        · have k1 := (ok b _ z).1
          have k2 := (ok' b _ (un.frzs b ob _ z)).1
          exact k2.trans (k1.symm.trans e)
  by_cases known : ∃ o, K.lookup a = some o
  · obtain ⟨o, e⟩ := known
    have e2 := inK a o e
    rw [obj] at e2
    obtain rfl := Option.some.inj e2
    exact go (fun _ => none) (fun _ => .inl rfl) (.inr ⟨_, vs.toArray, _, e, rfl, rfl, rfl, by rw [List.size_toArray, its.length]; exact len, by simpa using vals⟩) (fun b u z => by cases z) fun b u z => by cases z
  · have none' : K.lookup a = none := by
      cases e : K.lookup a with
      | none => rfl
      | some o => exact (known ⟨o, e⟩).elim
    let Ha : Hp := fun b => if b = a then some (.frz { cls := .type "list", data := .seq vs.toArray } (.lst (ns.map V.int))) else none
    have at_ : Ha a = some (.frz { cls := .type "list", data := .seq vs.toArray } (.lst (ns.map V.int))) := if_pos rfl
    have off : ∀ b u, Ha b = some u → b = a := fun b u z => by
      by_cases h : b = a
      · exact h
      · exact nomatch (if_neg h : Ha b = none).symm.trans z
    refine go Ha (fun b => ?_) (.inl (.inr ⟨_, at_⟩)) (fun b u z => ?_) fun b u z => ⟨off b u z, none'⟩
    · by_cases h : b = a
      · exact .inr ⟨_, _, h ▸ at_⟩
      · exact .inl (if_neg h)
    · obtain rfl := off b u z
      obtain rfl := Option.some.inj (at_.symm.trans z)
      exact ⟨obj, by rw [List.length_map]; exact len, vs, _, vals, obj⟩
end
theorem walk_G {l : PySem.W.OpenLaw} {n k : Nat} {q : Program} {loose : List Str} {XP : (Str → Option Value) → Heap → Prop} {YP : World → Heap → Prop} {d : DefRec} {K : Params → PySem.W.Frag} {X : World → CXT} {sp : World → Sp} {x : Str}
    (most : l.most = some n) (small : n ≤ sizeLine) (nod : d.params.defaults = []) (room : Room k callerA) (inK : ∀ (w : World) (h : Heap), YP w h → (K w.params).In h)
    (F : ∀ (w : World) (mg : Str → Option Value) (fa : Addr) (h : Heap), (K w.params).In h → h.Ns mainGlobals mg → mg d.name = some (.ref fa) →
      ∃ fd : FuncData, (∀ (s : Shared) (u : Value), BindsTo s fd ⟨[u], []⟩ [(x, u)]) ∧ ∀ b : Heap, (K w.params).In b → b.Ns mainGlobals mg → RunG l.prog w (K w.params) mg b (X w) k fa fd [x] (sp w))
    (asked : ∀ (w : World) (H : Hp) (a : Addr) (ns : List Int), ns.length ≤ n → Only H → SqL (K w.params) H a (ns.map V.int) → sp w [.ref a] H (fun v _ => v = .bl true) fun _ _ _ => False)
    (noX : ∀ (w : World) (H : Hp) (s : Shared) (e : Value) (s' : Shared), ¬ X w [] H s (fun _ _ _ => False) e s') : PySem.W.WalkO q loose XP YP l.row.toRowW d [] (fun f vs => PySem.call f vs) := by
  refine Att.attach_call most nod fun w s0 s1 mg mb fa o pm cd doc a vs ns G Y ho hd hcd hmg hobj hints hlen hg => ?_
  obtain ⟨fd, bind, run⟩ := F w mg fa _ (inK w _ Y) G.T.g hmg
  exact law_runs (inK w _ Y) G.T.g G.T.b G.T.builtins G.T.nolimit hg hobj hints (Nat.le_trans hlen small) room run bind (fun H only sq => asked w H a ns hlen only sq) fun H e s' => noX w H s1 e s'
end DL
namespace DL
open PySem PySem.Spec PySem.W PyProof.Rows L2
variable [HasT]
/-! ### repr of data, where nothing is being shown -/
def rRepr (K : PySem.W.Frag) : List V → Hp → VK → Prop := fun vs H Q => (∃ v d, vs = [v] ∧ Dp K H v d ∧ d.showable = true ∧ d.hasDict = false ∧ d.depth ≤ 60 ∧ d.shown.length ≤ sizeLine ∧ Q (.str d.shown) H) ∨ ∃ a, vs = [.ref a] ∧ H a = some (.dK []) ∧ Q (.str "{}") H
theorem cr_repr {X : Cx} (hg : X.A.guards = some []) (hu : X.A.units + 64 < cLine) : CallR X (.builtin "repr") (rRepr X.K) := by
  intro pins s σ H vs us Q I r h
  rcases h with ⟨v, d, rfl, hd, hs, hn, hdep, hsz, q⟩ | ⟨a, rfl, ha, q⟩
  · obtain ⟨u, rfl, ru⟩ := vals1 r
    obtain ⟨as, rd⟩ := Dp.reads I d v u hd ru
    have viaRef : ∀ b, u = .ref b → wpAny (model X.prog X.w) X.A (call (.builtin "repr") [u]) (L2.EP X pins σ Q) X.xe s := fun b e => by
      subst e
      exact repr_of_reads' rd hs (fun z => by rw [hn] at z; cases z) hg (by omega) (fun _ _ e => e) (fun h' t tk k => ⟨.str d.shown, H, I.kept (t' := tk) k, ⟨t, rfl⟩, q⟩) hsz
    have fin : ∀ z : Str, z = d.shown → L2.EP X pins σ Q (.str z s.toks) { s with toks := s.toks + 1 } := fun z e => ⟨.str z, H, I.tok _, ⟨_, rfl⟩, e ▸ q⟩
    cases hd with
    | non => obtain rfl : u = .none := ru; exact PySem.P.repr_of_none (fin _ rfl)
    | bl b => obtain rfl : u = .bool b := ru; exact PySem.P.repr_of_bool (fin _ rfl)
    | int i => obtain ⟨t, rfl⟩ := ru; exact PySem.P.repr_of_int (by simpa [PyData.showable] using hs) (fin _ rfl)
    | str x => obtain ⟨t, rfl⟩ := ru; exact PySem.P.repr_of_str (fin _ rfl) hsz
    | lst _ _ => exact viaRef _ ru
    | tup _ _ => exact viaRef _ ru
  · obtain rfl := Vals.ref1 r
    obtain ⟨hz, hS, vs, kv, o, es, ep, ho, hex, hdt, hk, pr, hnd⟩ : ([] : List (Key × V)).length ≤ sizeLine ∧ (a == sysModules) = false ∧ ∃ vs, KV [] vs ∧ s.heap.DictOf (mixKind X.prog X.w) a vs := I.hok a _ ha
    cases kv
    have e0 : es.toList = [] := by
      generalize hl : es.toList = l at pr
      cases pr
      rfl
    have rd : Reads s.heap (.ref a) (.dict []) (a :: [] ++ []) := .dict ho hex.1 hdt (by rw [e0]; exact .nil) (by rw [e0]; exact .nil)
    have es : PyData.shown (.dict []) = ("{}" : Str) := by decide +kernel
    refine repr_of_reads' rd (by decide) (fun _ z => ?_) hg (by show X.A.units + 2 < cLine; omega) (fun _ _ e => e) (fun h' t tk k => ⟨.str "{}", H, I.kept (t' := tk) k, ⟨t, by rw [es]⟩, q⟩) (by rw [es]; decide +kernel)
    have : sysModules = a := by simpa using z
    rw [this] at hS
    simp at hS
section
variable {K : PySem.W.Frag} {post : Rs → Prop}
/-- the signs of what is shown of x -/
def shownL (x : D) : List Nat := match x with
  | .dct _ => [123, 125]
  | _ => (toP x).shown.cps.toList
def shwD (x : D) : Prop := (okD x = true ∧ depD x ≤ 60 ∧ (toP x).showable = true ∧ (toP x).shown.length ≤ sizeLine) ∨ x = .dct []
theorem cd_repr {x : D} (h : shwD x) (q : post (.d (.str (shownL x)))) : CD K (rRepr K) [x] post := by
  intro G F H vs f rx Q k
  cases rx with
  | cons rx r2 =>
    cases r2
    rcases h with ⟨h1, h2, h3, h4⟩ | rfl
    · have e : shownL x = (toP x).shown.cps.toList := by cases x <;> first | rfl | cases h1
      refine .inl ⟨_, toP x, rfl, Rep.dp (rx.rep f.g) h1, h3, PyData.hasDict_of_canLay _ (canLay_ok h1), by rw [dep_eq _ h1]; exact h2, h4, ?_⟩
      refine back_d f k ?_ q
      have := Rep.str (K := K) (G := G) (shownL x)
      rw [e, S_of] at this
      rw [e]
      exact this
    · obtain ⟨a, kvs, rfl, ha, hr⟩ := rx
      cases hr
      refine .inr ⟨a, rfl, ha, back_d f k ?_ q⟩
      have e2 : ("{}" : Str) = S [123, 125] := by decide +kernel
      rw [e2]
      exact Rep.str [123, 125]
end
end DL
namespace DL
open PySem PySem.Spec PySem.W PyProof.Rows L2
variable [HasT]
theorem mk_fnG {P : Program} {w : World} {K : PySem.W.Frag} {mg : Str → Option Value} {base : Heap} {x : Str} {st : Stmt} {N ps : List Str} {R : DSp} {k n m : Nat} {f : Addr} {fd : FuncData} (F : Fun K x x st f fd) (Sc : FnScope N ps (defScope st)) (hps : ps.length = n) (hN : N.length = n + m)
    (hbody : ∀ (f : Addr) (cdv : Value) (A : Around) (outer : List PySem.Env) (s : Shared) (H : Hp) (E : XK), A.guards = some [] → Room k (A.deeper (envOfC x (defScope st) s.heap.objs.size f cdv)) →
      ∃ t, PSs (cxOf CX0 P w K mg base N x (defScope st) f cdv A outer s H E).nox (defBody st) t ∧ ∀ ρ post, ρ.length = n → R ρ post → SD K (ρ ++ List.replicate m .no) t { nx := endP n ρ post (.d .non), rt := endP n ρ post }) :
    RunG P w K mg base CX0 (k + 1) f fd ps (spD K n R) := by
  refine runG_of F Sc (fun vs H Q E h => (spD_len vs H Q E h).trans hps.symm) fun cdv A outer s H vs Q E _ gu hr h => ?_
  obtain ⟨t, ht, q⟩ := hbody f cdv A outer s H E gu hr
  exact ⟨t, ht.nox, fn_body h hN q⟩
theorem k_repr {X : Cx} {K : PySem.W.Frag} (hK : X.K = K) (hg : X.A.guards = some []) (hu : X.A.units + 64 < cLine) : CallR X (.builtin "repr") (rRepr K) := by subst hK; exact cr_repr hg hu
end DL
namespace DL
open PySem PySem.Spec PySem.W PyProof.Rows L2
variable [HasT]
/-! ### list(text); min and == of lists of ints -/
def rLstS : List V → Hp → VK → Prop := fun xs H Q => ∃ z : List Nat, xs = [.str (S z)] ∧ z.length ≤ sizeLine ∧ ∀ l, H l = none → Q (.ref l) (upd H l (.lst (z.map fun c => V.str (S [c]))))
theorem vals_signs (x : List Nat) : ∀ (n i : Nat) (acc : List Value), acc.length = n → i + n = x.length → (∀ j v, acc[j]? = some v → SignAt (S x) (i + j) v) → Vals ((x.drop i).map fun c => V.str (S [c])) acc := by
  intro n
  induction n with
  | zero =>
    intro i acc ha hi h
    rw [List.length_eq_zero_iff.mp ha, List.drop_of_length_le (by omega)]
    exact .nil
  | succ n ih =>
    intro i acc ha hi h
    match acc, ha with
    | v :: acc, ha =>
      have h0 := h 0 v rfl
      rw [List.drop_eq_getElem_cons (show i < x.length by omega)]
      refine .cons ?_ (ih (i + 1) acc (by simpa using ha) (by omega) fun j w hj => ?_)
      · obtain ⟨c, u, hc, rfl⟩ := h0
        have hc : x[i]? = some c := by simpa using hc
        rw [List.getElem?_eq_getElem (show i < x.length by omega)] at hc
        rw [Option.some.inj hc]
        exact ⟨u, rfl⟩
      · have := h (j + 1) w (by simpa using hj)
        rwa [show i + (j + 1) = i + 1 + j by omega] at this
theorem cr_lstS {X : Cx} (hc : X.calm = true) : CallR X (.type "list") rLstS := by
  intro pins s σ H xs us Q I r h
  obtain ⟨z, rfl, hz, q⟩ := h
  obtain ⟨u, rfl, ru⟩ := vals1 r
  obtain ⟨t, rfl⟩ := ru
  refine call_list_str (I.ok.hd hc) (S z) t (fun h' tk acc c' k e it => ?_) (by simpa using hz)
  have hv : Vals (z.map fun c => V.str (S [c])) acc.toList := by
    have := vals_signs z z.length 0 acc.toList (by rw [Array.length_toList, it.1]; simp) (by omega) fun j v hj => by rw [Nat.zero_add]; exact it.2 j v (by simpa using hj)
    simpa using this
  exact ⟨.ref s.heap.objs.size, _, I.laid (t' := tk) k (Nat.le_refl _) (show ObjOk X.prog X.w _ h' _ (.lst (z.map fun c => V.str (S [c]))) from ⟨by rw [List.length_map]; exact hz, acc.toList, c', hv, by simpa using e⟩), rfl, q _ (I.hok.fresh (Nat.le_refl _))⟩
theorem k_lstS {X : Cx} (hc : X.calm = true) : CallR X (.type "list") rLstS := cr_lstS hc
section
variable {K : PySem.W.Frag} {post : Rs → Prop}
theorem reps_signs {G : Hp} : ∀ z : List Nat, Reps K G (z.map fun c => V.str (S [c])) (z.map fun c => .str [c])
  | [] => .nil
  | c :: z => .cons (.str [c]) (reps_signs z)
theorem cd_lstS {z : List Nat} (hz : z.length ≤ sizeLine) (q : post (.n (.lst (z.map fun c => .str [c])))) : CD K rLstS [.str z] post := by
  intro G F H vs f rx Q k
  cases rx with
  | cons rx r2 =>
    cases r2
    cases rx
    exact ⟨z, rfl, hz, fun l hl => back_n f k hl (reps_signs z) q⟩
theorem od_eq_li {ns ms : List Int} (q : post (.d (.bl (decide (ns = ms))))) : OD K (rEqD K) (.lst (ns.map .int)) (.lst (ms.map .int)) post :=
  od_eqD (by unfold okD; exact okDs_int _) (by unfold okD; exact okDs_int _) (by unfold depD; rw [depDs_int]; decide) (by unfold depD; rw [depDs_int]; decide) (by rw [eqD_ints]; exact q)
def LI (n : List Int) : D := .lst (n.map .int)
theorem minD_L : ∀ (xs : List (List Int)) (x : List Int), ∃ m ∈ x :: xs, minD (.list (x.map .int)) (xs.map fun s => PyData.list (s.map .int)) = .list (m.map .int) ∧ ∀ y ∈ x :: xs, ¬ y < m := by
  intro xs
  induction xs with
  | nil => intro x; exact ⟨x, by simp, rfl, fun y hy => by rw [List.mem_singleton.mp hy]; exact List.lt_irrefl _⟩
  | cons z xs ih =>
    intro x
    have lt : dataLt (.list (z.map .int)) (.list (x.map .int)) = decide (z < x) := by
      rw [dataLt_list]; exact dataLt_ints z x
    have e : minD (.list (x.map .int)) ((z :: xs).map fun s => PyData.list (s.map .int)) = minD (.list ((if z < x then z else x).map .int)) (xs.map fun s => PyData.list (s.map .int)) := by
      unfold minD
      rw [List.map_cons, List.foldl_cons, lt]
      by_cases h : z < x
      · rw [if_pos h, if_pos (decide_eq_true h)]
      · rw [if_neg h, if_neg (by simpa using h)]
    obtain ⟨m, hm, hd, hl⟩ := ih (if z < x then z else x)
    rw [e, hd]
    by_cases h : z < x
    · rw [if_pos h] at hm hl
      refine ⟨m, List.mem_cons_of_mem _ hm, rfl, fun y hy => ?_⟩
      rcases List.mem_cons.mp hy with rfl | hy
      · exact fun q => hl z List.mem_cons_self (List.lt_trans h q)
      · exact hl y hy
    · rw [if_neg h] at hm hl
      refine ⟨m, (List.mem_cons.mp hm).elim (fun z => z ▸ List.mem_cons_self) fun z => List.mem_cons_of_mem _ (List.mem_cons_of_mem _ z), rfl, fun y hy => ?_⟩
      rcases List.mem_cons.mp hy with rfl | hy
      · exact hl y List.mem_cons_self
      · rcases List.mem_cons.mp hy with rfl | hy
        · exact fun q => hl x List.mem_cons_self (List.lt_of_le_of_lt (List.not_lt.mp h) q)
        · exact hl y (List.mem_cons_of_mem _ hy)
theorem dp_ints {G : Hp} : ∀ {ns : List Int} {vs : List V}, Reps K G vs (ns.map .int) → DpAll K G vs (ns.map .int)
  | [], [], _ => .nil
  | _ :: ns, _ :: vs, .cons h1 h2 => by cases h1; exact .cons (.int _) (dp_ints h2)
theorem dp_lis {G : Hp} : ∀ {ss : List (List Int)} {vs : List V}, Reps K G vs (ss.map LI) → DpAll K G vs (ss.map fun s => PyData.list (s.map .int))
  | [], [], _ => .nil
  | s :: ss, _ :: vs, .cons h1 h2 => by
    have h1 : Rep K G _ (.lst (s.map .int)) := h1
    cases h1 with
    | lst a b => exact .cons (.lst a (dp_ints b)) (dp_lis h2)
/-- min of lists of ints -/
theorem cd_min_li {ss : List (List Int)} (hne : ss ≠ []) (q : ∀ m ∈ ss, (∀ y ∈ ss, ¬ y < m) → post (.d (LI m))) : CD K (rMinD K) [.lst (ss.map LI)] post := by
  intro G F H vs f rx Q k
  cases rx with
  | cons rx r2 =>
    cases r2
    obtain ⟨p, xs, rfl, h1, h2⟩ := rx
    have hd := dp_lis (Reps.mono f.g h2)
    cases ss with
    | nil => exact absurd rfl hne
    | cons s0 ss =>
      obtain ⟨m, hm, em, hl⟩ := minD_L ss s0
      refine ⟨p, xs, _, _, rfl, h1, hd, ⟨fun x hx y hy => ?_, fun x hx => ?_⟩, ?_, fun i v d hv hdd e => ?_⟩
      · obtain ⟨a, _, rfl⟩ := List.mem_map.mp (show x ∈ (s0 :: ss).map fun s => PyData.list (s.map .int) from hx)
        obtain ⟨b, _, rfl⟩ := List.mem_map.mp (show y ∈ (s0 :: ss).map fun s => PyData.list (s.map .int) from hy)
        show alikeAll _ _ = true
        exact alikeAll_int a b
      · obtain ⟨a, _, rfl⟩ := List.mem_map.mp (show x ∈ (s0 :: ss).map fun s => PyData.list (s.map .int) from hx)
        exact fun z => by cases z
      · have d0 : ∀ l : List Int, PyData.depthAll (l.map .int) ≤ 0 := by
          intro l
          induction l with
          | nil => simp [PyData.depthAll]
          | cons s l ih => simp only [List.map_cons, PyData.depthAll, PyData.depth] at ih ⊢; omega
        have : ∀ l : List (List Int), PyData.depthAll (l.map fun s => PyData.list (s.map .int)) ≤ 1 := by
          intro l
          induction l with
          | nil => simp [PyData.depthAll]
          | cons s l ih => have := d0 s; simp only [List.map_cons, PyData.depthAll, PyData.depth] at ih ⊢; omega
        exact Nat.le_trans (this (s0 :: ss)) (by decide)
      · have hdd : ((s0 :: ss).map fun s => PyData.list (s.map .int))[i]? = some d := hdd
        rw [List.getElem?_map] at hdd
        obtain ⟨a, ha, rfl⟩ := Option.map_eq_some_iff.mp hdd
        rw [em] at e
        have e2 : ∀ a b : List Int, a.map PyData.int = b.map PyData.int → a = b := by
          intro a
          induction a with
          | nil => intro b h; cases b with
            | nil => rfl
            | cons _ _ => simp at h
          | cons x a ih => intro b h; cases b with
            | nil => simp at h
            | cons y b =>
              rw [List.map_cons, List.map_cons] at h
              have ⟨p1, p2⟩ := List.cons.inj h
              rw [PyData.int.inj p1, ih b p2]
        have ea : a = m := e2 _ _ (PyData.list.inj e)
        subst ea
        obtain ⟨d2, hd2, r2⟩ := h2.getv hv
        have hd2 : ((s0 :: ss).map LI)[i]? = some d2 := hd2
        rw [List.getElem?_map, ha] at hd2
        cases hd2
        exact back_d f k r2 (q a hm hl)
end
end DL
namespace DL
open PySem PySem.Spec PySem.W PyProof.Rows L2
variable [HasT]
/-! ### what can be shown; == of scalars; values of all kinds -/
section
variable {K : PySem.W.Frag} {post : Rs → Prop}
theorem S_eq {a b : List Nat} : (V.str (S a) = V.str (S b)) ↔ a = b := ⟨fun h => S_inj (V.str.inj h), fun h => by rw [h]⟩
theorem od_ne_v {a b : List Nat} (q : post (.d (.bl (!decide (a = b))))) : OD K rNe (.str a) (.str b) post := by
  intro G F H v w f r1 r2 Q k
  cases r1
  cases r2
  refine ⟨rfl, ?_⟩
  have : decide (V.str (S a) = V.str (S b)) = decide (a = b) := decide_eq_decide.mpr S_eq
  rw [this]
  exact back_d f k (.bl _) q
theorem od_eq_v {a b : List Nat} (q : post (.d (.bl (decide (a = b))))) : OD K rEq (.str a) (.str b) post := by
  intro G F H v w f r1 r2 Q k
  cases r1
  cases r2
  refine ⟨rfl, ?_⟩
  have : decide (V.str (S a) = V.str (S b)) = decide (a = b) := decide_eq_decide.mpr S_eq
  rw [this]
  exact back_d f k (.bl _) q
end
mutual
def smI : D → Bool
  | .int i => decide (i.natAbs < 10 ^ 12)
  | .lst ds => smIs ds
  | .tup ds => smIs ds
  | _ => true
def smIs : List D → Bool
  | [] => true
  | d :: ds => smI d && smIs ds
end
mutual
def weD : D → Nat
  | .str s => s.length
  | .int _ => 64
  | .lst ds => weDs ds
  | .tup ds => weDs ds
  | _ => 0
def weDs : List D → Nat
  | [] => 0
  | d :: ds => weD d + 1 + weDs ds
end
mutual
theorem we_le : ∀ x : D, smI x = true → (toP x).weight ≤ weD x
  | .non, _ => by simp [toP, PyData.weight]
  | .bl _, _ => by simp [toP, PyData.weight]
  | .int i, h => by
    have h : i.natAbs < 10 ^ 12 := by simpa [smI] using h
    simp only [toP, PyData.weight, weD]
    split
    · omega
    · have : i.natAbs.log2 < 40 := by
        by_cases z : i.natAbs = 0
        · rw [z]; decide
        · exact (Nat.log2_lt z).mpr (Nat.lt_of_lt_of_le h (by decide))
      omega
  | .str s, _ => by simp [toP, PyData.weight, weD]
  | .lst ds, h => by simp only [toP, PyData.weight, weD]; exact wes_le ds (by simpa [smI] using h)
  | .tup ds, h => by simp only [toP, PyData.weight, weD]; exact wes_le ds (by simpa [smI] using h)
  | .dct _, _ => by simp [toP, PyData.weight, PyData.weightKv]
  | .obj _, _ => by simp [toP, PyData.weight, PyData.weightKv]
  | .ty _, _ => by simp [toP, PyData.weight, PyData.weightKv]
  | .cls _, _ => by simp [toP, PyData.weight, PyData.weightKv]
  | .exc _ _ _, _ => by simp [toP, PyData.weight, PyData.weightKv]
  | .fnc _ _, _ => by simp [toP, PyData.weight, PyData.weightKv]
theorem wes_le : ∀ xs : List D, smIs xs = true → PyData.weightAll (toPs xs) ≤ weDs xs
  | [], _ => by simp [toPs, PyData.weightAll, weDs]
  | x :: xs, h => by
    simp only [smIs, Bool.and_eq_true] at h
    simp only [toPs, PyData.weightAll, weDs]
    have := we_le x h.1
    have := wes_le xs h.2
    omega
end
mutual
theorem sh_int : ∀ x : D, smI x = true → okD x = true → (toP x).showable = true ∧ (toP x).intsShort 13 = true
  | .non, _, _ => ⟨rfl, rfl⟩
  | .bl _, _, _ => ⟨rfl, rfl⟩
  | .int i, h, _ => by
    have h : i.natAbs < 10 ^ 12 := by simpa [smI] using h
    refine ⟨?_, ?_⟩
    · simp only [toP, PyData.showable, decide_eq_true_eq]
      by_cases z : i.natAbs = 0
      · rw [z]; decide
      · exact Nat.lt_of_lt_of_le ((Nat.log2_lt z).mpr (Nat.lt_of_lt_of_le h (show 10 ^ 12 ≤ 2 ^ 40 by decide))) (by decide)
    · simp only [toP, PyData.intsShort, decide_eq_true_eq]
      exact PyData.shown_int_le h
  | .str s, _, _ => ⟨rfl, rfl⟩
  | .lst ds, h, h2 => by
    simp only [toP, PyData.showable, PyData.intsShort]
    exact shs_int ds (by simpa [smI] using h) (by simpa [okD] using h2)
  | .tup ds, h, h2 => by
    simp only [toP, PyData.showable, PyData.intsShort]
    exact shs_int ds (by simpa [smI] using h) (by simpa [okD] using h2)
  | .dct _, _, h => by simp [okD] at h
  | .obj _, _, h => by simp [okD] at h
  | .ty _, _, h => by simp [okD] at h
  | .cls _, _, h => by simp [okD] at h
  | .exc _ _ _, _, h => by simp [okD] at h
  | .fnc _ _, _, h => by simp [okD] at h
theorem shs_int : ∀ xs : List D, smIs xs = true → okDs xs = true → PyData.showableAll (toPs xs) = true ∧ PyData.intsShortAll 13 (toPs xs) = true
  | [], _, _ => ⟨rfl, rfl⟩
  | x :: xs, h, h2 => by
    simp only [smIs, Bool.and_eq_true] at h
    simp only [okDs, Bool.and_eq_true] at h2
    have a := sh_int x h.1 h2.1
    have b := shs_int xs h.2 h2.2
    simp only [toPs, PyData.showableAll, PyData.intsShortAll, a.1, a.2, b.1, b.2, Bool.and_self, and_self]
end
theorem shw_of {x : D} (h1 : okD x = true) (h2 : depD x ≤ 60) (h3 : smI x = true) (h4 : weD x ≤ 2 ^ 20) : shwD x :=
  .inl ⟨h1, h2, (sh_int x h3 h1).1, PyData.shown_fits (B := 13) (by decide) (by decide) (PyData.leavesShort_of_canLay0 13 _ (canLay_ok h1) (sh_int x h3 h1).2) (Nat.le_trans (we_le x h3) h4)⟩
theorem shw_str {s : List Nat} (h : ascii s) (hl : s.length ≤ 100000) : shwD (.str s) := shw_of (okD_asc h) (by simp [depD]) (by simp [smI]) (by simp only [weD]; exact Nat.le_trans hl (by decide))
theorem shw_big : shwD (.int (10 ^ 30)) := .inl ⟨rfl, by decide, by decide +kernel, by decide +kernel⟩
/-- values of all kinds that the laws put in the place of a thing -/
def thOk (x : D) : Prop := okT x ∧ shwD x ∧ ∀ s, x = .str s → ascii s
theorem th_str {s : List Nat} (h : ascii s) (hl : s.length ≤ 100000) : thOk (.str s) := ⟨⟨rfl, fun t e => by cases e; exact hl⟩, shw_str h hl, fun t e => by cases e; exact h⟩
theorem th_of {x : D} (hk : (kindD x).isSome = true) (hs : ∀ s, x ≠ .str s) (h : shwD x) : thOk x := ⟨⟨hk, fun s e => absurd e (hs s)⟩, h, fun s e => absurd e (hs s)⟩
theorem we_signs : ∀ z : List Nat, weDs (z.map fun c => .str [c]) = 2 * z.length
  | [] => rfl
  | c :: z => by simp only [List.map_cons, weDs, weD, we_signs z, List.length_cons, List.length_nil]; omega
theorem sm_signs : ∀ z : List Nat, smIs (z.map fun c => .str [c]) = true
  | [] => rfl
  | c :: z => by simp only [List.map_cons, smIs, smI, sm_signs z, Bool.and_self]
theorem ok_signs {z : List Nat} (h : ascii z) : okDs (z.map fun c => .str [c]) = true := by
  have e : (z.map fun c => D.str [c]) = (z.map fun c => [c]).map .str := by rw [List.map_map]; rfl
  rw [e]
  exact okDs_str fun a ha => by obtain ⟨c, hc, rfl⟩ := List.mem_map.mp ha; exact asc1 (h c hc)
theorem dep_signs (z : List Nat) : depDs (z.map fun c => .str [c]) = 0 := by
  have e : (z.map fun c => D.str [c]) = (z.map fun c => [c]).map .str := by rw [List.map_map]; rfl
  rw [e]; exact depDs_str _
theorem th_signs {z : List Nat} (h : ascii z) (hl : z.length ≤ 100000) : thOk (.lst (z.map fun c => .str [c])) :=
  th_of rfl (fun s e => by cases e) (shw_of (by unfold okD; exact ok_signs h) (by unfold depD; rw [dep_signs]; decide) (by unfold smI; exact sm_signs z) (by unfold weD; rw [we_signs]; omega))
theorem th_tup1 {s : List Nat} (h : ascii s) (hl : s.length ≤ 100000) : thOk (.tup [.str s]) :=
  th_of rfl (fun s e => by cases e) (shw_of (by simp only [okD, okDs, Bool.and_true]; exact okD_asc h) (by simp [depD, depDs]) (by simp [smI, smIs]) (by simp only [weD, weDs]; omega))
theorem th_lst1 {s : List Nat} (h : ascii s) (hl : s.length ≤ 100000) : thOk (.lst [.str s]) :=
  th_of rfl (fun s e => by cases e) (shw_of (by simp only [okD, okDs, Bool.and_true]; exact okD_asc h) (by simp [depD, depDs]) (by simp [smI, smIs]) (by simp only [weD, weDs]; omega))
theorem th_non : thOk .non := th_of rfl (fun s e => by cases e) (shw_of rfl (by decide) rfl (by decide))
theorem th_bl (b : Bool) : thOk (.bl b) := th_of rfl (fun s e => by cases e) (shw_of rfl (by simp [depD]) (by simp [smI]) (by simp [weD]))
theorem th_int {i : Int} (h : i.natAbs < 10 ^ 12) : thOk (.int i) := th_of rfl (fun s e => by cases e) (shw_of rfl (by simp [depD]) (by simp only [smI]; exact decide_eq_true h) (by simp [weD]))
theorem th_big : thOk (.int (10 ^ 30)) := th_of rfl (fun s e => by cases e) shw_big
theorem th_tup0 : thOk (.tup []) := th_of rfl (fun s e => by cases e) (shw_of (by simp [okD, okDs]) (by simp [depD, depDs]) (by simp [smI, smIs]) (by simp [weD, weDs]))
theorem th_lst0 : thOk (.lst []) := th_of rfl (fun s e => by cases e) (shw_of (by simp [okD, okDs]) (by simp [depD, depDs]) (by simp [smI, smIs]) (by simp [weD, weDs]))
theorem th_dct0 : thOk (.dct []) := th_of rfl (fun s e => by cases e) (.inr rfl)
end DL
namespace DL
variable [HasT]
/-! ### what a ring is -/
theorem wordB_iff {r : Int} {s : List Nat} : wordB r (.str s) = true ↔ (∀ c ∈ s, c ∈ alph r) ∧ s.length ≤ 100 ∧ Red s :=
  ⟨fun h => ⟨word_mem h, word_len h, word_red h⟩, fun h => word_mk h.1 h.2.1 h.2.2⟩
theorem ringB_str {r : Int} {s : List Nat} : ringB r (.str s) = (wordB r (.str s) && (decide (s ≠ []) && decide (ringW s = s))) := rfl
theorem ringB_crr {r : Int} {s : List Nat} (h : ringB r (.str s) = true) : CRr s := by
  rw [ringB_str] at h
  simp only [Bool.and_eq_true, decide_eq_true_eq] at h
  obtain ⟨h1, h2, h3⟩ := h
  obtain ⟨a1, a2, a3⟩ := wordB_iff.mp h1
  have := ringO_is (fun c hc => alph_al (a1 c hc)) a3
  unfold ringO at this
  rw [if_neg h2, h3] at this
  exact this
theorem ringB_of {r : Int} {s : List Nat} (h1 : ∀ c ∈ s, c ∈ alph r) (h2 : 0 < s.length) (h3 : s.length ≤ 100) (h4 : CRr s) : ringB r (.str s) = decide (firstW s = s) := by
  rw [ringB_str, wordB_iff.mpr ⟨h1, h3, h4.1⟩, decide_eq_true (List.length_pos_iff.mp h2)]
  unfold ringW
  rw [h4.core]
  simp
theorem ringB_no1 {r : Int} {s : List Nat} (h : ¬ ∀ c ∈ s, c ∈ alph r) : ringB r (.str s) = false := by
  rw [ringB_str, show wordB r (.str s) = false from by
    cases e : wordB r (.str s) with
    | false => rfl
    | true => exact absurd (wordB_iff.mp e).1 h]
  rfl
theorem ringB_no2 {r : Int} {s : List Nat} (h : ¬ (0 < s.length ∧ s.length ≤ 100)) : ringB r (.str s) = false := by
  cases e : ringB r (.str s) with
  | false => rfl
  | true =>
    rw [ringB_str] at e
    simp only [Bool.and_eq_true, decide_eq_true_eq] at e
    exact absurd ⟨List.length_pos_iff.mpr e.2.1, (wordB_iff.mp e.1).2.1⟩ h
theorem ringB_no3 {r : Int} {s : List Nat} (h : ¬ CRr s) : ringB r (.str s) = false := by
  cases e : ringB r (.str s) with
  | false => rfl
  | true => exact absurd (ringB_crr e) h
theorem ranks_inj : ∀ {s t : List Nat}, (∀ c ∈ s, c ∈ al) → (∀ c ∈ t, c ∈ al) → s.map rankC = t.map rankC → s = t
  | [], [], _, _, _ => rfl
  | [], _ :: _, _, _, h => by simp at h
  | _ :: _, [], _, _, h => by simp at h
  | a :: s, b :: t, h1, h2, h => by
    rw [List.map_cons, List.map_cons] at h
    have ⟨e1, e2⟩ := List.cons.inj h
    rw [(show ∀ a ∈ al, ∀ b ∈ al, rankC a = rankC b → a = b by decide) a (h1 a List.mem_cons_self) b (h2 b List.mem_cons_self) e1, ranks_inj (fun c hc => h1 c (List.mem_cons_of_mem _ hc)) (fun c hc => h2 c (List.mem_cons_of_mem _ hc)) e2]
theorem key_min {s : List Nat} {m : List Int} (hl : ∀ c ∈ s, c ∈ al) (h : 0 < s.length) (hm : m ∈ (List.range s.length).map fun k => (rotW s k).map rankC) (hmin : ∀ y ∈ (List.range s.length).map fun k => (rotW s k).map rankC, ¬ y < m) : m = (firstW s).map rankC := by
  obtain ⟨k, hk, rfl⟩ := List.mem_map.mp hm
  rw [round_min hl h (List.mem_map.mpr ⟨k, hk, rfl⟩) fun y hy => ?_]
  obtain ⟨j, hj, rfl⟩ := List.mem_map.mp hy
  exact hmin _ (List.mem_map.mpr ⟨j, hj, rfl⟩)
/-- the letter ahead, around the end -/
def prevC (s : List Nat) : Nat → Option Nat
  | 0 => s.getLast?
  | j + 1 => s[j]?
theorem crr_iff {s : List Nat} : CRr s ↔ ∀ (j a p : Nat), s[j]? = some a → prevC s j = some p → a ≠ flipC p := by
  constructor
  · rintro ⟨h1, h2⟩ j a p ha hp e
    cases j with
    | zero => exact h2 a p ha hp (by rw [e, flip_flip])
    | succ j => exact h1 j p a hp ha (by rw [e, flip_flip])
  · intro h
    refine ⟨fun i a b ha hb e => h (i + 1) b a hb ha (by rw [e, flip_flip]), fun x z hx hz e => h 0 x z hx hz (by rw [e, flip_flip])⟩
end DL
namespace DL
open PySem PySem.Spec PySem.W PyProof.Rows L2
variable [HasT]
section
variable {K : PySem.W.Frag} {ρ : List Sl} {post : Rs → Prop}
theorem ed_dnewK {post : Ar → List Sl → Prop} (h : ∀ p, post (.n p (.dct [])) ρ) : ED K ρ tDNewK post := by
  intro G F H σ f e Q k p hp
  have hF : F p = none := none_of_same f.f hp
  have e2 : Same F (upd F p (.dK [])) := same_new hF
  have nc : p ∉ cells ρ := fun z => by
    obtain ⟨i, y, e3⟩ := cells_mem z
    obtain ⟨o, ho⟩ := (e.cell e3).2.some
    rw [hF] at ho; cases ho
  have s2 : Nx ρ G F ρ G (upd F p (.dK [])) (upd H p (.dK [])) := ⟨.refl _, f.newF hp, fun _ _ h _ => e2 _ _ h, fun _ h => .inl h⟩
  refine k _ (.n p (.dct [])) ρ _ _ _ s2 (.refl _) (e.mono (.refl _) fun q hq => upd_ne fun z => nc (z ▸ hq)) ⟨rfl, ⟨[], upd_same, .nil⟩, nc⟩ (fun q y z => ?_) (h p)
  cases z
  exact hF
theorem od_add_lstP {a b : List D} (Pz : D → Prop) (ha : ∀ x ∈ a, Pz x) (hb : ∀ x ∈ b, Pz x) (hz : a.length + b.length ≤ sizeLine) (q : ∀ L : List D, (∀ x ∈ L, Pz x) → L.length = a.length + b.length → post (.n (.lst L))) : OD K (rAddP K) (.lst a) (.lst b) post :=
  od_add_lst hz (q _ (fun x hx => (List.mem_append.mp hx).elim (ha x) (hb x)) (List.length_append))
end
theorem ep_same {K : PySem.W.Frag} {ρ : List Sl} {te : TE} {post : D → List Sl → Prop} (P : D → Prop) (h : EP K ρ te fun x ρ' => P x ∧ ρ' = ρ) (q : ∀ x, P x → post x ρ) : EP K ρ te post :=
  h.imp fun x ρ' ⟨a, b⟩ => b ▸ q x a
theorem td_same {K : PySem.W.Frag} {ρ : List Sl} {tt : TT} {post : Bool → List Sl → Prop} (b : Bool) (h : TD K ρ tt fun c ρ' => c = b ∧ ρ' = ρ) (q : post b ρ) : TD K ρ tt post :=
  h.imp fun c ρ' ⟨e, f⟩ => by rw [e, f]; exact q
theorem cutL_mem {α : Type} {l : List α} {lo hi : Option Int} {c : α} (h : c ∈ cutL l lo hi) : c ∈ l := List.mem_of_mem_drop (List.mem_of_mem_take h)
theorem cutL_len {α : Type} {l : List α} {lo hi : Option Int} : (cutL l lo hi).length ≤ l.length := by unfold cutL; rw [List.length_take, List.length_drop]; omega
theorem asc_cut {l : List Nat} {lo hi : Option Int} (h : ascii l) : ascii (cutL l lo hi) := fun c hc => h c (cutL_mem hc)
theorem asc_app {a b : List Nat} (ha : ascii a) (hb : ascii b) : ascii (a ++ b) := fun c hc => (List.mem_append.mp hc).elim (ha c) (hb c)
theorem asc_upp {a : List Nat} (h : ascii a) : ascii (a.map uppC) := fun c hc => by
  obtain ⟨d, hd, rfl⟩ := List.mem_map.mp hc
  have := h d hd
  unfold uppC; split <;> omega
theorem asc_low {a : List Nat} (h : ascii a) : ascii (a.map lowC) := fun c hc => by
  obtain ⟨d, hd, rfl⟩ := List.mem_map.mp hc
  have := h d hd
  unfold lowC; split <;> omega
theorem asc_rep {a : List Nat} {k : Nat} (h : ascii a) : ascii (List.replicate k a).flatten := fun c hc => h c (rep_mem hc)
theorem asc_nil : ascii [] := fun c hc => by cases hc
end DL
namespace DL
open PySem PySem.Spec PySem.W PyProof.Rows L2
variable [HasT]
/-! ### t[::-1] of a tuple -/
section
variable {prog : Program} {w : World} {A : Around} {E : Value → Shared → Prop} {s : Shared}
theorem places_rev (n : Nat) : Builtin.Slice.slicePlaces ((n : Int) - 1) (-1) (-1) = n := by
  unfold Builtin.Slice.slicePlaces
  rw [if_neg (by decide)]
  by_cases h : n = 0
  · subst h; decide
  · rw [if_pos (by omega), show (- -1 : Int) = 1 by decide, Int.ediv_one]
    omega
theorem cut_rev {sl : Addr} {n : Nat} {u : Tok} {Q : Int × Int × Nat → Shared → Prop} (hs : s.heap.IsSliceOf sl .none .none (.int (-1) u)) (h : Q ((n : Int) - 1, -1, n) s) :
    wpAny (model prog w) A (Builtin.Slice.sliceApplied (.ref sl) (pure (n : Int))) Q E s := by
  obtain ⟨o, ho, _, hf⟩ := id hs
  unfold Builtin.Slice.sliceApplied Builtin.Slice.sliceFields
  refine wpAny_bind (wpAny_bind (wpAny_field ho hf (x := .none) rfl (wpAny_bind (wpAny_field ho hf (x := .none) rfl (wpAny_bind (wpAny_field ho hf (x := .int (-1) u) rfl (wpAny_pure ?_)))))))
  refine wpAny_bind (slicePart_int ?_)
  show wpAny _ _ (if ((-1 : Int) == 0) = true then _ else _) _ _ s
  rw [if_neg (by decide)]
  refine wpAny_bind (slicePart_none (wpAny_bind (slicePart_none (wpAny_bind (wpAny_pure ?_)))))
  show wpAny _ _ (pure ((n : Int) - 1, (-1 : Int), Builtin.Slice.slicePlaces ((n : Int) - 1) (-1) (-1))) _ _ s
  rw [places_rev]
  exact wpAny_pure h
theorem fmap_congr {α β : Type} {f g : α → Option β} : ∀ {l : List α}, (∀ x ∈ l, f x = g x) → l.filterMap f = l.filterMap g
  | [], _ => rfl
  | a :: l, h => by rw [List.filterMap_cons, List.filterMap_cons, h a List.mem_cons_self, fmap_congr fun x hx => h x (List.mem_cons_of_mem _ hx)]
theorem pick_rev (xs : Array Value) : ((List.range xs.size).filterMap fun (m : Nat) => xs[(((xs.size : Int) - 1) + (m : Int) * (-1)).toNat]?).toArray = xs.toList.reverse.toArray := by
  congr 1
  have e : ∀ m ∈ List.range xs.size, xs[(((xs.size : Int) - 1) + (m : Int) * (-1)).toNat]? = (xs.toList.reverse)[m]? := fun m hm => by
    have hm := List.mem_range.mp hm
    rw [List.getElem?_reverse (by simpa using hm), Array.getElem?_toList, Array.length_toList]
    congr 1
    omega
  rw [fmap_congr e]
  generalize hl : xs.toList.reverse = l
  have : xs.size = l.length := by rw [← hl]; simp
  rw [this]
  clear this hl e
  induction l with
  | nil => rfl
  | cons a l ih =>
    rw [List.length_cons, List.range_succ_eq_map, List.filterMap_cons]
    simp only [List.getElem?_cons_zero, List.filterMap_map]
    rw [show ((fun x => (a :: l)[x]?) ∘ Nat.succ) = fun x => l[x]? from rfl, ih]
theorem getItem_tuple_rev {t sl : Addr} {items : Array Value} {u : Tok} {Q : Value → Shared → Prop} (ht : IsTup s.heap t items) (hs : s.heap.IsSliceOf sl .none .none (.int (-1) u))
    (h : Q (.ref s.heap.objs.size) { s with heap := s.heap.push { cls := .type "tuple", data := .seq items.toList.reverse.toArray } }) (hsz : items.size ≤ sizeLine) : wpAny (model prog w) A (getItem (.ref t) (.ref sl)) Q E s := by
  have fits : sizeOk (.seq items.toList.reverse.toArray) := by
    show items.toList.reverse.toArray.size ≤ sizeLine
    simpa using hsz
  obtain ⟨o, ho, hc, _⟩ := id hs
  unfold getItem
  try with_reducible refine wpAny_holding ?_
  first | refine wpAny_bind (wpAny_pure ?_) | skip
  refine wpAny_bind (wpAny_sequenceKey ht.typeIs (by decide) (wpAny_bind (wpAny_callSpecial?_slot (name := Str.ofString "__getitem__") ht.typeIs PyProof.Rows.slot_tuple_getitem (wpAny_call_entry PyProof.Rows.slot_tuple_getitem ht.typeIs entry_tuple_getitem ?_ (args_tuple_getitem _ _)))))
  show wpAny _ _ (Builtin.Tuple.tupleItemsOf (.ref t) >>= _) _ _ s; refine wpAny_bind (tupleItemsOf_ ht ?_); refine wpAny_bind (wpAny_typeOf (show s.TypeIs (.ref sl) "slice" from ⟨o, ho, hc⟩) ?_)
  rw [if_pos (by decide)]
  refine wpAny_bind (cut_rev hs ?_)
  show wpAny _ _ (if (((items.size : Int) - 1) == 0 && (-1 : Int) == 1 && items.size == items.size) = true then _ else _) _ _ s
  rw [if_neg (by simp), pick_rev]
  first
    | exact wpAny_bind (m := Builtin.Tuple.tupleExact _) (wpAny_newObj_type (wpAny_pure ⟨_, rfl, wpAny_pure h⟩) fits)
    | exact wpAny_bind (m := Builtin.Tuple.tupleExact _) (wpAny_newObj_type (wpAny_bind (wpAny_pure (wpAny_pure ⟨_, rfl, wpAny_pure h⟩))) fits)
    | exact wpAny_bind (wpAny_bind (m := Builtin.Tuple.tupleExact _) (wpAny_newObj_type (wpAny_pure (wpAny_pure ⟨_, rfl, wpAny_pure h⟩)) fits))
    | exact wpAny_bind (wpAny_bind (m := Builtin.Tuple.tupleExact _) (wpAny_newObj_type (wpAny_pure ⟨_, rfl, wpAny_pure h⟩) fits))
end
def rRevT (K : PySem.W.Frag) : V → Hp → VK → Prop := fun x H Q => ∃ a xs, x = .ref a ∧ SqT K H a xs ∧ ∀ p, H p = none → Q (.ref p) (upd H p (.tup xs.reverse))
theorem k_rvT {X : Cx} {K : PySem.W.Frag} (hK : X.K = K) : RvR X (rRevT K) := by
  subst hK
  intro pins s σ H x v sl t Q I rx hs h
  obtain ⟨a, xs, rfl, hx, q⟩ := h
  cases rx
  obtain ⟨its, r, ht, hz⟩ := I.tuple hx
  refine ⟨"tuple", _, PyProof.Rows.slot_tuple_getitem.lookup, ht.typeIs, ?_⟩
  refine getItem_tuple_rev ht hs ?_ (by rw [List.size_toArray, ← r.length]; exact hz)
  refine ⟨.ref s.heap.objs.size, _, I.laid (t' := s.toks) (o := .tup xs.reverse) (fun b ob q => Heap.get?_push_of_some _ q) (Nat.le_refl _) ?_, rfl, q _ (I.hok.fresh (Nat.le_refl _))⟩
  exact ⟨by rw [List.length_reverse]; exact hz, _, r.reverse, IsTup.new _ _⟩
theorem ud_rev_tup {K : PySem.W.Frag} {post : Rs → Prop} {l : List D} (q : post (.d (.tup l.reverse))) : UD K (rRevT K) (.tup l) post := by
  intro G F H v f rx Q k
  cases rx with
  | tup h1 h2 => exact ⟨_, _, rfl, sqt_mono f.g h1, fun p hp => back_t f k hp h2.rev q⟩
theorem Reps.repl {K : PySem.W.Frag} {G : Hp} {vs : List V} {ds : List D} (h : Reps K G vs ds) : ∀ k : Nat, Reps K G (List.replicate k vs).flatten (List.replicate k ds).flatten
  | 0 => .nil
  | k + 1 => by rw [List.replicate_succ, List.replicate_succ, List.flatten_cons, List.flatten_cons]; exact h.app (Reps.repl h k)
theorem od_mul_tup {K : PySem.W.Frag} {post : Rs → Prop} {a : List D} {k : Int} (h0 : a ≠ []) (h1 : 2 ≤ k) (h2 : k ≤ 1000) (hz : a.length ≤ 1000) (q : post (.d (.tup (List.replicate k.toNat a).flatten))) : OD K (rMulP K) (.tup a) (.int k) post := by
  intro G F H v w f rx ry Q kk
  cases ry
  cases rx with
  | tup e1 e2 =>
    refine .inr (.inr (.inr ⟨_, k, _, rfl, rfl, sqt_mono f.g e1, fun z => ?_, h1, h2, by rw [e2.len]; exact hz, fun p hp => back_t f kk hp (e2.repl _) q⟩))
    subst z
    cases e2
    exact h0 rfl
theorem ed_mulL {K : PySem.W.Frag} {ρ : List Sl} {ta tb : TE} {post : Ar → List Sl → Prop} (h : ED K ρ ta fun a ρ1 => ED K ρ1 tb fun b ρ2 => ∃ p ds k, a = .n p (.lst ds) ∧ b = .d (.int k) ∧ -(2 ^ 63) ≤ k ∧ k < 2 ^ 63 ∧ ds.length * k.toNat ≤ sizeLine ∧
    ∀ p2, post (.n p2 (.lst (List.replicate k.toNat ds).flatten)) ρ2) : ED K ρ (tOp (rMulP K) ta tb) post := by
  intro G F H σ f e Q kk
  refine h G F H σ f e _ fun v a ρ1 G1 F1 H1 s1 sh1 e1 o1 w1 h1 => ?_
  refine h1 G1 F1 H1 σ s1.fr e1 _ fun u b ρ2 G2 F2 H2 s2 sh2 e2 o2 w2 ⟨p, ds, k, ea, eb, k1, k2, hz, q⟩ => ?_
  subst ea eb
  obtain ⟨rfl, ⟨xs, hx, r⟩, hn⟩ := o1.step s2 sh2
  cases o2
  have s12 := s1.trans s2
  refine .inr (.inr (.inl ⟨p, k, xs, rfl, rfl, s2.fr.f _ _ hx, k1, k2, by rw [r.len]; exact hz, fun p2 hp2 => ?_⟩))
  have B := back_n (post := rsA post ρ2) s2.fr (back_of s2.fr e2 (Q := Q) fun z c G5 F5 H5 s5 e5 o5 w5 po => kk z c ρ2 G5 F5 H5 (s12.trans s5) (sh1.trans sh2) e5 o5 (ArNew.back s12 (sh1.trans sh2) e2 w5) po) hp2 (r.repl k.toNat) q
  exact B
end DL
namespace DL
open PySem PySem.Spec PySem.W PyProof.Rows L2
variable [HasT]
/-! ### rows -/
def sgOf : D → List Nat
  | .str s => s
  | _ => []
def lensD (ds : List D) : Int := (ds.map fun d => ((sgOf d).length : Int)).sum
def rowB (r : Int) (x : D) : Bool := match x with
  | .tup ds => decide (1 ≤ ds.length ∧ ds.length ≤ 4) && ((ds.map (ringB r)).all id && decide (lensD ds ≤ 60))
  | _ => false
def itOk (x : D) : Prop := okT x ∧ okD x = true ∧ depD x ≤ 40 ∧ ∀ s, x = .str s → ascii s
def rowIn (x : D) : Prop := ∀ ds, x = .tup ds → ds.length ≤ 1000 ∧ ∀ d ∈ ds, itOk d
theorem ringB_strD {r : Int} {d : D} (h : ringB r d = true) : ∃ s, d = .str s ∧ s.length ≤ 100 := by
  cases d with
  | str s =>
    rw [ringB_str] at h
    simp only [Bool.and_eq_true] at h
    exact ⟨s, rfl, word_len h.1⟩
  | _ => cases h
theorem strs_of {r : Int} : ∀ {ds : List D}, (∀ d ∈ ds, ringB r d = true) → ds = (ds.map sgOf).map .str ∧ ∀ s ∈ ds.map sgOf, s.length ≤ 100
  | [], _ => ⟨rfl, fun s h => by cases h⟩
  | d :: ds, h => by
    obtain ⟨s, rfl, hs⟩ := ringB_strD (h d List.mem_cons_self)
    obtain ⟨e1, e2⟩ := strs_of fun x hx => h x (List.mem_cons_of_mem _ hx)
    refine ⟨?_, fun z hz => ?_⟩
    · show D.str s :: ds = D.str s :: _
      rw [← e1]
    · rcases List.mem_cons.mp hz with rfl | hz
      · exact hs
      · exact e2 z hz
theorem ringO_isB {r : Int} {t : List Nat} (ha : ∀ c ∈ t, c ∈ alph r) (hr : Red t) (hl : t.length ≤ 100) (hn : t ≠ []) : ringB r (.str (ringO t)) = true := by
  have tal : ∀ c ∈ t, c ∈ al := fun c hc => alph_al (ha c hc)
  have rn : ringO t ≠ [] := fun e => hn ((ringO_nil tal hr).mp e)
  have ra : ∀ c ∈ ringO t, c ∈ alph r := fun c hc => ha c (core_mem ((ringO_rot tal hr).mem.mp hc))
  have rl := ringO_len tal hr
  rw [ringB_of ra (List.length_pos_iff.mpr rn) (by omega) (ringO_is tal hr)]
  refine decide_eq_true ?_
  have := ringO_ringO tal hr
  rw [show ringO (ringO t) = if ringO t = [] then [] else ringW (ringO t) from rfl, if_neg rn] at this
  unfold ringW at this
  rwa [(ringO_is tal hr).core] at this
section
variable {K : PySem.W.Frag} {post : Rs → Prop}
theorem okDs_of : ∀ {ds : List D}, (∀ d ∈ ds, okD d = true) → okDs ds = true
  | [], _ => by simp [okDs]
  | d :: ds, h => by simp only [okDs, Bool.and_eq_true]; exact ⟨h d List.mem_cons_self, okDs_of fun x hx => h x (List.mem_cons_of_mem _ hx)⟩
theorem depDs_of {n : Nat} : ∀ {ds : List D}, (∀ d ∈ ds, depD d ≤ n) → depDs ds ≤ n
  | [], _ => by simp [depDs]
  | d :: ds, h => by simp only [depDs]; exact Nat.max_le.mpr ⟨h d List.mem_cons_self, depDs_of fun x hx => h x (List.mem_cons_of_mem _ hx)⟩
theorem od_ne_l0 {ds : List D} (h1 : ∀ d ∈ ds, okD d = true) (h2 : ∀ d ∈ ds, depD d ≤ 40) (q : post (.d (.bl (!ds.isEmpty)))) : OD K (rNeD K) (.lst ds) (.lst []) post :=
  od_neD (by unfold okD; exact okDs_of h1) (by simp [okD, okDs]) (by unfold depD; have := depDs_of h2; omega) (by simp [depD, depDs]) (by rw [eqD_nil]; exact q)
end
end DL
namespace DL
open PySem PySem.Spec PySem.W PyProof.Rows L2
variable [HasT]
/-! ### things near a row -/
def it2 (x : D) : Prop := itOk x ∧ smI x = true ∧ weD x ≤ 20000 ∧ depD x ≤ 5
def rowTh (x : D) : Prop := okT x ∧ shwD x ∧ rowIn x
theorem it2_str {s : List Nat} (h : ascii s) (hl : s.length ≤ 10000) : it2 (.str s) :=
  ⟨⟨⟨rfl, fun t e => by cases e; omega⟩, okD_asc h, by simp [depD], fun t e => by cases e; exact h⟩, by simp [smI], by simp only [weD]; omega, by simp [depD]⟩
theorem it2_non : it2 .non := ⟨⟨⟨rfl, fun t e => by cases e⟩, rfl, by decide, fun t e => by cases e⟩, rfl, by decide, by decide⟩
theorem it2_zero : it2 (.int 0) := ⟨⟨⟨rfl, fun t e => by cases e⟩, rfl, by decide, fun t e => by cases e⟩, by decide, by decide, by decide⟩
theorem it2_tup1 {s : List Nat} (h : ascii s) (hl : s.length ≤ 10000) : it2 (.tup [.str s]) :=
  ⟨⟨⟨rfl, fun t e => by cases e⟩, by simp only [okD, okDs, Bool.and_true]; exact okD_asc h, by simp [depD, depDs], fun t e => by cases e⟩, by simp [smI, smIs], by simp only [weD, weDs]; omega, by simp [depD, depDs]⟩
theorem it2_signs {z : List Nat} (h : ascii z) (hl : z.length ≤ 9000) : it2 (.lst (z.map fun c => .str [c])) :=
  ⟨⟨⟨rfl, fun t e => by cases e⟩, by unfold okD; exact ok_signs h, by unfold depD; rw [dep_signs]; decide, fun t e => by cases e⟩, by unfold smI; exact sm_signs z, by unfold weD; rw [we_signs]; omega, by unfold depD; rw [dep_signs]; decide⟩
theorem smIs_of : ∀ {ds : List D}, (∀ d ∈ ds, smI d = true) → smIs ds = true
  | [], _ => rfl
  | d :: ds, h => by simp only [smIs, Bool.and_eq_true]; exact ⟨h d List.mem_cons_self, smIs_of fun x hx => h x (List.mem_cons_of_mem _ hx)⟩
theorem weDs_of {n : Nat} : ∀ {ds : List D}, (∀ d ∈ ds, weD d ≤ n) → weDs ds ≤ ds.length * (n + 1)
  | [], _ => by simp [weDs]
  | d :: ds, h => by
    have a := h d List.mem_cons_self
    have b := weDs_of fun x hx => h x (List.mem_cons_of_mem _ hx)
    simp only [weDs, List.length_cons, Nat.succ_mul]
    omega
theorem seq_shw {ds : List D} (h : ∀ d ∈ ds, it2 d) (hl : ds.length ≤ 50) : okDs ds = true ∧ depDs ds ≤ 5 ∧ smIs ds = true ∧ weDs ds ≤ 2 ^ 20 := by
  refine ⟨okDs_of fun d hd => (h d hd).1.2.1, depDs_of fun d hd => (h d hd).2.2.2, smIs_of fun d hd => (h d hd).2.1, ?_⟩
  have := weDs_of fun d hd => (h d hd).2.2.1
  have : ds.length * (20000 + 1) ≤ 50 * (20000 + 1) := Nat.mul_le_mul_right _ hl
  omega
theorem rowTh_tup {ds : List D} (h : ∀ d ∈ ds, it2 d) (hl : ds.length ≤ 50) : rowTh (.tup ds) := by
  obtain ⟨a, b, c, d⟩ := seq_shw h hl
  exact ⟨⟨rfl, fun s e => by cases e⟩, shw_of (by unfold okD; exact a) (by unfold depD; omega) (by unfold smI; exact c) (by unfold weD; exact d), fun es e => by cases e; exact ⟨by omega, fun x hx => (h x hx).1⟩⟩
theorem rowTh_lst {ds : List D} (h : ∀ d ∈ ds, it2 d) (hl : ds.length ≤ 50) : rowTh (.lst ds) := by
  obtain ⟨a, b, c, d⟩ := seq_shw h hl
  exact ⟨⟨rfl, fun s e => by cases e⟩, shw_of (by unfold okD; exact a) (by unfold depD; omega) (by unfold smI; exact c) (by unfold weD; exact d), fun es e => by cases e⟩
theorem rowTh_th {x : D} (h : thOk x) (hn : ∀ ds, x ≠ .tup ds) : rowTh x := ⟨h.1, h.2.1, fun ds e => absurd e (hn ds)⟩
theorem rowTh_tt {ds : List D} (h : ∀ d ∈ ds, it2 d) (hl : ds.length ≤ 50) : rowTh (.tup [.tup ds]) := by
  obtain ⟨a, b, c, d⟩ := seq_shw h hl
  refine ⟨⟨rfl, fun s e => by cases e⟩, shw_of (by simp only [okD, okDs, a, Bool.and_self]) (by simp only [depD, depDs]; omega) (by simp only [smI, smIs, c, Bool.and_self]) (by simp only [weD, weDs]; have := weDs_of fun d hd => (h d hd).2.2.1; have : ds.length * (20000 + 1) ≤ 50 * (20000 + 1) := Nat.mul_le_mul_right _ hl; omega), fun es e => ?_⟩
  cases e
  refine ⟨by simp, fun x hx => ?_⟩
  rw [List.mem_singleton.mp hx]
  exact ⟨⟨rfl, fun s e => by cases e⟩, by unfold okD; exact a, by unfold depD; omega, fun s e => by cases e⟩
theorem rowTh_strs {ss : List (List Nat)} (h : (ss.all fun s => s.all (fun c => decide (c < 128)) && decide (s.length ≤ 1000)) = true) (hl : ss.length ≤ 50) : rowTh (.tup (ss.map .str)) := by
  refine rowTh_tup (fun d hd => ?_) (by rw [List.length_map]; exact hl)
  obtain ⟨s, hs, rfl⟩ := List.mem_map.mp hd
  have := List.all_eq_true.mp h s hs
  simp only [Bool.and_eq_true, decide_eq_true_eq] at this
  exact it2_str (fun c hc => by have := List.all_eq_true.mp this.1 c hc; exact of_decide_eq_true this) (by omega)
end DL
namespace DL
open PySem PySem.Spec PySem.W PyProof.Rows L2
variable [HasT]
/-! ### enumerate of a text, of a tuple -/
def Ies (x : Str) : It :=
  ⟨fun i _ => i < x.cps.size, fun i H v H' => ∃ T c, v = .ref T ∧ H T = none ∧ H' = upd H T (.tup [.int (i : Nat), .str ⟨#[c]⟩]) ∧ x.cps[i]? = some c, fun i _ => i = x.cps.size⟩
def Iet (K : PySem.W.Frag) (a : Addr) : It :=
  ⟨fun i H => ∃ (xs : List V) (x : V), SqT K H a xs ∧ xs[i]? = some x, fun i H v H' => ∃ T x, v = .ref T ∧ H T = none ∧ H' = upd H T (.tup [.int (i : Nat), x]) ∧ ∀ xs, SqT K H a xs → xs[i]? = some x, fun i H => ∃ xs : List V, SqT K H a xs ∧ xs.length = i⟩
section
variable {P : Program} {w : World} {K : PySem.W.Frag} {elts : List Expr} {kk : Nat} {tpos : Pos}
/-- the new pair of a turn -/
theorem pair_new {X : Cx} {pins : List (Addr × Obj)} {σ : L2.St} {H : Hp} {s : Shared} {e it : Addr} {h2 : Heap} {tk t1 : Nat} {i : Nat} {x : V} {u : Value} (I : Inv X pins σ H s) (hf : ∀ b ∈ [e, it], FpOk X pins H b)
    (old : ∀ b o, b ≠ e → b ≠ it → s.heap.get? b = some o → h2.get? b = some o) (tup : h2.get? s.heap.objs.size = some { cls := .type "tuple", data := .seq #[.int i tk, u] }) (r : RelV x u) :
    Inv X pins σ (upd H s.heap.objs.size (.tup [.int (i : Nat), x])) { s with heap := h2, toks := t1 } := by
  refine I.turnedNew (ch := [e, it]) (fun b ob hb q => ?_) hf (Nat.le_refl _) ⟨by show 2 ≤ sizeLine; decide, [.int i tk, u], .cons ⟨_, rfl⟩ (.cons r .nil), ⟨_, tup, rfl, _, rfl⟩⟩
  simp only [List.mem_cons, List.not_mem_nil, or_false, not_or] at hb
  exact old b ob hb.1 hb.2 q
theorem new_free {X : Cx} {pins : List (Addr × Obj)} {H : Hp} {s : Shared} {e it : Addr} {o : HO} (hf : ∀ b ∈ [e, it], FpOk X pins H b) (he : e < s.heap.objs.size) (hi : it < s.heap.objs.size) : ∀ b ∈ [e, it], upd H s.heap.objs.size o b = none := fun b hb => by
  have lt : b < s.heap.objs.size := by
    simp only [List.mem_cons, List.not_mem_nil, or_false] at hb
    rcases hb with rfl | rfl <;> assumption
  rw [upd_ne (Nat.ne_of_lt lt)]
  exact (hf b hb).1
theorem turn_ens {x : Str} {t : Tok} {e it : Addr} : Turn P w K (.Tuple elts kk tpos) (Ies x) [e, it] e (fun i h => (∃ old, IsEnum h e it ((i : Nat) : Int) old) ∧ h.IsStrIter it (strIterType x) x t i ∧ e ≠ it) where
  mem := List.mem_cons_self
  obj := fun i h st b hb => by
    obtain ⟨⟨old, he⟩, ⟨o, ho, _, hd⟩, _⟩ := st
    simp only [List.mem_cons, List.not_mem_nil, or_false] at hb
    rcases hb with rfl | rfl
    · exact ⟨_, he, fun v q => nomatch q⟩
    · exact ⟨o, ho, fun v q => by rw [hd] at q; cases q⟩
  keep := fun i h h' st k => by
    obtain ⟨⟨old, he⟩, ⟨o, ho, r⟩, ne⟩ := st
    exact ⟨⟨old, k e (by simp) _ he⟩, ⟨o, k it (by simp) _ ho, r⟩, ne⟩
  item := by
    intro X eP ew eK hc i pins s σ H E I hf st hg
    subst eP ew eK
    obtain ⟨⟨old, he⟩, hit, ne⟩ := st
    have le := Heap.lt_size he
    have li : it < s.heap.objs.size := by obtain ⟨_, q, _⟩ := hit; exact Heap.lt_size q
    have D := Draws.text (prog := X.prog) (w := X.w) (A := X.A.in1) (I.ok.hd hc) it x t
    refine wpAny_pyNext_enum_itemD D he hit hg ne (by simp [ne]) fun u h1 tk pu ho st1 tup hz kp => ?_
    obtain ⟨c, tc, hcx, rfl⟩ := pu
    refine ⟨_, rfl, wpAny_letOwnedTupleGo_enum (s := { s with heap := h1, toks := tk + 1 }) ho fun h2 he2 sb => ?_⟩
    have up : ∀ b o, b ≠ e → h1.get? b = some o → h2.get? b = some o := fun b o hb q => (sb.2 b hb).trans q
    have I2 := pair_new (t1 := tk + 1) (x := .str ⟨#[c]⟩) (h2 := h2) I hf (fun b o hb hb2 q => up b o hb (kp b o hb hb2 q)) (up _ _ (Nat.ne_of_gt le) tup) ⟨tc, rfl⟩
    refine ⟨.ref s.heap.objs.size, _, I2, rfl, ⟨_, c, rfl, I.hok.fresh (Nat.le_refl _), rfl, hcx⟩, ⟨⟨.str ⟨#[c]⟩ tc, ?_⟩, ?_, ne⟩, new_free hf le li⟩
    · have z : ((i + 1 : Nat) : Int) = (i : Int) + 1 := by omega
      rw [z]; exact he2
    · obtain ⟨o, q, r⟩ := st1
      exact ⟨o, up it o (Ne.symm ne) q, r⟩
  done := by
    intro X eP ew eK hc i pins s σ H E I hf st hg
    subst eP ew eK
    obtain ⟨⟨old, he⟩, hit, ne⟩ := st
    have D := Draws.text (prog := X.prog) (w := X.w) (A := X.A.in1) (I.ok.hd hc) it x t
    obtain ⟨f0, f1, f2, f3, f4, f5⟩ := hf it (by simp)
    have hg : i = x.cps.size := hg
    subst hg
    exact wpAny_pyNext_enum_endD D he hit fun h1 eb => ⟨rfl, I.turned (t' := s.toks) (fun b o hb q => eb b o hb q) f0 f1 f3 f4 f5⟩
  self := fun A i s Q E st h => let ⟨⟨_, he⟩, _⟩ := st; wpAny_pyIter_enum he h
def iEnumS (ta : TA) : TI := fun σ H R => ta σ H fun vs H1 => ∃ x : Str, vs = [.str x] ∧ R (Ies x) H1
theorem pi_enumS {X : Cx} {e : Expr} {ta : TA} {p pos : Pos} (hg : Gl X "enumerate") (hm : X.mg "enumerate" = none) (ha : PA X [e] ta) (hs : starEach [e] X.env = [(false, eval e X.env)] := by rfl) : PI X (.Tuple elts kk tpos) (.Call (.Name "enumerate" p) [e] [] pos) (iEnumS ta) := by
  refine ⟨fun pins s σ H R I h => Call_ (ld_blt I hg hm boot_enumerate (PyProof.Rows.callWith_type1 (thn (ha.run pos pins s σ H _ I h) fun us s1 hh => ?_) hs rfl))⟩
  obtain ⟨vs, H1, I1, r1, x, ex, q⟩ := hh
  subst ex
  obtain ⟨u, rfl, t, rfl⟩ := vals1 r1
  refine call_enumerate_str fun h1 he hit hz kp => wpAny_pyIter_enum he ?_
  refine ⟨s1.heap.objs.size + 1, [s1.heap.objs.size + 1, s1.heap.objs.size], _, Ies x, H1, rfl, I1.kept (t' := s1.toks) kp, turn_ens (t := t), ⟨⟨.none, he⟩, hit, Nat.succ_ne_self _⟩, fun b hb => ?_, q⟩
  have le : s1.heap.objs.size ≤ b := by
    simp only [List.mem_cons, List.not_mem_nil, or_false] at hb
    rcases hb with rfl | rfl
    · exact Nat.le_succ _
    · exact Nat.le_refl _
  exact I1.fpOk le (I1.hok.fresh le)
theorem walks_enumS {G : Hp} {l : List Nat} : Walks K G (Ies (S l)) (l.zipIdx.map fun p => D.tup [.int (p.2 : Nat), .str [p.1]]) := by
  intro G2 F2 H2 e f i
  refine ⟨fun hi => ?_, fun hi => ?_, fun x H' y z hz => ?_⟩
  · show i < (S l).cps.size; simpa using hi
  · show i = (S l).cps.size; simpa using hi
  · obtain ⟨T, c, rfl, hT, rfl, hc⟩ := y
    have hc : l[i]? = some c := by simpa using hc
    rw [List.getElem?_map, List.getElem?_zipIdx, hc] at hz
    have ez : D.tup [.int ((0 + i : Nat) : Int), .str [c]] = z := Option.some.inj hz
    rw [Nat.zero_add] at ez
    subst ez
    have fr2 : Fr (upd G2 T (.tup [.int (i : Nat), .str ⟨#[c]⟩])) F2 (upd H2 T (.tup [.int (i : Nat), .str ⟨#[c]⟩])) := f.newG hT
    exact ⟨_, same_new (none_of_same f.g hT), fr2, .tup (.inl (.inl upd_same)) (.cons (.int _) (.cons (.str [c]) .nil)), same_new hT⟩
theorem ei_enumS {ρ : List Sl} {ta : TA} {post : List D → List Sl → Prop} (h : EA K ρ ta fun as ρ1 => ∃ l, as = [.d (.str l)] ∧ post (l.zipIdx.map fun p => D.tup [.int (p.2 : Nat), .str [p.1]]) ρ1) : EI K ρ (iEnumS ta) post := by
  intro G F H σ f e R k
  refine h G F H σ f e _ fun vs as ρ1 G1 F1 H1 s1 sh1 e1 o1 ⟨l, ea, q⟩ => ?_
  subst ea
  cases o1 with
  | cons r1 r2 =>
    cases r2
    cases r1
    exact ⟨_, rfl, k _ _ ρ1 G1 F1 H1 s1 sh1 e1 walks_enumS q⟩
theorem meets_enum1 {v : Value} {o : Obj} {Hz : Heap → Prop} (B : Begins v o Hz) :
    Meets (Builtin.«enumerate.__new__» ⟨[.type "enumerate", v], []⟩) (fun _ R s => Hz s.heap ∧ R (.ok (.ret (.ref (s.heap.push o).objs.size))) { s with heap := (s.heap.push o).push { cls := .type "enumerate", data := .fields #[.none, .bool false, .ref s.heap.objs.size, rawInt 0, .none, .none] } }) :=
  .of_wp fun prog w A R s h => by
    obtain ⟨hp, g, d, tk, os⟩ := s
    obtain ⟨h1, h⟩ := h
    have hsub := sub_enumerate
    have q1 : ∀ {A' : Around} {E : Value → Shared → Prop} {Q : Value → Shared → Prop}, Q (.ref hp.objs.size) ⟨hp.push o, g, d, tk, os⟩ → wpAny (model prog w) A' (pyIter v) Q E ⟨hp, g, d, tk, os⟩ := fun q => B.iter prog w _ _ ⟨hp, g, d, tk, os⟩ _ h1 q
    wp_walk using q1
    refine wpAny_stack_any fun st => wpAny_pure ?_
    split
    · rename_i c _ _ _ _ _
      cases (c == Value.type "enumerate") <;> (wp_walk using q1; exact ⟨_, rfl, h⟩)
    · wp_walk using q1
      exact ⟨_, rfl, h⟩
theorem enum1_begins {prog : Program} {w : World} {A : Around} {E : Value → Shared → Prop} {s : Shared} {v : Value} {o : Obj} {Hz : Heap → Prop} {Q : Value → Shared → Prop} (B : Begins v o Hz) (h1 : Hz s.heap)
    (h : ∀ h', IsEnum h' (s.heap.objs.size + 1) s.heap.objs.size 0 .none → h'.get? s.heap.objs.size = some o → (∀ b o, s.heap.get? b = some o → h'.get? b = some o) → Q (.ref (s.heap.objs.size + 1)) { s with heap := h' }) :
    wpAny (model prog w) A (call (.type "enumerate") [v]) Q E s := by
  refine callType_new F.called_enumerate (by decide) (F.typeCall_enumerate_1 _) (F.newCall_enumerate_1 _) (fun obj => F.args_object_init_2 obj _) F.entry_enumerate_new (meets_enum1 B) ⟨h1, ?_⟩
  have z : (s.heap.push o).objs.size = s.heap.objs.size + 1 := Heap.size_push ..
  show _ ∧ _
  rw [z]
  have en := Heap.get?_push_size (s.heap.push o) (o := { cls := .type "enumerate", data := .fields #[.none, .bool false, .ref s.heap.objs.size, rawInt 0, .none, .none] }) rfl
  rw [z] at en
  exact ⟨⟨_, en, rfl⟩, h _ en (Heap.get?_push_of_some _ (Heap.get?_push_size _ B.free)) fun b o x => Heap.get?_push_of_some _ (Heap.get?_push_of_some _ x)⟩
theorem turn_ent {a e it : Addr} : Turn P w K (.Tuple elts kk tpos) (Iet K a) [e, it] e (fun i h => (∃ old, IsEnum h e it ((i : Nat) : Int) old) ∧ h.IsTupleIter it a i ∧ e ≠ it ∧ a ≠ it ∧ e ≠ a) where
  mem := List.mem_cons_self
  obj := fun i h st b hb => by
    obtain ⟨⟨old, he⟩, ⟨o, ho, _, hd⟩, _⟩ := st
    simp only [List.mem_cons, List.not_mem_nil, or_false] at hb
    rcases hb with rfl | rfl
    · exact ⟨_, he, fun v q => nomatch q⟩
    · exact ⟨o, ho, fun v q => by rw [hd] at q; cases q⟩
  keep := fun i h h' st k => by
    obtain ⟨⟨old, he⟩, ⟨o, ho, r⟩, ne⟩ := st
    exact ⟨⟨old, k e (by simp) _ he⟩, ⟨o, k it (by simp) _ ho, r⟩, ne⟩
  item := by
    intro X eP ew eK hc i pins s σ H E I hf st hg
    subst eP ew eK
    obtain ⟨⟨old, he⟩, hit, ne, na, nea⟩ := st
    have le := Heap.lt_size he
    have li : it < s.heap.objs.size := by obtain ⟨_, q, _⟩ := hit; exact Heap.lt_size q
    obtain ⟨xs, x, hq, hx⟩ := hg
    obtain ⟨its, rv, pt, hz⟩ := I.tuple hq
    obtain ⟨u, hu, ru⟩ := rv.get hx
    have D := Draws.tuple (prog := X.prog) (w := X.w) (A := X.A.in1) (I.ok.hd hc) it a na its.toArray
    have hlt : i < its.toArray.size := by rw [List.size_toArray]; exact (List.getElem?_eq_some_iff.mp hu).1
    refine wpAny_pyNext_enum_itemD D he ⟨hit, pt⟩ hlt ne (by simp [ne, nea]) fun v h1 tk pu ho st1 tup hz kp => ?_
    have ev : v = u := by
      have pu : its.toArray[i]? = some v := pu
      rw [List.getElem?_toArray, hu] at pu
      exact (Option.some.inj pu).symm
    subst ev
    refine ⟨_, rfl, wpAny_letOwnedTupleGo_enum (s := { s with heap := h1, toks := tk + 1 }) ho fun h2 he2 sb => ?_⟩
    have up : ∀ b o, b ≠ e → h1.get? b = some o → h2.get? b = some o := fun b o hb q => (sb.2 b hb).trans q
    have I2 := pair_new (t1 := tk + 1) (x := x) (h2 := h2) I hf (fun b o hb hb2 q => up b o hb (kp b o hb hb2 q)) (up _ _ (Nat.ne_of_gt le) tup) ru
    refine ⟨.ref s.heap.objs.size, _, I2, rfl, ⟨_, x, rfl, I.hok.fresh (Nat.le_refl _), rfl, fun ys hy => by rw [I.tuple_inj hy hq]; exact hx⟩, ⟨⟨v, ?_⟩, ?_, ne, na, nea⟩, new_free hf le li⟩
    · have z : ((i + 1 : Nat) : Int) = (i : Int) + 1 := by omega
      rw [z]; exact he2
    · obtain ⟨o, q, r⟩ := st1.1
      exact ⟨o, up it o (Ne.symm ne) q, r⟩
  done := by
    intro X eP ew eK hc i pins s σ H E I hf st hg
    subst eP ew eK
    obtain ⟨⟨old, he⟩, hit, ne, na, nea⟩ := st
    obtain ⟨xs, hq, hx⟩ := hg
    obtain ⟨its, rv, pt, hz⟩ := I.tuple hq
    have D := Draws.tuple (prog := X.prog) (w := X.w) (A := X.A.in1) (I.ok.hd hc) it a na its.toArray
    obtain ⟨f0, f1, f2, f3, f4, f5⟩ := hf it (by simp)
    have hn : i = its.toArray.size := by rw [List.size_toArray, ← rv.length]; exact hx.symm
    subst hn
    exact wpAny_pyNext_enum_endD D he ⟨hit, pt⟩ fun h1 eb => ⟨rfl, I.turned (t' := s.toks) (fun b o hb q => eb b o hb q) f0 f1 f3 f4 f5⟩
  self := fun A i s Q E st h => let ⟨⟨_, he⟩, _⟩ := st; wpAny_pyIter_enum he h
def iEnumT (K : PySem.W.Frag) (ta : TA) : TI := fun σ H R => ta σ H fun vs H1 => ∃ a xs, vs = [.ref a] ∧ SqT K H1 a xs ∧ R (Iet K a) H1
theorem pi_enumT {X : Cx} {e : Expr} {ta : TA} {p pos : Pos} (hK : X.K = K) (hg : Gl X "enumerate") (hm : X.mg "enumerate" = none) (ha : PA X [e] ta) (hs : starEach [e] X.env = [(false, eval e X.env)] := by rfl) : PI X (.Tuple elts kk tpos) (.Call (.Name "enumerate" p) [e] [] pos) (iEnumT K ta) := by
  subst hK
  refine ⟨fun pins s σ H R I h => Call_ (ld_blt I hg hm boot_enumerate (PyProof.Rows.callWith_type1 (thn (ha.run pos pins s σ H _ I h) fun us s1 hh => ?_) hs rfl))⟩
  obtain ⟨vs, H1, I1, r1, a, xs, ex, hq, q⟩ := hh
  subst ex
  obtain rfl := Vals.ref1 r1
  obtain ⟨its, rv, pt, hz⟩ := I1.tuple hq
  have al : a < s1.heap.objs.size := by obtain ⟨_, q, _⟩ := pt; exact Heap.lt_size q
  refine enum1_begins (begins_tuple a its.toArray) pt fun h1 he ho kp => wpAny_pyIter_enum he ?_
  refine ⟨s1.heap.objs.size + 1, [s1.heap.objs.size + 1, s1.heap.objs.size], _, Iet X.K a, H1, rfl, I1.kept (t' := s1.toks) kp, turn_ent, ⟨⟨.none, he⟩, ⟨_, ho, rfl, rfl⟩, Nat.succ_ne_self _, Nat.ne_of_lt al, Nat.ne_of_gt (Nat.lt_succ_of_lt al)⟩, fun b hb => ?_, q⟩
  have le : s1.heap.objs.size ≤ b := by
    simp only [List.mem_cons, List.not_mem_nil, or_false] at hb
    rcases hb with rfl | rfl
    · exact Nat.le_succ _
    · exact Nat.le_refl _
  exact I1.fpOk le (I1.hok.fresh le)
theorem walks_enumT {G : Hp} {a : Addr} {xs : List V} {ds : List D} (h : SqT K G a xs) (r : Reps K G xs ds) : Walks K G (Iet K a) (ds.zipIdx.map fun p => D.tup [.int (p.2 : Nat), p.1]) := by
  intro G2 F2 H2 e f i
  have hs : SqT K H2 a xs := sqt_mono (e.trans f.g) h
  have hl := r.len
  refine ⟨fun hi => ?_, fun hi => ⟨xs, hs, ?_⟩, fun x H' y z hz => ?_⟩
  · have hi : i < xs.length := by rw [hl]; simpa using hi
    exact ⟨xs, xs[i], hs, by rw [List.getElem?_eq_getElem]⟩
  · rw [hl]; have : i = ds.length := by simpa using hi
    exact this.symm
  · obtain ⟨T, v, rfl, hT, rfl, hv⟩ := y
    have hv := hv xs hs
    obtain ⟨d, hd, rd⟩ := r.getv hv
    rw [List.getElem?_map, List.getElem?_zipIdx, hd] at hz
    have ez : D.tup [.int ((0 + i : Nat) : Int), d] = z := Option.some.inj hz
    rw [Nat.zero_add] at ez
    subst ez
    have g2 : Same G2 (upd G2 T (.tup [.int (i : Nat), v])) := same_new (none_of_same f.g hT)
    exact ⟨_, g2, f.newG hT, .tup (.inl (.inl upd_same)) (.cons (.int _) (.cons (rd.mono (e.trans g2)) .nil)), same_new hT⟩
theorem ei_enumT {ρ : List Sl} {ta : TA} {post : List D → List Sl → Prop} (h : EA K ρ ta fun as ρ1 => ∃ ds, as = [.d (.tup ds)] ∧ post (ds.zipIdx.map fun p => D.tup [.int (p.2 : Nat), p.1]) ρ1) : EI K ρ (iEnumT K ta) post := by
  intro G F H σ f e R k
  refine h G F H σ f e _ fun vs as ρ1 G1 F1 H1 s1 sh1 e1 o1 ⟨ds, ea, q⟩ => ?_
  subst ea
  cases o1 with
  | cons r1 r2 =>
    cases r2
    cases r1 with
    | tup h1 h2 => exact ⟨_, _, rfl, sqt_mono s1.fr.g h1, k _ _ ρ1 G1 F1 H1 s1 sh1 e1 (walks_enumT h1 h2) q⟩
end
end DL
namespace DL
open PySem PySem.Spec PySem.W PyProof.Rows L2
variable [HasT]
/-! ### dicts that are changed -/
def valD (kvs : List (Key × D)) (k : Key) : Option D := (kvs.find? fun kv => decide (kv.1 = k)).map (·.2)
def putD (kvs : List (Key × D)) (k : Key) (x : D) : List (Key × D) :=
  if (kvs.any fun kv => decide (kv.1 = k)) = true then kvs.map (fun kv => if kv.1 = k then (kv.1, x) else kv) else kvs ++ [(k, x)]
section
variable {K : PySem.W.Frag} {G : Hp} {ρ : List Sl}
theorem RepK.len {vs : List (Key × V)} {ds : List (Key × D)} : RepK K G vs ds → vs.length = ds.length := by
  induction vs generalizing ds with
  | nil => intro h; cases h; rfl
  | cons v vs ih => intro h; cases h with | cons h1 h2 => simp [ih h2]
theorem RepK.val {k : Key} : ∀ {vs : List (Key × V)} {ds : List (Key × D)} {x : D}, RepK K G vs ds → valD ds k = some x → ∃ v, valV vs k = some v ∧ Rep K G v x
  | _, _, x, .nil, h => by simp [valD] at h
  | _, _, x, .cons (k := k') (v := v) (d := d) (vs := vs) (ds := ds) r rs, h => by
    by_cases e : k' = k
    · subst e
      have : valD ((k', d) :: ds) k' = some d := by simp [valD]
      rw [this] at h
      cases h
      exact ⟨v, valV_pos rfl, r⟩
    · have : valD ((k', d) :: ds) k = valD ds k := by simp [valD, List.find?_cons, e]
      rw [this] at h
      obtain ⟨w, h1, h2⟩ := RepK.val rs h
      exact ⟨w, (valV_neg e).trans h1, h2⟩
theorem RepK.any {k : Key} : ∀ {vs : List (Key × V)} {ds : List (Key × D)}, RepK K G vs ds → (vs.any fun kv => decide (kv.1 = k)) = ds.any fun kv => decide (kv.1 = k)
  | _, _, .nil => rfl
  | _, _, .cons _ rs => by simp only [List.any_cons, RepK.any rs]
theorem RepK.map {k : Key} {v : V} {x : D} (rv : Rep K G v x) : ∀ {vs : List (Key × V)} {ds : List (Key × D)}, RepK K G vs ds → RepK K G (vs.map fun kv => if kv.1 = k then (kv.1, v) else kv) (ds.map fun kv => if kv.1 = k then (kv.1, x) else kv)
  | _, _, .nil => .nil
  | _, _, .cons (k := k') r rs => by
    simp only [List.map_cons]
    by_cases e : k' = k
    · simp only [e, if_true]; exact .cons rv (RepK.map rv rs)
    · simp only [e, if_false]; exact .cons r (RepK.map rv rs)
theorem RepK.app {vs us : List (Key × V)} {ds es : List (Key × D)} (h : RepK K G vs ds) (h2 : RepK K G us es) : RepK K G (vs ++ us) (ds ++ es) := by
  induction vs generalizing ds with
  | nil => cases h; exact h2
  | cons v vs ih => cases h with | cons a b => exact .cons a (ih b)
theorem RepK.put {k : Key} {v : V} {x : D} (rv : Rep K G v x) {vs : List (Key × V)} {ds : List (Key × D)} (h : RepK K G vs ds) : RepK K G (putK vs k v) (putD ds k x) := by
  unfold putK putD
  rw [h.any]
  split
  · exact RepK.map rv h
  · exact h.app (.cons rv .nil)
def keyD : D → Option Key
  | .int i => some (.inl i)
  | .str s => some (.inr (S s))
  | _ => none
theorem kV_of {v : V} {x : D} {k : Key} (h : Rep K G v x) (e : keyD x = some k) : v = kV k := by
  cases x with
  | int i => cases h; cases e; rfl
  | str s => cases h; cases e; rfl
  | _ => cases e
theorem ed_dget {td ty : TE} {post : Ar → List Sl → Prop} (h : ED K ρ td fun a ρ1 => EP K ρ1 ty fun y ρ2 => ∃ kvs k x, arD ρ2 a = .dct kvs ∧ keyD y = some k ∧ valD kvs k = some x ∧ post (.d x) ρ2) : ED K ρ (tDGet td ty) post := by
  intro G F H σ f e Q kk
  refine h G F H σ f e _ fun v a ρ1 G1 F1 H1 s1 sh1 e1 o1 w1 h1 => ?_
  refine h1 G1 F1 H1 σ s1.fr e1 _ fun u y ρ2 G2 F2 H2 s2 sh2 e2 o2 ⟨kvs, k, x, ea, ey, ex, q⟩ => ?_
  have t := (o1.step s2 sh2).top s2.fr e2
  rw [ea] at t
  obtain ⟨p, ws, rfl, hp, r⟩ := t
  obtain ⟨w, hw, rw'⟩ := r.val ex
  rw [kV_of o2 ey]
  refine ⟨p, w, rfl, ?_, kk w (.d x) ρ2 G2 F2 H2 (s1.trans s2) (sh1.trans sh2) e2 rw' .d q⟩
  rw [← hw]
  exact DGet.k hp
/-- d[k] = e -/
theorem sd_subD {te to ti : TE} {P : PD} (h : EP K ρ te fun x ρ1 => ED K ρ1 to fun a ρ2 => ∃ j, a = .c j ∧ EP K ρ2 ti fun y ρ3 => ∃ p kvs k, ρ3[j]? = some (.cell p (.dct kvs)) ∧ keyD y = some k ∧ kvs.length < sizeLine ∧ P.nx (ρ3.set j (.cell p (.dct (putD kvs k x))))) : SD K ρ (tAsg te (gSub to ti rSetD)) P := by
  intro G F H σ f e Dn k
  refine h G F H σ f e _ fun v x ρ1 G1 F1 H1 s1 sh1 e1 o1 h1 => ?_
  refine h1 G1 F1 H1 σ s1.fr e1 _ fun u a ρ2 G2 F2 H2 s2 sh2 e2 o2 w2 ⟨j, ea, h2⟩ => ?_
  subst ea
  obtain ⟨p0, x0, hj0, rfl⟩ := o2
  refine h2 G2 F2 H2 σ s2.fr e2 _ fun w y ρ3 G3 F3 H3 s3 sh3 e3 o3 ⟨p, kvs, kk, hj, ey, hl, q⟩ => ?_
  obtain ⟨x1, hj1⟩ := sh3 j p0 x0 hj0
  rw [hj] at hj1
  cases hj1
  obtain ⟨ws, hw, r⟩ := (e3.cell hj).2
  rw [kV_of o3 ey]
  obtain ⟨s4, e4, sh4⟩ := cell_write (o := .dK (putK ws kk v)) (y := .dct (putD kvs kk x)) s3.fr e3 hj fun F' hF => ⟨_, hF, r.put ((o1.mono s2.ex).mono s3.ex)⟩
  exact ⟨_, _, rfl, DPut.k (s3.fr.f _ _ hw) (by rw [r.len]; exact hl), k.nx _ _ _ _ _ (((s1.trans s2).trans s3).trans s4) e4 q⟩
/-! ### text.count(sign) -/
def rCnt : V → List V → Hp → VK → Prop := fun x xs H Q => ∃ a b, x = .str a ∧ xs = [.str b] ∧ Q (.int (Txt.count a b)) H
theorem cnt_eq (c : Nat) (l : List Nat) : cnt c l = ((l.count c : Nat) : Int) := by
  induction l with
  | nil => rfl
  | cons a l ih =>
    rw [cnt_cons, ih, List.count_cons]
    by_cases e : a = c
    · subst e; simp; omega
    · have : (a == c) = false := by simpa using e
      simp [e, this]
theorem md_cnt {l : List Nat} {c : Nat} {post : Rs → Prop} (q : post (.d (.int ((l.count c : Nat) : Int)))) : MD K rCnt (.str l) [.str [c]] post := by
  intro G F H v vs f rx rs Q k
  cases rx
  cases rs with
  | cons r1 r2 =>
    cases r2
    cases r1
    refine ⟨_, _, rfl, rfl, ?_⟩
    have e : Txt.count (S l) (S [c]) = ((l.count c : Nat) : Int) := by
      have := count_cnt (S l) c
      rw [cnt_eq] at this
      simpa using this
    rw [e]
    exact back_d f k (.int _) q
end
end DL
namespace DL
open PySem PySem.Spec PySem.W PyProof.Rows L2
variable [HasT]
/-! ### letters, sides, the graph of a row -/
def setW (r : Int) (z : List Nat) : List Nat := (alph r).filterMap fun c => if c ∈ z then some c else none
def letB (r : Int) (x : D) : Bool := match x with
  | .str [c] => decide (c ∈ alph r)
  | _ => false
def sideB (r : Int) (x : D) : Bool := match x with
  | .str z => decide (setW r z = z)
  | _ => false
/-- the next letter around the ring -/
def nextR (s : List Nat) : List Nat := s.drop 1 ++ s.take 1
def tieR (s : List Nat) : List (Nat × Nat) := List.zip s ((nextR s).map flipC)
def ties (rs : List (List Nat)) : List (Nat × Nat) := (rs.map tieR).flatten
def half (z : List Nat) (p : Nat × Nat) : Bool := !decide (decide (p.1 ∈ z) = decide (p.2 ∈ z))
def cutN (rs : List (List Nat)) (z : List Nat) : Nat := ((ties rs).filter (half z)).length
def degN (rs : List (List Nat)) (c : Nat) : Nat := (rs.map fun s => s.count c + s.count (flipC c)).sum
def edgD (k i x z : Nat) : D := .tup [.tup [.int (k : Nat), .int (i : Nat)], .str [x], .str [z]]
def edgR (k : Nat) (s : List Nat) : List D := (tieR s).zipIdx.map fun p => edgD k p.2 p.1.1 p.1.2
def edgL (rs : List (List Nat)) : List D := (rs.zipIdx.map fun p => edgR p.2 p.1).flatten
theorem setW_al (r : Int) (z : List Nat) : ∀ c ∈ setW r z, c ∈ alph r ∧ c ∈ z := fun c hc => by
  obtain ⟨d, hd, e⟩ := List.mem_filterMap.mp hc
  split at e
  · cases e; exact ⟨hd, by assumption⟩
  · cases e
theorem setW_asc (r : Int) (z : List Nat) : ascii (setW r z) := asc_of fun c hc => (setW_al r z c hc).1
theorem setW_len (r : Int) (z : List Nat) : (setW r z).length ≤ 8 := Nat.le_trans (List.length_filterMap_le _ _) (alph_len r)
theorem setW_mem {r : Int} {z : List Nat} {c : Nat} (h : c ∈ alph r) : c ∈ setW r z ↔ c ∈ z := by
  constructor
  · exact fun hc => (setW_al r z c hc).2
  · exact fun hc => List.mem_filterMap.mpr ⟨c, h, by rw [if_pos hc]⟩
theorem next_len (s : List Nat) : (nextR s).length = s.length := by unfold nextR; rw [List.length_append, List.length_drop, List.length_take]; omega
theorem next_at {s : List Nat} {i : Nat} (h : i < s.length) : (nextR s)[i]? = s[(i + 1) % s.length]? := by
  unfold nextR
  by_cases e : i + 1 < s.length
  · rw [List.getElem?_append_left (by rw [List.length_drop]; omega), List.getElem?_drop, Nat.mod_eq_of_lt e, Nat.add_comm]
  · have : i + 1 = s.length := by omega
    rw [this, Nat.mod_self, List.getElem?_append_right (by rw [List.length_drop]; omega), List.length_drop, show i - (s.length - 1) = 0 by omega, List.getElem?_take]
    rw [if_pos (by decide)]
theorem next_mem {s : List Nat} {c : Nat} (h : c ∈ nextR s) : c ∈ s := (List.mem_append.mp h).elim List.mem_of_mem_drop List.mem_of_mem_take
theorem tie_len (s : List Nat) : (tieR s).length = s.length := by unfold tieR; rw [List.length_zip, List.length_map, next_len]; omega
theorem tie_at {s : List Nat} {i : Nat} {a b : Nat} (ha : s[i]? = some a) (hb : (nextR s)[i]? = some b) : (tieR s)[i]? = some (a, flipC b) := by
  unfold tieR
  rw [List.getElem?_zip_eq_some]
  exact ⟨ha, by rw [List.getElem?_map, hb]; rfl⟩
theorem edgL_succ {rs : List (List Nat)} {k : Nat} {s : List Nat} (h : rs[k]? = some s) : edgL (rs.take (k + 1)) = edgL (rs.take k) ++ edgR k s := by
  have hk : k < rs.length := (List.getElem?_eq_some_iff.mp h).1
  unfold edgL
  rw [List.take_add_one, h, List.zipIdx_append, List.map_append, List.flatten_append]
  simp only [Option.toList_some, List.zipIdx_cons, List.zipIdx_nil, List.map_cons, List.map_nil, List.flatten_cons, List.flatten_nil, List.append_nil, List.length_take]
  rw [Nat.zero_add, Nat.min_eq_left (Nat.le_of_lt hk)]
theorem edgR_len (k : Nat) (s : List Nat) : (edgR k s).length = s.length := by unfold edgR; rw [List.length_map, List.length_zipIdx, tie_len]
theorem edgR_at {k i a b : Nat} {s : List Nat} (ha : s[i]? = some a) (hb : (nextR s)[i]? = some b) : (edgR k s)[i]? = some (edgD k i a (flipC b)) := by
  unfold edgR
  rw [List.getElem?_map, List.getElem?_zipIdx, tie_at ha hb]
  simp
theorem edgL_len {rs : List (List Nat)} {n : Nat} (h : ∀ s ∈ rs, s.length ≤ n) : (edgL rs).length ≤ rs.length * n := by
  have : ∀ (rs : List (List Nat)) (j : Nat), (∀ s ∈ rs, s.length ≤ n) → ((rs.zipIdx j).map fun p => edgR p.2 p.1).flatten.length ≤ rs.length * n := by
    intro rs
    induction rs with
    | nil => intro j _; simp
    | cons s rs ih =>
      intro j h
      have a := ih (j + 1) fun x hx => h x (List.mem_cons_of_mem _ hx)
      have b := h s List.mem_cons_self
      simp only [List.zipIdx_cons, List.map_cons, List.flatten_cons, List.length_append, edgR_len, List.length_cons, Nat.succ_mul]
      omega
  exact this rs 0 h
theorem enum_at {l : List D} {k : Nat} {x : D} (h : (l.zipIdx.map fun p => D.tup [.int (p.2 : Nat), p.1])[k]? = some x) : ∃ d, l[k]? = some d ∧ x = .tup [.int (k : Nat), d] := by
  rw [List.getElem?_map, List.getElem?_zipIdx] at h
  cases hd : l[k]? with
  | none => rw [hd] at h; cases h
  | some d =>
    rw [hd] at h
    refine ⟨d, rfl, ?_⟩
    have := (Option.some.inj h).symm
    simpa using this
theorem enum_atS {l : List Nat} {k : Nat} {x : D} (h : (l.zipIdx.map fun p => D.tup [.int (p.2 : Nat), .str [p.1]])[k]? = some x) : ∃ c, l[k]? = some c ∧ x = .tup [.int (k : Nat), .str [c]] := by
  rw [List.getElem?_map, List.getElem?_zipIdx] at h
  cases hd : l[k]? with
  | none => rw [hd] at h; cases h
  | some d =>
    rw [hd] at h
    refine ⟨d, rfl, ?_⟩
    have := (Option.some.inj h).symm
    simpa using this
theorem deg_sum (rs : List (List Nat)) (c : Nat) : (rs.map fun s => ((s.count c : Nat) : Int) + ((s.count (flipC c) : Nat) : Int)).sum = ((degN rs c : Nat) : Int) := by
  unfold degN
  induction rs with
  | nil => rfl
  | cons s rs ih => simp only [List.map_cons, List.sum_cons, ih]; omega
/-- what an edge is read as -/
def tieD (x : D) : Nat × Nat := match x with
  | .tup [_, .str [a], .str [b]] => (a, b)
  | _ => (0, 0)
theorem edgR_ties (k : Nat) (s : List Nat) : (edgR k s).map tieD = tieR s := by
  unfold edgR
  rw [List.map_map]
  apply List.ext_getElem?
  intro i
  rw [List.getElem?_map, List.getElem?_zipIdx]
  cases (tieR s)[i]? with
  | none => rfl
  | some p => rfl
theorem edgL_ties (rs : List (List Nat)) : (edgL rs).map tieD = ties rs := by
  have : ∀ (rs : List (List Nat)) (j : Nat), ((rs.zipIdx j).map fun p => edgR p.2 p.1).flatten.map tieD = (rs.map tieR).flatten := by
    intro rs
    induction rs with
    | nil => intro j; rfl
    | cons s rs ih => intro j; simp only [List.zipIdx_cons, List.map_cons, List.flatten_cons, List.map_append, edgR_ties, ih]
  exact this rs 0
theorem edgL_form {rs : List (List Nat)} {x : D} (h : x ∈ edgL rs) : ∃ k i a b, x = edgD k i a b := by
  unfold edgL at h
  obtain ⟨l, hl, hx⟩ := List.mem_flatten.mp h
  obtain ⟨p, _, rfl⟩ := List.mem_map.mp hl
  unfold edgR at hx
  obtain ⟨q, _, rfl⟩ := List.mem_map.mp hx
  exact ⟨_, _, _, _, rfl⟩
theorem row_facts {r : Int} {rs : List (List Nat)} (h : rowB r (.tup (rs.map .str)) = true) : okT (.tup (rs.map .str)) ∧ rowIn (.tup (rs.map .str)) ∧ rs.length ≤ 4 ∧ ∀ s ∈ rs, (∀ c ∈ s, c ∈ alph r) ∧ s ≠ [] ∧ s.length ≤ 100 := by
  have h : (decide (1 ≤ (rs.map D.str).length ∧ (rs.map D.str).length ≤ 4) && (((rs.map D.str).map (ringB r)).all id && decide (lensD (rs.map D.str) ≤ 60))) = true := h
  simp only [Bool.and_eq_true, decide_eq_true_eq, List.length_map, List.all_map, List.all_eq_true] at h
  obtain ⟨⟨h1, h2⟩, h3, h4⟩ := h
  have sf : ∀ s ∈ rs, (∀ c ∈ s, c ∈ alph r) ∧ s ≠ [] ∧ s.length ≤ 100 := fun s hs => by
    have := h3 s hs
    have this : ringB r (.str s) = true := this
    rw [ringB_str] at this
    simp only [Bool.and_eq_true, decide_eq_true_eq] at this
    exact ⟨word_mem this.1, this.2.1, word_len this.1⟩
  refine ⟨⟨rfl, fun s e => by cases e⟩, fun ds e => ?_, h2, sf⟩
  cases e
  refine ⟨by rw [List.length_map]; omega, fun d hd => ?_⟩
  obtain ⟨s, hs, rfl⟩ := List.mem_map.mp hd
  obtain ⟨a1, a2, a3⟩ := sf s hs
  exact ⟨⟨rfl, fun t e => by cases e; omega⟩, okD_asc (asc_of a1), by simp [depD], fun t e => by cases e; exact asc_of a1⟩
end DL
namespace DL
variable [HasT]
/-! ### counting edges -/
def edKey (x : D) : D := match x with
  | .tup (e :: _) => e
  | _ => .non
theorem len_if {α β : Type} {p : α → Bool} {g : α → β} : ∀ l : List α, (l.filterMap fun x => if p x = true then some (g x) else none).length = (l.filter p).length
  | [] => rfl
  | a :: l => by
    rw [List.filterMap_cons, List.filter_cons]
    cases h : p a with
    | true => simp [len_if l]
    | false => simp [len_if l]
theorem cut_len (rs : List (List Nat)) (z : List Nat) : ((edgL rs).filterMap fun x => if half z (tieD x) = true then some (edKey x) else none).length = cutN rs z := by
  rw [len_if]
  unfold cutN
  rw [← edgL_ties, List.filter_map, List.length_map]
  rfl
def tieT (p : Nat × Nat) : D := .tup [.str [p.1], .str [p.2]]
theorem ties_succ {rs : List (List Nat)} {k : Nat} {s : List Nat} (h : rs[k]? = some s) : ties (rs.take (k + 1)) = ties (rs.take k) ++ tieR s := by
  unfold ties
  rw [List.take_add_one, h, List.map_append, List.flatten_append]
  simp
theorem ties_len {rs : List (List Nat)} {n : Nat} (h : ∀ s ∈ rs, s.length ≤ n) : (ties rs).length ≤ rs.length * n := by
  unfold ties
  induction rs with
  | nil => simp
  | cons s rs ih =>
    have a := ih fun x hx => h x (List.mem_cons_of_mem _ hx)
    have b := h s List.mem_cons_self
    simp only [List.map_cons, List.flatten_cons, List.length_append, tie_len, List.length_cons, Nat.succ_mul]
    omega
theorem rowB_of {r : Int} {rs : List (List Nat)} {h : Nat} (h1 : 1 ≤ rs.length) (h2 : rs.length ≤ 4) (h3 : ∀ s ∈ rs, ringB r (.str s) = true ∧ s.length ≤ h) (h4 : rs.length * h ≤ 60) : rowB r (.tup (rs.map .str)) = true := by
  have a : ((rs.map D.str).map (ringB r)).all id = true := by
    rw [List.map_map, List.all_map, List.all_eq_true]
    exact fun s hs => (h3 s hs).1
  have b : lensD (rs.map D.str) ≤ 60 := by
    have : ∀ rs : List (List Nat), (∀ s ∈ rs, s.length ≤ h) → lensD (rs.map D.str) ≤ ((rs.length * h : Nat) : Int) := by
      intro rs
      induction rs with
      | nil => intro _; simp [lensD]
      | cons s rs ih =>
        intro hh
        have x := ih fun t ht => hh t (List.mem_cons_of_mem _ ht)
        have y := hh s List.mem_cons_self
        unfold lensD at x ⊢
        simp only [List.map_cons, List.sum_cons, List.length_cons, Nat.succ_mul, sgOf] at x ⊢
        omega
    have := this rs fun s hs => (h3 s hs).2
    omega
  show (decide (1 ≤ (rs.map D.str).length ∧ (rs.map D.str).length ≤ 4) && (((rs.map D.str).map (ringB r)).all id && decide (lensD (rs.map D.str) ≤ 60))) = true
  rw [a, decide_eq_true b, decide_eq_true (show 1 ≤ (rs.map D.str).length ∧ (rs.map D.str).length ≤ 4 by rw [List.length_map]; exact ⟨h1, h2⟩)]
  rfl
/-! ### cuts of sets -/
theorem alph_nodup (r : Int) : (alph r).Nodup := (show al.Nodup by decide).sublist (List.take_sublist _ _)
theorem filt_sub {l z : List Nat} (hn : l.Nodup) (h : z.Sublist l) : (l.filterMap fun c => if c ∈ z then some c else none) = z := by
  induction h with
  | slnil => rfl
  | cons a h ih =>
    have hn2 := List.nodup_cons.mp hn
    rw [List.filterMap_cons]
    have : a ∉ _ := fun m => hn2.1 (h.subset m)
    rw [if_neg this]
    exact ih hn2.2
  | cons_cons a h ih =>
    rename_i l1 l2
    have hn2 := List.nodup_cons.mp hn
    rw [List.filterMap_cons, if_pos List.mem_cons_self]
    simp only
    congr 1
    refine Eq.trans (fmap_congr fun x hx => ?_) (ih hn2.2)
    have : x ≠ a := fun e => hn2.1 (e ▸ hx)
    by_cases m : x ∈ l1
    · rw [if_pos (List.mem_cons_of_mem _ m), if_pos m]
    · rw [if_neg m, if_neg]
      exact fun z => (List.mem_cons.mp z).elim this m
theorem setW_sub {r : Int} {z : List Nat} (h : z.Sublist (alph r)) : setW r z = z := filt_sub (alph_nodup r) h
theorem fm_sub {α : Type} {p : α → Prop} [DecidablePred p] : ∀ l : List α, (l.filterMap fun c => if p c then some c else none).Sublist l
  | [] => List.Sublist.refl _
  | a :: l => by
    rw [List.filterMap_cons]
    by_cases h : p a
    · simp only [if_pos h]; exact (fm_sub l).cons₂ a
    · simp only [if_neg h]; exact (fm_sub l).cons a
theorem fm_mem {α : Type} {p : α → Prop} [DecidablePred p] {l : List α} {x : α} : (x ∈ l.filterMap fun c => if p c then some c else none) ↔ x ∈ l ∧ p x := by
  rw [List.mem_filterMap]
  constructor
  · rintro ⟨a, ha, e⟩
    split at e
    · cases e; exact ⟨ha, by assumption⟩
    · cases e
  · rintro ⟨h1, h2⟩; exact ⟨x, h1, if_pos h2⟩
def RowL (r : Int) (rs : List (List Nat)) : Prop := ∀ s ∈ rs, (∀ c ∈ s, c ∈ alph r) ∧ CRr s
theorem tieR_mem {r : Int} (hr : Rk r) {s : List Nat} (h : ∀ c ∈ s, c ∈ alph r) {p : Nat × Nat} (hp : p ∈ tieR s) : p.1 ∈ alph r ∧ p.2 ∈ alph r := by
  unfold tieR at hp
  have hp : (p.1, p.2) ∈ List.zip s ((nextR s).map flipC) := hp
  have := List.of_mem_zip hp
  refine ⟨h _ this.1, ?_⟩
  obtain ⟨d, hd, e⟩ := List.mem_map.mp this.2
  rw [← e]
  exact alph_flip hr d (h d (next_mem hd))
theorem ties_mem {r : Int} (hr : Rk r) {rs : List (List Nat)} (h : RowL r rs) {p : Nat × Nat} (hp : p ∈ ties rs) : p.1 ∈ alph r ∧ p.2 ∈ alph r := by
  obtain ⟨l, hl, hx⟩ := List.mem_flatten.mp hp
  obtain ⟨s, hs, rfl⟩ := List.mem_map.mp hl
  exact tieR_mem hr (h s hs).1 hx
theorem cut_compl {r : Int} (hr : Rk r) {rs : List (List Nat)} (h : RowL r rs) (z : List Nat) : cutN rs ((alph r).filterMap fun c => if c ∉ z then some c else none) = cutN rs z := by
  unfold cutN
  congr 1
  refine List.filter_congr fun p hp => ?_
  obtain ⟨h1, h2⟩ := ties_mem hr h hp
  unfold half
  have e1 : (p.1 ∈ (alph r).filterMap fun c => if c ∉ z then some c else none) ↔ p.1 ∉ z := by rw [fm_mem (p := fun c => c ∉ z)]; exact ⟨fun x => x.2, fun x => ⟨h1, x⟩⟩
  have e2 : (p.2 ∈ (alph r).filterMap fun c => if c ∉ z then some c else none) ↔ p.2 ∉ z := by rw [fm_mem (p := fun c => c ∉ z)]; exact ⟨fun x => x.2, fun x => ⟨h2, x⟩⟩
  by_cases a : p.1 ∈ z <;> by_cases b : p.2 ∈ z <;> simp [e1, e2, a, b, h1, h2]
theorem filt_four {α : Type} {f g u v : α → Bool} : ∀ {l : List α}, (∀ x ∈ l, (f x).toNat + (g x).toNat ≤ (u x).toNat + (v x).toNat) → (l.filter f).length + (l.filter g).length ≤ (l.filter u).length + (l.filter v).length
  | [], _ => by simp
  | a :: l, h => by
    have ih := filt_four (l := l) fun x hx => h x (List.mem_cons_of_mem _ hx)
    have h0 := h a List.mem_cons_self
    simp only [List.filter_cons]
    cases e1 : f a <;> cases e2 : g a <;> cases e3 : u a <;> cases e4 : v a <;> simp [e1, e2, e3, e4] at h0 ⊢ <;> omega
theorem cut_sub {r : Int} (hr : Rk r) {rs : List (List Nat)} (h : RowL r rs) (z w : List Nat) :
    cutN rs ((alph r).filterMap fun c => if c ∈ z ∧ c ∈ w then some c else none) + cutN rs ((alph r).filterMap fun c => if c ∈ z ∨ c ∈ w then some c else none) ≤ cutN rs z + cutN rs w := by
  unfold cutN
  refine filt_four fun p hp => ?_
  obtain ⟨h1, h2⟩ := ties_mem hr h hp
  unfold half
  have a1 : (p.1 ∈ (alph r).filterMap fun c => if c ∈ z ∧ c ∈ w then some c else none) ↔ p.1 ∈ z ∧ p.1 ∈ w := by rw [fm_mem (p := fun c => c ∈ z ∧ c ∈ w)]; exact ⟨fun x => x.2, fun x => ⟨h1, x⟩⟩
  have a2 : (p.2 ∈ (alph r).filterMap fun c => if c ∈ z ∧ c ∈ w then some c else none) ↔ p.2 ∈ z ∧ p.2 ∈ w := by rw [fm_mem (p := fun c => c ∈ z ∧ c ∈ w)]; exact ⟨fun x => x.2, fun x => ⟨h2, x⟩⟩
  have b1 : (p.1 ∈ (alph r).filterMap fun c => if c ∈ z ∨ c ∈ w then some c else none) ↔ p.1 ∈ z ∨ p.1 ∈ w := by rw [fm_mem (p := fun c => c ∈ z ∨ c ∈ w)]; exact ⟨fun x => x.2, fun x => ⟨h1, x⟩⟩
  have b2 : (p.2 ∈ (alph r).filterMap fun c => if c ∈ z ∨ c ∈ w then some c else none) ↔ p.2 ∈ z ∨ p.2 ∈ w := by rw [fm_mem (p := fun c => c ∈ z ∨ c ∈ w)]; exact ⟨fun x => x.2, fun x => ⟨h2, x⟩⟩
  by_cases x1 : p.1 ∈ z <;> by_cases x2 : p.2 ∈ z <;> by_cases y1 : p.1 ∈ w <;> by_cases y2 : p.2 ∈ w <;> simp [a1, a2, b1, b2, x1, x2, y1, y2, h1, h2]
theorem filt_xor {α : Type} {f u v : α → Bool} : ∀ {l : List α}, (∀ x ∈ l, (f x).toNat = (u x).toNat + (v x).toNat) → (l.filter f).length = l.countP u + l.countP v
  | [], _ => by simp
  | a :: l, h => by
    have ih := filt_xor (l := l) fun x hx => h x (List.mem_cons_of_mem _ hx)
    have h0 := h a List.mem_cons_self
    simp only [List.filter_cons, List.countP_cons]
    cases e1 : f a <;> cases e3 : u a <;> cases e4 : v a <;> simp [e1, e3, e4] at h0 ⊢ <;> omega
theorem ring_deg {s : List Nat} (h : CRr s) (c : Nat) : ((tieR s).filter (half [c])).length = s.count c + s.count (flipC c) := by
  have e1 : (tieR s).map Prod.fst = s := by unfold tieR; rw [List.map_fst_zip]; rw [List.length_map, next_len]; exact Nat.le_refl _
  have e2 : (tieR s).map Prod.snd = (nextR s).map flipC := by unfold tieR; rw [List.map_snd_zip]; rw [List.length_map, next_len]; exact Nat.le_refl _
  rw [filt_xor (u := fun p => decide (p.1 = c)) (v := fun p => decide (p.2 = c)) fun p hp => ?_]
  · congr 1
    · rw [show s.count c = ((tieR s).map Prod.fst).countP (fun x => x == c) by rw [e1]; rfl, List.countP_map]
      congr 1
    · have e3 : s.count (flipC c) = (nextR s).count (flipC c) := by
        unfold nextR
        rw [List.count_append, Nat.add_comm, ← List.count_append, List.take_append_drop]
      have e4 : (nextR s).count (flipC c) = ((tieR s).map Prod.snd).countP (fun x => x == c) := by
        rw [e2, List.countP_map]
        refine List.countP_congr fun x _ => ?_
        simp only [Function.comp, beq_iff_eq]
        exact ⟨fun e => by rw [e, flip_flip], fun e => by rw [← e, flip_flip]⟩
      rw [e3, e4, List.countP_map]
      congr 1
  · obtain ⟨i, hi⟩ := List.getElem?_of_mem hp
    unfold tieR at hi
    rw [List.getElem?_zip_eq_some] at hi
    obtain ⟨ha, hb⟩ := hi
    rw [List.getElem?_map] at hb
    obtain ⟨b, hb, e⟩ := Option.map_eq_some_iff.mp hb
    have il : i < s.length := (List.getElem?_eq_some_iff.mp ha).1
    rw [next_at il] at hb
    have hpv : prevC s ((i + 1) % s.length) = some p.1 := by
      by_cases z : i + 1 < s.length
      · rw [Nat.mod_eq_of_lt z]; exact ha
      · rw [show i + 1 = s.length by omega, Nat.mod_self]
        show s.getLast? = some p.1
        rw [List.getLast?_eq_getElem?, show s.length - 1 = i by omega]; exact ha
    have nb := crr_iff.mp h _ b p.1 hb hpv
    unfold half
    have m1 : (p.1 ∈ [c]) ↔ p.1 = c := List.mem_singleton
    have m2 : (p.2 ∈ [c]) ↔ p.2 = c := List.mem_singleton
    by_cases x : p.1 = c <;> by_cases y : p.2 = c
    · exfalso
      exact nb (by rw [x, ← y, ← e, flip_flip])
    · simp [m1, m2, x, y]
    · simp [m1, m2, x, y]
    · simp [m1, m2, x, y]
theorem cut_deg {r : Int} {rs : List (List Nat)} (h : RowL r rs) (c : Nat) : cutN rs [c] = degN rs c := by
  unfold cutN degN ties
  induction rs with
  | nil => rfl
  | cons s rs ih =>
    simp only [List.map_cons, List.flatten_cons, List.filter_append, List.length_append, List.sum_cons]
    rw [ring_deg (h s List.mem_cons_self).2, ih fun x hx => h x (List.mem_cons_of_mem _ hx)]
theorem rowL_of {r : Int} {rs : List (List Nat)} (h : rowB r (.tup (rs.map .str)) = true) : RowL r rs := fun s hs => by
  obtain ⟨_, _, _, f⟩ := row_facts h
  refine ⟨(f s hs).1, ?_⟩
  have h : (decide (1 ≤ (rs.map D.str).length ∧ (rs.map D.str).length ≤ 4) && (((rs.map D.str).map (ringB r)).all id && decide (lensD (rs.map D.str) ≤ 60))) = true := h
  simp only [Bool.and_eq_true, List.map_map, List.all_map, List.all_eq_true] at h
  exact ringB_crr (h.2.1 s hs)
/-! ### dict facts -/
theorem valD_nil {k : L2.Key} : valD [] k = none := rfl
theorem valD_cons {p : L2.Key × D} {l : List (L2.Key × D)} {k : L2.Key} : valD (p :: l) k = if p.1 = k then some p.2 else valD l k := by
  unfold valD
  rw [List.find?_cons]
  by_cases h : p.1 = k
  · simp [h]
  · simp [h]
theorem valD_map {k k' : L2.Key} {x : D} : ∀ l : List (L2.Key × D), valD (l.map fun kv => if kv.1 = k then (kv.1, x) else kv) k' = if k' = k then (if (l.any fun kv => decide (kv.1 = k)) = true then some x else none) else valD l k'
  | [] => by simp [valD_nil]
  | p :: l => by
    rw [List.map_cons, valD_cons, valD_map l, List.any_cons, valD_cons]
    by_cases h : p.1 = k
    · by_cases h2 : k' = k
      · simp [h, h2]
      · have h3 : ¬ k = k' := fun e => h2 e.symm
        simp [h, h2, h3]
    · by_cases h2 : k' = k
      · rw [decide_eq_false h, Bool.false_or]
        have h3 : ¬ p.1 = k' := fun e => h (e.trans h2)
        simp [h, h2]
      · simp [h, h2]
theorem valD_app {k k' : L2.Key} {x : D} : ∀ l : List (L2.Key × D), (l.any fun kv => decide (kv.1 = k)) = false → valD (l ++ [(k, x)]) k' = if k' = k then some x else valD l k'
  | [], _ => by
    rw [List.nil_append, valD_cons, valD_nil]
    by_cases h : k' = k
    · simp [h]
    · have : ¬ k = k' := fun e => h e.symm
      simp [h, this]
  | p :: l, h => by
    simp only [List.any_cons, Bool.or_eq_false_iff, decide_eq_false_iff_not] at h
    rw [List.cons_append, valD_cons, valD_app l h.2, valD_cons]
    by_cases h2 : k' = k
    · have : ¬ p.1 = k' := fun e => h.1 (e.trans h2)
      have h3 : ¬ p.1 = k := h.1
      simp [h2, h3]
    · simp [h2]
theorem valD_put {kvs : List (L2.Key × D)} {k k' : L2.Key} {x : D} : valD (putD kvs k x) k' = if k' = k then some x else valD kvs k' := by
  unfold putD
  cases h : kvs.any fun kv => decide (kv.1 = k) with
  | true => rw [if_pos rfl, valD_map, h]; simp
  | false => rw [if_neg (by decide), valD_app kvs h]
theorem putD_len {kvs : List (L2.Key × D)} {k : L2.Key} {x : D} : (putD kvs k x).length ≤ kvs.length + 1 := by
  unfold putD
  split
  · simp
  · simp
open PySem PySem.Spec PySem.W PyProof.Rows L2 in
def rReprI : List V → Hp → VK → Prop := fun xs H Q => ∃ i, xs = [.int i] ∧ i.natAbs.log2 < 1920 ∧ Q (.str (toString i)) H
open PySem PySem.Spec PySem.W PyProof.Rows L2 in
theorem k_reprI {X : Cx} : CallR X (.builtin "repr") rReprI := SkE.call_repr_int
open PySem PySem.Spec PySem.W PyProof.Rows L2 in
theorem cd_reprI {K : PySem.W.Frag} {post : Rs → Prop} {i : Int} (h : i.natAbs.log2 < 1920) (q : post (.d (.str (toString i : Str).cps.toList))) : CD K rReprI [.int i] post := by
  intro G F H vs f rx Q k
  cases rx with
  | cons rx r2 =>
    cases r2
    cases rx
    refine ⟨i, rfl, h, back_d f k ?_ q⟩
    have := Rep.str (K := K) (G := G) (toString i : Str).cps.toList
    rwa [S_of] at this
theorem log_small {n : Nat} (h : n < 10 ^ 20) : (((n : Nat) : Int)).natAbs.log2 < 1920 := by
  rw [Int.natAbs_natCast]
  by_cases z : n = 0
  · rw [z]; decide
  · exact Nat.lt_of_lt_of_le ((Nat.log2_lt z).mpr (Nat.lt_of_lt_of_le h (show 10 ^ 20 ≤ 2 ^ 100 by decide))) (by decide)
end DL
namespace DL
open PySem PySem.Spec PySem.W PyProof.Rows L2
variable [HasT]
/-! ### defs that show nested data: their promise is kept where nothing is being shown -/
def DOkG (P : Program) (w : World) (K : PySem.W.Frag) (mg : Str → Option Value) (base : Heap) (x : Str) (k : Nat) (ps : List Str) (sp : Sp) : Prop :=
  ∃ f fd, mg x = some (.ref f) ∧ PySem.W.keepIn K (.ref f) = true ∧ Binds K fd ps [] ∧ (∀ vs H Q E, sp vs H Q E → vs.length = ps.length) ∧ RunG P w K mg base CX0 k f fd ps sp
section
variable {P : Program} {w : World} {K : PySem.W.Frag} {mg : Str → Option Value} {base : Heap}
theorem mk_defG {x : Str} {st : Stmt} {N ps : List Str} {R : DSp} {k n m : Nat} (F : FunAt K mg x st ps) (Sc : FnScope N ps (defScope st)) (hps : ps.length = n) (hN : N.length = n + m)
    (hbody : ∀ (f : Addr) (cdv : Value) (A : Around) (outer : List PySem.Env) (s : Shared) (H : Hp) (E : XK), A.guards = some [] → Room k (A.deeper (envOfC x (defScope st) s.heap.objs.size f cdv)) →
      ∃ t, PSs (cxOf CX0 P w K mg base N x (defScope st) f cdv A outer s H E).nox (defBody st) t ∧ ∀ ρ post, ρ.length = n → R ρ post → SD K (ρ ++ List.replicate m .no) t { nx := endP n ρ post (.d .non), rt := endP n ρ post }) :
    DOkG P w K mg base x (k + 1) ps (spD K n R) := by
  obtain ⟨f, fd, hf, hg, hb⟩ := F
  exact ⟨f, fd, hg, hf.kp, hb, fun vs H Q E h => (spD_len vs H Q E h).trans hps.symm, mk_fnG hf Sc hps hN hbody⟩
end
section
variable {X : Cx}
theorem run_fnG {k : Nat} {f : Addr} {fd : FuncData} {ps : List Str} {sp : Sp} {E : XK} {pins : List (Addr × Obj)} {σ : L2.St} {H : Hp} {s : Shared} {Q : VK} {us : List Value} {vs : List V} (hlen : ∀ vs H Q E, sp vs H Q E → vs.length = ps.length)
    (F : RunG X.prog X.w X.K X.mg X.base CX0 k f fd ps sp) (gu : X.A.guards = some []) (hr : Room k X.A) (hb : Binds X.K fd ps []) (I : Inv X pins σ H s) (r : Vals vs us) (h : sp vs H Q E) : wpAny (model X.prog X.w) X.A (call (.ref f) us) (L2.EP X pins σ Q) X.xe s := by
  have hl : us.length = ps.length := by rw [← r.length]; exact hlen _ _ _ _ h
  have b := hb s us I.kIn (by rw [List.append_nil]; exact hl)
  rw [List.append_nil] at b
  refine wpAny_call (codeAny_mono (F X.A X.stack s H ⟨us, []⟩ us vs Q E gu hr I.env0 b r h) fun r s' hq => ?_)
  cases r with
  | error e => exact (show False from hq).elim
  | ok fl =>
    cases fl with
    | ret u => exact I.after hq
    | next => exact False.elim hq
    | brk => exact False.elim hq
    | cont => exact False.elim hq
theorem pe_callDG {x : Str} {k : Nat} {ps : List Str} {sp : Sp} {p pos : Pos} {e : Expr} {es : List Expr} {t : TA} (Dk : DOkG X.prog X.w X.K X.mg X.base x k ps sp) (gu : X.A.guards = some []) (hr : Room k X.A) (ha : PA X (e :: es) t) (hg : Gl X x := by rfl) (hdb : (x == ("__debug__" : Str)) = false := by decide)
    (he : starEach (e :: es) X.env = (false, eval e X.env) :: starEach es X.env := by rfl) (hpl : (backTo pos (starEach es X.env)).any (·.1) = false := by rfl) :
    PE X (.Call (.Name x p) (e :: es) [] pos) (tCall sp [] E0 t) := by
  obtain ⟨f, fd, hm, hk, hb, hlen, F⟩ := Dk
  refine ⟨fun pins s σ H Q I h => ?_⟩
  refine wpAny_Call_Name_kw (ld_glob I hg hm ?_ hdb)
  refine PySem.W.callWith_K (h₀ := X.base) I.ok.mod.kin hk (thn (ha.run pos pins s σ H _ I h) fun us s1 ⟨vs, H1, I1, r, q⟩ => ⟨I1.kIn, ?_⟩) he hpl
  have q : sp (vs ++ []) H1 Q E0 := q
  rw [List.append_nil] at q
  exact run_fnG hlen F gu hr hb I1 r q
end
end DL
namespace DL
open PySem PySem.Spec PySem.W PyProof.Rows L2
variable [HasT]
/-! ### zip of two sources: texts, lists, tuples -/
inductive Zs where | s (x : Str) | l (a : Addr) | t (a : Addr)
def Zs.v : Zs → V | .s x => .str x | .l a => .ref a | .t a => .ref a
def Zs.it (K : PySem.W.Frag) (H : Hp) : Zs → Nat → V → Prop
  | .s x, i, v => ∃ c, x.cps[i]? = some c ∧ v = .str ⟨#[c]⟩
  | .l a, i, v => ∀ xs, SqL K H a xs → xs[i]? = some v
  | .t a, i, v => ∀ xs, SqT K H a xs → xs[i]? = some v
def Zs.ln (K : PySem.W.Frag) (H : Hp) : Zs → Nat → Prop
  | .s x, n => x.cps.size = n
  | .l a, n => ∃ xs, SqL K H a xs ∧ xs.length = n
  | .t a, n => ∃ xs, SqT K H a xs ∧ xs.length = n
def Zs.st : Zs → Addr → Nat → Heap → Prop
  | .s x, p, k, h => ∃ t, h.IsStrIter p (strIterType x) x t k
  | .l a, p, k, h => h.IsListIter p a k
  | .t a, p, k, h => h.IsTupleIter p a k
def Zs.ad : Zs → List Addr | .s _ => [] | .l a => [a] | .t a => [a]
theorem Zs.obj {z : Zs} {p : Addr} {k : Nat} {h : Heap} (st : z.st p k h) : ∃ o, h.get? p = some o ∧ ∀ v, o.data ≠ .cell v := by
  cases z with
  | s x => obtain ⟨t, o, e, _, d⟩ := st; exact ⟨o, e, fun v q => by rw [d] at q; cases q⟩
  | l a => obtain ⟨o, e, _, d⟩ := st; exact ⟨o, e, fun v q => by rw [d] at q; cases q⟩
  | t a => obtain ⟨o, e, _, d⟩ := st; exact ⟨o, e, fun v q => by rw [d] at q; cases q⟩
theorem Zs.keep {z : Zs} {p : Addr} {k : Nat} {h h' : Heap} (st : z.st p k h) (kp : ∀ o, h.get? p = some o → h'.get? p = some o) : z.st p k h' := by
  cases z with
  | s x => obtain ⟨t, o, e, r⟩ := st; exact ⟨t, o, kp _ e, r⟩
  | l a => obtain ⟨o, e, r⟩ := st; exact ⟨o, kp _ e, r⟩
  | t a => obtain ⟨o, e, r⟩ := st; exact ⟨o, kp _ e, r⟩
theorem Zs.draw {X : Cx} {pins : List (Addr × Obj)} {s : Shared} {σ : L2.St} {H : Hp} (I : Inv X pins σ H s) (hd : X.A.in1.handled = none) (z : Zs) {p : Addr} {k n : Nat} (st : z.st p k s.heap) (hl : z.ln X.K H n) (ne : ∀ a ∈ z.ad, a ≠ p) :
    ∃ (P : Nat → Value → Prop) (St : Nat → Heap → Prop), Draws X.prog X.w X.A.in1 p (p :: z.ad) n P St ∧ St k s.heap ∧ (∀ i v, P i v → ∃ x, RelV x v ∧ z.it X.K H i x) ∧ ∀ i h, St i h → z.st p i h := by
  cases z with
  | s x =>
    obtain ⟨t, st⟩ := st
    obtain rfl : x.cps.size = n := hl
    exact ⟨_, _, Draws.text hd p x t, st, fun i v ⟨c, u, hc, e⟩ => ⟨.str ⟨#[c]⟩, by subst e; exact ⟨_, rfl⟩, c, hc, rfl⟩, fun i h q => ⟨t, q⟩⟩
  | l a =>
    obtain ⟨xs, hq, rfl⟩ := hl
    obtain ⟨its, r, pl, hz⟩ := I.list hq
    have hn : its.toArray.size = xs.length := by rw [List.size_toArray]; exact r.length.symm
    rw [← hn]
    refine ⟨_, _, Draws.list hd p a (ne a (by simp [Zs.ad])) its.toArray, ⟨st, pl.isList⟩, fun i v hv => ?_, fun i h q => q.1⟩
    have hv : its[i]? = some v := by simpa using hv
    have hi : i < xs.length := by rw [r.length]; exact (List.getElem?_eq_some_iff.mp hv).1
    obtain ⟨u, hu, ru⟩ := r.get (List.getElem?_eq_getElem hi)
    rw [hv] at hu
    cases hu
    exact ⟨_, ru, fun ys hy => by rw [I.list_inj hy hq]; exact List.getElem?_eq_getElem hi⟩
  | t a =>
    obtain ⟨xs, hq, rfl⟩ := hl
    obtain ⟨its, r, pl, hz⟩ := I.tuple hq
    have hn : its.toArray.size = xs.length := by rw [List.size_toArray]; exact r.length.symm
    rw [← hn]
    refine ⟨_, _, Draws.tuple hd p a (ne a (by simp [Zs.ad])) its.toArray, ⟨st, pl⟩, fun i v hv => ?_, fun i h q => q.1⟩
    have hv : its[i]? = some v := by simpa using hv
    have hi : i < xs.length := by rw [r.length]; exact (List.getElem?_eq_some_iff.mp hv).1
    obtain ⟨u, hu, ru⟩ := r.get (List.getElem?_eq_getElem hi)
    rw [hv] at hu
    cases hu
    exact ⟨_, ru, fun ys hy => by rw [I.tuple_inj hy hq]; exact List.getElem?_eq_getElem hi⟩
def Zg (K : PySem.W.Frag) (x y : Zs) : It :=
  ⟨fun k H => ∃ n m, x.ln K H n ∧ y.ln K H m ∧ k < n ∧ k < m,
   fun k H v H' => ∃ T a b, v = .ref T ∧ H T = none ∧ H' = upd H T (.tup [a, b]) ∧ x.it K H k a ∧ y.it K H k b,
   fun k H => ∃ n m, x.ln K H n ∧ y.ln K H m ∧ k ≤ n ∧ k ≤ m ∧ (k = n ∨ k = m)⟩
def ZgAt (x y : Zs) (z TI TO p q : Addr) (k : Nat) (h : Heap) : Prop :=
  IsZip h z TI TO .none ∧ IsTupOf2 h TI (.ref p) (.ref q) ∧ (∃ a b, IsTupOf2 h TO a b) ∧ x.st p k h ∧ y.st q k h
theorem zg_turn {P : Program} {w : World} {K : PySem.W.Frag} {elts : List Expr} {kk : Nat} {tpos : Pos} {x y : Zs} {z TI TO p q : Addr} (Z : ZipSep2 z TI TO p q (p :: x.ad) (q :: y.ad)) (nx : ∀ a ∈ x.ad, a ≠ p) (ny : ∀ a ∈ y.ad, a ≠ q) :
    Turn P w K (.Tuple elts kk tpos) (Zg K x y) [z, TI, TO, p, q] z (ZgAt x y z TI TO p q) where
  mem := List.mem_cons_self
  obj := fun k h st c hc => by
    obtain ⟨a1, a2, ⟨_, _, a3⟩, a4, a5⟩ := st
    simp only [List.mem_cons, List.not_mem_nil, or_false] at hc
    rcases hc with rfl | rfl | rfl | rfl | rfl
    · exact ⟨_, a1, fun v e => nomatch e⟩
    · exact ⟨_, a2, fun v e => nomatch e⟩
    · exact ⟨_, a3, fun v e => nomatch e⟩
    · exact Zs.obj a4
    · exact Zs.obj a5
  keep := fun k h h' st kp => by
    obtain ⟨a1, a2, ⟨a, b, a3⟩, a4, a5⟩ := st
    have five : ∀ c, c ∈ [z, TI, TO, p, q] → ∀ o, h.get? c = some o → h'.get? c = some o := kp
    exact ⟨five z (by simp) _ a1, five TI (by simp) _ a2, ⟨a, b, five TO (by simp) _ a3⟩, Zs.keep a4 (five p (by simp)), Zs.keep a5 (five q (by simp))⟩
  item := by
    intro X eP ew eK hc k pins s σ H E I hf st hg
    subst eP ew eK
    obtain ⟨a1, a2, ⟨a, b, a3⟩, a4, a5⟩ := st
    have lz : z < s.heap.objs.size := Heap.lt_size a1
    have old : ∀ c ∈ [z, TI, TO, p, q], c < s.heap.objs.size := fun c hcm => by
      simp only [List.mem_cons, List.not_mem_nil, or_false] at hcm
      rcases hcm with rfl | rfl | rfl | rfl | rfl
      · exact lz
      · exact Heap.lt_size a2
      · exact Heap.lt_size a3
      · obtain ⟨_, e, _⟩ := Zs.obj a4; exact Heap.lt_size e
      · obtain ⟨_, e, _⟩ := Zs.obj a5; exact Heap.lt_size e
    obtain ⟨n, m, hx, hy, kn, km⟩ := hg
    obtain ⟨P1, S1, D1, st1, p1, b1⟩ := Zs.draw I (I.ok.hd hc) x a4 hx nx
    obtain ⟨P2, S2, D2, st2, p2, b2⟩ := Zs.draw I (I.ok.hd hc) y a5 hy ny
    refine wpAny_pyNext_zipD2_item Z D1 D2 a1 a2 a3 st1 st2 kn km fun v1 v2 h' tk y1 y2 c1 c2 c3 c4 c5 c6 c7 => ?_
    obtain ⟨u1, r1, i1⟩ := p1 _ _ y1
    obtain ⟨u2, r2, i2⟩ := p2 _ _ y2
    refine ⟨_, rfl, wpAny_letOwnedTupleGo_zip (s := { s with heap := h', toks := tk }) c1 fun g g1 sb => ?_⟩
    have up : ∀ e o, e ≠ z → h'.get? e = some o → g.get? e = some o := fun e o ne q => (sb.2 e ne).trans q
    have tup : g.get? s.heap.objs.size = some { cls := .type "tuple", data := .seq #[v1, v2] } := up _ _ (Nat.ne_of_gt lz) c5
    have ok : ObjOk X.prog X.w (upd H s.heap.objs.size (.tup [u1, u2])) g s.heap.objs.size (.tup [u1, u2]) :=
      ⟨(by decide : 2 ≤ sizeLine), [v1, v2], .cons r1 (.cons r2 .nil), ⟨_, tup, rfl, _, rfl⟩⟩
    have I' : Inv X pins σ (upd H s.heap.objs.size (.tup [u1, u2])) { s with heap := g, toks := tk } := by
      refine I.turnedNew (t' := tk) (ch := [z, TI, TO, p, q]) (fun e o hb q' => ?_) hf (Nat.le_refl _) ok
      simp only [List.mem_cons, List.not_mem_nil, or_false, not_or] at hb
      exact up e o hb.1 (c7 e o hb.1 hb.2.2.1 hb.2.2.2.1 hb.2.2.2.2 q')
    refine ⟨.ref s.heap.objs.size, _, I', rfl, ⟨_, u1, u2, rfl, I.hok.fresh (Nat.le_refl _), rfl, i1, i2⟩, ⟨g1, ?_, ⟨_, _, up _ _ Z.TOz c2⟩, ?_, ?_⟩, fun e he => ?_⟩
    · exact up _ _ Z.TIz (c7 TI _ Z.TIz Z.TITO Z.TIi1 Z.TIi2 a2)
    · exact Zs.keep (b1 _ _ c3) fun o q => up p o (fun e => Z.zf1 (by rw [e]; exact List.mem_cons_self)) q
    · exact Zs.keep (b2 _ _ c4) fun o q' => up q o (fun e => Z.zf2 (by rw [e]; exact List.mem_cons_self)) q'
    · rw [upd_ne (Nat.ne_of_lt (old e he))]
      exact (hf e he).1
  done := by
    intro X eP ew eK hc k pins s σ H E I hf st hg
    subst eP ew eK
    obtain ⟨a1, a2, ⟨a, b, a3⟩, a4, a5⟩ := st
    obtain ⟨n, m, hx, hy, kn, km, ke⟩ := hg
    obtain ⟨P1, S1, D1, st1, p1, b1⟩ := Zs.draw I (I.ok.hd hc) x a4 hx nx
    obtain ⟨P2, S2, D2, st2, p2, b2⟩ := Zs.draw I (I.ok.hd hc) y a5 hy ny
    refine wpAny_pyNext_zipD2_end Z D1 D2 a1 a2 a3 st1 st2 kn km ke fun h' tk kp => ⟨rfl, ?_⟩
    refine I.turnedL (t' := tk) (ch := [z, TI, TO, p, q]) (fun e o hb q' => ?_) hf
    simp only [List.mem_cons, List.not_mem_nil, or_false, not_or] at hb
    exact kp e o hb.1 hb.2.2.1 hb.2.2.2.1 hb.2.2.2.2 q'
  self := fun A k s Q E st h => wpAny_pyIter_zip st.1 h
def iZipG (K : PySem.W.Frag) (ta : TA) : TI := fun σ H R => ta σ H fun vs H1 => ∃ x y : Zs, vs = [x.v, y.v] ∧ (∃ n, x.ln K H1 n) ∧ (∃ n, y.ln K H1 n) ∧ R (Zg K x y) H1
def ZsObj (x : Zs) (u : Value) (h : Heap) (o : Obj) (Hz : Heap → Prop) : Prop := Begins u o Hz ∧ Hz h ∧ (∀ h' p, h'.get? p = some o → x.st p 0 h') ∧ ∀ a ∈ x.ad, a < h.objs.size
theorem zs_begin {X : Cx} {pins : List (Addr × Obj)} {s : Shared} {σ : L2.St} {H : Hp} (I : Inv X pins σ H s) (x : Zs) {u : Value} {n : Nat} (r : RelV x.v u) (hl : x.ln X.K H n) : ∃ o Hz, ZsObj x u s.heap o Hz := by
  cases x with
  | s z =>
    obtain ⟨t, rfl⟩ := r
    exact ⟨_, _, begins_text z t, trivial, fun h' p e => ⟨t, _, e, rfl, rfl⟩, fun a ha => by cases ha⟩
  | l a =>
    obtain rfl : u = .ref a := r
    obtain ⟨xs, hq, rfl⟩ := hl
    obtain ⟨its, rv, pl, hz⟩ := I.list hq
    exact ⟨_, _, begins_list a its.toArray, pl.isList, fun h' p e => ⟨_, e, rfl, rfl⟩, fun b hb => by rw [List.mem_singleton.mp hb]; exact pl.lt⟩
  | t a =>
    obtain rfl : u = .ref a := r
    obtain ⟨xs, hq, rfl⟩ := hl
    obtain ⟨its, rv, pl, hz⟩ := I.tuple hq
    exact ⟨_, _, begins_tuple a its.toArray, pl, fun h' p e => ⟨_, e, rfl, rfl⟩, fun b hb => by rw [List.mem_singleton.mp hb]; obtain ⟨_, q, _⟩ := pl; exact Heap.lt_size q⟩
theorem pi_zipG {X : Cx} {K : PySem.W.Frag} (hK : X.K = K) {e e2 : Expr} {ta : TA} {p pos tpos : Pos} {elts : List Expr} {kk : Nat} (hg : Gl X "zip") (hm : X.mg "zip" = none) (ha : PA X [e, e2] ta)
    (hs : starEach [e, e2] X.env = (false, eval e X.env) :: starEach [e2] X.env := by rfl) (hpl : (backTo pos (starEach [e2] X.env)).any (·.1) = false := by rfl) :
    PI X (.Tuple elts kk tpos) (.Call (.Name "zip" p) [e, e2] [] pos) (iZipG K ta) := by
  subst hK
  refine ⟨fun pins s σ H R I h => Call_ (ld_blt I hg hm boot_zip (callWith_type1 (thn (ha.run pos pins s σ H _ I h) fun us s1 hh => ?_) hs hpl))⟩
  obtain ⟨vs, H1, I1, r1, x, y, ex, ⟨n, lx⟩, ⟨m, ly⟩, q⟩ := hh
  subst ex
  obtain ⟨u1, u2, rfl, rx, ry⟩ := Vals.two r1
  obtain ⟨o1, Hz1, B1, z1, t1, l1⟩ := zs_begin I1 x rx lx
  obtain ⟨o2, Hz2, B2, z2, t2, l2⟩ := zs_begin I1 y ry ly
  refine zip_begins2 B1 B2 z1 z2 fun h' a1 a2 a3 a4 a5 a6 kp => wpAny_pyIter_zip a1 ?_
  refine ⟨_, [s1.heap.objs.size + 4, s1.heap.objs.size + 2, s1.heap.objs.size + 3, s1.heap.objs.size, s1.heap.objs.size + 1], _, Zg X.K x y, H1, rfl, I1.kept (t' := s1.toks) kp, zg_turn ?_ (fun a ha => Nat.ne_of_lt (l1 a ha)) (fun a ha => Nat.ne_of_lt (Nat.lt_succ_of_lt (l2 a ha))), ⟨a1, a2, ⟨_, _, a3⟩, t1 _ _ a4, t2 _ _ a5⟩, fun c hc => ?_, q⟩
  · have far : ∀ (d : Nat) (x : Zs), (∀ a ∈ x.ad, a < s1.heap.objs.size) → s1.heap.objs.size + d ∉ x.ad := fun d x hx hm => absurd (hx _ hm) (Nat.not_lt.mpr (Nat.le_add_right _ _))
    have no : ∀ (d b : Nat) (x : Zs), (∀ a ∈ x.ad, a < s1.heap.objs.size) → d ≠ b → s1.heap.objs.size + d ∉ (s1.heap.objs.size + b) :: x.ad := fun d b x hx ne hm => (List.mem_cons.mp hm).elim (fun e => ne (Nat.add_left_cancel e)) (far d x hx)
    exact ⟨by simp, by simp, by simp, by simp, List.mem_cons_self, no 4 0 x l1 (by decide), no 3 0 x l1 (by decide), by simp, List.mem_cons_self, no 4 1 y l2 (by decide), no 3 1 y l2 (by decide), no 0 1 y l2 (by decide), no 1 0 x l1 (by decide)⟩
  · have le : s1.heap.objs.size ≤ c := by
      simp only [List.mem_cons, List.not_mem_nil, or_false] at hc
      rcases hc with rfl | rfl | rfl | rfl | rfl
      · exact Nat.le_add_right _ _
      · exact Nat.le_add_right _ _
      · exact Nat.le_add_right _ _
      · exact Nat.le_refl _
      · exact Nat.le_add_right _ _
    exact I1.fpOk le (I1.hok.fresh le)
/-- the items of a source -/
def srcD : D → Option (List D)
  | .str s => some (s.map fun c => .str [c])
  | .lst ds => some ds
  | .tup ds => some ds
  | _ => none
theorem zs_of {K : PySem.W.Frag} {G : Hp} {v : V} {x : D} {l : List D} (r : Rep K G v x) (e : srcD x = some l) : ∃ z : Zs, z.v = v ∧ ∀ (H : Hp), Same G H → z.ln K H l.length ∧ ∀ (i : Nat) (u : V), z.it K H i u → ∀ d, l[i]? = some d → Rep K G u d := by
  cases r with
  | str s =>
    cases e
    refine ⟨.s (S s), rfl, fun H g => ⟨by show (S s).cps.size = _; simp [S], fun i u ⟨c, hc, hu⟩ d hd => ?_⟩⟩
    have hc : s[i]? = some c := by simpa using hc
    rw [List.getElem?_map, hc] at hd
    obtain rfl := Option.some.inj hd
    subst hu
    exact Rep.str [c]
  | lst h1 h2 =>
    cases e
    exact ⟨.l _, rfl, fun H g => ⟨⟨_, g.seq h1, h2.len⟩, fun i u hu d hd => by
      obtain ⟨w, hw, rw⟩ := h2.get hd
      have := hu _ (g.seq h1)
      rw [hw] at this
      cases this
      exact rw⟩⟩
  | tup h1 h2 =>
    cases e
    exact ⟨.t _, rfl, fun H g => ⟨⟨_, sqt_mono g h1, h2.len⟩, fun i u hu d hd => by
      obtain ⟨w, hw, rw⟩ := h2.get hd
      have := hu _ (sqt_mono g h1)
      rw [hw] at this
      cases this
      exact rw⟩⟩
  | _ => cases e
theorem walks_zipG {K : PySem.W.Frag} {G : Hp} {x y : Zs} {l m : List D} (hx : ∀ (H : Hp), Same G H → x.ln K H l.length ∧ ∀ (i : Nat) (u : V), x.it K H i u → ∀ d, l[i]? = some d → Rep K G u d)
    (hy : ∀ (H : Hp), Same G H → y.ln K H m.length ∧ ∀ (i : Nat) (u : V), y.it K H i u → ∀ d, m[i]? = some d → Rep K G u d) : Walks K G (Zg K x y) (List.zipWith (fun c d => D.tup [c, d]) l m) := by
  intro G2 F2 H2 e f i
  have gh := e.trans f.g
  refine ⟨fun hi => ?_, fun hi => ?_, fun v H' hv z hz => ?_⟩
  · rw [List.length_zipWith] at hi
    exact ⟨_, _, (hx _ gh).1, (hy _ gh).1, by omega, by omega⟩
  · rw [List.length_zipWith] at hi
    exact ⟨_, _, (hx _ gh).1, (hy _ gh).1, by omega, by omega, by omega⟩
  · obtain ⟨T, a, b, rfl, hT, rfl, ha, hb⟩ := hv
    rw [List.getElem?_zipWith] at hz
    cases e1 : l[i]? with
    | none => rw [e1] at hz; cases hz
    | some c =>
      cases e2 : m[i]? with
      | none => rw [e1, e2] at hz; cases hz
      | some d =>
        rw [e1, e2] at hz
        obtain rfl := Option.some.inj hz
        have g2 : Same G2 (upd G2 T (.tup [a, b])) := same_new (none_of_same f.g hT)
        exact ⟨_, g2, f.newG hT, .tup (.inl (.inl upd_same)) (.cons (((hx _ gh).2 i a ha c e1).mono (e.trans g2)) (.cons (((hy _ gh).2 i b hb d e2).mono (e.trans g2)) .nil)), same_new hT⟩
theorem ei_zipG {K : PySem.W.Frag} {ρ : List Sl} {ta : TA} {post : List D → List Sl → Prop} (h : EG K ρ ta fun as ρ1 => ∃ x y l m, as = [.d x, .d y] ∧ srcD x = some l ∧ srcD y = some m ∧ post (List.zipWith (fun c d => D.tup [c, d]) l m) ρ1) : EI K ρ (iZipG K ta) post := by
  intro G F H σ f e R k
  refine h G F H σ f e _ fun vs as ρ1 G1 F1 H1 s1 sh1 e1 o1 _ ⟨x, y, l, m, ea, hx, hy, q⟩ => ?_
  subst ea
  cases o1 with
  | cons r1 r2 =>
    cases r2 with
    | cons r3 r4 =>
      cases r4
      obtain ⟨zx, e1', wx⟩ := zs_of r1 hx
      obtain ⟨zy, e2', wy⟩ := zs_of r3 hy
      exact ⟨zx, zy, by rw [e1', e2'], ⟨_, (wx _ s1.fr.g).1⟩, ⟨_, (wy _ s1.fr.g).1⟩, k _ _ ρ1 G1 F1 H1 s1 sh1 e1 (walks_zipG wx wy) q⟩
end DL
namespace DL
open PySem PySem.Spec PySem.W PyProof.Rows L2
variable [HasT]
/-! ### what can be shown, item by item -/
structure Pl (n w : Nat) (d : D) : Prop where
  ok : okD d = true
  dep : depD d ≤ n
  sm : smI d = true
  we : weD d ≤ w
theorem Pl.mono {n w n' w' : Nat} {d : D} (h : Pl n w d) (a : n ≤ n') (b : w ≤ w') : Pl n' w' d := ⟨h.ok, Nat.le_trans h.dep a, h.sm, Nat.le_trans h.we b⟩
theorem pl_seq {n w : Nat} : ∀ {ds : List D}, (∀ d ∈ ds, Pl n w d) → okDs ds = true ∧ depDs ds ≤ n ∧ smIs ds = true ∧ weDs ds ≤ ds.length * (w + 1)
  | [], _ => ⟨rfl, Nat.zero_le _, rfl, Nat.zero_le _⟩
  | d :: ds, h => by
    have a := h d List.mem_cons_self
    obtain ⟨b1, b2, b3, b4⟩ := pl_seq (ds := ds) fun x hx => h x (List.mem_cons_of_mem _ hx)
    refine ⟨?_, ?_, ?_, ?_⟩
    · rw [okDs, a.ok, b1]; rfl
    · rw [depDs]; exact Nat.max_le.mpr ⟨a.dep, b2⟩
    · rw [smIs, a.sm, b3]; rfl
    · rw [weDs, List.length_cons, Nat.succ_mul]; have := a.we; omega
theorem pl_tup {n w m : Nat} {ds : List D} (h : ∀ d ∈ ds, Pl n w d) (hl : ds.length ≤ m) : Pl (n + 1) (m * (w + 1)) (.tup ds) := by
  obtain ⟨b1, b2, b3, b4⟩ := pl_seq h
  exact ⟨by rw [okD]; exact b1, by rw [depD]; omega, by rw [smI]; exact b3, by rw [weD]; exact Nat.le_trans b4 (Nat.mul_le_mul_right _ hl)⟩
theorem pl_lst {n w m : Nat} {ds : List D} (h : ∀ d ∈ ds, Pl n w d) (hl : ds.length ≤ m) : Pl (n + 1) (m * (w + 1)) (.lst ds) := by
  obtain ⟨b1, b2, b3, b4⟩ := pl_seq h
  exact ⟨by rw [okD]; exact b1, by rw [depD]; omega, by rw [smI]; exact b3, by rw [weD]; exact Nat.le_trans b4 (Nat.mul_le_mul_right _ hl)⟩
theorem pl_str {w : Nat} {s : List Nat} (h : ascii s) (hl : s.length ≤ w) : Pl 0 w (.str s) := ⟨okD_asc h, by simp [depD], by simp [smI], by rw [weD]; exact hl⟩
theorem pl_int {i : Int} (h : i.natAbs < 10 ^ 12) : Pl 0 64 (.int i) := ⟨by simp [okD], by simp [depD], by simp only [smI]; exact decide_eq_true h, by simp [weD]⟩
theorem pl_bl {b : Bool} : Pl 0 0 (.bl b) := ⟨by simp [okD], by simp [depD], by simp [smI], by simp [weD]⟩
theorem pl_non : Pl 0 0 .non := ⟨by simp [okD], by simp [depD], by simp [smI], by simp [weD]⟩
theorem Pl.shw {n w : Nat} {d : D} (h : Pl n w d) (a : n ≤ 60) (b : w ≤ 2 ^ 20) : shwD d := shw_of h.ok (Nat.le_trans h.dep a) h.sm (Nat.le_trans h.we b)
/-- rows, their edges -/
theorem pl_row {r : Int} {rs : List (List Nat)} (h : rowB r (.tup (rs.map .str)) = true) : Pl 1 404 (.tup (rs.map .str)) := by
  obtain ⟨t1, t2, t3, t4⟩ := row_facts h
  refine pl_tup (n := 0) (w := 100) (m := 4) (fun d hd => ?_) (by rw [List.length_map]; exact t3)
  obtain ⟨s, hs, rfl⟩ := List.mem_map.mp hd
  exact pl_str (asc_of (t4 s hs).1) (t4 s hs).2.2
theorem edgL_at {rs : List (List Nat)} {n : Nat} (hn : ∀ s ∈ rs, s.length ≤ n) {x : D} (h : x ∈ edgL rs) : ∃ k i a b, x = edgD k i a (flipC b) ∧ k < rs.length ∧ i < n ∧ ∃ s ∈ rs, a ∈ s ∧ b ∈ s := by
  unfold edgL at h
  obtain ⟨l, hl, hx⟩ := List.mem_flatten.mp h
  obtain ⟨p, hp, rfl⟩ := List.mem_map.mp hl
  obtain ⟨j, hj⟩ := List.getElem?_of_mem hp
  rw [List.getElem?_zipIdx] at hj
  obtain ⟨s, hs, e⟩ := Option.map_eq_some_iff.mp hj
  subst e
  have hs1 := List.mem_of_getElem? hs
  have hjl := (List.getElem?_eq_some_iff.mp hs).1
  unfold edgR at hx
  obtain ⟨q, hq, rfl⟩ := List.mem_map.mp hx
  obtain ⟨i, hi⟩ := List.getElem?_of_mem hq
  rw [List.getElem?_zipIdx] at hi
  obtain ⟨t, ht, e⟩ := Option.map_eq_some_iff.mp hi
  subst e
  have hil := (List.getElem?_eq_some_iff.mp ht).1
  rw [tie_len] at hil
  have hil : i < s.length := hil
  have hm := List.mem_of_getElem? ht
  obtain ⟨t1, t2⟩ := t
  unfold tieR at hm
  have h1 := (List.of_mem_zip hm).1
  obtain ⟨b, hb, e⟩ := List.mem_map.mp (List.of_mem_zip hm).2
  refine ⟨_, _, t1, b, by rw [e], by simpa using hjl, ?_, s, hs1, h1, next_mem hb⟩
  have := hn s hs1
  simp; omega
theorem pl_edg {k i a b : Nat} (hk : k < 1000) (hi : i < 1000) (ha : a < 128) (hb : b < 128) : Pl 2 405 (edgD k i a b) := by
  unfold edgD
  have p1 : Pl 1 130 (.tup [.int (k : Nat), .int (i : Nat)]) := pl_tup (n := 0) (w := 64) (m := 2) (fun d hd => by
    simp only [List.mem_cons, List.not_mem_nil, or_false] at hd
    rcases hd with rfl | rfl
    · exact pl_int (by omega)
    · exact pl_int (by omega)) (by simp)
  refine (pl_tup (n := 1) (w := 130) (m := 3) (fun d hd => ?_) (by simp)).mono (by decide) (by decide)
  simp only [List.mem_cons, List.not_mem_nil, or_false] at hd
  rcases hd with rfl | rfl | rfl
  · exact p1
  · exact (pl_str (w := 1) (asc1 ha) (by simp)).mono (by decide) (by decide)
  · exact (pl_str (w := 1) (asc1 hb) (by simp)).mono (by decide) (by decide)
theorem pl_edges {r : Int} {rs : List (List Nat)} (h : rowB r (.tup (rs.map .str)) = true) : Pl 3 162400 (.tup (edgL rs)) := by
  obtain ⟨t1, t2, t3, t4⟩ := row_facts h
  refine pl_tup (n := 2) (w := 405) (m := 400) (fun d hd => ?_) ?_
  · obtain ⟨k, i, a, b, rfl, hk, hi, s, hs, ha, hb⟩ := edgL_at (n := 100) (fun s hs => (t4 s hs).2.2) hd
    exact pl_edg (by omega) (by omega) (asc_of (t4 s hs).1 a ha) (flip_asc (asc_of (t4 s hs).1 b hb))
  · have := edgL_len (rs := rs) (n := 100) fun s hs => (t4 s hs).2.2
    omega
/-! ### sums of degrees -/
theorem sum_add {α : Type} (f g : α → Nat) (l : List α) : (l.map fun x => f x + g x).sum = (l.map f).sum + (l.map g).sum := by
  induction l with
  | nil => rfl
  | cons x l ih => simp only [List.map_cons, List.sum_cons, ih]; omega
theorem two_each {r : Int} (hr : Rk r) : ∀ x ∈ alph r, ((alph r).map fun c => (if x = c then 1 else 0) + (if x = flipC c then 1 else 0)).sum = 2 := by
  have : r = 2 ∨ r = 3 ∨ r = 4 := by have := hr.1; have := hr.2; omega
  rcases this with rfl | rfl | rfl <;> decide
theorem count_c {x c : Nat} {s : List Nat} : (x :: s).count c = (if x = c then 1 else 0) + s.count c := by
  rw [List.count_cons]
  by_cases h : x = c
  · subst h; simp; omega
  · simp [h]
theorem deg_ring {r : Int} (hr : Rk r) {s : List Nat} (h : ∀ c ∈ s, c ∈ alph r) : ((alph r).map fun c => s.count c + s.count (flipC c)).sum = 2 * s.length := by
  induction s with
  | nil =>
    have : ∀ l : List Nat, (l.map fun c => ([] : List Nat).count c + ([] : List Nat).count (flipC c)).sum = 0 := fun l => by
      induction l with
      | nil => rfl
      | cons x l ih => simpa using ih
    exact this _
  | cons x s ih =>
    have e := two_each hr x (h x List.mem_cons_self)
    have i := ih fun c hc => h c (List.mem_cons_of_mem _ hc)
    have : ∀ c, (x :: s).count c + (x :: s).count (flipC c) = ((if x = c then 1 else 0) + (if x = flipC c then 1 else 0)) + (s.count c + s.count (flipC c)) := fun c => by
      rw [count_c, count_c]; omega
    simp only [this]
    rw [sum_add, e, i, List.length_cons]
    omega
theorem deg_all {r : Int} (hr : Rk r) {rs : List (List Nat)} (h : ∀ s ∈ rs, ∀ c ∈ s, c ∈ alph r) : ((alph r).map fun c => degN rs c).sum = 2 * rs.flatten.length := by
  induction rs with
  | nil =>
    have : ∀ l : List Nat, (l.map fun c => degN [] c).sum = 0 := fun l => by
      induction l with
      | nil => rfl
      | cons x l ih => simpa [degN] using ih
    exact this _
  | cons s rs ih =>
    have i := ih fun t ht => h t (List.mem_cons_of_mem _ ht)
    have : ∀ c, degN (s :: rs) c = (s.count c + s.count (flipC c)) + degN rs c := fun c => by unfold degN; simp
    simp only [this]
    rw [sum_add, deg_ring hr (h s List.mem_cons_self), i, List.flatten_cons, List.length_append]
    omega
theorem deg_flat (rs : List (List Nat)) (c : Nat) : degN rs c = rs.flatten.count c + rs.flatten.count (flipC c) := by
  unfold degN
  induction rs with
  | nil => rfl
  | cons s rs ih => simp only [List.map_cons, List.sum_cons, ih, List.flatten_cons, List.count_append]; omega
theorem cast_sum (l : List Nat) : ((l.sum : Nat) : Int) = (l.map fun (n : Nat) => (n : Int)).sum := by
  induction l with
  | nil => rfl
  | cons x l ih => simp [ih]
theorem flat_len {rs : List (List Nat)} {n m : Nat} (h1 : rs.length ≤ n) (h2 : ∀ s ∈ rs, s.length ≤ m) : rs.flatten.length ≤ n * m := by
  have : rs.flatten.length ≤ rs.length * m := by
    induction rs with
    | nil => simp
    | cons s rs ih =>
      have a := ih (by simp at h1; omega) fun x hx => h2 x (List.mem_cons_of_mem _ hx)
      have b := h2 s List.mem_cons_self
      rw [List.flatten_cons, List.length_append, List.length_cons, Nat.succ_mul]
      omega
  exact Nat.le_trans this (Nat.mul_le_mul_right _ h1)
theorem len_sum (rs : List (List Nat)) : (rs.map (·.length)).sum = rs.flatten.length := by
  induction rs with
  | nil => rfl
  | cons s rs ih => rw [List.map_cons, List.sum_cons, ih, List.flatten_cons, List.length_append]
theorem zip_map {α : Type} (l : List α) (f g : α → D) : List.zipWith (fun c d => D.tup [c, d]) (l.map f) (l.map g) = l.map fun x => D.tup [f x, g x] := by
  induction l with
  | nil => rfl
  | cons x l ih => simp [ih]
theorem md_joinE {K : PySem.W.Frag} {post : Rs → Prop} {ys : List (List Nat)} (hz : ys.flatten.length ≤ 16777216) (q : post (.d (.str ys.flatten))) : MD K (rJoin K) (.str []) [.lst (ys.map .str)] post :=
  md_join (by rw [len_sum, List.length_nil, Nat.mul_zero, Nat.add_zero]; exact hz) (by rw [joinL_nil]; exact q)
theorem nodup_one {α : Type} {a : α} : [a].Nodup := by simp
theorem m_cnt {X : Cx} : MtR X "str.count" rCnt := mt_count
theorem md_joinT {K : PySem.W.Frag} {post : Rs → Prop} {a : List Nat} {ys : List (List Nat)} (hz : (ys.map (·.length)).sum + ys.length * a.length ≤ 16777216) (q : post (.d (.str (TL.joinL a ys)))) : MD K (rJoin K) (.str a) [.tup (ys.map .str)] post := by
  intro G F H v vs f rx rs Q k
  cases rx
  cases rs with
  | cons r1 r2 =>
    cases r2
    cases r1 with
    | tup h1 h2 =>
      rw [reps_strs h2] at h1
      refine ⟨S a, _, ys.map S, rfl, rfl, .inr (sqt_mono f.g h1), ?_, ?_⟩
      · rw [List.map_map, List.length_map, S_len]
        have : ((fun x : Str => x.length) ∘ S) = List.length := by funext l; exact S_len l
        rw [this]; exact hz
      · rw [txt_join]
        exact back_d f k (.str _) q
theorem md_joinTE {K : PySem.W.Frag} {post : Rs → Prop} {ys : List (List Nat)} (hz : ys.flatten.length ≤ 16777216) (q : post (.d (.str ys.flatten))) : MD K (rJoin K) (.str []) [.tup (ys.map .str)] post :=
  md_joinT (by rw [len_sum, List.length_nil, Nat.mul_zero, Nat.add_zero]; exact hz) (by rw [joinL_nil]; exact q)
end DL
namespace DL
open PySem PySem.Spec PySem.W PyProof.Rows L2
variable [HasT]
/-! ### substitutions -/
def base4 : List Nat := [97, 98, 99, 100]
def bas (r : Int) : List Nat := base4.take r.toNat
def numC (c : Nat) : Nat := if islC c then c - 97 else c - 65
def subC (ims : List (List Nat)) (c : Nat) : List Nat := if islC c then ims.getD (numC c) [] else invW (ims.getD (numC c) [])
def subT (ims : List (List Nat)) (s : List Nat) : List Nat := (s.map (subC ims)).flatten
def mapW (ims : List (List Nat)) (s : List Nat) : List Nat := freeW (subT ims s)
theorem rk_cases {r : Int} (h : Rk r) : r = 2 ∨ r = 3 ∨ r = 4 := by have := h.1; have := h.2; omega
theorem isl_flip : ∀ c ∈ al, islC (flipC c) = !islC c ∧ numC (flipC c) = numC c ∧ numC c < 4 := by decide
theorem subC_flip {ims : List (List Nat)} {c : Nat} (h : c ∈ al) : subC ims (flipC c) = invW (subC ims c) := by
  obtain ⟨h1, h2, _⟩ := isl_flip c h
  unfold subC
  rw [h1, h2]
  cases islC c with
  | true => rfl
  | false => simp only [Bool.not_false, if_true, Bool.false_eq_true, if_false, inv_inv]
theorem subT_nil (ims : List (List Nat)) : subT ims [] = [] := rfl
theorem subT_cons (ims : List (List Nat)) (c : Nat) (s : List Nat) : subT ims (c :: s) = subC ims c ++ subT ims s := by unfold subT; rw [List.map_cons, List.flatten_cons]
theorem subT_app (ims : List (List Nat)) (s t : List Nat) : subT ims (s ++ t) = subT ims s ++ subT ims t := by unfold subT; rw [List.map_append, List.flatten_append]
theorem subT_one (ims : List (List Nat)) (c : Nat) : subT ims [c] = subC ims c := by unfold subT; simp
theorem subT_inv {ims : List (List Nat)} {s : List Nat} (h : ∀ c ∈ s, c ∈ al) : subT ims (invW s) = invW (subT ims s) := by
  induction s with
  | nil => rfl
  | cons c s ih =>
    rw [inv_cons, subT_app, ih fun x hx => h x (List.mem_cons_of_mem _ hx), subT_one, subT_cons, inv_app, subC_flip (h c List.mem_cons_self)]
/-- the images of words that are reduced to the same word -/
theorem map_push {ims : List (List Nat)} {k : List Nat} {c : Nat} (hc : c ∈ al) : freeW (subT ims (push1 k c)) = freeW (subT ims (k ++ [c])) := by
  unfold push1
  split
  · rename_i e
    rcases eq_nil_or_snoc k with rfl | ⟨k', z, rfl⟩
    · simp at e
    · have ez : z = flipC c := by simpa using e
      subst ez
      rw [List.dropLast_concat, List.append_assoc, subT_app, subT_app, subT_one, subT_one, subC_flip hc]
      have : freeW (subT ims k' ++ (invW (subC ims c) ++ subC ims c)) = freeW (subT ims k') := by
        rw [← free_app_r, free_inv_l, List.append_nil]
      exact this.symm
  · rfl
theorem map_free {ims : List (List Nat)} : ∀ {s : List Nat}, (∀ c ∈ s, c ∈ al) → freeW (subT ims (freeW s)) = freeW (subT ims s) := by
  have : ∀ (n : Nat) (s : List Nat), s.length = n → (∀ c ∈ s, c ∈ al) → freeW (subT ims (freeW s)) = freeW (subT ims s) := by
    intro n
    induction n with
    | zero => intro s hs _; obtain rfl := List.eq_nil_of_length_eq_zero hs; rfl
    | succ n ih =>
      intro s hs h
      rcases eq_nil_or_snoc s with rfl | ⟨t, z, rfl⟩
      · simp at hs
      · have ht : ∀ c ∈ t, c ∈ al := fun c hc => h c (List.mem_append_left _ hc)
        have hz : z ∈ al := h z (List.mem_append_right _ (List.mem_singleton_self z))
        rw [free_snoc, map_push hz, subT_app, ← free_app_l, ih t (by simpa using hs) ht, free_app_l, ← subT_app]
  intro s h
  exact this _ s rfl h
theorem mapW_app {ims : List (List Nat)} (s t : List Nat) : mapW ims (s ++ t) = freeW (mapW ims s ++ mapW ims t) := by
  unfold mapW
  rw [subT_app, free_app_r, free_app_l]
theorem mapW_free {ims : List (List Nat)} {s : List Nat} (h : ∀ c ∈ s, c ∈ al) : mapW ims (freeW s) = mapW ims s := map_free h
theorem mapW_red {ims : List (List Nat)} (s : List Nat) : Red (mapW ims s) := free_red _
theorem mapW_inv {ims : List (List Nat)} {s : List Nat} (h : ∀ c ∈ s, c ∈ al) : mapW ims (invW s) = invW (mapW ims s) := by
  unfold mapW
  rw [subT_inv h, free_inv]
/-- images over an alphabet -/
structure ImA (r : Int) (ims : List (List Nat)) : Prop where
  len : (ims.length : Int) = r
  mem : ∀ w ∈ ims, ∀ c ∈ w, c ∈ alph r
theorem alph_num {r : Int} (h : Rk r) : ∀ c ∈ alph r, ((numC c : Nat) : Int) < r := by
  rcases rk_cases h with rfl | rfl | rfl <;> decide
theorem ImA.get {r : Int} (hr : Rk r) {ims : List (List Nat)} (h : ImA r ims) {c : Nat} (hc : c ∈ alph r) : ∃ w ∈ ims, ims[numC c]? = some w ∧ ims.getD (numC c) [] = w := by
  have h1 := alph_num hr c hc
  have hl : numC c < ims.length := by have := h.len; omega
  exact ⟨ims[numC c], List.getElem_mem hl, List.getElem?_eq_getElem hl, by rw [List.getD_eq_getElem?_getD, List.getElem?_eq_getElem hl]; rfl⟩
theorem ImA.sub {r : Int} (hr : Rk r) {ims : List (List Nat)} (h : ImA r ims) {c : Nat} (hc : c ∈ alph r) : ∀ x ∈ subC ims c, x ∈ alph r := by
  obtain ⟨w, hw, _, e⟩ := h.get hr hc
  unfold subC
  rw [e]
  split
  · exact h.mem w hw
  · exact inv_alph hr (h.mem w hw)
theorem ImA.subT {r : Int} (hr : Rk r) {ims : List (List Nat)} (h : ImA r ims) {s : List Nat} (hs : ∀ c ∈ s, c ∈ alph r) : ∀ x ∈ subT ims s, x ∈ alph r := fun x hx => by
  unfold DL.subT at hx
  obtain ⟨l, hl, hx⟩ := List.mem_flatten.mp hx
  obtain ⟨c, hc, rfl⟩ := List.mem_map.mp hl
  exact h.sub hr (hs c hc) x hx
theorem ImA.map {r : Int} (hr : Rk r) {ims : List (List Nat)} (h : ImA r ims) {s : List Nat} (hs : ∀ c ∈ s, c ∈ alph r) : ∀ x ∈ mapW ims s, x ∈ alph r := fun x hx => h.subT hr hs x (free_mem hx)
theorem ImA.subC_len {r : Int} (hr : Rk r) {ims : List (List Nat)} (h : ImA r ims) {m : Nat} (hm : ∀ w ∈ ims, w.length ≤ m) {c : Nat} (hc : c ∈ alph r) : (subC ims c).length ≤ m := by
  obtain ⟨w, hw, _, e⟩ := h.get hr hc
  unfold subC
  rw [e]
  split
  · exact hm w hw
  · rw [inv_len]; exact hm w hw
theorem ImA.subT_len {r : Int} (hr : Rk r) {ims : List (List Nat)} (h : ImA r ims) {m : Nat} (hm : ∀ w ∈ ims, w.length ≤ m) {s : List Nat} (hs : ∀ c ∈ s, c ∈ alph r) : (DL.subT ims s).length ≤ s.length * m := by
  induction s with
  | nil => simp [DL.subT]
  | cons c s ih =>
    rw [subT_cons, List.length_append, List.length_cons, Nat.succ_mul]
    have := ih fun x hx => hs x (List.mem_cons_of_mem _ hx)
    have := h.subC_len hr hm (hs c List.mem_cons_self)
    omega
theorem alph_split {r : Int} (h : Rk r) : ∀ c, c ∈ alph r ↔ c ∈ bas r ∨ ∃ b ∈ bas r, c = uppC b := by
  intro c
  rcases rk_cases h with rfl | rfl | rfl
  · show c ∈ [97, 65, 98, 66] ↔ c ∈ [97, 98] ∨ ∃ b ∈ [97, 98], c = uppC b
    simp [uppC]; omega
  · show c ∈ [97, 65, 98, 66, 99, 67] ↔ c ∈ [97, 98, 99] ∨ ∃ b ∈ [97, 98, 99], c = uppC b
    simp [uppC]; omega
  · show c ∈ [97, 65, 98, 66, 99, 67, 100, 68] ↔ c ∈ [97, 98, 99, 100] ∨ ∃ b ∈ [97, 98, 99, 100], c = uppC b
    simp [uppC]; omega
theorem bas_al {r : Int} (h : Rk r) : ∀ c ∈ bas r, c ∈ alph r := fun c hc => (alph_split h c).mpr (.inl hc)
theorem bas_asc (r : Int) : ascii (bas r) := fun c hc => (show ∀ c ∈ base4, c < 128 by decide) c (List.mem_of_mem_take hc)
theorem bas_len {r : Int} (h : Rk r) : ((bas r).length : Int) = r := by rcases rk_cases h with rfl | rfl | rfl <;> rfl
theorem bas_cut {r : Int} (h : Rk r) : cutL [97, 98, 99, 100] none (some r) = bas r := by rcases rk_cases h with rfl | rfl | rfl <;> rfl
/-- the table of images: what stands under each letter -/
def TabOk (ims : List (List Nat)) (kvs : List (L2.Key × D)) : Prop := ∀ c ∈ alph (ims.length : Nat), valD kvs (.inr (S [c])) = some (.str (subC ims c))
theorem alph_succ : ∀ k : Nat, k < 4 → alph ((k + 1 : Nat) : Int) = alph (k : Nat) ++ [97 + k, 65 + k] := by decide
theorem base_at {k b : Nat} (h : base4[k]? = some b) : b = 97 + k ∧ k < 4 := by
  match k, h with
  | 0, h => simp [base4] at h; omega
  | 1, h => simp [base4] at h; omega
  | 2, h => simp [base4] at h; omega
  | 3, h => simp [base4] at h; omega
  | k + 4, h => simp [base4] at h
theorem key_eq {a b : Nat} : ((Sum.inr (S [a]) : L2.Key) = Sum.inr (S [b])) ↔ a = b := by
  constructor
  · intro h
    have := S_eq.mp (congrArg V.str (Sum.inr.inj h))
    simpa using this
  · intro h; rw [h]
theorem alph_lt : ∀ k : Nat, k < 4 → ∀ c ∈ alph (k : Nat), c ≠ 97 + k ∧ c ≠ 65 + k ∧ numC c < k ∧ c ∈ al := by decide
theorem tab_step {ims : List (List Nat)} {k : Nat} {w : List Nat} (hk : k < 4) (hw : ims[k]? = some w) {kvs : List (L2.Key × D)} (h : TabOk (ims.take k) kvs) :
    TabOk (ims.take (k + 1)) (putD (putD kvs (.inr (S [97 + k])) (.str w)) (.inr (S [65 + k])) (.str (invW w))) := by
  have kl : k < ims.length := (List.getElem?_eq_some_iff.mp hw).1
  have l1 : (ims.take (k + 1)).length = k + 1 := by rw [List.length_take]; omega
  have l0 : (ims.take k).length = k := by rw [List.length_take]; omega
  intro c hc
  rw [l1, alph_succ k hk] at hc
  rw [valD_put, valD_put]
  have gt : ∀ {j : Nat}, j < k + 1 → (ims.take (k + 1)).getD j [] = ims.getD j [] := fun {j} hj => by
    rw [List.getD_eq_getElem?_getD, List.getElem?_take, if_pos hj, List.getD_eq_getElem?_getD]
  have gw : ims.getD k [] = w := by rw [List.getD_eq_getElem?_getD, hw]; rfl
  rcases List.mem_append.mp hc with hc | hc
  · obtain ⟨n1, n2, n3, n4⟩ := alph_lt k hk c hc
    rw [if_neg (fun e => n2 (key_eq.mp e)), if_neg (fun e => n1 (key_eq.mp e)), h c (by rw [l0]; exact hc)]
    unfold subC
    rw [gt (by omega)]
    have : (ims.take k).getD (numC c) [] = ims.getD (numC c) [] := by rw [List.getD_eq_getElem?_getD, List.getElem?_take, if_pos n3, List.getD_eq_getElem?_getD]
    rw [this]
  · simp only [List.mem_cons, List.not_mem_nil, or_false] at hc
    rcases hc with rfl | rfl
    · rw [if_neg (fun e => by have := key_eq.mp e; omega), if_pos rfl]
      have e1 : islC (97 + k) = true := by unfold islC; exact decide_eq_true (by omega)
      unfold subC
      rw [e1, if_pos rfl, show numC (97 + k) = k by unfold numC; rw [e1, if_pos rfl]; omega, gt (by omega), gw]
    · rw [if_pos rfl]
      have e1 : islC (65 + k) = false := by unfold islC; exact decide_eq_false (by omega)
      unfold subC
      rw [e1, if_neg (by decide), show numC (65 + k) = k by unfold numC; rw [e1, if_neg (by decide)]; omega, gt (by omega), gw]
end DL
namespace DL
open PySem PySem.Spec PySem.W PyProof.Rows L2
variable [HasT]
/-! ### values that are substitutions -/
def substB (r : Int) (x : D) : Bool := match x with
  | .tup ds => decide ((ds.length : Int) = r) && ds.all (wordB r)
  | _ => false
theorem isaD_dct {kvs : List (L2.Key × D)} {n : String} : isaD (.dct kvs) n = (n == "dict") := rfl
theorem substB_tup {r : Int} {ds : List D} : substB r (.tup ds) = (decide ((ds.length : Int) = r) && ds.all (wordB r)) := rfl
def tupIn (x : D) : Prop := ∀ ds, x = .tup ds → ds.length ≤ 1000 ∧ ∀ d ∈ ds, okT d
/-- images that are words -/
structure ImW (r : Int) (ims : List (List Nat)) : Prop where
  len : (ims.length : Int) = r
  wd : ∀ w ∈ ims, wordB r (.str w) = true
theorem ImW.a {r : Int} {ims : List (List Nat)} (h : ImW r ims) : ImA r ims := ⟨h.len, fun w hw => word_mem (h.wd w hw)⟩
theorem ImW.le {r : Int} {ims : List (List Nat)} (h : ImW r ims) : ∀ w ∈ ims, w.length ≤ 100 := fun w hw => word_len (h.wd w hw)
theorem ImW.num {r : Int} (hr : Rk r) {ims : List (List Nat)} (h : ImW r ims) : ims.length ≤ 4 := by have := h.len; have := hr.2; omega
theorem ImA.num {r : Int} (hr : Rk r) {ims : List (List Nat)} (h : ImA r ims) : ims.length ≤ 4 := by have := h.len; have := hr.2; omega
theorem ImW.b {r : Int} {ims : List (List Nat)} (h : ImW r ims) : substB r (.tup (ims.map .str)) = true := by
  show (decide (((ims.map D.str).length : Int) = r) && (ims.map D.str).all (wordB r)) = true
  rw [List.length_map, decide_eq_true h.len, Bool.true_and, List.all_eq_true]
  intro d hd
  obtain ⟨w, hw, rfl⟩ := List.mem_map.mp hd
  exact h.wd w hw
theorem okT_str {s : List Nat} (h : s.length ≤ 100000) : okT (.str s) := ⟨rfl, fun t e => by cases e; exact h⟩
theorem ImW.t {r : Int} (hr : Rk r) {ims : List (List Nat)} (h : ImW r ims) : tupIn (.tup (ims.map .str)) := fun ds e => by
  cases e
  refine ⟨by rw [List.length_map]; have := h.num hr; omega, fun d hd => ?_⟩
  obtain ⟨w, hw, rfl⟩ := List.mem_map.mp hd
  exact okT_str (by have := h.le w hw; omega)
theorem okT_tup (ds : List D) : okT (.tup ds) := ⟨rfl, fun s e => by cases e⟩
theorem substB_inv {r : Int} {x : D} (h : substB r x = true) : ∃ ims, x = .tup (ims.map .str) ∧ ImW r ims := by
  cases x with
  | tup ds =>
    unfold substB at h
    rw [Bool.and_eq_true, decide_eq_true_eq, List.all_eq_true] at h
    have : ∀ ds : List D, (∀ d ∈ ds, wordB r d = true) → ∃ ims : List (List Nat), ds = ims.map .str ∧ ∀ w ∈ ims, wordB r (.str w) = true := by
      intro ds
      induction ds with
      | nil => intro _; exact ⟨[], rfl, fun w hw => by cases hw⟩
      | cons d ds ih =>
        intro hd
        obtain ⟨ims, rfl, hi⟩ := ih fun x hx => hd x (List.mem_cons_of_mem _ hx)
        have h1 := hd d List.mem_cons_self
        cases d with
        | str s =>
          refine ⟨s :: ims, rfl, fun w hw => ?_⟩
          rcases List.mem_cons.mp hw with rfl | hw
          · exact h1
          · exact hi w hw
        | _ => exact absurd h1 (by simp [wordB])
    obtain ⟨ims, rfl, hi⟩ := this ds h.2
    exact ⟨ims, rfl, by have := h.1; rwa [List.length_map] at this, hi⟩
  | _ => exact absurd h (by simp [substB])
theorem mapW_len {r : Int} (hr : Rk r) {ims : List (List Nat)} (h : ImA r ims) {m : Nat} (hm : ∀ w ∈ ims, w.length ≤ m) {s : List Nat} (hs : ∀ c ∈ s, c ∈ alph r) : (mapW ims s).length ≤ s.length * m :=
  Nat.le_trans (free_len _) (h.subT_len hr hm hs)
theorem sum_len_flat {α : Type} (f : α → List Nat) (s : List α) : ((s.map f).map (·.length)).sum = (s.map f).flatten.length := len_sum _
end DL
namespace DL
open PySem PySem.Spec PySem.W PyProof.Rows L2
variable [HasT]
/-! ### exponents -/
def exp1 (b : Nat) (s : List Nat) : Int := ((s.count b : Nat) : Int) - ((s.count (flipC b) : Nat) : Int)
def expL (r : Int) (s : List Nat) : List Int := (bas r).map fun b => exp1 b s
theorem exp_nil (b : Nat) : exp1 b [] = 0 := rfl
theorem exp_app (b : Nat) (s t : List Nat) : exp1 b (s ++ t) = exp1 b s + exp1 b t := by unfold exp1; rw [List.count_append, List.count_append]; omega
theorem exp_cons (b c : Nat) (s : List Nat) : exp1 b (c :: s) = exp1 b [c] + exp1 b s := exp_app b [c] s
theorem cnt_one (b c : Nat) : [c].count b = if c = b then 1 else 0 := by rw [count_c]; simp
theorem exp_flip (b c : Nat) : exp1 b [flipC c] = - exp1 b [c] := by
  unfold exp1
  simp only [cnt_one]
  have h1 : (flipC c = b) ↔ (c = flipC b) := ⟨fun h => by rw [← h, flip_flip], fun h => by rw [h, flip_flip]⟩
  have h2 : (flipC c = flipC b) ↔ (c = b) := ⟨flip_inj, fun h => by rw [h]⟩
  simp only [h1, h2]
  split <;> split <;> simp
theorem exp_push (b c : Nat) (k : List Nat) : exp1 b (push1 k c) = exp1 b k + exp1 b [c] := by
  unfold push1
  split
  · rename_i e
    rcases eq_nil_or_snoc k with rfl | ⟨k', z, rfl⟩
    · simp at e
    · have ez : z = flipC c := by simpa using e
      subst ez
      rw [List.dropLast_concat, exp_app, exp_flip]
      omega
  · exact exp_app b k [c]
theorem exp_free (b : Nat) : ∀ s : List Nat, exp1 b (freeW s) = exp1 b s := by
  have : ∀ (n : Nat) (s : List Nat), s.length = n → exp1 b (freeW s) = exp1 b s := by
    intro n
    induction n with
    | zero => intro s hs; obtain rfl := List.eq_nil_of_length_eq_zero hs; rfl
    | succ n ih =>
      intro s hs
      rcases eq_nil_or_snoc s with rfl | ⟨t, z, rfl⟩
      · rfl
      · rw [free_snoc, exp_push, ih t (by simpa using hs), exp_app]
  intro s
  exact this _ s rfl
theorem exp_inv (b : Nat) (s : List Nat) : exp1 b (invW s) = - exp1 b s := by
  induction s with
  | nil => rfl
  | cons c s ih => rw [inv_cons, exp_app, ih, exp_flip, exp_cons b c s]; omega
theorem exp_rot (b : Nat) {s y : List Nat} (h : IsRot s y) : exp1 b y = exp1 b s := by
  obtain ⟨u, v, rfl, rfl⟩ := h
  rw [exp_app, exp_app]; omega
theorem exp_core (b : Nat) (s : List Nat) : exp1 b (coreW s) = exp1 b s := by
  obtain ⟨p, e⟩ := core_split s
  have := congrArg (exp1 b) e
  rw [exp_app, exp_app, exp_inv] at this
  omega
theorem exp_ring (b : Nat) {s : List Nat} (hl : ∀ c ∈ s, c ∈ al) (h : Red s) : exp1 b (ringO s) = exp1 b s := by
  rw [exp_rot b (ringO_rot hl h), exp_core]
theorem expL_app (r : Int) (s t : List Nat) : expL r (s ++ t) = List.zipWith (fun p q => p + q) (expL r s) (expL r t) := by
  unfold expL
  have : ∀ l : List Nat, (l.map fun b => exp1 b (s ++ t)) = List.zipWith (fun p q => p + q) (l.map fun b => exp1 b s) (l.map fun b => exp1 b t) := fun l => by
    induction l with
    | nil => rfl
    | cons b l ih => rw [List.map_cons, List.map_cons, List.map_cons, List.zipWith_cons_cons, ih, exp_app]
  exact this _
theorem expL_free (r : Int) (s : List Nat) : expL r (freeW s) = expL r s := by unfold expL; simp only [exp_free]
theorem expL_inv (r : Int) (s : List Nat) : expL r (invW s) = (expL r s).map fun p => 0 - p := by
  unfold expL
  rw [List.map_map]
  apply List.map_congr_left
  intro b _
  rw [exp_inv]
  show _ = 0 - exp1 b s
  omega
theorem expL_ring (r : Int) {s : List Nat} (hl : ∀ c ∈ s, c ∈ al) (h : Red s) : expL r (ringO s) = expL r s := by unfold expL; simp only [exp_ring _ hl h]
theorem expL_len {r : Int} (h : Rk r) (s : List Nat) : (expL r s).length = r.toNat := by unfold expL; rw [List.length_map]; have := bas_len h; omega
theorem exp_small (b : Nat) (s : List Nat) : (exp1 b s).natAbs ≤ 2 * s.length := by
  unfold exp1
  have h1 := List.count_le_length (a := b) (l := s)
  have h2 := List.count_le_length (a := flipC b) (l := s)
  omega
/-- a row of integers times rows -/
def combA (acc : List Int) (x : Int) (row : List Int) : List Int := List.zipWith (fun a b => a + x * b) acc row
def combL (xs : List Int) (rows : List (List Int)) (n : Nat) : List Int := (List.zip xs rows).foldl (fun acc p => combA acc p.1 p.2) (List.replicate n 0)
theorem exp_one (b c : Nat) : exp1 b [c] = (if c = b then 1 else 0) - (if c = flipC b then 1 else 0) := by
  unfold exp1
  rw [cnt_one, cnt_one]
  split <;> split <;> rfl
theorem f97 : flipC 97 = 65 := rfl
theorem f98 : flipC 98 = 66 := rfl
theorem f99 : flipC 99 = 67 := rfl
theorem f100 : flipC 100 = 68 := rfl
theorem exp_subC {r : Int} (hr : Rk r) {ims : List (List Nat)} (hi : (ims.length : Int) = r) (b : Nat) : ∀ c ∈ alph r,
    exp1 b (subC ims c) = ((List.zip (expL r [c]) (ims.map fun w => exp1 b w)).map fun p => p.1 * p.2).sum := by
  rcases rk_cases hr with rfl | rfl | rfl
  · obtain ⟨u, v, rfl⟩ : ∃ u v, ims = [u, v] := by
      match ims, hi with
      | [u, v], _ => exact ⟨u, v, rfl⟩
    intro c hc
    have hc : c ∈ [97, 65, 98, 66] := hc
    have e : expL 2 [c] = [exp1 97 [c], exp1 98 [c]] := rfl
    rw [e]
    simp only [List.mem_cons, List.not_mem_nil, or_false] at hc
    rcases hc with rfl | rfl | rfl | rfl <;> simp [exp_one, f97, f98, f99, f100, subC, islC, numC, exp_inv]
  · obtain ⟨u, v, w, rfl⟩ : ∃ u v w, ims = [u, v, w] := by
      match ims, hi with
      | [u, v, w], _ => exact ⟨u, v, w, rfl⟩
    intro c hc
    have hc : c ∈ [97, 65, 98, 66, 99, 67] := hc
    have e : expL 3 [c] = [exp1 97 [c], exp1 98 [c], exp1 99 [c]] := rfl
    rw [e]
    simp only [List.mem_cons, List.not_mem_nil, or_false] at hc
    rcases hc with rfl | rfl | rfl | rfl | rfl | rfl <;> simp [exp_one, f97, f98, f99, f100, subC, islC, numC, exp_inv]
  · obtain ⟨u, v, w, x, rfl⟩ : ∃ u v w x, ims = [u, v, w, x] := by
      match ims, hi with
      | [u, v, w, x], _ => exact ⟨u, v, w, x, rfl⟩
    intro c hc
    have hc : c ∈ [97, 65, 98, 66, 99, 67, 100, 68] := hc
    have e : expL 4 [c] = [exp1 97 [c], exp1 98 [c], exp1 99 [c], exp1 100 [c]] := rfl
    rw [e]
    simp only [List.mem_cons, List.not_mem_nil, or_false] at hc
    rcases hc with rfl | rfl | rfl | rfl | rfl | rfl | rfl | rfl <;> simp [exp_one, f97, f98, f99, f100, subC, islC, numC, exp_inv]
theorem zip_sum (xs ys zs : List Int) (h : xs.length = ys.length) : ((List.zip (List.zipWith (fun p q => p + q) xs ys) zs).map fun p => p.1 * p.2).sum = ((List.zip xs zs).map fun p => p.1 * p.2).sum + ((List.zip ys zs).map fun p => p.1 * p.2).sum := by
  induction xs generalizing ys zs with
  | nil => cases ys with
    | nil => simp
    | cons y ys => simp at h
  | cons x xs ih =>
    cases ys with
    | nil => simp at h
    | cons y ys =>
      cases zs with
      | nil => simp
      | cons z zs =>
        have e := ih ys zs (by simpa using h)
        simp only [List.zipWith_cons_cons, List.zip_cons_cons, List.map_cons, List.sum_cons, e, Int.add_mul]
        omega
theorem exp_subT {r : Int} (hr : Rk r) {ims : List (List Nat)} (hi : (ims.length : Int) = r) (b : Nat) : ∀ s : List Nat, (∀ c ∈ s, c ∈ alph r) →
    exp1 b (subT ims s) = ((List.zip (expL r s) (ims.map fun w => exp1 b w)).map fun p => p.1 * p.2).sum := by
  intro s
  induction s with
  | nil =>
    intro _
    have e : expL r [] = List.replicate (bas r).length 0 := by unfold expL; rw [List.eq_replicate_iff]; exact ⟨by simp, fun x hx => by obtain ⟨b, _, rfl⟩ := List.mem_map.mp hx; rfl⟩
    have : ∀ (n : Nat) (zs : List Int), ((List.zip (List.replicate n 0) zs).map fun p : Int × Int => p.1 * p.2).sum = 0 := fun n => by
      induction n with
      | zero => intro zs; simp
      | succ n ih => intro zs; cases zs with
        | nil => simp
        | cons z zs => rw [List.replicate_succ, List.zip_cons_cons, List.map_cons, List.sum_cons, ih]; simp
    rw [e, this]; rfl
  | cons c s ih =>
    intro h
    have hc := exp_subC hr hi b c (h c List.mem_cons_self)
    have hs := ih fun x hx => h x (List.mem_cons_of_mem _ hx)
    have e : expL r (c :: s) = List.zipWith (fun p q => p + q) (expL r [c]) (expL r s) := expL_app r [c] s
    rw [subT_cons, exp_app, hc, hs, e, zip_sum _ _ _ (by rw [expL_len hr, expL_len hr])]
theorem combA_map {bs : List Nat} {f g : Nat → Int} {x : Int} : combA (bs.map f) x (bs.map g) = bs.map fun b => f b + x * g b := by
  unfold combA
  induction bs with
  | nil => rfl
  | cons b bs ih => rw [List.map_cons, List.map_cons, List.map_cons, List.zipWith_cons_cons, ih]
theorem comb_fold {r : Int} : ∀ (ps : List (Int × List Nat)) (f : Nat → Int),
    (ps.map fun p => (p.1, expL r p.2)).foldl (fun acc p => combA acc p.1 p.2) ((bas r).map f) = (bas r).map fun b => f b + (ps.map fun p => p.1 * exp1 b p.2).sum := by
  intro ps
  induction ps with
  | nil => intro f; simp
  | cons p ps ih =>
    intro f
    rw [List.map_cons, List.foldl_cons]
    show List.foldl _ (combA ((bas r).map f) p.1 ((bas r).map fun b => exp1 b p.2)) _ = _
    rw [combA_map, ih]
    apply List.map_congr_left
    intro b _
    rw [List.map_cons, List.sum_cons]
    omega
theorem comb_eq {r : Int} (hr : Rk r) {ims : List (List Nat)} (hi : (ims.length : Int) = r) {s : List Nat} (h : ∀ c ∈ s, c ∈ alph r) :
    combL (expL r s) (ims.map (expL r)) (bas r).length = expL r (subT ims s) := by
  unfold combL
  have e1 : List.zip (expL r s) (ims.map (expL r)) = (List.zip (expL r s) ims).map fun p => (p.1, expL r p.2) := by
    rw [List.zip_map_right]; rfl
  have e2 : List.replicate (bas r).length (0 : Int) = (bas r).map fun _ => 0 := by
    rw [List.map_const']
  rw [e1, e2, comb_fold]
  show _ = (bas r).map fun b => exp1 b (subT ims s)
  apply List.map_congr_left
  intro b _
  rw [exp_subT hr hi b s h, List.zip_map_right, List.map_map, Int.zero_add]
  rfl
theorem ixN_nat {n i : Nat} (h : i < n) : ixN n ((i : Nat) : Int) = some i := by
  unfold ixN
  rw [if_pos (by omega), if_pos (by omega)]
  all_goals rfl
/-! ### the same data compared -/
section
variable {K : PySem.W.Frag} {post : Rs → Prop}
theorem od_ne_same {x : D} {n w : Nat} (h : Pl n w x) (hn : n ≤ 60) (q : post (.d (.bl false))) : OD K (rNeD K) x x post :=
  od_neD h.ok h.ok (by have := h.dep; omega) (by have := h.dep; omega) (by rw [eqD_refl h.ok]; exact q)
theorem od_eq_same {x : D} {n w : Nat} (h : Pl n w x) (hn : n ≤ 60) (q : post (.d (.bl true))) : OD K (rEqD K) x x post :=
  od_eqD h.ok h.ok (by have := h.dep; omega) (by have := h.dep; omega) (by rw [eqD_refl h.ok]; exact q)
end
theorem zip_int (xs ys : List Int) : List.zipWith (fun c d => D.tup [c, d]) (xs.map D.int) (ys.map D.int) = (List.zip xs ys).map fun p => D.tup [.int p.1, .int p.2] := by
  induction xs generalizing ys with
  | nil => rfl
  | cons x xs ih => cases ys with
    | nil => rfl
    | cons y ys => simp [ih]
theorem zipW_int (f : Int → Int → Int) (xs ys : List Int) : (List.zip xs ys).map (fun p => f p.1 p.2) = List.zipWith f xs ys := by
  induction xs generalizing ys with
  | nil => rfl
  | cons x xs ih => cases ys with
    | nil => rfl
    | cons y ys => simp [ih]
theorem pl_ims {r : Int} (hr : Rk r) {ims : List (List Nat)} (h : ImW r ims) : Pl 1 404 (.tup (ims.map .str)) := by
  refine pl_tup (n := 0) (w := 100) (m := 4) (fun d hd => ?_) (by rw [List.length_map]; exact h.num hr)
  obtain ⟨w, hw, rfl⟩ := List.mem_map.mp hd
  exact pl_str (word_asc (h.wd w hw)) (h.le w hw)
theorem pl_l2 {n w : Nat} {x y : D} (hx : Pl n w x) (hy : Pl n w y) : Pl (n + 1) (2 * (w + 1)) (.lst [x, y]) := pl_lst (fun d hd => by
  simp only [List.mem_cons, List.not_mem_nil, or_false] at hd
  rcases hd with rfl | rfl <;> assumption) (by simp)
theorem pl_l3 {n w : Nat} {x y z : D} (hx : Pl n w x) (hy : Pl n w y) (hz : Pl n w z) : Pl (n + 1) (3 * (w + 1)) (.lst [x, y, z]) := pl_lst (fun d hd => by
  simp only [List.mem_cons, List.not_mem_nil, or_false] at hd
  rcases hd with rfl | rfl | rfl <;> assumption) (by simp)
theorem pl_expL {r : Int} (hr : Rk r) {s : List Nat} (h : s.length ≤ 100000) : Pl 1 260 (.tup ((expL r s).map .int)) := by
  refine pl_tup (n := 0) (w := 64) (m := 4) (fun d hd => ?_) (by rw [List.length_map, expL_len hr]; have := hr.2; omega)
  obtain ⟨i, hi, rfl⟩ := List.mem_map.mp hd
  unfold expL at hi
  obtain ⟨b, _, rfl⟩ := List.mem_map.mp hi
  exact pl_int (by have := exp_small b s; omega)
theorem expL_small {r : Int} {s : List Nat} {n : Nat} (h : 2 * s.length ≤ n) : ∀ x ∈ expL r s, x.natAbs ≤ n := fun x hx => by
  unfold expL at hx
  obtain ⟨b, _, rfl⟩ := List.mem_map.mp hx
  have := exp_small b s
  omega
/-- one more letter -/
theorem expL_step {r : Int} (hr : Rk r) : ∀ c ∈ alph r, ∀ s : List Nat, ∃ x, (expL r s)[numC c]? = some x ∧ numC c < r.toNat ∧ expL r (s ++ [c]) = (expL r s).set (numC c) (x + (if islC c then 1 else -1)) := by
  rcases rk_cases hr with rfl | rfl | rfl
  · intro c hc s
    have hc : c ∈ [97, 65, 98, 66] := hc
    have e : ∀ t, expL 2 t = [exp1 97 t, exp1 98 t] := fun t => rfl
    simp only [List.mem_cons, List.not_mem_nil, or_false] at hc
    rcases hc with rfl | rfl | rfl | rfl <;> simp [e, exp_app, exp_one, f97, f98, numC, islC]
  · intro c hc s
    have hc : c ∈ [97, 65, 98, 66, 99, 67] := hc
    have e : ∀ t, expL 3 t = [exp1 97 t, exp1 98 t, exp1 99 t] := fun t => rfl
    simp only [List.mem_cons, List.not_mem_nil, or_false] at hc
    rcases hc with rfl | rfl | rfl | rfl | rfl | rfl <;> simp [e, exp_app, exp_one, f97, f98, f99, numC, islC]
  · intro c hc s
    have hc : c ∈ [97, 65, 98, 66, 99, 67, 100, 68] := hc
    have e : ∀ t, expL 4 t = [exp1 97 t, exp1 98 t, exp1 99 t, exp1 100 t] := fun t => rfl
    simp only [List.mem_cons, List.not_mem_nil, or_false] at hc
    rcases hc with rfl | rfl | rfl | rfl | rfl | rfl | rfl | rfl <;> simp [e, exp_app, exp_one, f97, f98, f99, f100, numC, islC]
/-- a, b, c = x, y, z: all data -/
theorem sd_par3 {K : PySem.W.Frag} {ρ : List Sl} {P : PD} {i j l : Nat} {ta : TA} (h : PAs K ρ ta fun xs ρ1 => ∃ x y z, xs = [x, y, z] ∧ P.nx (((ρ1.set i (.d x)).set j (.d y)).set l (.d z))) : SD K ρ (tPar3 i j l ta) P := by
  intro G F H σ f e Dn k
  refine h G F H σ f e _ fun vs xs ρ1 G1 F1 H1 s1 sh1 e1 o1 ⟨x, y, z, ex, q⟩ => ?_
  subst ex
  cases o1 with
  | cons r1 r2 =>
    cases r2 with
    | cons r3 r4 =>
      cases r4 with
      | cons r5 r6 =>
        cases r6
        exact ⟨_, _, _, rfl, k.nx _ _ G1 F1 H1 (nx_set (nx_set (nx_set s1 fun p z => by cases z) fun p z => by cases z) fun p z => by cases z) (((e1.setd i r1).setd j r3).setd l r5) q⟩
/-- a slot is forgotten -/
theorem cells_forget {ρ : List Sl} {j : Nat} {p : Addr} (h : p ∈ cells (ρ.set j .no)) : p ∈ cells ρ := (cells_set_sub h).elim id fun z => by cases z
theorem sd_forget {K : PySem.W.Frag} {ρ : List Sl} {ts : TS} {P : PD} (j : Nat) (h : SD K (ρ.set j .no) ts P) : SD K ρ ts P := by
  intro G F H σ f e Dn k
  have s : ∀ {ρ' : List Sl} {G' F' H' : Hp}, Nx (ρ.set j .no) G F ρ' G' F' H' → Nx ρ G F ρ' G' F' H' := fun x =>
    ⟨x.ex, x.fr, fun b o hb hn => x.keep b o hb fun z => hn (cells_forget z), fun p hp => (x.cel p hp).imp cells_forget id⟩
  have nd : (cells (ρ.set j .no)).Nodup := nd_set e.nd fun p z => by cases z
  have e' : Env K G F σ (ρ.set j .no) := ⟨by rw [List.length_set]; exact e.len, fun i t ht => by
    rw [List.getElem?_set] at ht
    by_cases hij : j = i
    · subst hij
      rw [if_pos rfl] at ht
      split at ht
      · rename_i hl
        cases ht
        obtain ⟨o, h1, _⟩ := e.at_ j _ (List.getElem?_eq_getElem hl)
        exact ⟨o, h1, trivial⟩
      · cases ht
    · rw [if_neg hij] at ht
      exact e.at_ i t ht, nd⟩
  refine h G F H σ f e' Dn ⟨fun ρ' σ' G' F' H' x => k.nx ρ' σ' G' F' H' (s x), fun v a ρ' σ' G' F' H' x ev ok nw q => k.rt v a ρ' σ' G' F' H' (s x) ev ok (fun p y ea => (nw p y ea).imp cells_forget id) q, fun ρ' σ' G' F' H' x => k.bk ρ' σ' G' F' H' (s x), fun ρ' σ' G' F' H' x => k.ct ρ' σ' G' F' H' (s x), fun x cls d G' F' H' z => k.ex x cls d G' F' H' ⟨z.ex, z.fr, fun b o hb hn => z.keep b o hb fun y => hn (cells_forget y)⟩⟩
end DL
namespace DL
open PySem PySem.Spec PySem.W PyProof.Rows L2
variable [HasT]
/-! ### what comes later is hidden behind a letter -/
theorem sd_seqH {K : PySem.W.Frag} {ρ : List Sl} {ts tu : TS} {P : PD} (h : ∀ t : TS, t = tu → SD K ρ ts { P with nx := fun ρ1 => SD K ρ1 t P }) : SD K ρ (tSeq ts tu) P := sd_seq (h tu rfl)
theorem sd_open {K : PySem.W.Frag} {ρ : List Sl} {t tu : TS} {P : PD} (e : t = tu) (h : SD K ρ tu P) : SD K ρ t P := by subst e; exact h
end DL
namespace DL
open PySem PySem.Spec PySem.W PyProof.Rows L2
variable [HasT]
/-! ### tuple(text) -/
def rTupS : List V → Hp → VK → Prop := fun xs H Q => ∃ z : List Nat, xs = [.str (S z)] ∧ z.length ≤ sizeLine ∧ ∀ l, H l = none → Q (.ref l) (upd H l (.tup (z.map fun c => V.str (S [c]))))
theorem cr_tupS {X : Cx} (hc : X.calm = true) : CallR X (.type "tuple") rTupS := by
  intro pins s σ H xs us Q I r h
  obtain ⟨z, rfl, hz, q⟩ := h
  obtain ⟨u, rfl, ru⟩ := vals1 r
  obtain ⟨t, rfl⟩ := ru
  refine call_tuple_str (I.ok.hd hc) (S z) t (fun h' tk acc k it => ?_) (by simpa using hz)
  have hv : Vals (z.map fun c => V.str (S [c])) acc.toList := by
    have := vals_signs z z.length 0 acc.toList (by rw [Array.length_toList, it.1]; simp) (by omega) fun j v hj => by rw [Nat.zero_add]; exact it.2 j v (by simpa using hj)
    simpa using this
  have I1 : Inv X pins σ H { s with heap := h', toks := tk } := I.kept (t' := tk) k
  have hf : H h'.objs.size = none := I1.hok.fresh (Nat.le_refl _)
  exact ⟨.ref h'.objs.size, _, I1.laid (t' := tk) (fun b u e => Heap.get?_push_of_some _ e) (Nat.le_refl _) (show ObjOk X.prog X.w _ _ _ (.tup (z.map fun c => V.str (S [c]))) from ⟨by rw [List.length_map]; exact hz, acc.toList, hv, ⟨_, Heap.get?_push_size _ rfl, rfl, 0, by simp⟩⟩), rfl, q _ hf⟩
theorem cd_tupS {K : PySem.W.Frag} {post : Rs → Prop} {z : List Nat} (hz : z.length ≤ sizeLine) (q : post (.d (.tup (z.map fun c => .str [c])))) : CD K rTupS [.str z] post := by
  intro G F H vs f rx Q k
  cases rx with
  | cons rx r2 =>
    cases r2
    cases rx
    exact ⟨z, rfl, hz, fun l hl => back_t f k hl (reps_signs z) q⟩
/-! ### a, b = x, y with new lists -/
def asg2 (i j : Nat) (P : List Sl → Prop) : Ar → Ar → List Sl → Prop
  | .d x, .d y, ρ => P ((ρ.set i (.d x)).set j (.d y))
  | .n p x, .d y, ρ => P ((ρ.set i (.cell p x)).set j (.d y))
  | .d x, .n q y, ρ => P ((ρ.set i (.d x)).set j (.cell q y))
  | .n p x, .n q y, ρ => P ((ρ.set i (.cell p x)).set j (.cell q y))
  | _, _, _ => False
theorem sd_parC {K : PySem.W.Frag} {ρ : List Sl} {P : PD} {i j : Nat} {ta tb : TE} (h : ED K ρ ta fun a ρ1 => ED K ρ1 tb fun b ρ2 => asg2 i j P.nx a b ρ2) : SD K ρ (tPar i j (tCons ta (tCons tb tNil))) P := by
  intro G F H σ f e Dn k
  refine h G F H σ f e _ fun v a ρ1 G1 F1 H1 s1 sh1 e1 o1 w1 h1 => ?_
  refine h1 G1 F1 H1 σ s1.fr e1 _ fun u b ρ2 G2 F2 H2 s2 sh2 e2 o2 w2 q => ?_
  have s12 := s1.trans s2
  have o1' := o1.step s2 sh2
  have wb := ArNew.back s1 sh1 e1 w2
  have slot : ∀ {a : Ar} {v : V}, ArOk K G2 F2 ρ2 a v → (∀ i, a ≠ .c i) → ∃ s : Sl, SlOk K G2 F2 s (some v) ∧ (∀ p, s.adr = some p → p ∉ cells ρ2 ∧ ∃ x, a = .n p x) ∧ (∀ x, a = .d x → s = .d x) ∧ (∀ p x, a = .n p x → s = .cell p x) := by
    intro a v o nc
    cases a with
    | c i => exact absurd rfl (nc i)
    | d x => exact ⟨.d x, ⟨v, rfl, o⟩, fun p z => (by cases z), fun y z => (by cases z; rfl), fun p y z => (by cases z)⟩
    | n p x => obtain ⟨rfl, hc, hn⟩ := o; exact ⟨.cell p x, ⟨rfl, hc⟩, fun q z => (by cases z; exact ⟨hn, x, rfl⟩), fun y z => (by cases z), fun q y z => (by cases z; rfl)⟩
  have go : ∀ s t : Sl, SlOk K G2 F2 s (some v) → SlOk K G2 F2 t (some u) → (∀ p, s.adr = some p → p ∉ cells ρ2 ∧ F p = none) → (∀ p, t.adr = some p → p ∉ cells (ρ2.set i s) ∧ F p = none) → P.nx ((ρ2.set i s).set j t) → Dn.nx ((σ.set i (some v)).set j (some u)) H2 := by
    intro s t h1 h2 h3 h4 q
    exact k.nx _ _ G2 F2 H2 (nx_set (nx_set s12 fun p z => (h3 p z).2) fun p z => (h4 p z).2) ((e2.set i h1 fun p z => (h3 p z).1).set j h2 fun p z => (h4 p z).1) q
  have nca : ∀ i, a ≠ .c i := fun i z => by subst z; cases b <;> exact q
  have ncb : ∀ i, b ≠ .c i := fun i z => by subst z; cases a <;> exact q
  obtain ⟨s, a1, a2, a3, a4⟩ := slot o1' nca
  obtain ⟨t, b1, b2, b3, b4⟩ := slot o2 ncb
  have ne : ∀ p x q y, a = .n p x → b = .n q y → p ≠ q := fun p x q y ea eb z => by
    subst ea eb z
    obtain ⟨_, hc, _⟩ := o1
    obtain ⟨o, ho⟩ := hc.some
    have := w2 p y rfl
    rw [ho] at this; cases this
  refine ⟨v, u, rfl, go s t a1 b1 (fun p z => ⟨(a2 p z).1, ?_⟩) (fun p z => ⟨fun m => ?_, ?_⟩) ?_⟩
  · obtain ⟨x, e⟩ := (a2 p z).2; exact w1 p x e
  · rcases cells_set_sub m with m | m
    · exact (b2 p z).1 m
    · obtain ⟨x, ea⟩ := (a2 p m).2
      obtain ⟨y, eb⟩ := (b2 p z).2
      exact ne p x p y ea eb rfl
  · obtain ⟨x, e⟩ := (b2 p z).2; exact wb p x e
  · cases a with
    | c i => exact absurd rfl (nca i)
    | d x =>
      rw [a3 x rfl]
      cases b with
      | c i => exact absurd rfl (ncb i)
      | d y => rw [b3 y rfl]; exact q
      | n p y => rw [b4 p y rfl]; exact q
    | n p x =>
      rw [a4 p x rfl]
      cases b with
      | c i => exact absurd rfl (ncb i)
      | d y => rw [b3 y rfl]; exact q
      | n p y => rw [b4 p y rfl]; exact q
/-! ### moves and relabelings -/
def mvD (s : Nat) (z : List Nat) : D := .tup [.str [109, 111, 118, 101], .str [s], .str z]
def rlD (t : List Nat) : D := .tup [.str [114, 101, 108, 97, 98, 101, 108], .str t]
structure MvOk (r : Int) (s : Nat) (z : List Nat) : Prop where
  hs : s ∈ alph r
  hz : z.Sublist (alph r)
  hi : s ∈ z
  ho : flipC s ∉ z
structure RlOk (r : Int) (t : List Nat) : Prop where
  a : ∀ c ∈ t, c ∈ alph r
  p : (t.map lowC).Perm (bas r)
inductive Stp where | mv (s : Nat) (z : List Nat) | rl (t : List Nat)
def Stp.D : Stp → DL.D
  | .mv s z => mvD s z
  | .rl t => rlD t
def Stp.Ok (r : Int) : Stp → Prop
  | .mv s z => MvOk r s z
  | .rl t => RlOk r t
def mvC (s : Nat) (z : List Nat) (b : Nat) : List Nat := if b = lowC s then [b] else (if uppC b ∈ z then [flipC s] else []) ++ [b] ++ (if b ∈ z then [s] else [])
def mvI (r : Int) (s : Nat) (z : List Nat) : List (List Nat) := (bas r).map (mvC s z)
def Stp.im (r : Int) : Stp → List (List Nat)
  | .mv s z => mvI r s z
  | .rl t => t.map fun c => [c]
theorem RlOk.len {r : Int} (hr : Rk r) {t : List Nat} (h : RlOk r t) : (t.length : Int) = r := by
  have := h.p.length_eq
  rw [List.length_map] at this
  rw [this]; exact bas_len hr
theorem mv_len {r : Int} (hr : Rk r) (s : Nat) (z : List Nat) : ((mvI r s z).length : Int) = r := by unfold mvI; rw [List.length_map]; exact bas_len hr
theorem mvC_mem {r : Int} (hr : Rk r) {s : Nat} {z : List Nat} (hs : s ∈ alph r) {b : Nat} (hb : b ∈ bas r) : ∀ c ∈ mvC s z b, c ∈ alph r := fun c hc => by
  have hb := bas_al hr b hb
  unfold mvC at hc
  split at hc
  · rw [List.mem_singleton.mp hc]; exact hb
  · rcases List.mem_append.mp hc with hc | hc
    · rcases List.mem_append.mp hc with hc | hc
      · split at hc
        · rw [List.mem_singleton.mp hc]; exact alph_flip hr s hs
        · cases hc
      · rw [List.mem_singleton.mp hc]; exact hb
    · split at hc
      · rw [List.mem_singleton.mp hc]; exact hs
      · cases hc
theorem Stp.imA {r : Int} (hr : Rk r) {x : Stp} (h : x.Ok r) : ImA r (x.im r) := by
  cases x with
  | mv s z =>
    refine ⟨mv_len hr s z, fun w hw => ?_⟩
    obtain ⟨b, hb, rfl⟩ := List.mem_map.mp hw
    exact mvC_mem hr h.hs hb
  | rl t =>
    refine ⟨by show ((t.map _).length : Int) = r; rw [List.length_map]; exact h.len hr, fun w hw => ?_⟩
    obtain ⟨c, hc, rfl⟩ := List.mem_map.mp hw
    intro d hd
    rw [List.mem_singleton.mp hd]
    exact h.a c hc
theorem mvC_len (s : Nat) (z : List Nat) (b : Nat) : (mvC s z b).length ≤ 3 := by
  unfold mvC
  split
  · simp
  · rw [List.length_append, List.length_append]
    split <;> split <;> simp
theorem Stp.im_len {r : Int} {x : Stp} : ∀ w ∈ x.im r, w.length ≤ 3 := by
  cases x with
  | mv s z => intro w hw; obtain ⟨b, _, rfl⟩ := List.mem_map.mp hw; exact mvC_len s z b
  | rl t => intro w hw; obtain ⟨b, _, rfl⟩ := List.mem_map.mp hw; simp
end DL
namespace DL
open PySem PySem.Spec PySem.W PyProof.Rows L2
variable [HasT]
/-! ### sorted(text) -/
def rSortedTx : List V → Hp → VK → Prop := fun xs H Q => ∃ z : List Nat, xs = [.str (S z)] ∧ z.length < 64 ∧
  ∀ (ys : List Str) (p : Addr), ys.Perm (z.map fun c => S [c]) → sortedS ys = true → H p = none → Q (.ref p) (upd H p (.lst (ys.map V.str)))
theorem cr_sortedTx {X : Cx} (hcalm : X.calm = true) : CallR X (.builtin "sorted") rSortedTx := by
  intro pins s σ H xs us Q I r q
  obtain ⟨z, rfl, h64, q⟩ := q
  obtain ⟨u, rfl, t, rfl⟩ := vals1 r
  have h16 : (S z).cps.size ≤ sizeLine := by simp [S]; exact Nat.le_trans (Nat.le_of_lt h64) (by decide)
  refine Calls.call_function_entry PyProof.Rows.kind_sorted PyProof.Rows.plain_sorted PyProof.Rows.entry_sorted (PyProof.Rows.args_sorted1 _) ?_
  unfold Builtin.«sorted»
  refine wpAny_bind (m := checkCount "sorted" 1 1 _) (wpAny_pure ?_)
  refine wpAny_bind (wpAny_collect_str (A := X.A.in1) (hn := h16) (I.ok.hd hcalm) (S z) t fun s' acc hk eg ed eo hacc => ?_)
  obtain ⟨h', g', d', tk, os'⟩ := s'
  have eg : g' = s.gens := eg
  have ed : d' = s.drawn := ed
  have eo : os' = s.os := eo
  subst eg ed eo
  have hal : acc.toList.length = z.length := by rw [Array.length_toList, hacc.1]; simp [S]
  have hv : Vals (z.map fun c => V.str (S [c])) acc.toList := by
    have := vals_signs z z.length 0 acc.toList hal (by omega) fun j v hj => by rw [Nat.zero_add]; exact hacc.2 j v (by simpa using hj)
    simpa using this
  have hS : StrsAre acc.toList (z.map fun c => S [c]) := by
    have : Vals ((z.map fun c => S [c]).map V.str) acc.toList := by rw [List.map_map]; exact hv
    exact this.strs
  have I1 : Inv X pins σ H { s with heap := h', toks := tk } := I.kept (t' := tk) hk
  refine wpAny_bind (wpAny_newList ?_ (by rw [hal, sizeLine_eq]; omega))
  have hoL : (h'.push (seqObj "list" acc.toList.toArray 0)).get? h'.objs.size = some (seqObj "list" acc.toList.toArray 0) := Heap.get?_push_size _ rfl
  show wpAny _ _ _ _ _ { s with heap := h'.push (seqObj "list" acc.toList.toArray 0), toks := tk }
  refine wpAny_bind (wpAny_holding (wpAny_call_entry PyProof.Rows.slot_list_sort ⟨_, hoL, rfl⟩ PyProof.Rows.entry_list_sort
    (list_sort_treeK strKind_oneLt (s := { s with heap := h'.push (seqObj "list" acc.toList.toArray 0), toks := tk }) hoL hS.keysOf (fun v₁ v₂ rest e => keyKind_strs (by rw [← e]; exact hS)) (by rw [hal]; exact h64) fun st' hp hs => ⟨_, rfl, ?_⟩)
    (PyProof.Rows.args_list_sort _)))
  obtain ⟨ys, g1, g2, g3⟩ := sorted_out_str hS hp hs
  obtain ⟨e', he'⟩ := PyProof.Rows.sortedHeap_at (vs := acc.toList) (out := (arrOf st').map (·.2)) hoL
  have hlen : (ys.map V.str).length ≤ sizeLine := by
    rw [List.length_map, g2.length_eq, List.length_map]
    exact Nat.le_trans (Nat.le_of_lt h64) (by decide)
  refine wpAny_pure ⟨_, rfl, .ref h'.objs.size, upd H h'.objs.size (.lst (ys.map V.str)), I1.laid (t' := tk) (fun b u e => ?_) (Nat.le_refl _)
    (show ObjOk X.prog X.w _ _ _ (.lst (ys.map V.str)) from ⟨hlen, ((arrOf st').map (·.2)).toList, e', vals_of_strs g1, by rw [Array.toArray_toList]; exact he'⟩), rfl, q ys _ g2 g3 (I1.hok.fresh (Nat.le_refl _))⟩
  have hb : b < h'.objs.size := Heap.lt_size e
  rw [PyProof.Rows.sortedHeap_old (Nat.ne_of_lt hb) (by rw [size_push']; exact Nat.lt_succ_of_lt hb)]
  exact Heap.get?_push_of_some _ e
theorem signs_perm {z : List Nat} {ys : List Str} (h : ys.Perm (z.map fun c => S [c])) : ∃ zs : List Nat, ys = zs.map (fun c => S [c]) ∧ zs.Perm z := by
  refine ⟨ys.map fun y => y.cps.toList.headD 0, ?_, ?_⟩
  · rw [List.map_map]
    have : ∀ y ∈ ys, ((fun c => S [c]) ∘ fun y : Str => y.cps.toList.headD 0) y = y := fun y hy => by
      obtain ⟨c, _, rfl⟩ := List.mem_map.mp (h.mem_iff.mp hy)
      rfl
    exact (List.map_id _).symm.trans (List.map_congr_left fun y hy => (this y hy).symm)
  · have := h.map fun y : Str => y.cps.toList.headD 0
    rw [List.map_map] at this
    have e : ((fun y : Str => y.cps.toList.headD 0) ∘ fun c => S [c]) = id := by funext c; rfl
    rw [e, List.map_id] at this
    exact this
theorem rising_pw : ∀ (zs : List Nat) (p : Nat), risingS (S [p]) (zs.map fun c => S [c]) = true → (p :: zs).Pairwise (· ≤ ·)
  | [], p, _ => by simp
  | x :: zs, p, h => by
    have h : (!ltCps (S [x]).cps.toList (S [p]).cps.toList && risingS (S [x]) (zs.map fun c => S [c])) = true := h
    rw [Bool.and_eq_true] at h
    have ih := rising_pw zs x h.2
    have le : p ≤ x := by
      have h1 := h.1
      rw [S_tl, S_tl, ltCps_eq] at h1
      have : ¬ ([x] < [p]) := by simpa using h1
      by_cases hp : p ≤ x
      · exact hp
      · exact absurd (List.cons_lt_cons_iff.mpr (.inl (by omega))) this
    refine List.pairwise_cons.mpr ⟨fun y hy => ?_, ih⟩
    rcases List.mem_cons.mp hy with rfl | hy
    · exact le
    · exact Nat.le_trans le ((List.pairwise_cons.mp ih).1 y hy)
theorem sorted_pw {zs : List Nat} (h : sortedS (zs.map fun c => S [c]) = true) : zs.Pairwise (· ≤ ·) := by
  cases zs with
  | nil => exact .nil
  | cons x zs => exact rising_pw zs x h
theorem cd_sortTx {K : PySem.W.Frag} {post : Rs → Prop} {z : List Nat} (hz : z.length < 64) (q : ∀ zs : List Nat, zs.Perm z → zs.Pairwise (· ≤ ·) → post (.n (.lst (zs.map fun c => .str [c])))) : CD K rSortedTx [.str z] post := by
  intro G F H vs f rx Q k
  cases rx with
  | cons rx r2 =>
    cases r2
    cases rx
    refine ⟨z, rfl, hz, fun ys p hp hs hn => ?_⟩
    obtain ⟨zs, rfl, hp2⟩ := signs_perm hp
    rw [List.map_map]
    exact back_n f k hn (reps_signs zs) (q zs hp2 (sorted_pw hs))
theorem perm_sorted_eq : ∀ {a b : List Nat}, a.Perm b → a.Pairwise (· ≤ ·) → b.Pairwise (· ≤ ·) → a = b := fun h h1 h2 => h.eq_of_pairwise (fun _ _ _ _ x y => Nat.le_antisymm x y) h1 h2
end DL
namespace DL
open PySem PySem.Spec PySem.W PyProof.Rows L2
variable [HasT]
/-! ### a list without one place -/
theorem map_erase {α β : Type} (f : α → β) : ∀ (l : List α) (k : Nat), (l.map f).eraseIdx k = (l.eraseIdx k).map f
  | [], _ => rfl
  | _ :: _, 0 => rfl
  | x :: l, k + 1 => by
    show f x :: (l.map f).eraseIdx k = f x :: (l.eraseIdx k).map f
    rw [map_erase f l k]
theorem perm_pop {α : Type} : ∀ {l : List α} {k : Nat} (h : k < l.length), (l[k] :: l.eraseIdx k).Perm l
  | x :: l, 0, _ => .refl _
  | x :: l, k + 1, h => by
    show (l[k]'(by simpa using h) :: x :: l.eraseIdx k).Perm (x :: l)
    exact (List.Perm.swap _ _ _).trans ((perm_pop (by simpa using h)).cons x)
theorem alph_len2 {r : Int} (h : Rk r) : ((alph r).length : Int) = 2 * r := by rcases rk_cases h with rfl | rfl | rfl <;> rfl
def Stp.isMv : Stp → Bool | .mv _ _ => true | .rl _ => false
end DL
namespace DL
open PySem PySem.Spec PyProof.Rows L2
variable [HasT]
/-! ### defs that may raise: promises with an exception's end -/
abbrev DSpX := List Sl → (Rs → List Sl → Prop) → (D → Prop) → Prop
def spX (K : PySem.W.Frag) (n : Nat) (R : DSpX) : Sp := fun vs H Q E => vs.length = n ∧ ∃ G F ρ post xp, Fr G F H ∧ Env K G F (vs.map some) ρ ∧ R ρ post xp ∧
  (∀ u z ρ' G' F' H', Nx ρ G F ρ' G' F' H' → Shp ρ ρ' → Env K G' F' (vs.map some) ρ' → RsOk' K F G' F' ρ' z u → post z ρ' → Q u H') ∧
  ∀ x cls d G' F' H', XNx ρ G F G' F' H' → ExR K G' cls d x → xp x → E cls d H'
theorem spX_len {K : PySem.W.Frag} {n : Nat} {R : DSpX} : ∀ vs H Q E, spX K n R vs H Q E → vs.length = n := fun _ _ _ _ h => h.1
/-- an expression that may raise -/
def EX (K : PySem.W.Frag) (ρ : List Sl) (te : TE) (post : Ar → List Sl → Prop) (E : XK) (xp : D → Prop) : Prop :=
  ∀ (G F H : Hp) (σ : L2.St), Fr G F H → Env K G F σ ρ → ∀ Q : VK,
    (∀ v a ρ' G' F' H', Nx ρ G F ρ' G' F' H' → Shp ρ ρ' → Env K G' F' σ ρ' → ArOk K G' F' ρ' a v → ArNew F a → post a ρ' → Q v H') →
    (∀ x cls d G' F' H', XNx ρ G F G' F' H' → ExR K G' cls d x → xp x → E cls d H') → te σ H Q
section
variable {K : PySem.W.Frag}
theorem fn_bodyX {n m : Nat} {N : List Str} {R : DSpX} {vs : List V} {H : Hp} {Q : VK} {E : XK} {t : TS} (h : spX K n R vs H Q E) (hm : N.length = n + m)
    (hb : ∀ ρ post xp, ρ.length = n → R ρ post xp → SD K (ρ ++ List.replicate m .no) t { nx := endP n ρ post (.d .non), rt := endP n ρ post, xe := E, xp := xp }) : t { nx := fun _ H' => Q .non H', rt := Q } (L2.start N vs) H := by
  obtain ⟨hl, G, F, ρ, post, xp, f, ev, hR, fin, finX⟩ := h
  have lρ : ρ.length = n := by rw [← ev.len, List.length_map]; exact hl
  have hst : L2.start N vs = vs.map some ++ List.replicate m none := by unfold L2.start; rw [hm, hl, Nat.add_sub_cancel_left]
  have cz : cells (ρ ++ List.replicate m .no) = cells ρ := by
    unfold cells
    rw [List.filterMap_append]
    rw [cells_rep, List.append_nil]
  have e0 : Env K G F (L2.start N vs) (ρ ++ List.replicate m .no) := by
    rw [hst]
    refine ⟨by simp [lρ, hl], fun i s hs => ?_, by rw [cz]; exact ev.nd⟩
    by_cases hi : i < ρ.length
    · rw [List.getElem?_append_left hi] at hs
      obtain ⟨o, h1, h2⟩ := ev.at_ i s hs
      exact ⟨o, by rw [List.getElem?_append_left (by simp; omega)]; exact h1, h2⟩
    · rw [List.getElem?_append_right (by omega)] at hs
      have hm2 : i - ρ.length < m := by
        have := (List.getElem?_eq_some_iff.mp hs).1
        simpa using this
      have : s = .no := by
        rw [List.getElem?_replicate, if_pos hm2] at hs
        exact (Option.some.inj hs).symm
      subst this
      refine ⟨none, ?_, trivial⟩
      rw [List.getElem?_append_right (by simp; omega), List.getElem?_replicate, if_pos (by simp; omega)]
  have go : ∀ (v : V) (a : Ar) (ρ' : List Sl) (σ' : L2.St) (G' F' H' : Hp), Nx (ρ ++ List.replicate m .no) G F ρ' G' F' H' → Env K G' F' σ' ρ' → ArOk K G' F' ρ' a v → NewC (ρ ++ List.replicate m .no) F a → endP n ρ post a ρ' → Q v H' := by
    intro v a ρ' σ' G' F' H' s e o nw q
    have fin2 : ∀ z, EndC ρ ρ' (post z) → (∀ r, r.map Sl.adr = ρ.map Sl.adr → (∀ (i : Nat) p x, ρ[i]? = some (.cell p x) → ∃ y, ρ'[i]? = some (.cell p y)) → RsOk' K F G' F' r z v) → Q v H' := by
      intro z hz hr
      obtain ⟨r, b1, b2, b3, b4, b5⟩ := endC_ok (K := K) (vs := vs) hz ev.at_ e.at_ s.ex (by omega)
      have cr : cells r = cells ρ := cells_of_adr b3
      have er : Env K G' F' (vs.map some) r := ⟨by rw [b2, List.length_map]; omega, b4, by rw [cr]; exact ev.nd⟩
      refine fin v z r G' F' H' ⟨s.ex, s.fr, fun b o hb hn => s.keep b o hb (by rw [cz]; exact hn), fun p hp => .inl (by rw [cr] at hp; exact hp)⟩ (fun i p x hx => ?_) er (hr r b3 b5) b1
      have hi : i < r.length := by rw [b2]; exact (List.getElem?_eq_some_iff.mp hx).1
      have : (r.map Sl.adr)[i]? = some (some p) := by rw [b3, List.getElem?_map, hx]; rfl
      rw [List.getElem?_map, List.getElem?_eq_getElem hi] at this
      cases es : r[i] with
      | cell q y => rw [es] at this; cases this; exact ⟨y, by rw [List.getElem?_eq_getElem hi, es]⟩
      | d y => rw [es] at this; cases this
      | no => rw [es] at this; cases this
    -- an argument's cell is a cell still
    have still : (∀ (i : Nat) p x, ρ[i]? = some (.cell p x) → ∃ y, ρ'[i]? = some (.cell p y)) → ∀ p, p ∈ cells ρ → ∃ (i : Nat) (y : D), i < n ∧ ρ'[i]? = some (.cell p y) := fun h p hp => by
      obtain ⟨i, x, hx⟩ := cells_mem hp
      obtain ⟨y, hy⟩ := h i p x hx
      exact ⟨i, y, by rw [← lρ]; exact (List.getElem?_eq_some_iff.mp hx).1, hy⟩
    cases a with
    | d x => exact fin2 (.d x) q fun r _ _ => o
    | n p x =>
      obtain ⟨rfl, hc, hn⟩ := o
      refine fin2 (.n x) q fun r b3 b5 => ⟨p, rfl, ?_, hc, fun z => ?_⟩
      · rcases nw p x rfl with z | z
        · rw [cz] at z
          obtain ⟨i, y, _, hy⟩ := still b5 p z
          exact absurd (mem_cells hy) hn
        · exact z
      · rw [cells_of_adr b3] at z
        obtain ⟨i, y, _, hy⟩ := still b5 p z
        exact hn (mem_cells hy)
    | c i =>
      obtain ⟨p, x, hx, rfl⟩ := o
      have q : (match ρ'[i]? with | some (.cell _ x) => n ≤ i ∧ EndC ρ ρ' (post (.n x)) | _ => False) := q
      rw [hx] at q
      obtain ⟨hi, q⟩ := q
      have no : (∀ (i : Nat) p x, ρ[i]? = some (.cell p x) → ∃ y, ρ'[i]? = some (.cell p y)) → p ∉ cells ρ := fun b5 z => by
        obtain ⟨j, y, hj, hy⟩ := still b5 p z
        have := nd_at e.nd hx hy
        omega
      refine fin2 (.n x) q fun r b3 b5 => ⟨p, rfl, ?_, (e.cell hx).2, fun z => no b5 (by rw [cells_of_adr b3] at z; exact z)⟩
      rcases s.cel p (mem_cells hx) with z | z
      · rw [cz] at z; exact absurd z (no b5)
      · exact z
  refine hb ρ post xp lρ hR G F H _ f e0 _ ⟨fun ρ' σ' G' F' H' s e q => ?_, go, fun _ _ _ _ _ _ _ q => q.elim, fun _ _ _ _ _ _ _ q => q.elim, fun x cls d G' F' H' s er q => finX x cls d G' F' H' ⟨s.ex, s.fr, fun b o hb hn => s.keep b o hb (by rw [cz]; exact hn)⟩ er q⟩
  exact go .non (.d .non) ρ' σ' G' F' H' s e Rep.non ArNew.d.c' q

end
section
variable {K : PySem.W.Frag} {ρ : List Sl}
theorem argCells {ρ1 : List Sl} {as : List Ar} {p : Addr} (hp : p ∈ cells (as.map (arS ρ1))) : p ∈ cells ρ1 := by
  obtain ⟨i, x, hx⟩ := cells_mem hp
  rw [List.getElem?_map] at hx
  cases ha : as[i]? with
  | none => rw [ha] at hx; cases hx
  | some a =>
    rw [ha] at hx
    have hx : arS ρ1 a = .cell p x := by simpa using hx
    cases a with
    | d y => cases hx
    | n q y => cases hx
    | c j =>
      have : ρ1.getD j .no = .cell p x := hx
      rw [List.getD_eq_getElem?_getD] at this
      cases hj : ρ1[j]? with
      | none => rw [hj] at this; cases this
      | some s => rw [hj] at this; exact mem_cells (hj.trans (congrArg some this))
/-- a call of a def by its promise -/
theorem ex_call {n : Nat} {R : DSpX} {E : XK} {xp : D → Prop} {ta : TA} {post : Ar → List Sl → Prop}
    (h : EG K ρ ta fun as ρ1 => as.length = n ∧ (cells (as.map (arS ρ1))).Nodup ∧ R (as.map (arS ρ1)) (fun z ρ' => rsA post (wb as ρ' ρ1) z) xp) : EX K ρ (tCall (spX K n R) [] E ta) post E xp := by
  intro G F H σ f e Q k kx
  refine h G F H σ f e _ fun vs as ρ1 G1 F1 H1 s1 sh1 e1 o1 n1 ⟨hl, nd, hR⟩ => ?_
  have lv : vs.length = as.length := arsOk_len o1
  have ea : Env K G1 F1 (vs.map some) (as.map (arS ρ1)) := arS_env (H := H1) e1 o1 n1 nd
  rw [List.append_nil]
  refine ⟨lv.trans hl, G1, F1, _, _, xp, s1.fr, ea, hR, fun u z ρ' G2 F2 H2 s2 sh2 e2 ok po => ?_, fun x cls d G2 F2 H2 s2 er hx => kx x cls d G2 F2 H2 (s1.xtrans ⟨s2.ex, s2.fr, fun b o hb hn => s2.keep b o hb fun z => hn (argCells z)⟩) er hx⟩
  -- the cells of the arguments are cells of the caller
  have sub : ∀ p ∈ cells (as.map (arS ρ1)), p ∈ cells ρ1 := fun p hp => by
    obtain ⟨i, x, hx⟩ := cells_mem hp
    rw [List.getElem?_map] at hx
    cases ha : as[i]? with
    | none => rw [ha] at hx; cases hx
    | some a =>
      rw [ha] at hx
      have hx : arS ρ1 a = .cell p x := by simpa using hx
      cases a with
      | d y => cases hx
      | n q y => cases hx
      | c j =>
        have : ρ1.getD j .no = .cell p x := hx
        rw [List.getD_eq_getElem?_getD] at this
        cases hj : ρ1[j]? with
        | none => rw [hj] at this; cases this
        | some s => rw [hj] at this; exact mem_cells (hj.trans (congrArg some this))
  have lρ : as.length = ρ'.length := by
    have := e2.len
    rw [List.length_map, lv] at this
    exact this
  have cAt : ∀ (q i : Nat), as[q]? = some (.c i) → ∃ p x x', ρ1[i]? = some (.cell p x) ∧ ρ'[q]? = some (.cell p x') ∧ σ[i]? = some (some (.ref p)) ∧ CellOk K G2 F2 p x' := fun q i hq => by
    have : ∀ (as : List Ar) (vs : List V), ArsOk K G1 F1 ρ1 as vs → ∀ (q i : Nat), as[q]? = some (.c i) → ∃ p x, ρ1[i]? = some (.cell p x) := by
      intro as vs o
      induction o with
      | nil => intro q i h; simp at h
      | cons r _ ih =>
        intro q i h
        cases q with
        | succ q => exact ih q i (by simpa using h)
        | zero =>
          have h := by simpa using h
          subst h
          obtain ⟨p, x, e, _⟩ := r
          exact ⟨p, x, e⟩
    obtain ⟨p, x, hx⟩ := this as vs o1 q i hq
    have hs : (as.map (arS ρ1))[q]? = some (.cell p x) := by
      rw [List.getElem?_map, hq]
      show some (ρ1.getD i .no) = _
      rw [List.getD_eq_getElem?_getD, hx]; rfl
    obtain ⟨x', hx'⟩ := sh2 q p x hs
    exact ⟨p, x, x', hx, hx', (e1.cell hx).1, (e2.cell hx').2⟩
  have inIdx : ∀ (as : List Ar) (j : Nat), j ∈ idx as → ∃ q : Nat, as[q]? = some (.c j) := by
    intro as
    induction as with
    | nil => intro j h; unfold idx at h; simp at h
    | cons a as ih =>
      intro j h
      cases a with
      | d x => obtain ⟨q, hq⟩ := ih j h; exact ⟨q + 1, by simpa using hq⟩
      | n p x => obtain ⟨q, hq⟩ := ih j h; exact ⟨q + 1, by simpa using hq⟩
      | c i =>
        have h' : j ∈ i :: idx as := h
        rcases List.mem_cons.mp h' with e | e
        · exact ⟨0, by rw [e]; rfl⟩
        · obtain ⟨q, hq⟩ := ih j e; exact ⟨q + 1, by simpa using hq⟩
  -- a slot that was not handed in
  have oldS : ∀ (j : Nat) s, ρ1[j]? = some s → j ∉ idx as → ∃ o, σ[j]? = some o ∧ SlOk K G2 F2 s o := fun j s hs hj => by
    obtain ⟨o, h1, h2⟩ := e1.at_ j s hs
    refine ⟨o, h1, h2.mono s2.ex fun p x es => ?_⟩
    subst es
    obtain ⟨u, hu⟩ := (e1.cell hs).2.some
    refine (s2.keep p u hu fun z => ?_).trans hu.symm
    obtain ⟨q, y, hq⟩ := cells_mem z
    rw [List.getElem?_map] at hq
    cases ha : as[q]? with
    | none => rw [ha] at hq; cases hq
    | some a =>
      rw [ha] at hq
      cases a with
      | d y => cases hq
      | n w y => cases hq
      | c i =>
        have : ρ1.getD i .no = .cell p y := by simpa [arS] using hq
        rw [List.getD_eq_getElem?_getD] at this
        obtain ⟨p2, x2, x2', e1', _⟩ := cAt q i ha
        rw [e1'] at this
        cases this
        have ij := nd_at e1.nd e1' hs
        refine hj ?_
        rw [← ij]
        exact idx_mem as q ha
  obtain ⟨w1, w2⟩ := wb_at (K := K) (G := G2) (F := F2) (σ := σ) cAt oldS lρ
  have hc : cells (wb as ρ' ρ1) = cells ρ1 := cells_of_adr w2
  have lw : (wb as ρ' ρ1).length = ρ1.length := by
    have := congrArg List.length w2
    simpa using this
  have ew : Env K G2 F2 σ (wb as ρ' ρ1) := ⟨by rw [lw]; exact e1.len, w1, by rw [hc]; exact e1.nd⟩
  have s12 : Nx ρ1 G1 F1 (wb as ρ' ρ1) G2 F2 H2 := ⟨s2.ex, s2.fr, fun b o hb hn => s2.keep b o hb fun z => hn (sub b z), fun p hp => .inl (by rw [hc] at hp; exact hp)⟩
  have shw : Shp ρ1 (wb as ρ' ρ1) := fun i p x hx => by
    have hi : i < (wb as ρ' ρ1).length := by rw [lw]; exact (List.getElem?_eq_some_iff.mp hx).1
    have : ((wb as ρ' ρ1).map Sl.adr)[i]? = some (some p) := by rw [w2, List.getElem?_map, hx]; rfl
    rw [List.getElem?_map, List.getElem?_eq_getElem hi] at this
    cases es : (wb as ρ' ρ1)[i] with
    | cell q y => rw [es] at this; cases this; exact ⟨y, by rw [List.getElem?_eq_getElem hi, es]⟩
    | d y => rw [es] at this; cases this
    | no => rw [es] at this; cases this
  cases z with
  | d x => exact k u (.d x) _ G2 F2 H2 (s1.trans s12) (sh1.trans shw) ew ok .d po
  | n x =>
    obtain ⟨p, rfl, hp, hcell, _⟩ := ok
    refine k _ (.n p x) _ G2 F2 H2 (s1.trans s12) (sh1.trans shw) ew ⟨rfl, hcell, fun z => ?_⟩ (fun q y e => by cases e; exact nx_back s1 sh1 e1 hp) (po p)
    rw [hc] at z
    obtain ⟨i, y, e⟩ := cells_mem z
    obtain ⟨o, ho⟩ := (e1.cell e).2.some
    rw [hp] at ho; cases ho

theorem ex_of {te : TE} {post : Ar → List Sl → Prop} {E : XK} {xp : D → Prop} (h : ED K ρ te post) : EX K ρ te post E xp := fun G F H σ f e Q k _ => h G F H σ f e Q k
variable {te : TE} {P : PD}
theorem sd_dropX (h : EX K ρ te (fun _ ρ1 => P.nx ρ1) P.xe P.xp) : SD K ρ (tDrop te) P := by
  intro G F H σ f e Dn k
  exact h G F H σ f e _ (fun v a ρ1 G1 F1 H1 s sh e1 o w q => k.nx ρ1 σ G1 F1 H1 s e1 q) fun x cls d G1 F1 H1 s er q => k.ex x cls d G1 F1 H1 s er q
theorem sd_retX (h : EX K ρ te P.rt P.xe P.xp) : SD K ρ (tRet te) P := by
  intro G F H σ f e Dn k
  exact h G F H σ f e _ (fun v a ρ1 G1 F1 H1 s sh e1 o w q => k.rt v a ρ1 σ G1 F1 H1 s e1 o w.c' q) fun x cls d G1 F1 H1 s er q => k.ex x cls d G1 F1 H1 s er q
theorem sd_asgX {i : Nat} (h : EX K ρ te (asgP i P.nx) P.xe P.xp) : SD K ρ (tAsg te (gName i)) P := by
  intro G F H σ f e Dn k
  refine h G F H σ f e _ (fun v a ρ1 G1 F1 H1 s sh e1 o w q => ?_) fun x cls d G1 F1 H1 s er q => k.ex x cls d G1 F1 H1 s er q
  cases a with
  | c j => exact False.elim q
  | d x => exact k.nx _ _ G1 F1 H1 (nx_set s fun p z => by cases z) (e1.setd i o) q
  | n p x =>
    obtain ⟨rfl, hc, hn⟩ := o
    have hp := w p x rfl
    exact k.nx _ _ G1 F1 H1 (nx_set s fun q z => by cases z; exact hp) (e1.set i (s := .cell p x) ⟨rfl, hc⟩ fun q z => by cases z; exact hn) q
/-- raise C(e): an own class without fields -/
def tRai (K : PySem.W.Frag) (te : TE) (c : Str) (E : XK) : TS := fun _ σ H => te σ H fun _ H1 => E (.ref (cA K c)) none H1
theorem sd_raise {c : Str} {E : XK} (hE : P.xe = E) (h : ED K ρ te fun _ _ => P.xp (.exc c "" .non)) : SD K ρ (tRai K te c E) P := by
  subst hE
  intro G F H σ f e Dn k
  exact h G F H σ f e _ fun v a ρ1 G1 F1 H1 s sh e1 o w q => k.ex _ _ _ G1 F1 H1 s.x ⟨c, "", .non, rfl, rfl, .inl ⟨rfl, rfl, rfl⟩⟩ q
end
/-! ### defs that may raise, by their names -/
section
variable {P : Program} {w : World} {K : PySem.W.Frag} {mg : Str → Option Value} {base : Heap}
def DOkX (P : Program) (w : World) (K : PySem.W.Frag) (mg : Str → Option Value) (base : Heap) (x : Str) (k : Nat) (ps : List Str) (sp : Sp) : Prop :=
  ∃ f fd, mg x = some (.ref f) ∧ PySem.W.keepIn K (.ref f) = true ∧ (Binds K fd ps [] ∧ FnAt K f fd) ∧ FnOk P w K mg base (L2.CX P w) k f fd ps sp
theorem mk_defX {x : Str} {st : Stmt} {N ps : List Str} {R : DSpX} {k n m : Nat} (F : FunAt K mg x st ps) (Sc : FnScope N ps (defScope st)) (hps : ps.length = n) (hN : N.length = n + m)
    (hbody : ∀ (f : Addr) (cdv : Value) (A : Around) (outer : List PySem.Env) (s : Shared) (H : Hp) (E : XK), Room k (A.deeper (envOfC x (defScope st) s.heap.objs.size f cdv)) →
      ∃ t, PSs (cxOf (L2.CX P w) P w K mg base N x (defScope st) f cdv A outer s H E) (defBody st) t ∧ ∀ ρ post xp, ρ.length = n → R ρ post xp → SD K (ρ ++ List.replicate m .no) t { nx := endP n ρ post (.d .non), rt := endP n ρ post, xe := E, xp := xp }) :
    DOkX P w K mg base x (k + 1) ps (spX K n R) := by
  obtain ⟨f, fd, hf, hg, hb⟩ := F
  refine ⟨f, fd, hg, hf.kp, ⟨hb, fnAt_of hf⟩, hf.okX Sc (fun vs H Q E h => (spX_len vs H Q E h).trans hps.symm) fun cdv A outer s H vs Q E hr h => ?_⟩
  obtain ⟨t, ht, q⟩ := hbody f cdv A outer s H E hr
  exact ⟨t, ht, fn_bodyX h hN q⟩
/-- what is raised, alone -/
abbrev DSpR := List Sl → (D → Prop) → Prop
def toX (RX : DSpR) : DSpX := fun ρ _ xp => RX ρ xp
/-- a normal end or an exception's -/
def orR (R : DSp) (RX : DSpR) : DSpX := fun ρ post xp => R ρ post ∨ RX ρ xp
theorem orX {x : Str} {ps : List Str} {R : DSp} {RX : DSpR} {k n : Nat} (A : DOk P w K mg base x k ps (spD K n R)) (B : DOkX P w K mg base x k ps (spX K n (toX RX))) : DOkX P w K mg base x k ps (spX K n (orR R RX)) := by
  obtain ⟨f, fd, a1, a2, ⟨a3, a4⟩, a5⟩ := A
  obtain ⟨f2, fd2, b1, b2, ⟨b3, b4⟩, b5⟩ := B
  rw [a1] at b1
  obtain rfl : f = f2 := by cases b1; rfl
  obtain rfl := a4.one b4
  refine ⟨f, fd2, a1, a2, ⟨a3, a4⟩, ⟨fun vs H Q E h => ?_, fun A outer s H args us vs Q E hr he hb hv h => ?_⟩⟩
  · obtain ⟨hl, G, F, ρ, post, xp, f1, f2, hR, k1, k2⟩ := h
    rcases hR with hR | hR
    · exact a5.len vs H Q E ⟨hl, G, F, ρ, post, f1, f2, hR, k1⟩
    · exact b5.len vs H Q E ⟨hl, G, F, ρ, post, xp, f1, f2, hR, k1, k2⟩
  · obtain ⟨hl, G, F, ρ, post, xp, f1, f2, hR, k1, k2⟩ := h
    rcases hR with hR | hR
    · refine codeAny_mono (a5.run A outer s H args us vs Q E hr he hb hv ⟨hl, G, F, ρ, post, f1, f2, hR, k1⟩) fun r s' h => ?_
      cases r with
      | error e => exact h.elim
      | ok fl => cases fl <;> exact h
    · exact b5.run A outer s H args us vs Q E hr he hb hv ⟨hl, G, F, ρ, post, xp, f1, f2, hR, k1, k2⟩
end
section
variable {X : Cx}
/-- a call of a def that may raise, in a body that may raise -/
theorem pe_callDX {x : Str} {k : Nat} {ps : List Str} {sp : Sp} {E : XK} {p pos : Pos} {e : Expr} {es : List Expr} {t : TA} (Dk : DOkX X.prog X.w X.K X.mg X.base x k ps sp) (tk : Takes X (fun cls d _ H => E cls d H)) (hr : Room k X.A) (ha : PA X (e :: es) t) (hg : Gl X x := by rfl) (hdb : (x == ("__debug__" : Str)) = false := by decide)
    (he : starEach (e :: es) X.env = (false, eval e X.env) :: starEach es X.env := by rfl) (hpl : (backTo pos (starEach es X.env)).any (·.1) = false := by rfl) :
    PE X (.Call (.Name x p) (e :: es) [] pos) (tCall sp [] E t) := by
  obtain ⟨f, fd, h1, h2, h3, h4⟩ := Dk
  exact pe_call h4 hr hg h1 h2 h3.1 .nil (passes_call tk fun _ _ _ _ h => h) ha (hdb := hdb) (he := he) (hpl := hpl)
/-- an own exception class without its own __init__ -/
structure ClsA (K : PySem.W.Frag) (mg : Str → Option Value) (bmB : List Value) (newId : String) (c : Str) : Prop where
  mg : mg c = some (.ref (cA K c))
  ex : PySem.W.excIn K (cA K c) bmB newId = true
  kp : PySem.W.keepIn K (.ref (cA K c)) = true
  sb : PySem.W.subIn K (.ref (cA K c)) (.type "BaseException") = some true
  ty : PySem.W.typeIn K (.ref (cA K c)) = some (.type "type")
theorem ps_raiseA {K : PySem.W.Frag} {bmB : List Value} {B newId initId : String} {c : Str} {E : XK} {e : Expr} {te : TE} {p pos pos' : Pos} (hK : X.K = K) (F : ExcBaseFacts B newId initId bmB) (T : ClsA X.K X.mg bmB newId c) (hc : X.calm = true) (tk : Takes X (fun cls d _ H => E cls d H)) (he : PE X e te)
    (hg : Gl X c := by rfl) (hs : starEach [e] X.env = (false, eval e X.env) :: starEach [] X.env := by rfl) (hdb : (c == ("__debug__" : Str)) = false := by decide) :
    PS X (.Raise (some (.Call (.Name c p) [e] [] pos)) none pos') (tRai K te c E) := by
  subst hK
  exact ps_raise hc tk (SkE.pmk_own1 F T.ex T.mg T.kp (raises_own T.sb T.ty) hg he hs hdb)
end
end DL
namespace DL
open PySem PySem.Spec PyProof.Rows L2
variable [HasT]
/-! ### a caught exception stays known -/
section
variable {X : Cx} {H : Hp} {s : Shared} {pins : List (Addr × Obj)} {σ : L2.St}
/-- an object that was made since the entry is tracked from now on -/
theorem inv_track {a : Addr} {o : HO} (I : Inv X pins σ H s) (na : H a = none) (n0 : X.s_0.heap.get? a = none) (nL : a ≠ X.env.locals) (nC : ∀ x c, X.env.cells.lookup x = some c → c ≠ a) (nP : ∀ p ∈ X.pn ++ pins, p.1 ≠ a)
    (ho : ObjOk X.prog X.w (upd H a o) s.heap a o) : Inv X pins σ (upd H a o) s := by
  have ne : ∀ {b : Addr} {u : HO}, H b = some u → b ≠ a := fun {b u} e z => by rw [z, na] at e; cases e
  refine ⟨I.ok, I.os, I.bare, ⟨I.base.keep, I.base.slot, fun b ob e n hx => ?_, I.base.there, fun b xs e => ?_, fun b ob u e => ?_, fun b ps e => ?_⟩, I.loc, I.cell, ?_, fun x c e => ?_, fun p hp => ?_, fun b u e => ?_, I.len⟩
  · have : b ≠ a := fun z => by rw [z, n0] at e; cases e
    rw [upd_ne this]
    exact I.base.free b ob e n hx
  · have := I.base.tups b xs e
    rw [upd_ne (ne this)]; exact this
  · have := I.base.frzs b ob u e
    rw [upd_ne (ne this)]; exact this
  · obtain ⟨more, h⟩ := I.base.tbls b ps e
    exact ⟨more, by rw [upd_ne (ne h)]; exact h⟩
  · rw [upd_ne (Ne.symm nL)]; exact I.free
  · rw [upd_ne (nC x c e)]; exact I.freeC x c e
  · obtain ⟨h1, h2, h3⟩ := I.pin p hp
    exact ⟨h1, by rw [upd_ne (nP p hp)]; exact h2, h3⟩
  · by_cases hb : b = a
    · subst hb
      rw [upd_same] at e
      cases e
      exact ho
    · rw [upd_ne hb] at e
      exact (I.hok b u e).stay (fun _ _ _ h => h) (fun c hc => by rw [upd_ne (ne hc)]; exact hc) fun c xs hc => by rw [upd_ne (ne hc)]; exact hc
/-- within an except suite whose exception is tracked -/
abbrev suiteK (X : Cx) (a : Addr) (pn : List (Addr × Obj)) : Cx := { X with A := X.A.mark (some (.ref a)), calm := false, pn := pn, xe := fun _ _ => False }
theorem ok_suiteK {X : Cx} (o : X.Ok) (a : Addr) (pn : List (Addr × Obj)) : (suiteK X a pn).Ok where
  mod := o.mod
  kind := o.kind
  glob := o.glob
  blt := o.blt
  above := o.above
  inj := o.inj
  has := o.has
  cab := o.cab
  hd := fun z => Bool.noConfusion (show false = true from z)
  frames := o.frames
  stk := o.stk
  exf := o.exf
  bs := o.bs
  bsz := o.bsz
  noex := o.noex
  exfs := o.exfs
  funs := o.funs
  frf := o.frf
theorem inv_suiteK (I : Inv X pins σ H s) (a : Addr) : Inv (suiteK X a (X.pn ++ pins)) [] σ H s where
  ok := ok_suiteK I.ok _ _
  os := I.os
  bare := I.bare
  base := I.base
  loc := I.loc
  cell := I.cell
  free := I.free
  freeC := I.freeC
  pin := fun p hp => I.pin p (List.append_nil (X.pn ++ pins) ▸ hp)
  hok := I.hok
  len := I.len
theorem inv_unsuiteK {a : Addr} {more : List (Addr × Obj)} (I : Inv (suiteK X a (X.pn ++ pins)) more σ H s) (o : X.Ok) : Inv X pins σ H s where
  ok := o
  os := I.os
  bare := I.bare
  base := I.base
  loc := I.loc
  cell := I.cell
  free := I.free
  freeC := I.freeC
  pin := fun p hp => I.pin p (List.mem_append.mpr (.inl hp))
  hok := I.hok
  len := I.len
theorem flying_more {B : Heap} {l : List PySem.Env} {a : Addr} {Z : Obj → Prop} {h h' : Heap} (R : PySem.HandSPX.FlyingZ B l a Z h) (k : ∀ b o, h.get? b = some o → h'.get? b = some o) : PySem.HandSPX.FlyingZ B l a Z h' :=
  let ⟨r1, r2, r3, ob, fl, tb, ot, tf, r4, r5, r6, r7, r8, r9, r10, r11, r12⟩ := R
  ⟨fun b o z => k b o (r1 b o z), r2, r3.of_keeps fun b o z _ => ⟨o, k b o z, rfl⟩, ob, fl, tb, ot, tf, k _ _ r4, r5, r6, r7, r8, r9, k _ _ r10, r11, r12⟩
end
/-- what the clause's test says of an exception's class -/
def ExcTest (X : Cx) (te : Expr) (m : Value → Option Bool) : Prop :=
  ∀ (a : Addr) (oe : Obj) (pn pins : List (Addr × Obj)) (σ : L2.St) (H : Hp) (s : Shared) (cls : Value) (b : Bool) (E1 E2 : Value → Shared → Prop) (Q : Bool → Shared → Prop), Inv (X.suite a ((a, oe) :: pn)) pins σ H s →
    PySem.W.Looks (model X.prog X.w) s.heap (typeOf (.ref a)) cls → m cls = some b → (∀ h', (∀ q o, s.heap.get? q = some o → h'.get? q = some o) → Q b { s with heap := h' }) →
    wpAny (model X.prog X.w) (X.A.mark (some (.ref a))) (eval te X.env) (fun c s₁ => wpAny (model X.prog X.w) (X.A.mark (some (.ref a))) (excMatches (.ref a) c) Q E1 s₁) E2 s
section
variable {X : Cx}
theorem et_name {x : Str} {c : Value} {p : Pos} (h : Names X x c) : ExcTest X (.Name x p) (fun cls => PySem.W.exmOne X.K cls c) := by
  intro a oe pn pins σ H s cls b E1 E2 Q S LT hb q
  have LM := PySem.W.exm_one (M := model X.prog X.w) S.kIn LT hb
  obtain ⟨hg, hdbg, hm | ⟨hm, hv, hnn⟩⟩ := h
  · exact ld_glob (X := X.suite a ((a, oe) :: pn)) S hg hm (LM.here (q _ fun _ _ z => z)) hdbg
  · exact ld_blt (X := X.suite a ((a, oe) :: pn)) S hg hm hv (LM.here (q _ fun _ _ z => z)) hnn hdbg
theorem et_ld {x : Str} {c : Value} {p : Pos} (h : Names X x c) {a : Addr} {oe : Obj} {pn pins : List (Addr × Obj)} {σ : L2.St} {H : Hp} {s : Shared} {E : Value → Shared → Prop} {Q : Value → Shared → Prop} (S : Inv (X.suite a ((a, oe) :: pn)) pins σ H s) (q : Q c s) :
    wpAny (model X.prog X.w) (X.A.mark (some (.ref a))) (eval (.Name x p) X.env) Q E s := by
  obtain ⟨hg, hdbg, hm | ⟨hm, hv, hnn⟩⟩ := h
  · exact ld_glob (X := X.suite a ((a, oe) :: pn)) S hg hm q hdbg
  · exact ld_blt (X := X.suite a ((a, oe) :: pn)) S hg hm hv q hnn hdbg
theorem et_tup2 {x1 x2 : Str} {c1 c2 : Value} {p1 p2 p : Pos} {kk : Nat} (n1 : Names X x1 c1) (n2 : Names X x2 c2) : ExcTest X (.Tuple [.Name x1 p1, .Name x2 p2] kk p) (fun cls => PySem.W.exmAny X.K cls [c1, c2]) := by
  intro a oe pn pins σ H s cls b E1 E2 Q S LT hb q
  refine wpAny_Tuple ?_
  refine wpAny_items_cons (et_ld n1 S ?_)
  refine wpAny_items_cons (et_ld n2 S ?_)
  have old : ∀ b u, s.heap.get? b = some u → (s.heap.push { cls := .type "tuple", data := .seq [c1, c2].toArray }).get? b = some u := fun b u z => Heap.get?_push_of_some _ z
  exact wpAny_items_nil ⟨by size_fits, (PySem.W.exm_tup2 (S.kIn.keeps old) (LT.keeps old) (Heap.get?_push_size s.heap rfl) hb).here (q _ old)⟩
theorem et_tup3 {x1 x2 x3 : Str} {c1 c2 c3 : Value} {p1 p2 p3 p : Pos} {kk : Nat} (n1 : Names X x1 c1) (n2 : Names X x2 c2) (n3 : Names X x3 c3) : ExcTest X (.Tuple [.Name x1 p1, .Name x2 p2, .Name x3 p3] kk p) (fun cls => PySem.W.exmAny X.K cls [c1, c2, c3]) := by
  intro a oe pn pins σ H s cls b E1 E2 Q S LT hb q
  refine wpAny_Tuple ?_
  refine wpAny_items_cons (et_ld n1 S ?_)
  refine wpAny_items_cons (et_ld n2 S ?_)
  refine wpAny_items_cons (et_ld n3 S ?_)
  have old : ∀ b u, s.heap.get? b = some u → (s.heap.push { cls := .type "tuple", data := .seq [c1, c2, c3].toArray }).get? b = some u := fun b u z => Heap.get?_push_of_some _ z
  exact wpAny_items_nil ⟨by size_fits, (PySem.W.exm_tup3 (S.kIn.keeps old) (LT.keeps old) (Heap.get?_push_size s.heap rfl) hb).here (q _ old)⟩
end
/-- what the clause 'except .. as n' wishes of an exception of the body: slot i is n's; the exception is tracked from there on -/
def wOwn (m : Value → Option Bool) (i : Nat) (ts : TS) (D : Ends) : WX := fun cls d σ H => m cls = some true ∧
  ∀ a, H a = none → ts { nx := fun σ' H' => D.nx (σ'.set i none) H', rt := D.rt, bk := fun σ' H' => D.bk (σ'.set i none) H', ct := fun σ' H' => D.ct (σ'.set i none) H' } (σ.set i (some (.ref a))) (upd H a (ExcP a cls d))
def tTry (m : Value → Option Bool) (i : Nat) (tb : WX → TS) (ts : TS) : TS := fun D σ H => tb (wOwn m i ts D) D σ H
section
variable {X : Cx} {pins : List (Addr × Obj)} {D : Ends}
/-- the end of a try's body is an end of the statement -/
theorem sp_ofTry {pn : List (Addr × Obj)} {xe : Value → Shared → Prop} (o : X.Ok) {fl : Flow} {s : Shared} (h : SP (X.tr (X.pn ++ pins) xe) [] D fl s) : SP X pins D fl s := by
  match fl, h with
  | .next, ⟨τ, G, J, z⟩ => exact ⟨τ, G, J.ofTry o, z⟩
  | .brk, ⟨τ, G, J, z⟩ => exact ⟨τ, G, J.ofTry o, z⟩
  | .cont, ⟨τ, G, J, z⟩ => exact ⟨τ, G, J.ofTry o, z⟩
  | .ret u, ⟨v, τ, G, J, r, z⟩ => exact ⟨v, τ, G, J.ofTry o, r, z⟩
/-- an exception that flies over the frames is none of them, and was made since the entry -/
theorem fly_new {B h : Heap} {a : Addr} {Z : Obj → Prop} {τ : L2.St} {G : Hp} {sI : Shared} (hs : X.stack = X.env :: X.outer) (hf : X.env.frame = some X.env.locals) (hex : X.ex = []) (J : Inv X pins τ G sI) (nb : ∀ b o, sI.heap.get? b = some o → b ∉ frs X.stack → B.get? b = some o)
    (fl : PySem.HandSPX.FlyingZ B (X.env :: X.outer) a Z h) : a ≠ X.env.locals ∧ a ∉ X.fs ∧ sI.heap.get? a = none ∧ X.s_0.heap.get? a = none := by
  have out : a ∉ frs (X.env :: X.outer) := fun inn => by
    obtain ⟨ob, fs, e1, _, e2⟩ := fl.there
    obtain ⟨_, o2, e3, no⟩ := fl.2.2.1.mem inn
    exact no fs (by rw [← Option.some.inj (e1.symm.trans e3)]; exact e2)
  have young : sI.heap.get? a = none := by
    rcases h0 : sI.heap.get? a with _ | o
    · rfl
    · exact nomatch fl.2.1.symm.trans (nb a o h0 (hs ▸ out))
  refine ⟨fun z => out ?_, fun z => out ?_, young, ?_⟩
  · exact List.mem_filterMap.mpr ⟨_, .head _, z ▸ hf⟩
  · obtain ⟨e, he, w⟩ := List.mem_filterMap.mp z
    exact List.mem_filterMap.mpr ⟨e, .tail _ he, w⟩
  · rcases h0 : X.s_0.heap.get? a with _ | o
    · rfl
    · obtain ⟨o2, z⟩ := J.base.there a o h0 (hex ▸ List.not_mem_nil)
      exact nomatch young.symm.trans z
end
section
variable {X : Cx} {te : Expr} {n : Str} {m : Value → Option Bool} {i : Nat} {body suite : List Stmt} {b₀ : Stmt} {pos pos' : Pos} {tb : WX → TS} {ts : TS}
theorem ps_try_own (hs : X.stack = X.env :: X.outer) (hex : X.ex = []) (hf : X.env.frame = some X.env.locals) (hN : X.N.Nodup) (hi : X.N[i]? = some n) (hln : X.env.kindOf n = some .local) (hc : ExcTest X te m)
    (hb : ∀ (W : WX) (pn : List (Addr × Obj)) (out : Value → Shared → Prop), Takes (X.tr pn out) W → PassesOwn (model X.prog X.w) X.A X.env out → PSs (X.tr pn out) body (tb W))
    (hsu : ∀ (a : Addr) (pn : List (Addr × Obj)), PSs (suiteK X a pn) (b₀ :: suite) ts) :
    PS X (.Try body [.ExceptHandler (some te) (some n) (b₀ :: suite) pos'] [] [] pos) (tTry m i tb ts) := by
  constructor
  intro pins s σ H D I reads
  have here : X.A.frames = some (X.env :: X.outer) := hs ▸ I.ok.frames
  refine wpAny_Try_except (wpAny_mono ((hb (wOwn m i ts D) (X.pn ++ pins) _ ?air PassesOwn.looking).run [] s σ H D (I.toTry _) reads) (fun fl s1 h => ?thru) fun _ _ h => h)
  case thru =>
    match fl, sp_ofTry (pn := []) I.ok h with
    | .next, z => exact wpAny_execs_nil z
    | .brk, z => exact z
    | .cont, z => exact z
    | .ret _, z => exact z
  case air =>
    rintro _ s' ⟨a, B, sI, _, τ, G, cls, d, rfl, I1, nb, up, sky, na, os, ag, yes, go⟩
    have J := I1.ofTry I.ok
    refine Sky.land Zc.steady here hf (hs ▸ sky) fun h1 f1 u1 => ?_
    obtain ⟨o1, v1, at1, z1, d1⟩ := f1.there
    obtain ⟨nL, nF, young, new⟩ := fly_new hs hf hex J nb f1
    have J1 : Inv X pins τ G { s' with heap := h1 } := J.landed nb f1.1 (up.trans u1) os ag
    refine wpAny_handleBy_cons (codeAny_handlers_test (hc a o1 _ [] τ G _ cls true _ _ _ (J1.suite at1 d1 na nL nF) (fun A Q E s k q => wpAny_typeOf_ref (k _ _ at1) (z1.1 ▸ q)) yes fun h2 k2 => ?_)) (fun z => nomatch z)
    have f2 := flying_more f1 k2
    refine codeAny_handlers_suite_as (PySem.HandSPX.lands_againZ f2 fun h3 f3 u3 => ?_)
    obtain ⟨o3, v3, at3, z3, d3⟩ := f3.there
    have J3 : Inv X pins τ G { s' with heap := h3 } := J.landed nb f3.1 (((up.trans u1).trans (Heap.UpToSlots.of_keeps k2)).trans u3) os ag
    have J4 : Inv X pins τ (upd G a (ExcP a cls d)) { s' with heap := h3 } := by
      refine inv_track J3 na new nL (fun y c e z => ?_) (fun p hp z => ?_) ⟨⟨o3, v3, at3, z3, d3⟩, ⟨o3, at3⟩, fun g1 g2 ⟨o, vs, w1, w2, w3⟩ st => ⟨o, vs, st _ w1, w2, w3⟩⟩
      · obtain ⟨v, o, w1, w2⟩ := J3.cell y c e
        have w1 : h3.get? a = some o := z ▸ w1
        rw [at3] at w1
        cases w1
        rw [d3] at w2
        cases w2
      · have w1 := (J.pin p hp).1
        rw [z, young] at w1
        cases w1
    refine store_ok (X := suiteK X a (X.pn ++ pins)) (v := .ref a) (inv_suiteK J4 a) hN hi (.inl hln) rfl (fun s5 J5 => ?_) (.inr hln)
    refine wpAny_mono ((hsu a (X.pn ++ pins)).run [] s5 _ _ _ J5 (go a na)) (fun fl s6 h => ?_) fun _ _ z => z.elim
    match fl, h with
    | .next, ⟨τ6, G6, J6, z⟩ => exact gone_ok (inv_unsuiteK J6 I.ok) hN hi hln fun s7 J7 => ⟨_, _, J7, z⟩
    | .brk, ⟨τ6, G6, J6, z⟩ => exact gone_ok (inv_unsuiteK J6 I.ok) hN hi hln fun s7 J7 => ⟨_, _, J7, z⟩
    | .cont, ⟨τ6, G6, J6, z⟩ => exact gone_ok (inv_unsuiteK J6 I.ok) hN hi hln fun s7 J7 => ⟨_, _, J7, z⟩
    | .ret u, ⟨v, τ6, G6, J6, r, z⟩ => exact gone_ok (inv_unsuiteK J6 I.ok) hN hi hln fun s7 J7 => ⟨_, _, _, J7, r, z⟩
end
end DL
namespace DL
open PySem PySem.Spec PyProof.Rows L2 LamX
variable [HasT]
/-! ### a lambda that is handed to a def of one parameter -/
/-- the reading of a call of what was got: f the lambda, c' its code object -/
def tAct (f c' : Addr) (q : Str) (tl : XK → Hp → VK → Prop) (W : WX) : TE := fun σ H Q => σ[0]? = some (some (.ref f)) ∧ H c' = some (CodeO c' q) ∧ tl (fun cls d H' => W cls d σ H') H Q
/-- the lambda at f, as it was made in X -/
def LamObj (X : Cx) (params : Arguments) (body : Expr) (scope : Scope) (pm ctv : Value) (c' : Addr) : Obj := PySem.W.kla_obj "<lambda>" (X.env.qual ++ "<lambda>") params body scope (cloFrom X.env.cells scope.names []) pm c' ctv
section
variable {X : Cx} {mk : List (Addr × Obj)} {τ : L2.St} {G : Hp} {s0 : Shared}
/-- a call of what was got (slot i of the def at g, which runs since s0): the exception's wish may lean on the slots -/
theorem pe_actS {CXg : CXT} {Eg : XK} {Ng : List Str} {x a : Str} {sg : Scope} {g f c' : Addr} {cdg pm ctv : Value} {params : Arguments} {body : Expr} {scope : Scope} {k i : Nat} {pn : List (Addr × Obj)} {air : Value → Shared → Prop} {W : WX} {tb : XK → TE} {p1 p2 : Pos}
    (I : Inv X mk τ G s0) (L : LamS X.env.scope scope) (at_ : s0.heap.get? f = some (LamObj X params body scope pm ctv c')) (un : G f = none) (nofr : f ∉ frs X.stack)
    (bind : bindArgs (PySem.W.kla_fn "<lambda>" (X.env.qual ++ "<lambda>") params body scope (cloFrom X.env.cells scope.names []) pm (.ref c') ctv) ⟨[], []⟩ = pure [])
    (tk : Takes ((cxOf CXg X.prog X.w X.K X.mg X.base Ng x sg g cdg X.A X.stack s0 G Eg).tr pn air) W) (room : Room (k + 1) (X.A.deeper (envOfC x sg s0.heap.objs.size g cdg)))
    (inner : ∀ (A : Around) (o : List PySem.Env) (s : Shared) (H : Hp) (E : XK), Room k (A.deeper (lamEnv X scope s.heap.objs.size f c')) → PE (lamCx X A o s H E scope f c') body (tb E))
    (slot : Ng[i]? = some a) (vis : Vis sg a) (n1 : (a == ("__debug__" : Str)) = false := by decide) (n2 : (a == ("__classdict__" : Str)) = false := by decide) :
    PE ((cxOf CXg X.prog X.w X.K X.mg X.base Ng x sg g cdg X.A X.stack s0 G Eg).tr pn air) (.Call (.Name a p1) [] [] p2) (fun σ H Q => σ[i]? = some (some (.ref f)) ∧ H c' = some (CodeO c' (X.env.qual ++ "<lambda>")) ∧ tb (fun cls d H' => W cls d σ H') τ H Q) := by
  constructor
  rintro ps s σ H Q J ⟨isF, code, reads⟩
  refine wpAny_Call_Name_kw (wpAny_mono ((pe_var (pos := p1) (i := i) slot vis n1 n2).run ps s σ H (fun v h => v = .ref f ∧ h = H) J ⟨_, isF, rfl, rfl⟩) (fun u s1 h => ?_) fun _ _ z => z)
  obtain ⟨_, G1, J1, rel, rfl, eG⟩ := h
  rw [eG] at J1
  cases (show u = .ref f from rel)
  have still := J1.base.keep f _ at_ un nofr (fun z => nomatch (show f ∈ ([] : List Addr) from z))
  obtain ⟨⟨oc, fs, t, k1, k2, k3⟩, _, _⟩ := J1.hok c' _ code
  refine PySem.W.callWith_F0 ⟨_, _, _, _, still⟩ (wpAny_call (codeAny_mono (PySem.W.kla_callFunE room.depth still rfl L.co L.gen rfl ⟨c', oc, fs, t, rfl, k1, k2, k3⟩ (R := CR (L2.CX X.prog X.w) (envOfC x sg s0.heap.objs.size g cdg :: X.stack) X.prog X.w H s1 Q (fun cls d H' => W cls d σ H')) ?run) fun r s' h => ?back))
  case run =>
    refine wpAny_of_eq (a := []) bind (wpAny_newFunctionEnv (fun y hy => (L.own y hy).2) (fun y hy => nomatch hy) (fun h1 names but => ⟨J1.nolimit.fresh _ but, ?_⟩) L.kind)
    have old : ∀ b o, s1.heap.get? b = some o → h1.get? b = some o := fun b o z => but.extBut b o (Nat.ne_of_lt (Heap.lt_size z)) (Heap.get?_push_of_some _ z)
    have start := lam_start2 (f := f) (c' := c') (E := fun cls d H' => W cls d σ H') (tk := s1.toks + ([] : List (Str × Value)).length) I L J1.env0 room.hd J1.base names old
    exact PySem.W.kla_codeExpr (wpAny_mono ((inner _ _ s1 H _ (room.deeper _)).run [] _ _ H Q start reads) (fun v s' ⟨y, G', J2, r, z⟩ => ⟨y, G', J2.os, J2.bare, J2.base, J2.hok, r, z⟩) fun _ _ z => z)
  case back =>
    match r, h with
    | .error e, h => exact L2.passAt tk σ ps H s1 e s' J1 h
    | .ok (.ret u), h => exact J1.after h
    | .ok .next, h => exact h.elim
    | .ok .brk, h => exact h.elim
    | .ok .cont, h => exact h.elim
end
/-- the def st that calls what it got keeps its promise TT -/
def Helps (P : Program) (w : World) (K : PySem.W.Frag) (mg : Str → Option Value) (base : Heap) (x : Str) (st : Stmt) (N : List Str) (a : Str) (k : Nat) (TT : (XK → Hp → VK → Prop) → Hp → VK → Prop) : Prop :=
  ∀ (A : Around) (stack : List PySem.Env) (g : Addr) (cdg : Value) (s : Shared) (H : Hp) (f c' : Addr) (q : Str) (Q : VK) (tl : XK → Hp → VK → Prop), Room k (A.deeper (envOfC x (defScope st) s.heap.objs.size g cdg)) →
    (∀ (W : WX) (pn : List (Addr × Obj)) (xe : Value → Shared → Prop) (p1 p2 : Pos), Takes ((cxOf C8.CX0 P w K mg base N x (defScope st) g cdg A stack s H C8.E0).tr pn xe) W →
      PE ((cxOf C8.CX0 P w K mg base N x (defScope st) g cdg A stack s H C8.E0).tr pn xe) (.Call (.Name a p1) [] [] p2) (tAct f c' q tl W)) →
    H c' = some (CodeO c' q) → TT tl H Q →
    ∃ t, PSs (cxOf C8.CX0 P w K mg base N x (defScope st) g cdg A stack s H C8.E0).nox (defBody st) t ∧ t { nx := fun _ H' => Q .non H', rt := Q } (L2.start N [.ref f]) H
section
variable {X : Cx}
/-- x(lambda: body), x a def of one parameter -/
theorem pe_lamD {T : List (Addr × Str)} {TT : (XK → Hp → VK → Prop) → Hp → VK → Prop} {x a : Str} {st : Stmt} {c P : Addr} {k : Nat} {Ng : List Str} {params : Arguments} {body : Expr} {scope : Scope} {t : XK → TE} {p lpos pos : Pos}
    (F : FunAt X.K X.mg x st [a]) (Sg : FnScope Ng [a] (defScope st)) (first : Ng[0]? = some a) (vis : Vis (defScope st) a) (helps : Helps X.prog X.w X.K X.mg X.base x st Ng a (k + 1) TT) (TB : TabB X.base X.mg c P) (own : X.env.code = .ref c)
    (mem : (P, X.env.qual ++ "<lambda>") ∈ T) (uniq : ∀ p ∈ T, p.1 = P → p.2 = X.env.qual ++ "<lambda>") (room : Room (k + 2) X.A) (L : LamS X.env.scope scope) (nod : defaultsOf params X.env = ([], []))
    (bind : ∀ (q : Str) (cl : List (Str × Addr)) (m cv tv : Value), bindArgs (PySem.W.kla_fn "<lambda>" q params body scope cl m cv tv) ⟨[], []⟩ = pure [])
    (inner : ∀ (A : Around) (o : List PySem.Env) (s : Shared) (H : Hp) (E : XK) (f c' : Addr), Room k (A.deeper (lamEnv X scope s.heap.objs.size f c')) → PE (lamCx X A o s H E scope f c') body (t E))
    (hg : Gl X x := by rfl) (n0 : (x == ("__debug__" : Str)) = false := by decide) (n1 : (a == ("__debug__" : Str)) = false := by decide) (n2 : (a == ("__classdict__" : Str)) = false := by decide) :
    PE X (.Call (.Name x p) [.Lambda params body scope lpos] [] pos) (tLam T TT t) := by
  obtain ⟨g, fd, Fn, hm, hb⟩ := F
  obtain ⟨oc, od, kV, doc, pm, an, cdv, ct, sl, rfl, look, code⟩ := Fn.ex
  constructor
  rintro ps s σ H Q I ⟨tabs, reads⟩
  have made : wpAny (model X.prog X.w) X.A (spliced ((false, eval (.Lambda params body scope lpos) X.env) :: backTo pos (starEach [] X.env))) (fun us s' => X.K.In s'.heap ∧ wpAny (model X.prog X.w) X.A (call (.ref g) us) (L2.EP X ps σ Q) X.xe s') X.xe s := by
    refine Calls.spliced_cons (lam_make2 I TB own mem uniq tabs nod (L.has I.ok) fun f c' m tv H1 s' I1 ext tabs1 isLam noG noF isCode => Calls.spliced_nil ⟨I1.kIn, wpAny_call (codeAny_mono (?_ : codeAny _ _ _ (CR C8.CX0 X.stack X.prog X.w H1 s' Q C8.E0) _) fun r s2 h => ?_)⟩)
    · refine run_ofS (vs := [.ref f]) look code Sg room I1.env0 (hb s' _ I1.kIn rfl) (.cons rfl .nil) rfl fun room2 => ?_
      obtain ⟨t2, d2, r2⟩ := helps X.A X.stack g cdv s' H1 f c' (X.env.qual ++ "<lambda>") Q (fun E H' Q' => t E σ H' Q') room2 (fun W pn air p1 p2 tk => pe_actS I1 L isLam noG noF (bind _ _ _ _ _) tk room2 (fun A o s H E r => inner A o s H E f c' r) first vis n1 n2) isCode (reads H1 ext tabs1)
      exact ⟨t2, d2.nox, r2⟩
    · match r, h with
      | .ok (.ret u), h => exact I1.after h
      | .ok .next, h => exact h.elim
      | .ok .brk, h => exact h.elim
      | .ok .cont, h => exact h.elim
      | .error e, h => exact (show False from h).elim
  exact wpAny_Call_Name_kw (ld_glob I hg hm (PySem.W.callWith_K (h₀ := X.base) I.ok.mod.kin Fn.kp made (by rfl) (by rfl)) n0)
end
/-! ### its reading by data -/
/-- what the lambda at f does: okn of what it hands back, okx of what it raises -/
def LamOk (K : PySem.W.Frag) (tl : XK → Hp → VK → Prop) (okn okx : D → Prop) (G : Hp) : Prop :=
  ∀ (F H : Hp), Fr G F H → ∀ (Q : VK) (E : XK), (∀ v x G' F' H', Same G G' → Same F F' → Fr G' F' H' → Rep K G' v x → okn x → Q v H') →
    (∀ x cls d G' F' H', Same G G' → Same F F' → Fr G' F' H' → ExR K G' cls d x → okx x → E cls d H') → tl E H Q
def DeedP (K : PySem.W.Frag) (c' : Addr) (q : Str) (tl : XK → Hp → VK → Prop) (okn okx : D → Prop) (G : Hp) : Prop := G c' = some (CodeO c' q) ∧ LamOk K tl okn okx G
abbrev DSpL := (D → Prop) → (D → Prop) → (Rs → Prop) → Prop
def spL (K : PySem.W.Frag) (R : DSpL) : (XK → Hp → VK → Prop) → Hp → VK → Prop := fun tl H Q =>
  ∃ G F okn okx post, Fr G F H ∧ (∀ G', Same G G' → LamOk K tl okn okx G') ∧ R okn okx post ∧ Back K G F post Q
/-- cells are not reached from within a lambda -/
def noC : Sl → Sl
  | .cell _ _ => .no
  | s => s
theorem cells_noC (ρ : List Sl) : cells (ρ.map noC) = [] := by
  induction ρ with
  | nil => rfl
  | cons s ρ ih =>
    unfold cells at ih ⊢
    rw [List.map_cons, List.filterMap_cons]
    cases s <;> exact ih
theorem env_noC {K : PySem.W.Frag} {G F G' F' : Hp} {σ : L2.St} {ρ : List Sl} (e : Env K G F σ ρ) (g : Same G G') : Env K G' F' σ (ρ.map noC) := by
  refine ⟨by rw [List.length_map]; exact e.len, fun i s hs => ?_, by rw [cells_noC]; exact List.nodup_nil⟩
  rw [List.getElem?_map] at hs
  cases q : ρ[i]? with
  | none => rw [q] at hs; cases hs
  | some s0 =>
    rw [q] at hs
    cases hs
    obtain ⟨o, h1, h2⟩ := e.at_ i s0 q
    refine ⟨o, h1, ?_⟩
    cases s0 with
    | no => trivial
    | d x => obtain ⟨v, z1, z2⟩ := h2; exact ⟨v, z1, z2.mono g⟩
    | cell p x => trivial
theorem ep_ofX {K : PySem.W.Frag} {ρ : List Sl} {te : TE} {post : D → List Sl → Prop} {E : XK} {xp : D → Prop} (h : EX K ρ te (asD post) E xp) (G F H : Hp) (σ : L2.St) (f : Fr G F H) (e : Env K G F σ ρ) (Q : VK)
    (k : ∀ v x ρ' G' F' H', Nx ρ G F ρ' G' F' H' → Shp ρ ρ' → Env K G' F' σ ρ' → Rep K G' v x → post x ρ' → Q v H') (kx : ∀ x cls d G' F' H', XNx ρ G F G' F' H' → ExR K G' cls d x → xp x → E cls d H') : te σ H Q := by
  refine h G F H σ f e Q (fun v a ρ' G' F' H' s sh e' o w po => ?_) kx
  cases a with
  | d x => exact k v x ρ' G' F' H' s sh e' o po
  | c i => exact False.elim po
  | n p x =>
    obtain ⟨rfl, h, hn⟩ := o
    obtain ⟨G2, F2, e1, f2, hf, ev2, r⟩ := nx_give s.fr e' h hn
    have hp := w p x rfl
    refine k _ x ρ' G2 F2 H' ⟨s.ex.trans e1, f2, fun b u hb hc => ?_, s.cel⟩ sh ev2 r po
    have hbp : b ≠ p := fun z => by rw [z, hp] at hb; cases hb
    exact (hf b hbp).trans (s.keep b u hb hc)
theorem ed_lam {K : PySem.W.Frag} {ρ : List Sl} {R : DSpL} {t : XK → TE} {post : Ar → List Sl → Prop} (okn okx : D → Prop) (h : ∀ E, EX K (ρ.map noC) (t E) (asD fun x _ => okn x) E okx) (hR : R okn okx (rsA post ρ)) : ED K ρ (tLam HasT.T (spL K R) t) post := by
  intro G F H σ f e Q k
  refine ⟨f.t, fun H1 eN T1 => ?_⟩
  have g1 : Same G H1 := fun b o q => eN b o (f.g _ _ q) fun ps z => f.y b ps (by rw [q, z])
  have f1 : Same F H1 := fun b o q => eN b o (f.f _ _ q) fun ps z => f.z b ps (by rw [q, z])
  have fr1 : Fr G F H1 := ⟨g1, f1, f.s, T1, f.x, f.y, f.z⟩
  refine ⟨G, F, okn, okx, rsA post ρ, fr1, fun G2 g2 F2 H2 fr2 Q2 E2 kn kx => ?_, hR, back_of fr1 e fun v a G' F' H' s' e' o' w' q => k v a ρ G' F' H' s' (.refl ρ) e' o' w' q⟩
  refine ep_ofX (h E2) G2 F2 H2 σ fr2 (env_noC e g2) Q2 (fun v x ρ' G' F' H' s' sh' e' r q => kn v x G' F' H' s'.ex (fun b o z => s'.keep b o z (by rw [cells_noC]; exact List.not_mem_nil)) s'.fr r q) fun x cls d G' F' H' s' er hx => kx x cls d G' F' H' s'.ex (fun b o z => s'.keep b o z (by rw [cells_noC]; exact List.not_mem_nil)) s'.fr er hx
end DL
namespace DL
open PySem PySem.Spec PyProof.Rows L2 LamX
variable [HasT]
/-! ### a def that calls what it got -/
theorem mk_help {P : Program} {w : World} {K : PySem.W.Frag} {mg : Str → Option Value} {base : Heap} {x a : Str} {st : Stmt} {N : List Str} {R : DSpL} {k m : Nat} (hN : N.length = 1 + m)
    (hbody : ∀ (A : Around) (stack : List PySem.Env) (g : Addr) (cdg : Value) (s : Shared) (H : Hp) (f c' : Addr) (q : Str) (tl : XK → Hp → VK → Prop), Room k (A.deeper (envOfC x (defScope st) s.heap.objs.size g cdg)) →
      (∀ (W : WX) (pn : List (Addr × Obj)) (xe : Value → Shared → Prop) (p1 p2 : Pos), Takes ((cxOf C8.CX0 P w K mg base N x (defScope st) g cdg A stack s H C8.E0).tr pn xe) W →
        PE ((cxOf C8.CX0 P w K mg base N x (defScope st) g cdg A stack s H C8.E0).tr pn xe) (.Call (.Name a p1) [] [] p2) (tAct f c' q tl W)) →
      ∃ t, PSs (cxOf C8.CX0 P w K mg base N x (defScope st) g cdg A stack s H C8.E0).nox (defBody st) t ∧
        ∀ (okn okx : D → Prop) (post : Rs → Prop), R okn okx post → SD K (.d (.fnc f (DeedP K c' q tl okn okx)) :: List.replicate m .no) t { nx := endP 1 [.d (.fnc f (DeedP K c' q tl okn okx))] (fun z _ => post z) (.d .non), rt := endP 1 [.d (.fnc f (DeedP K c' q tl okn okx))] (fun z _ => post z) }) :
    Helps P w K mg base x st N a k (spL K R) := by
  intro A stack g cdg s H f c' q Q tl hr act hco ⟨G, F, okn, okx, post, fr, hl, hR, fin⟩
  obtain ⟨t, ht, hsd⟩ := hbody A stack g cdg s H f c' q tl hr act
  refine ⟨t, ht, ?_⟩
  -- the code object is good from now on
  have nF : F c' = none := by
    cases e : F c' with
    | none => rfl
    | some o => have := fr.f _ _ e; rw [hco] at this; cases this; exact (fr.x _ _ e).elim
  have g1 : Same G (upd G c' (CodeO c' q)) := fun b o e => by
    by_cases hb : b = c'
    · subst hb; have := fr.g _ _ e; rw [hco] at this; cases this; exact upd_same
    · rw [upd_ne hb]; exact e
  have fr1 : Fr (upd G c' (CodeO c' q)) F H := ⟨fun b o e => by
      by_cases hb : b = c'
      · subst hb; rw [upd_same] at e; cases e; exact hco
      · rw [upd_ne hb] at e; exact fr.g _ _ e, fr.f, fun b o e => by
      by_cases hb : b = c'
      · subst hb; exact nF
      · rw [upd_ne hb] at e; exact fr.s _ _ e, fr.t, fr.x, fun b ps e => by
      by_cases hb : b = c'
      · subst hb; rw [upd_same] at e; exact codeO_ne ps (Option.some.inj e)
      · rw [upd_ne hb] at e; exact fr.y _ _ e, fr.z⟩
  have rep : Rep K (upd G c' (CodeO c' q)) (.ref f) (.fnc f (DeedP K c' q tl okn okx)) := .fnc fun G2 g2 => ⟨g2 _ _ upd_same, hl G2 (g1.trans g2)⟩
  have sp : spD K 1 (fun ρ p => ρ = [.d (.fnc f (DeedP K c' q tl okn okx))] ∧ p = fun z _ => post z) [.ref f] H Q E0 := by
    refine ⟨rfl, upd G c' (CodeO c' q), F, [.d (.fnc f (DeedP K c' q tl okn okx))], fun z _ => post z, fr1, ⟨rfl, fun i z hz => ?_, List.nodup_nil⟩, ⟨rfl, rfl⟩, fun u z ρ' G' F' H' s' sh' e' ok po => ?_⟩
    · cases i with
      | zero => cases hz; exact ⟨_, rfl, _, rfl, rep⟩
      | succ i => cases hz
    · refine fin u z G' F' H' (g1.trans s'.ex) (fun b o e => s'.keep b o e fun h => by cases h) s'.fr ?_ po
      cases z with
      | d x => exact ok
      | n x => obtain ⟨p, h1, h2, h3, _⟩ := ok; exact ⟨p, h1, h2, h3⟩
  refine fn_body sp hN fun ρ p _ hp => ?_
  obtain ⟨rfl, rfl⟩ := hp
  exact hsd okn okx post hR
/-! ### try: .. except .. as e: .. -/
def EXW (K : PySem.W.Frag) (ρ : List Sl) (te : WX → TE) (post : Ar → List Sl → Prop) (xp : D → Prop) : Prop :=
  ∀ (G F H : Hp) (σ : L2.St), Fr G F H → Env K G F σ ρ → ∀ (Q : VK) (W : WX),
    (∀ v a ρ' G' F' H', Nx ρ G F ρ' G' F' H' → Shp ρ ρ' → Env K G' F' σ ρ' → ArOk K G' F' ρ' a v → ArNew F a → post a ρ' → Q v H') →
    (∀ x cls d G' F' H', Same G G' → Same F F' → Fr G' F' H' → ExR K G' cls d x → xp x → W cls d σ H') → te W σ H Q
section
variable {K : PySem.W.Frag} {ρ : List Sl} {te : WX → TE} {P : PD}
theorem exw_act {f c' : Addr} {q : Str} {tl : XK → Hp → VK → Prop} {okn okx : D → Prop} {post : Ar → List Sl → Prop} {xp : D → Prop} (h0 : ρ[0]? = some (.d (.fnc f (DeedP K c' q tl okn okx)))) (hn : ∀ x, okn x → post (.d x) ρ) (hx : ∀ x, okx x → xp x) : EXW K ρ (tAct f c' q tl) post xp := by
  intro G F H σ fr e Q W kn kx
  obtain ⟨o, ho, v, rfl, r⟩ := e.at_ 0 _ h0
  cases r with
  | fnc hφ =>
    obtain ⟨hc, hl⟩ := hφ G (.refl G)
    refine ⟨ho, fr.g _ _ hc, hl F H fr Q _ (fun v x G' F' H' g' f' fr' r q => ?_) fun x cls d G' F' H' g' f' fr' er q => kx x cls d G' F' H' g' f' fr' er (hx x q)⟩
    have s' : Nx ρ G F ρ G' F' H' := ⟨g', fr', fun b o h _ => f' b o h, fun _ h => .inl h⟩
    refine kn v (.d x) ρ G' F' H' s' (.refl ρ) (e.mono g' fun p hp => ?_) r .d (hn x q)
    obtain ⟨i, y, ei⟩ := cells_mem hp
    obtain ⟨u, hu⟩ := (e.cell ei).2.some
    rw [hu, f' _ _ hu]
theorem rep_exc {G : Hp} {a : Addr} {cls : Value} {d : Option Addr} {x : D} (h : ExR K G cls d x) (ha : G a = some (ExcP a cls d)) : Rep K G (.ref a) x := by
  obtain ⟨c, n, y, rfl, rfl, ⟨rfl, rfl, rfl⟩ | ⟨dd, v, rfl, h5, h6⟩⟩ := h
  · exact .exc0 ha
  · exact .exc1 ha h5 h6
theorem excP_ne {a : Addr} {cls : Value} {d : Option Addr} (ps : Array Value) : ExcP a cls d ≠ .tbl ps := fun z => by
  unfold ExcP at z
  cases z
/-- from the end of the except suite -/
def sufP (i : Nat) (P : PD) : PD := { nx := fun ρ' => P.nx (ρ'.set i .no), rt := P.rt, bk := fun ρ' => P.bk (ρ'.set i .no), ct := fun ρ' => P.ct (ρ'.set i .no), xe := P.xe, xp := P.xp }
theorem try_catch {m : Value → Option Bool} {i : Nat} {ts : TS} {Dn : Ends} {G F H G' F' H' : Hp} {σ : L2.St} {x : D} {cls : Value} {d : Option Addr} (f : Fr G F H) (e : Env K G F σ ρ) (k : EndsOk K ρ G F P Dn) (g' : Same G G') (f' : Same F F') (fr' : Fr G' F' H') (er : ExR K G' cls d x)
    (hm : ∀ c n y, x = .exc c n y → m (.ref (cA K c)) = some true) (hs : SD K (ρ.set i (.d x)) ts (sufP i P)) : wOwn m i ts Dn cls d σ H' := by
  refine ⟨?_, fun a ha => ?_⟩
  · obtain ⟨c, n, y, e1, e2, _⟩ := er
    rw [e2]; exact hm c n y e1
  have g2 : Same G' (upd G' a (ExcP a cls d)) := fun b o z => by rw [upd_ne (ne_of_none z (fr'.g.free ha))]; exact z
  have fr2 : Fr (upd G' a (ExcP a cls d)) F' (upd H' a (ExcP a cls d)) := fr'.newG ha excP_ne
  have s2 : Nx ρ G F ρ (upd G' a (ExcP a cls d)) F' (upd H' a (ExcP a cls d)) := ⟨g'.trans g2, fr2, fun b o h _ => f' b o h, fun _ h => .inl h⟩
  have e2 : Env K (upd G' a (ExcP a cls d)) F' σ ρ := e.mono (g'.trans g2) fun p hp => by
    obtain ⟨i, y, ei⟩ := cells_mem hp
    obtain ⟨u, hu⟩ := (e.cell ei).2.some
    rw [hu, f' _ _ hu]
  have e3 : Env K (upd G' a (ExcP a cls d)) F' (σ.set i (some (.ref a))) (ρ.set i (.d x)) := e2.setd i (rep_exc (er.mono g2) upd_same)
  have z1 : Nx ρ G F (ρ.set i (.d x)) (upd G' a (ExcP a cls d)) F' (upd H' a (ExcP a cls d)) := nx_set s2 fun p z => by cases z
  have s3 : ∀ {ρ' : List Sl} {G4 F4 H4 : Hp}, Nx (ρ.set i (.d x)) (upd G' a (ExcP a cls d)) F' ρ' G4 F4 H4 → Nx ρ G F (ρ'.set i .no) G4 F4 H4 := fun {ρ' G4 F4 H4} z => nx_set (z1.trans z) fun p z => by cases z
  exact hs _ _ _ _ fr2 e3 _ ⟨fun ρ' σ' G4 F4 H4 z ev q => k.nx _ _ G4 F4 H4 (s3 z) (ev.set i (s := .no) trivial fun p z => by cases z) q, fun v a ρ' σ' G4 F4 H4 z ev o n q => k.rt v a ρ' σ' G4 F4 H4 (z1.trans z) ev o (n.back z1) q, fun ρ' σ' G4 F4 H4 z ev q => k.bk _ _ G4 F4 H4 (s3 z) (ev.set i (s := .no) trivial fun p z => by cases z) q,
    fun ρ' σ' G4 F4 H4 z ev q => k.ct _ _ G4 F4 H4 (s3 z) (ev.set i (s := .no) trivial fun p z => by cases z) q, fun x2 cls2 d2 G4 F4 H4 z er q => k.ex x2 cls2 d2 G4 F4 H4 (z1.xtrans z) er q⟩
/-- try: e -/
theorem sd_tryE {m : Value → Option Bool} {i : Nat} {ts : TS} (xp : D → Prop) (h : EXW K ρ te (fun _ ρ1 => P.nx ρ1) xp) (hc : ∀ x, xp x → (∀ c n y, x = .exc c n y → m (.ref (cA K c)) = some true) ∧ SD K (ρ.set i (.d x)) ts (sufP i P)) : SD K ρ (tTry m i (fun W => tDrop (te W)) ts) P := by
  intro G F H σ f e D k
  exact h G F H σ f e _ _ (fun v a ρ1 G1 F1 H1 s sh e1 o w q => k.nx ρ1 σ G1 F1 H1 s e1 q) fun x cls d G' F' H' g' f' fr' er q => try_catch f e k g' f' fr' er (hc x q).1 (hc x q).2
/-- try: x = e -/
theorem sd_tryA {m : Value → Option Bool} {i j : Nat} {ts : TS} (xp : D → Prop) (h : EXW K ρ te (asgP j P.nx) xp) (hc : ∀ x, xp x → (∀ c n y, x = .exc c n y → m (.ref (cA K c)) = some true) ∧ SD K (ρ.set i (.d x)) ts (sufP i P)) : SD K ρ (tTry m i (fun W => tAsg (te W) (gName j)) ts) P := by
  intro G F H σ f e D k
  refine h G F H σ f e _ _ (fun v a ρ1 G1 F1 H1 s sh e1 o w q => ?_) fun x cls d G' F' H' g' f' fr' er q => try_catch f e k g' f' fr' er (hc x q).1 (hc x q).2
  cases a with
  | c j => exact False.elim q
  | d x => exact k.nx _ _ G1 F1 H1 (nx_set s fun p z => by cases z) (e1.setd j o) q
  | n p x =>
    obtain ⟨rfl, hc, hn⟩ := o
    have hp := w p x rfl
    exact k.nx _ _ G1 F1 H1 (nx_set s fun q z => by cases z; exact hp) (e1.set j (s := .cell p x) ⟨rfl, hc⟩ fun q z => by cases z; exact hn) q
end
/-! ### classes, isinstance of caught exceptions, their fields -/
structure ExcCl (K : PySem.W.Frag) (c : Str) : Prop where
  hc : (PySem.W.clsIn K (cA K c)).isSome = true
  hg : PySem.W.findIn K (.ref (cA K c)) "__getattribute__" = some (some (.builtin "BaseException.__getattribute__"))
  hk : PySem.W.findIn K (.ref (cA K c)) "__getattr__" = some none
  hs : PySem.W.subIn K (.ref (cA K c)) (.type "BaseException") = some true
  ha : PySem.W.findIn K (.ref (cA K c)) "__class__" = some (some (.builtin "object.__class__"))
  hn : PySem.W.specialIn K (.builtin "object.__class__") "__get__" = some (some (.builtin "getset_descriptor.__get__"))
  ht : PySem.W.takesIn K (.builtin "object.__class__") = some true
  hm : PySem.W.mroIn K (cA K c) (.type "object") = some true
def rIsE (K : PySem.W.Frag) : List V → Hp → VK → Prop := fun xs H Q => ∃ (x : V) (c : Str) (b : Bool), xs = [x, .ref (cA K c)] ∧ Q (.bl b) H ∧
  ((x = .non ∧ PySem.W.kitOne K (.type "NoneType") (.ref (cA K c)) = some b) ∨ ∃ (a : Addr) (c0 : Str) (d : Option Addr), x = .ref a ∧ H a = some (ExcP a (.ref (cA K c0)) d) ∧ ExcCl K c0 ∧ PySem.W.kitOne K (.ref (cA K c0)) (.ref (cA K c)) = some b ∧ ∀ dd, d = some dd → ∃ fs, H dd = some (.xd fs))
theorem call_isX {X : Cx} : CallR X (.builtin "isinstance") (rIsE X.K) := by
  intro pins s σ H xs us Q I r h
  obtain ⟨x, c, b, rfl, q, h⟩ := h
  cases r with
  | cons rx rr =>
    cases rr with
    | cons rt rr =>
      cases rr
      cases rt
      rcases h with ⟨rfl, e⟩ | ⟨a, c0, d, rfl, ea, C, e, hd⟩
      · cases rx
        exact PySem.W.kia_one PySem.W.kitx_none I.kIn True.intro e (fun z => nomatch z) fun tk => ⟨.bl b, H, I.kept (t' := tk) fun _ _ z => z, rfl, q⟩
      · cases rx
        obtain ⟨⟨o, vs, e1, ⟨e2, e3⟩, e4⟩, _, _⟩ := I.hok a _ ea
        obtain ⟨od, J⟩ : ∃ od, PySem.W.InstAt s.heap a o (cA X.K c0) od := by
          cases d with
          | none => exact ⟨none, e1, e2, by unfold PySem.W.notCls; rw [e4], by rw [e3]; trivial⟩
          | some dd =>
            obtain ⟨fs, ef⟩ := hd dd rfl
            obtain ⟨mA, ⟨od, es, ep, eo, _⟩, _⟩ := I.hok dd _ ef
            exact ⟨some od, e1, e2, by unfold PySem.W.notCls; rw [e4], by rw [e3]; exact eo⟩
        exact PySem.W.kia_one (PySem.W.kitx_exc C.hc C.hg C.hk C.hs C.ha C.hn C.ht C.hm) I.kIn J e (fun z => nomatch z) fun tk => ⟨.bl b, H, I.kept (t' := tk) fun _ _ z => z, rfl, q⟩
section
variable {K : PySem.W.Frag} {post : Rs → Prop} {c c0 n : Str} {y : D} {b : Bool}
theorem cd_isN (e : PySem.W.kitOne K (.type "NoneType") (.ref (cA K c)) = some b) (q : post (.d (.bl b))) : CD K (rIsE K) [.non, .cls c] post := by
  intro G F H vs f r Q k
  cases r with
  | cons r1 r2 =>
    cases r2 with
    | cons r3 r4 =>
      cases r4
      cases r1
      cases r3
      exact ⟨.non, c, b, rfl, back_d f k (.bl _) q, .inl ⟨rfl, e⟩⟩
theorem cd_isX (C : ExcCl K c0) (e : PySem.W.kitOne K (.ref (cA K c0)) (.ref (cA K c)) = some b) (q : post (.d (.bl b))) : CD K (rIsE K) [.exc c0 n y, .cls c] post := by
  intro G F H vs f r Q k
  cases r with
  | cons r1 r2 =>
    cases r2 with
    | cons r3 r4 =>
      cases r4
      cases r3
      have r1 : Rep K G _ (.exc c0 n y) := r1
      refine ⟨_, c, b, rfl, back_d f k (.bl _) q, .inr ?_⟩
      cases r1 with
      | exc0 h2 => exact ⟨_, c0, none, rfl, f.g _ _ h2, C, e, fun dd z => nomatch z⟩
      | exc1 h2 h3 h4 => exact ⟨_, c0, _, rfl, f.g _ _ h2, C, e, fun dd z => by cases z; exact ⟨_, f.g _ _ h3⟩⟩
variable {ρ : List Sl} {postA : Ar → List Sl → Prop}
theorem ed_cls (q : postA (.d (.cls c)) ρ) : ED K ρ (tC (.ref (cA K c))) postA := ed_c (fun _ => .cls) q
/-- e.n -/
def tFld (K : PySem.W.Frag) (n : Str) (te : TE) : TE := fun σ H Q => te σ H fun x H1 => ∃ (a : Addr) (c : Str) (dd : Addr) (v : V), x = .ref a ∧ H1 a = some (ExcP a (.ref (cA K c)) (some dd)) ∧ H1 dd = some (.xd [(n, v)]) ∧ XfC K (cA K c) ∧ PySem.W.findIn K (.ref (cA K c)) n = some none ∧ Q v H1
theorem pe_fld {X : Cx} {e : Expr} {te : TE} {pos : Pos} (he : PE X e te) (hb : attributeBase e n X.env (eval e X.env) = eval e X.env := by rfl) : PE X (.Attribute e n pos) (tFld X.K n te) := by
  refine ⟨fun pins s σ H Q I h => attr_of hb (thn (he.run pins s σ H _ I h) fun u s1 hh => ?_)⟩
  obtain ⟨x, H1, I1, rx, a, c, dd, v, rfl, ea, ed, T, hno, q⟩ := hh
  obtain rfl : u = Value.ref a := rx
  obtain ⟨⟨o, vs, e1, ⟨e2, e3⟩, e4⟩, _, _⟩ := I1.hok a _ ea
  obtain ⟨mA, hns, hr⟩ := I1.hok dd _ ed
  obtain ⟨od, ho, hl⟩ := lookIn_ns hns
  obtain ⟨u, hu, ru⟩ := RelO.some_of (v := v) (o := mA n) (by have := hr n; simpa using this)
  have J : PySem.W.InstAt s1.heap a o (cA X.K c) (some od) := ⟨e1, e2, by unfold PySem.W.notCls; rw [e4], by rw [e3]; exact ho⟩
  exact PySem.HandSPX.exc_get I1.kIn J T.ga T.gg T.exC (PySem.W.findObj_own T.hdC hno rfl (by rw [hl, hu])) (handed_of ru) ⟨v, H1, I1.tok _, ru, q⟩
theorem ed_fld {te : TE} (h : ED K ρ te fun a ρ1 => ∃ c y, arD ρ1 a = .exc c n y ∧ n ≠ "" ∧ XfC K (cA K c) ∧ PySem.W.findIn K (.ref (cA K c)) n = some none ∧ postA (.d y) ρ1) : ED K ρ (tFld K n te) postA := by
  intro G F H σ f e Q k
  refine h G F H σ f e _ fun v a ρ1 G1 F1 H1 s sh e1 o w ⟨c, y, ea, hn, T, hno, q⟩ => ?_
  have t := o.top s.fr e1
  rw [ea] at t
  have t : Rep K G1 v (.exc c n y) := t
  cases t with
  | exc0 h2 => exact absurd rfl hn
  | exc1 h2 h3 h4 => exact ⟨_, c, _, _, rfl, s.fr.g _ _ h2, s.fr.g _ _ h3, T, hno, k _ (.d y) ρ1 G1 F1 H1 s sh e1 h4 .d q⟩
end
end DL
namespace DL
open PySem PySem.Spec PySem.W PyProof.Rows L2 LamX
variable [HasT]
/-! ### defs that make lambdas: their code object is named -/
structure FunC (K : PySem.W.Frag) (x : Str) (st : Stmt) (c f : Addr) (fd : FuncData) : Prop where
  ex : ∃ (oc : Value) (od : Option Addr) (kV doc pm : Value) (an : Option Addr) (ct : Value) (osl : Array (Option Value)),
    fd = PySem.W.fnOf x x (defArgs st) (defBody st) (defScope st) .none kV doc pm an (.ref c) ct ∧ K.lookup f = some ⟨oc, od, .func fd, osl⟩ ∧ PySem.W.codeIn K (.ref c) x = true
  kp : PySem.W.keepIn K (.ref f) = true
theorem FunC.fn {K : PySem.W.Frag} {x : Str} {st : Stmt} {c f : Addr} {fd : FuncData} (F : FunC K x st c f fd) : Fun K x x st f fd := by
  obtain ⟨⟨oc, od, kV, doc, pm, an, ct, osl, h1, h2, h3⟩, h4⟩ := F
  exact ⟨⟨oc, od, kV, doc, pm, an, .ref c, ct, osl, h1, h2, h3⟩, h4⟩
/-- what is known of the def x that makes lambdas: its code object c, its table P -/
structure LamA (K : PySem.W.Frag) (base : Heap) (mg : Str → Option Value) (x : Str) (c P : Addr) : Prop where
  tb : TabB base mg c P
  mem : (P, x ++ ".<locals>." ++ "<lambda>") ∈ HasT.T
  un : ∀ p ∈ HasT.T, p.1 = P → p.2 = x ++ ".<locals>." ++ "<lambda>"
def FunAtC (K : PySem.W.Frag) (mg : Str → Option Value) (x : Str) (st : Stmt) (ps : List Str) (c : Addr) : Prop := ∃ f fd, FunC K x st c f fd ∧ mg x = some (.ref f) ∧ Binds K fd ps []
section
variable {P : Program} {w : World} {K : PySem.W.Frag} {mg : Str → Option Value} {base : Heap}
theorem fnC {x : Str} {st : Stmt} {N ps : List Str} {R : DSp} {k n m : Nat} {f c : Addr} {fd : FuncData} (F : FunC K x st c f fd) (Sc : FnScope N ps (defScope st)) (hps : ps.length = n) (hN : N.length = n + m)
    (hbody : ∀ (A : Around) (outer : List PySem.Env) (s : Shared) (H : Hp) (E : XK), Room k (A.deeper (envOfC x (defScope st) s.heap.objs.size f (.ref c))) →
      ∃ t, PSs (cxOf CX0 P w K mg base N x (defScope st) f (.ref c) A outer s H E).nox (defBody st) t ∧ ∀ ρ post, ρ.length = n → R ρ post → SD K (ρ ++ List.replicate m .no) t { nx := endP n ρ post (.d .non), rt := endP n ρ post }) :
    FnOk P w K mg base CX0 (k + 1) f fd ps (spD K n R) := by
  obtain ⟨oc, od, kV, doc, pm, an, ct, osl, rfl, lk, hcd⟩ := F.ex
  refine fn_of lk hcd Sc (fun vs H Q E h => (spD_len vs H Q E h).trans hps.symm) fun A outer s H vs Q E hr h => ?_
  obtain ⟨t, ht, q⟩ := hbody A outer s H E hr
  exact ⟨t, ht.nox, fn_body h hN q⟩
theorem runG_ofOk {CX : CXT} {k : Nat} {f : Addr} {fd : FuncData} {ps : List Str} {sp : Sp} (F : FnOk P w K mg base CX k f fd ps sp) : RunG P w K mg base CX k f fd ps sp := fun A o s H args us vs Q E _ => F.run A o s H args us vs Q E
/-- .. that show nested data -/
theorem fnGC {x : Str} {st : Stmt} {N ps : List Str} {R : DSp} {k n m : Nat} {f c : Addr} {fd : FuncData} (F : FunC K x st c f fd) (Sc : FnScope N ps (defScope st)) (hps : ps.length = n) (hN : N.length = n + m)
    (hbody : ∀ (A : Around) (outer : List PySem.Env) (s : Shared) (H : Hp) (E : XK), A.guards = some [] → Room k (A.deeper (envOfC x (defScope st) s.heap.objs.size f (.ref c))) →
      ∃ t, PSs (cxOf CX0 P w K mg base N x (defScope st) f (.ref c) A outer s H E).nox (defBody st) t ∧ ∀ ρ post, ρ.length = n → R ρ post → SD K (ρ ++ List.replicate m .no) t { nx := endP n ρ post (.d .non), rt := endP n ρ post }) :
    RunG P w K mg base CX0 (k + 1) f fd ps (spD K n R) := by
  refine runG_of F.fn Sc (fun vs H Q E h => (spD_len vs H Q E h).trans hps.symm) fun cdv A outer s H vs Q E ec gu hr h => ?_
  have ec2 : cdv = .ref c := by
    obtain ⟨oc, od, kV, doc, pm, an, ct, osl, rfl, lk, hcd⟩ := F.ex
    exact ec.symm
  subst ec2
  obtain ⟨t, ht, q⟩ := hbody A outer s H E gu hr
  exact ⟨t, ht.nox, fn_body h hN q⟩
theorem mk_defC {x : Str} {st : Stmt} {N ps : List Str} {R : DSp} {k n m : Nat} {c : Addr} (F : FunAtC K mg x st ps c) (Sc : FnScope N ps (defScope st)) (hps : ps.length = n) (hN : N.length = n + m)
    (hbody : ∀ (f : Addr) (A : Around) (outer : List PySem.Env) (s : Shared) (H : Hp) (E : XK), Room k (A.deeper (envOfC x (defScope st) s.heap.objs.size f (.ref c))) →
      ∃ t, PSs (cxOf CX0 P w K mg base N x (defScope st) f (.ref c) A outer s H E).nox (defBody st) t ∧ ∀ ρ post, ρ.length = n → R ρ post → SD K (ρ ++ List.replicate m .no) t { nx := endP n ρ post (.d .non), rt := endP n ρ post }) :
    DOk P w K mg base x (k + 1) ps (spD K n R) := by
  obtain ⟨f, fd, hf, hg, hb⟩ := F
  exact ⟨f, fd, hg, hf.kp, ⟨hb, fnAt_of hf.fn⟩, fnC hf Sc hps hN (hbody f)⟩
end
/-! ### the law's call, its tables tracked, where nothing is being shown -/
section
variable {P : Program} {w : World} {K : PySem.W.Frag} {mg mb : Str → Option Value} {X : CXT} {k : Nat} {f a : Addr} {fd : FuncData} {p : Str} {sp : Sp} {s1 : Shared} {vs : List Value} {ns : List Int}
/-- the table P of the code object c stands empty at the law's entry -/
structure TabE (K : PySem.W.Frag) (h : Heap) (c P : Addr) : Prop where
  hd : PySem.W.codeHdIn K c P = true
  no : K.lookup P = none
  at_ : h.get? P = some { cls := .none, data := .fields #[] }
theorem law_runsT {cs : List (Addr × Addr)} (inK : K.In s1.heap) (top : s1.heap.Ns mainGlobals mg) (blt : s1.heap.Ns builtinsNs mb) (boot : ∀ y : Str, y ≠ "__name__" → mb y = bootBuiltins y)
    (lim : s1.heap.NoLimit) (gens : s1.gens = #[]) (bmain : ∃ (bm : Addr) (ob : Obj), mg "__builtins__" = some (.ref bm) ∧ bm ≠ builtinsNs ∧ s1.heap.get? bm = some ob ∧ ob.cls = .type "module" ∧ ob.dict = some builtinsNs ∧ ob.data = .plain)
    (tabs : ∀ c ∈ cs, TabE K s1.heap c.1 c.2) (obj : s1.heap.get? a = some { cls := .type "list", data := .seq vs.toArray }) (its : IntsAre vs ns) (len : ns.length ≤ sizeLine) (room : Room k callerA)
    (run : ∀ b : Heap, K.In b → b.Ns mainGlobals mg → (∀ c ∈ cs, TabB b mg c.1 c.2) → RunG P w K mg b X k f fd [p] sp) (bind : ∀ (s : Shared) (u : Value), BindsTo s fd ⟨[u], []⟩ [(p, u)])
    (asked : ∀ H : Hp, (∀ c ∈ cs, H c.2 = some (.tbl #[])) → SqL K H a (ns.map V.int) → sp [.ref a] H (fun v _ => v = .bl true) fun _ _ _ => False) (noX : ∀ H e s', ¬ X [] H s1 (fun _ _ _ => False) e s') :
    codeAny (model P w) callerA (.call (.ref f) ⟨[.ref a], []⟩) (fun r s' => r = .ok (.ret (.bool true)) ∧ OldK s1.heap s'.heap ∧ s'.os = s1.os ∧ AllBare s'.gens) s1 := by
  have vals := vals_ints its
  have tabOf : ∀ {b : Addr}, b ∈ cs.map Prod.snd → ∃ c ∈ cs, c.2 = b := fun hb => by
    obtain ⟨c, hc, e⟩ := List.mem_map.mp hb
    exact ⟨c, hc, e⟩
  have aNo : a ∉ cs.map Prod.snd := fun hb => by
    obtain ⟨c, hc, e⟩ := tabOf hb
    have := (tabs c hc).at_
    rw [e, obj] at this
    cases this
  have go : ∀ H : Hp, (∀ c ∈ cs, H c.2 = some (.tbl #[])) → SqL K H a (ns.map V.int) → HOk P w H s1.heap → (∀ b u, H b = some u → (b = a ∧ K.lookup a = none ∧ ∃ o xs, u = .frz o (.lst xs)) ∨ (b ∈ cs.map Prod.snd ∧ u = .tbl #[])) →
      codeAny (model P w) callerA (.call (.ref f) ⟨[.ref a], []⟩) (fun r s' => r = .ok (.ret (.bool true)) ∧ OldK s1.heap s'.heap ∧ s'.os = s1.os ∧ AllBare s'.gens) s1 := by
    intro H hT sq ok mine
    have free : ∀ b ob, s1.heap.get? b = some ob → (b = a → K.lookup a = none → False) → ob.data ≠ .fields #[] → H b = none := fun b ob e ne nf => by
      cases q : H b with
      | none => rfl
      | some u =>
        rcases mine b u q with ⟨e1, e2, _⟩ | ⟨e1, _⟩
        · exact (ne e1 e2).elim
        · obtain ⟨c, hc, rfl⟩ := tabOf e1
          rw [(tabs c hc).at_] at e
          cases e
          exact (nf rfl).elim
    have dict : ∀ {b : Addr} {m : Str → Option Value}, s1.heap.Ns b m → (hidT s1.heap H).Ns b m := by
      rintro b m ⟨o, es, ep, e, d, r⟩
      refine ⟨o, es, ep, hidT_get e (free b o e (fun h _ => ?_) fun z => by rw [d] at z; cases z), d, r⟩
      subst h
      rw [obj] at e
      cases e
      have d : Data.seq vs.toArray _ = Data.dict es ep := d
      cases d
    have inB : K.In (hidT s1.heap H) := fun b o e => by
      refine hidT_get (inK b o e) ?_
      cases q : H b with
      | none => rfl
      | some u =>
        rcases mine b u q with ⟨e1, e2, _⟩ | ⟨e1, _⟩
        · rw [e1, e2] at e; cases e
        · obtain ⟨c, hc, rfl⟩ := tabOf e1
          rw [(tabs c hc).no] at e; cases e
    have tb : ∀ c ∈ cs, TabB (hidT s1.heap H) mg c.1 c.2 := fun c hc => by
      obtain ⟨bm, ob, b1, b2, b3, b4, b5, b6⟩ := bmain
      have nG : bm ≠ mainGlobals := fun q => by
        obtain ⟨o, es, ep, e, hd, _⟩ := top
        rw [q, e] at b3
        cases b3
        rw [hd] at b6
        cases b6
      have nP : bm ≠ c.2 := fun q => by
        rw [q, (tabs c hc).at_] at b3
        cases b3
        cases b6
      refine ⟨codeHd_of_K inB (tabs c hc).hd, ⟨bm, ob, b1, b2, nG, nP, hidT_get b3 (free bm ob b3 (fun h _ => ?_) fun z => by rw [b6] at z; cases z), b4, b5, b6⟩, fun z => ?_⟩
      · subst h
        rw [obj] at b3
        cases b3
        cases b6
      · obtain ⟨o, es, ep, e, hd, _⟩ := top
        rw [z, (tabs c hc).at_] at e
        cases e
        cases hd
    obtain ⟨mc, l1, l2⟩ := lim
    have env : Env0 P w K mg (hidT s1.heap H) callerA [] s1 H :=
      { frames := rfl, mod := ⟨inB, dict top, ⟨mb, dict blt, boot⟩, mc, dict l1, l2⟩, bs := fun b o e => of_hidT e, bsz := Nat.le_of_eq (hidT_size _ _), funs := trivial, frf := (fun b hb => by cases (show b ∈ ([] : List Addr) from hb)), hok := ok, bare := .of_eq gens }
    have got := run _ inB (dict top) tb callerA [] s1 H ⟨[.ref a], []⟩ [.ref a] [.ref a] _ _ rfl room env (bind s1 (.ref a)) (.cons rfl .nil) (asked H hT sq)
    refine codeAny_mono got fun r s' h => ?_
    match r, h with
    | .error e, h => exact (noX H e s' h).elim
    | .ok .next, h => exact h.elim
    | .ok .brk, h => exact h.elim
    | .ok .cont, h => exact h.elim
    | .ok (.ret u), ⟨v, H', os, bare, un, ok', rv, q⟩ =>
      have q : v = .bl true := q
      subst q
      obtain rfl : u = Value.bool true := rv
      have grown : ∀ c ∈ cs, ∃ more : Array Value, s'.heap.get? c.2 = some { cls := .none, data := .fields more } := fun c hc => by
        obtain ⟨more, z⟩ := un.tbls c.2 #[] (hT c hc)
        exact ⟨_, ok' c.2 _ z⟩
      have keep : ∀ b o, b ∉ cs.map Prod.snd → s1.heap.get? b = some o → s'.heap.get? b = some o := fun b o nb e => by
        cases q : H b with
        | none => exact un.keep b o e q (fun z => by cases (show b ∈ ([] : List Addr) from z)) (fun z => by cases z)
        | some u =>
          rcases mine b u q with ⟨rfl, _, ob, ys, rfl⟩ | ⟨e1, _⟩
          · have k1 := (ok b _ q).1
            have k2 := (ok' b _ (un.frzs b ob _ q)).1
            exact k2.trans (k1.symm.trans e)
          · exact (nb e1).elim
      refine ⟨rfl, ⟨fun b o e => ?_, fun b o e => ?_⟩, os, bare⟩
      · by_cases hb : b ∈ cs.map Prod.snd
        · obtain ⟨c, hc, rfl⟩ := tabOf hb
          obtain ⟨more, hm⟩ := grown c hc
          have ct := (codeHd_of_K inK (tabs c hc).hd).tab (tabs c hc).at_
          rw [(tabs c hc).at_] at e
          cases e
          exact .inr (.inl ⟨ct.isCodeTable, rfl, #[], more, rfl, by rw [Array.empty_append]; exact hm⟩)
        · exact .inl (keep b o hb e)
      · by_cases hb : b ∈ cs.map Prod.snd
        · obtain ⟨c, hc, rfl⟩ := tabOf hb
          obtain ⟨more, hm⟩ := grown c hc
          exact ⟨_, hm⟩
        · exact ⟨o, keep b o hb e⟩
  by_cases known : ∃ o, K.lookup a = some o
  · obtain ⟨o, e⟩ := known
    have e2 := inK a o e
    rw [obj] at e2
    obtain rfl := Option.some.inj e2
    refine go (fun b => if b ∈ cs.map Prod.snd then some (.tbl #[]) else none) (fun c hc => if_pos (List.mem_map.mpr ⟨c, hc, rfl⟩)) (.inr ⟨_, vs.toArray, _, e, rfl, rfl, rfl, by rw [List.size_toArray, its.length]; exact len, by simpa using vals⟩) (fun b u z => ?_) fun b u z => ?_
    · have z : (if b ∈ cs.map Prod.snd then some (HO.tbl #[]) else none) = some u := z
      by_cases hb : b ∈ cs.map Prod.snd
      · rw [if_pos hb] at z
        cases z
        obtain ⟨c, hc, rfl⟩ := tabOf hb
        exact (tabs c hc).at_
      · rw [if_neg hb] at z; cases z
    · have z : (if b ∈ cs.map Prod.snd then some (HO.tbl #[]) else none) = some u := z
      by_cases hb : b ∈ cs.map Prod.snd
      · rw [if_pos hb] at z
        cases z
        exact .inr ⟨hb, rfl⟩
      · rw [if_neg hb] at z; cases z
  · have none' : K.lookup a = none := by
      cases e : K.lookup a with
      | none => rfl
      | some o => exact (known ⟨o, e⟩).elim
    let Ha : Hp := fun b => if b = a then some (.frz { cls := .type "list", data := .seq vs.toArray } (.lst (ns.map V.int))) else if b ∈ cs.map Prod.snd then some (.tbl #[]) else none
    have at_ : Ha a = some (.frz { cls := .type "list", data := .seq vs.toArray } (.lst (ns.map V.int))) := if_pos rfl
    have off : ∀ b u, Ha b = some u → (b = a ∧ u = .frz { cls := .type "list", data := .seq vs.toArray } (.lst (ns.map V.int))) ∨ (b ∈ cs.map Prod.snd ∧ u = .tbl #[]) := fun b u z => by
      by_cases h : b = a
      · subst h
        exact .inl ⟨rfl, (Option.some.inj (at_.symm.trans z)).symm⟩
      · have z1 := (if_neg h : Ha b = _).symm.trans z
        by_cases hb : b ∈ cs.map Prod.snd
        · rw [if_pos hb] at z1
          cases z1
          exact .inr ⟨hb, rfl⟩
        · rw [if_neg hb] at z1; cases z1
    refine go Ha (fun c hc => ?_) (.inl (.inr ⟨_, at_⟩)) (fun b u z => ?_) fun b u z => ?_
    · have hm : c.2 ∈ cs.map Prod.snd := List.mem_map.mpr ⟨c, hc, rfl⟩
      exact (if_neg (show ¬ c.2 = a from fun z => aNo (z ▸ hm))).trans (if_pos hm)
    · rcases off b u z with ⟨rfl, rfl⟩ | ⟨hb, rfl⟩
      · exact ⟨obj, by rw [List.length_map]; exact len, vs, _, vals, obj⟩
      · obtain ⟨c, hc, rfl⟩ := tabOf hb
        exact (tabs c hc).at_
    · rcases off b u z with ⟨rfl, rfl⟩ | ⟨hb, rfl⟩
      · exact .inl ⟨rfl, none', _, _, rfl⟩
      · exact .inr ⟨hb, rfl⟩
end
/-- the end of a law with lambdas: xs, the defs that make them -/
theorem walk_T {l : PySem.W.OpenLaw} {n k : Nat} {q : Program} {loose : List Str} {XP : (Str → Option Value) → Heap → Prop} {YP : World → Heap → Prop} {d : DefRec} {K : Params → PySem.W.Frag} {x : Str}
    (most : l.most = some n) (small : n ≤ sizeLine) (nod : d.params.defaults = []) (room : Room k callerA) (inK : ∀ (w : World) (h : Heap), YP w h → (K w.params).In h)
    (F : ∀ (w : World) (mg : Str → Option Value) (fa : Addr) (h : Heap), (K w.params).In h → h.Ns mainGlobals mg → mg d.name = some (.ref fa) →
      ∃ (fd : FuncData) (cs : List (Str × Addr × Addr)) (sp : Sp), (∀ c ∈ cs, ((recsOf q).find? fun e => e.name == c.1).isSome = true ∧ PySem.W.tabIn (K w.params) c.1 = some c.2 ∧ PySem.W.codeHdIn (K w.params) c.2.1 c.2.2 = true ∧ (K w.params).lookup c.2.2 = none) ∧ (∀ (s : Shared) (u : Value), BindsTo s fd ⟨[u], []⟩ [(x, u)]) ∧
        (∀ (H : Hp) (a : Addr) (ns : List Int), ns.length ≤ n → (∀ c ∈ cs, H c.2.2 = some (.tbl #[])) → SqL (K w.params) H a (ns.map V.int) → sp [.ref a] H (fun v _ => v = .bl true) fun _ _ _ => False) ∧
        ∀ b : Heap, (K w.params).In b → b.Ns mainGlobals mg → (∀ c ∈ cs, TabB b mg c.2.1 c.2.2) → RunG l.prog w (K w.params) mg b CX0 k fa fd [x] sp) :
    PySem.W.WalkO q loose XP YP l.row.toRowW d [] (fun f vs => PySem.call f vs) := by
  refine Att.attach_call most nod fun w s0 s1 mg mb fa o pm cd doc a vs ns G Y ho hd hcd hmg hobj hints hlen hg => ?_
  have iK := inK w _ Y
  obtain ⟨fd, cs, sp, hc, bind, asked, run⟩ := F w mg fa _ iK G.T.g hmg
  have mem : ∀ c ∈ cs.map (fun c => c.2), ∃ y ∈ cs, y.2 = c := fun c hc => by
    obtain ⟨y, hy, e⟩ := List.mem_map.mp hc
    exact ⟨y, hy, e⟩
  refine law_runsT (cs := cs.map fun c => c.2) iK G.T.g G.T.b G.T.builtins G.T.nolimit hg G.T.bmain (fun c hcm => ?_) hobj hints (Nat.le_trans hlen small) room (fun b hb hn ht => run b hb hn fun c hcm => ht c.2 (List.mem_map.mpr ⟨c, hcm, rfl⟩)) bind (fun H hH hS => asked H a ns hlen (fun c hcm => hH c.2 (List.mem_map.mpr ⟨c, hcm, rfl⟩)) hS) fun H e s' h => h
  obtain ⟨y, hy, rfl⟩ := mem c hcm
  obtain ⟨h1, h2, h3, h4⟩ := hc y hy
  obtain ⟨dd, hdd⟩ := Option.isSome_iff_exists.mp h1
  exact ⟨h3, h4, (PySem.W.tab_of G.T iK hdd h2).2⟩
end DL
namespace DL
open PySem PySem.Spec PySem.W PyProof.Rows L2 LamX
variable [HasT]
/-! ### for the terms -/
theorem takes_cx {P : Program} {w : World} {K : PySem.W.Frag} {mg : Str → Option Value} {base : Heap} {N : List Str} {qual : Str} {scope : Scope} {f : Addr} {cd : Value} {A : Around} {outer : List PySem.Env} {s : Shared} {H : Hp} {E : XK} :
    Takes (cxOf (L2.CX P w) P w K mg base N qual scope f cd A outer s H E) (fun cls d _ H => E cls d H) := takes_of rfl rfl rfl rfl
theorem takes_lam {X : Cx} {A : Around} {outer : List PySem.Env} {s : Shared} {H : Hp} {E : XK} {scope : Scope} {f c' : Addr} : Takes (lamCx X A outer s H E scope f c') (fun cls d _ H => E cls d H) := takes_of rfl rfl rfl rfl
section
variable {X : Cx} {K : PySem.W.Frag}
theorem pe_clsG {c : Str} {p : Pos} (h : X.mg c = some (.ref (cA K c))) (hg : Gl X c := by rfl) (hd : (c == ("__debug__" : Str)) = false := by decide) : PE X (.Name c p) (tC (.ref (cA K c))) := pe_glob hg h rfl hd
theorem k_isX (hK : X.K = K) : CallR X (.builtin "isinstance") (rIsE K) := by subst hK; exact call_isX
theorem k_fld {e : Expr} {te : TE} {pos : Pos} {n : Str} (hK : X.K = K) (he : PE X e te) (hb : attributeBase e n X.env (eval e X.env) = eval e X.env := by rfl) : PE X (.Attribute e n pos) (tFld K n te) := by subst hK; exact pe_fld he hb
theorem nm_of {c : Str} {C : Value} (h : X.mg c = some C) (hg : Gl X c := by rfl) (hd : (c == ("__debug__" : Str)) = false := by decide) : Names X c C := ⟨hg, hd, .inl h⟩
end
/-- a message -/
def tMsg (ts : List TE) : TE := fun σ H Q => tJs ts Str.empty σ H fun out H1 => Q (.str out) H1
theorem pe_msg {X : Cx} {v1 v2 : Expr} {rest : List Expr} {ts : List TE} {pos : Pos} (h : PJ X (v1 :: v2 :: rest) ts) : PE X (.JoinedStr (v1 :: v2 :: rest) pos) (tMsg ts) := pe_joined h
section
variable {K : PySem.W.Frag} {ρ : List Sl} {post : Ar → List Sl → Prop}
theorem ed_msg {ts : List TE} (h : ∃ out : Str, ∀ (σ : L2.St) (H : Hp) (Q : Str → Hp → Prop), Q out H → tJs ts Str.empty σ H Q) (q : ∀ s, post (.d (.str s)) ρ) : ED K ρ (tMsg ts) post := by
  intro G F H σ f e Q k
  obtain ⟨out, h⟩ := h
  refine h σ H _ ?_
  have r : Rep K G (.str (S out.cps.toList)) (.str out.cps.toList) := .str _
  rw [S_of] at r
  exact k _ (.d (.str out.cps.toList)) ρ G F H (.refl f) (.refl ρ) e r .d (q _)
/-- surely raised -/
theorem ex_andL {ta tb : TE} {E : XK} {xp : D → Prop} (h : EX K ρ ta (fun _ _ => False) E xp) : EX K ρ (tAndV ta tb) post E xp := by
  intro G F H σ f e Q k kx
  exact h G F H σ f e _ (fun v a ρ1 G1 F1 H1 s sh e1 o w q => q.elim) kx
theorem ex_post {te : TE} {E : XK} {xp : D → Prop} {p : Ar → List Sl → Prop} (h : EX K ρ te p E xp) (i : ∀ a ρ', p a ρ' → post a ρ') : EX K ρ te post E xp := fun G F H σ f e Q k kx => h G F H σ f e Q (fun v a ρ' G' F' H' s sh e' o w q => k v a ρ' G' F' H' s sh e' o w (i _ _ q)) kx
variable {P : PD}
theorem sd_dropC {n : Nat} {R : DSpX} {ta : TA} {E : XK} (hE : P.xe = E) (h : EG K ρ ta fun as ρ1 => as.length = n ∧ (cells (as.map (arS ρ1))).Nodup ∧ R (as.map (arS ρ1)) (fun z ρ' => rsA (fun _ ρ1 => P.nx ρ1) (wb as ρ' ρ1) z) P.xp) : SD K ρ (tDrop (tCall (spX K n R) [] E ta)) P := by subst hE; exact sd_dropX (ex_call h)
theorem sd_retC {n : Nat} {R : DSpX} {ta : TA} {E : XK} (hE : P.xe = E) (h : EG K ρ ta fun as ρ1 => as.length = n ∧ (cells (as.map (arS ρ1))).Nodup ∧ R (as.map (arS ρ1)) (fun z ρ' => rsA P.rt (wb as ρ' ρ1) z) P.xp) : SD K ρ (tRet (tCall (spX K n R) [] E ta)) P := by subst hE; exact sd_retX (ex_call h)
theorem sd_asgC {n i : Nat} {R : DSpX} {ta : TA} {E : XK} (hE : P.xe = E) (h : EG K ρ ta fun as ρ1 => as.length = n ∧ (cells (as.map (arS ρ1))).Nodup ∧ R (as.map (arS ρ1)) (fun z ρ' => rsA (asgP i P.nx) (wb as ρ' ρ1) z) P.xp) : SD K ρ (tAsg (tCall (spX K n R) [] E ta) (gName i)) P := by subst hE; exact sd_asgX (ex_call h)
end
/-! ### facts of classes -/
theorem cA_of {K : PySem.W.Frag} {c : Str} {C : Addr} (h : PySem.W.nsIn K mainGlobals c = some (some (.ref C))) : cA K c = C := by unfold cA; rw [h]
theorem clsA_mk {K : PySem.W.Frag} {mg : Str → Option Value} {bmB : List Value} {newId : String} {c : Str} {C : Addr} {h : Heap} (X : K.In h) (G : h.Ns mainGlobals mg) (a : PySem.W.nsIn K mainGlobals c = some (some (.ref C))) (e : PySem.W.excIn K C bmB newId = true) (k : PySem.W.keepIn K (.ref C) = true)
    (s : PySem.W.subIn K (.ref C) (.type "BaseException") = some true) (t : PySem.W.typeIn K (.ref C) = some (.type "type")) : ClsA K mg bmB newId c := by
  have ec := cA_of a
  exact ⟨by rw [ec]; exact PySem.W.mg_of X G a, by rw [ec]; exact e, by rw [ec]; exact k, by rw [ec]; exact s, by rw [ec]; exact t⟩
theorem mgC_mk {K : PySem.W.Frag} {mg : Str → Option Value} {c : Str} {C : Addr} {h : Heap} (X : K.In h) (G : h.Ns mainGlobals mg) (a : PySem.W.nsIn K mainGlobals c = some (some (.ref C))) : mg c = some (.ref (cA K c)) := by
  rw [cA_of a]; exact PySem.W.mg_of X G a
theorem excCl_mk {K : PySem.W.Frag} {c : Str} {C : Addr} (a : PySem.W.nsIn K mainGlobals c = some (some (.ref C))) (h1 : (PySem.W.clsIn K C).isSome = true)
    (h2 : PySem.W.findIn K (.ref C) "__getattribute__" = some (some (.builtin "BaseException.__getattribute__"))) (h3 : PySem.W.findIn K (.ref C) "__getattr__" = some none) (h4 : PySem.W.subIn K (.ref C) (.type "BaseException") = some true)
    (h5 : PySem.W.findIn K (.ref C) "__class__" = some (some (.builtin "object.__class__"))) (h6 : PySem.W.specialIn K (.builtin "object.__class__") "__get__" = some (some (.builtin "getset_descriptor.__get__")))
    (h7 : PySem.W.takesIn K (.builtin "object.__class__") = some true) (h8 : PySem.W.mroIn K C (.type "object") = some true) : ExcCl K c := by
  have ec := cA_of a
  exact ⟨by rw [ec]; exact h1, by rw [ec]; exact h2, by rw [ec]; exact h3, by rw [ec]; exact h4, by rw [ec]; exact h5, h6, h7, by rw [ec]; exact h8⟩
theorem isN_mk {K : PySem.W.Frag} {c : Str} {C : Addr} {b : Bool} (a : PySem.W.nsIn K mainGlobals c = some (some (.ref C))) (h : PySem.W.kitOne K (.type "NoneType") (.ref C) = some b) : PySem.W.kitOne K (.type "NoneType") (.ref (cA K c)) = some b := by rw [cA_of a]; exact h
theorem isC_mk {K : PySem.W.Frag} {c0 c : Str} {C0 C : Addr} {b : Bool} (a0 : PySem.W.nsIn K mainGlobals c0 = some (some (.ref C0))) (a : PySem.W.nsIn K mainGlobals c = some (some (.ref C))) (h : PySem.W.kitOne K (.ref C0) (.ref C) = some b) : PySem.W.kitOne K (.ref (cA K c0)) (.ref (cA K c)) = some b := by rw [cA_of a0, cA_of a]; exact h
theorem ex1_mk {K : PySem.W.Frag} {c0 c1 : Str} {C0 C1 : Addr} {b : Bool} (a0 : PySem.W.nsIn K mainGlobals c0 = some (some (.ref C0))) (a1 : PySem.W.nsIn K mainGlobals c1 = some (some (.ref C1)))
    (h : PySem.W.exmOne K (.ref C0) (.ref C1) = some b) : PySem.W.exmOne K (.ref (cA K c0)) (.ref (cA K c1)) = some b := by rw [cA_of a0, cA_of a1]; exact h
theorem ex2_mk {K : PySem.W.Frag} {c0 c1 c2 : Str} {C0 C1 C2 : Addr} {b : Bool} (a0 : PySem.W.nsIn K mainGlobals c0 = some (some (.ref C0))) (a1 : PySem.W.nsIn K mainGlobals c1 = some (some (.ref C1))) (a2 : PySem.W.nsIn K mainGlobals c2 = some (some (.ref C2)))
    (h : PySem.W.exmAny K (.ref C0) [.ref C1, .ref C2] = some b) : PySem.W.exmAny K (.ref (cA K c0)) [.ref (cA K c1), .ref (cA K c2)] = some b := by rw [cA_of a0, cA_of a1, cA_of a2]; exact h
theorem ex3_mk {K : PySem.W.Frag} {c0 c1 c2 c3 : Str} {C0 C1 C2 C3 : Addr} {b : Bool} (a0 : PySem.W.nsIn K mainGlobals c0 = some (some (.ref C0))) (a1 : PySem.W.nsIn K mainGlobals c1 = some (some (.ref C1))) (a2 : PySem.W.nsIn K mainGlobals c2 = some (some (.ref C2))) (a3 : PySem.W.nsIn K mainGlobals c3 = some (some (.ref C3)))
    (h : PySem.W.exmAny K (.ref C0) [.ref C1, .ref C2, .ref C3] = some b) : PySem.W.exmAny K (.ref (cA K c0)) [.ref (cA K c1), .ref (cA K c2), .ref (cA K c3)] = some b := by rw [cA_of a0, cA_of a1, cA_of a2, cA_of a3]; exact h
theorem sufP_nx {i : Nat} {P : PD} {ρ : List Sl} : (sufP i P).nx ρ = P.nx (ρ.set i .no) := rfl
theorem sufP_rt {i : Nat} {P : PD} : (sufP i P).rt = P.rt := rfl
/-! ### values that are not words -/
theorem word_no {r : Int} {s : List Nat} (h : ¬ ((∀ c ∈ s, c ∈ alph r) ∧ s.length ≤ 100 ∧ Red s)) : wordB r (.str s) = false := by
  cases e : wordB r (.str s) with
  | false => rfl
  | true => exact absurd (wordB_iff.mp e) h
theorem not_red {s t : List Nat} {a b : Nat} (e : a = flipC b) : ¬ Red (s ++ a :: b :: t) := fun h =>
  h s.length a b (by rw [List.getElem?_append_right (Nat.le_refl _), Nat.sub_self]; rfl) (by rw [List.getElem?_append_right (Nat.le_succ _)]; show (a :: b :: t)[s.length + 1 - s.length]? = _; rw [show s.length + 1 - s.length = 1 by omega]; rfl) e
theorem atI_mem {α : Type} {l : List α} {v : Int} (h0 : 0 ≤ v) (h1 : v < l.length) : ∃ x, atI l v = some x ∧ x ∈ l := by
  obtain ⟨n, rfl⟩ := Int.eq_ofNat_of_zero_le h0
  have hn : n < l.length := by omega
  exact ⟨l[n], atI_nat (List.getElem?_eq_getElem hn), List.getElem_mem hn⟩
/-! ### ranks -/
def rankB : D → Bool
  | .int i => decide (2 ≤ i) && decide (i ≤ 4)
  | _ => false
end DL
namespace DL
open PySem PySem.Spec PySem.W PyProof.Rows L2 LamX
variable [HasT]
/-! ### the end: defs that make lambdas -/
def DefAtC (K : PySem.W.Frag) (x : Str) (st : Stmt) (c : Addr) : Prop :=
  ∃ (f : Addr) (od an : Option Addr) (sl : Array (Option Value)) (oc kV dc pm ct : Value), PySem.W.nsIn K mainGlobals x = some (some (.ref f)) ∧
    K.lookup f = some ⟨oc, od, .func (PySem.W.fnOf x x (defArgs st) (defBody st) (defScope st) .none kV dc pm an (.ref c) ct), sl⟩ ∧ PySem.W.codeIn K (.ref c) x = true ∧ PySem.W.keepIn K (.ref f) = true
theorem defAtC_mk {K : PySem.W.Frag} {x : Str} {st : Stmt} {f c : Addr} {od an : Option Addr} {sl : Array (Option Value)} {oc kV dc pm ct : Value} (a : PySem.W.nsIn K mainGlobals x = some (some (.ref f)))
    (l : K.lookup f = some ⟨oc, od, .func (PySem.W.fnOf x x (defArgs st) (defBody st) (defScope st) .none kV dc pm an (.ref c) ct), sl⟩) (d : PySem.W.codeIn K (.ref c) x = true) (k : PySem.W.keepIn K (.ref f) = true) : DefAtC K x st c :=
  ⟨f, od, an, sl, oc, kV, dc, pm, ct, a, l, d, k⟩
theorem funAtC_of {K : PySem.W.Frag} {h : Heap} {mg : Str → Option Value} {x : Str} {st : Stmt} {c : Addr} {ps : List Str} (X : K.In h) (G : h.Ns mainGlobals mg) (D : DefAtC K x st c)
    (hb : ∀ (kV doc pm : Value) (an : Option Addr) (cdv ct : Value) (us : List Value), us.length = ps.length → bindArgs (PySem.W.fnOf x x (defArgs st) (defBody st) (defScope st) .none kV doc pm an cdv ct) ⟨us, []⟩ = pure (ps.zip us)) : FunAtC K mg x st ps c := by
  obtain ⟨f, od, an, sl, oc, kV, dc, pm, ct, a, l, d, k⟩ := D
  have F : FunC K x st c f _ := ⟨⟨oc, od, kV, dc, pm, an, ct, sl, rfl, l, d⟩, k⟩
  exact ⟨f, _, F, PySem.W.mg_of X G a, F.fn.binds (ps := ps) hb⟩
theorem kc_mk {K : PySem.W.Frag} {c P : Addr} {dd : Option Addr} {vs : Array Value} {sl : Array (Option Value)} (a : K.lookup c = some ⟨.type "code", dd, .fields vs, sl⟩) (b : vs[11]? = some (.ref P)) :
    ∃ (dd : Option Addr) (vs : Array Value) (sl : Array (Option Value)), K.lookup c = some ⟨.type "code", dd, .fields vs, sl⟩ ∧ vs[11]? = some (.ref P) := ⟨dd, vs, sl, a, b⟩
end DL
namespace OwnI
open PySem PySem.W PySem.Calls PySem.Spec PyProof.Rows
/-! ### own exceptions whose __init__ hands a text to super().__init__ and keeps its argument -/
def exN (C t : Addr) (d : Option Addr) : Obj := { cls := .ref C, dict := d, data := .fields #[.ref t, .none, .none, .none, .bool false, .none] }
/-- the written body of such an __init__ -/
abbrev ibody (msg : Str) (par fld : Str) (kk : Nat) (a0 a1 a2 a3 a4 a5 b0 b1 b2 b3 : Pos) : List Stmt :=
  [.Expr (.Call (.Attribute (.Call (.Name "super" a0) [] [] a1) "__init__" a2) [.Constant (.str msg) kk a3] [] a4) a5, .Assign [.Attribute (.Name "self" b0) fld b1] (.Name par b2) b3]
section
variable {prog : Program} {w : World} {A : Around} {K : Frag} {C : Addr} {B newId i : String} {bmB : List Value}
/-- the first store into an exception: its dict is made -/
theorem store1 {R : Result → Shared → Prop} {hp : Heap} {g : Array GenState} {d : Drawn} {t : Nat} {os : OsState} {x t1 : Addr} {name : Str} {tk : Tok} {v : Value} (SF : StoreFacts B bmB "object.__setattr__" "object") (X : K.In hp) (hx : hp.get? x = some (exN C t1 none)) (ov : excOver K C bmB = true) (ht : takerIn K C name = some none) (hh : hasDictIn K C = true)
    (hq : ∀ h' tk' dx, (∀ b o, b ≠ x → hp.get? b = some o → h'.get? b = some o) → hp.objs.size ≤ dx → dx ≠ x → h'.get? x = some (exN C t1 (some dx)) → h'.Ns1 dx (fun y => if y = name then some v else none) → R (.ok (.ret .none)) ⟨h', g, d, tk', os⟩) :
    codeAny (model prog w) A (.call (.builtin "object.__setattr__") ⟨[.ref x, .str name tk, v], []⟩) R ⟨hp, g, d, t, os⟩ := by
  refine osa_openX (od := none) SF X ⟨hx, rfl, rfl, trivial⟩ ov ht fun b => ?_
  obtain ⟨cd, hc, hd⟩ := any_some hh
  have hxs : x ≠ hp.objs.size := Nat.ne_of_lt (Heap.lt_size hx)
  refine wpAny_bind (wpAny_pure (wpAny_bind (instanceDict_exc (s := ⟨hp, g, d, t, os⟩) hx (looks_clsIn X hc) hd ?_)))
  refine HandSPX.store_in_new ⟨_, #[], _, (Heap.get?_update_ne _ _ _ _ hxs.symm).trans (Heap.get?_push_at rfl rfl), rfl, fun e he => absurd he (by simp), fun _ => rfl⟩ fun h' tk' hn' hs => ?_
  have hx₁ : (hp.push (dictOf [] 0)).get? x = some (exN C t1 none) := Heap.get?_push_of_some _ hx
  refine hq h' tk' hp.objs.size (fun b o hb ho => ?_) (Nat.le_refl _) hxs.symm ?_ hn'
  · exact (hs.2 b (Nat.ne_of_lt (Heap.lt_size ho))).trans ((Heap.get?_update_ne _ _ _ _ hb).trans (Heap.get?_push_of_some _ ho))
  · exact (hs.2 x hxs).trans (Heap.get?_update_self _ hx₁ rfl)
end
/-- the two statements' forms (they lean on the lines where they stand) -/
def IForm (msg par fld : Str) (kk : Nat) (a0 a1 a2 a3 a4 a5 b0 b1 b2 b3 : Pos) : Prop :=
  (∀ env : Env, eval (.Call (.Attribute (.Call (.Name "super" a0) [] [] a1) "__init__" a2) [.Constant (.str msg) kk a3] [] a4) env = (do
      let ov ← attributeBase (.Call (.Name "super" a0) [] [] a1) "__init__" env (eval (.Call (.Name "super" a0) [] [] a1) env)
      standAt a2.atName
      let (f, first) ← holding [ov] (getMethod ov "__init__" (do return (← importBound (.Call (.Name "super" a0) [] [] a1) env).getD true))
      callWith a4 f first (backTo a4 (starEach [.Constant (.str msg) kk a3] env)) [])) ∧
  (∀ env : Env, swapsWith (.Call (.Attribute (.Call (.Name "super" a0) [] [] a1) "__init__" a2) [.Constant (.str msg) kk a3] [] a4) none a5.line env = pure false) ∧
  (∀ env : Env, swapsWith (.Name par b2) (some (.Attribute (.Name "self" b0) fld b1)) b3.line env = pure false)
/-- what the written part says of the class at C and of its __init__ -/
structure OInit (P : Program) (K : Frag) (C : Addr) (fld : Str) : Prop where
  ex : ∃ (B newId i : String) (bmB : List Value) (fI cc cda : Addr) (qual par msg file : Str) (tf : Tok) (params : Arguments) (scope : Scope) (kV doc pm ct : Value) (an od : Option Addr) (osl : Array (Option Value)) (kk : Nat) (a0 a1 a2 a3 a4 a5 b0 b1 b2 b3 : Pos)
      (ccl cl : Value) (cdd cld : Option Addr) (vs : Array Value) (ccs csl : Array (Option Value)) (cdD : ClassData),
    ExcBaseFacts B newId i bmB ∧ KxsFacts B i ∧ StoreFacts B bmB "object.__setattr__" "object" ∧
    findIn K (.ref C) "__init__" = some (some (.ref fI)) ∧ K.lookup fI = some ⟨.type "function", od, .func (ksFn "__init__" qual params (ibody msg par fld kk a0 a1 a2 a3 a4 a5 b0 b1 b2 b3) scope .none kV doc pm an (.ref cda) ct cc), osl⟩ ∧
    codeIn K (.ref cda) qual = true ∧ K.lookup cda = some ⟨ccl, cdd, .fields vs, ccs⟩ ∧ vs[2]? = some (.str file tf) ∧ ((P.main.file : Str) == file) = true ∧ (P.main.scope.names.lookup ("super" : Str)).isSome = false ∧
    K.lookup cc = some ⟨cl, cld, .cell (some (.ref C)), csl⟩ ∧ clsIn K C = some cdD ∧ mroIn K C (.ref C) = some true ∧ nsIn K mainGlobals "super" = some none ∧ nsIn K cStatics "thirdparty.any" = some none ∧
    ks_superIn K C C "__init__" = some (some (.builtin i)) ∧ subIn K (.ref C) (.type B) = some true ∧ findIn K (.ref C) "__setattr__" = some (some (.builtin "object.__setattr__")) ∧
    excOver K C bmB = true ∧ takerIn K C fld = some none ∧ hasDictIn K C = true ∧ excInitIn K C bmB newId = true ∧
    (params.posonlyargs ++ params.args).head?.map (·.arg) = some "self" ∧ (∀ a b : Value, bindArgs (ksFn "__init__" qual params (ibody msg par fld kk a0 a1 a2 a3 a4 a5 b0 b1 b2 b3) scope .none kV doc pm an (.ref cda) ct cc) ⟨[a, b], []⟩ = pure ([("self", a), (par, b)] : List (Str × Value))) ∧
    scope.names.lookup ("super" : Str) = some .globalImplicit ∧ scope.names.lookup ("__class__" : Str) = some .free ∧ scope.names.lookup ("self" : Str) = some .local ∧ scope.names.lookup par = some .local ∧ scope.kind = .function ∧ scope.isCoroutine = false ∧ scope.isGenerator = false ∧
    (∀ x ∈ scope.names, x.2 ≠ .cell) ∧ (par == ("self" : Str)) = false ∧ (par == ("__debug__" : Str)) = false ∧ (par == ("__classdict__" : Str)) = false ∧ IForm msg par fld kk a0 a1 a2 a3 a4 a5 b0 b1 b2 b3
theorem oinit_mk {P : Program} {K : Frag} {C : Addr} {fld : Str} {B newId i : String} {bmB : List Value} {fI cc cda : Addr} {qual par msg file : Str} {tf : Tok} {params : Arguments} {scope : Scope} {kV doc pm ct : Value} {an od : Option Addr} {osl : Array (Option Value)} {kk : Nat} {a0 a1 a2 a3 a4 a5 b0 b1 b2 b3 : Pos}
      {ccl cl : Value} {cdd cld : Option Addr} {vs : Array Value} {ccs csl : Array (Option Value)} {cdD : ClassData}
    (h1 : ExcBaseFacts B newId i bmB) (h2 : KxsFacts B i) (h3 : StoreFacts B bmB "object.__setattr__" "object") (h4 : findIn K (.ref C) "__init__" = some (some (.ref fI))) (h5 : K.lookup fI = some ⟨.type "function", od, .func (ksFn "__init__" qual params (ibody msg par fld kk a0 a1 a2 a3 a4 a5 b0 b1 b2 b3) scope .none kV doc pm an (.ref cda) ct cc), osl⟩) (h6 : codeIn K (.ref cda) qual = true) (h7 : K.lookup cda = some ⟨ccl, cdd, .fields vs, ccs⟩) (h8 : vs[2]? = some (.str file tf)) (h9 : ((P.main.file : Str) == file) = true) (h10 : (P.main.scope.names.lookup ("super" : Str)).isSome = false) (h11 : K.lookup cc = some ⟨cl, cld, .cell (some (.ref C)), csl⟩) (h12 : clsIn K C = some cdD) (h13 : mroIn K C (.ref C) = some true) (h14 : nsIn K mainGlobals "super" = some none) (h15 : nsIn K cStatics "thirdparty.any" = some none) (h16 : ks_superIn K C C "__init__" = some (some (.builtin i))) (h17 : subIn K (.ref C) (.type B) = some true) (h18 : findIn K (.ref C) "__setattr__" = some (some (.builtin "object.__setattr__"))) (h19 : excOver K C bmB = true) (h20 : takerIn K C fld = some none) (h21 : hasDictIn K C = true) (h22 : excInitIn K C bmB newId = true) (h23 : (params.posonlyargs ++ params.args).head?.map (·.arg) = some "self") (h24 : (∀ a b : Value, bindArgs (ksFn "__init__" qual params (ibody msg par fld kk a0 a1 a2 a3 a4 a5 b0 b1 b2 b3) scope .none kV doc pm an (.ref cda) ct cc) ⟨[a, b], []⟩ = pure ([("self", a), (par, b)] : List (Str × Value)))) (h25 : scope.names.lookup ("super" : Str) = some .globalImplicit) (h26 : scope.names.lookup ("__class__" : Str) = some .free) (h27 : scope.names.lookup ("self" : Str) = some .local) (h28 : scope.names.lookup par = some .local) (h29 : scope.kind = .function) (h30 : scope.isCoroutine = false) (h31 : scope.isGenerator = false) (h32 : (∀ x ∈ scope.names, x.2 ≠ .cell)) (h33 : (par == ("self" : Str)) = false) (h34 : (par == ("__debug__" : Str)) = false) (h35 : (par == ("__classdict__" : Str)) = false) (h36 : IForm msg par fld kk a0 a1 a2 a3 a4 a5 b0 b1 b2 b3) : OInit P K C fld :=
  ⟨_, _, _, _, _, _, _, _, _, _, _, _, _, _, _, _, _, _, _, _, _, _, _, _, _, _, _, _, _, _, _, _, _, _, _, _, _, _, _, _, h1, h2, h3, h4, h5, h6, h7, h8, h9, h10, h11, h12, h13, h14, h15, h16, h17, h18, h19, h20, h21, h22, h23, h24, h25, h26, h27, h28, h29, h30, h31, h32, h33, h34, h35, h36⟩
section
variable {prog : Program} {w : World} {A : Around} {K : Frag} {C : Addr} {fld : Str} {E : Value → Shared → Prop} {mg mb : Str → Option Value} {hp : Heap} {g : Array GenState} {d : Drawn} {t : Nat} {os : OsState}
theorem call_init (T : OInit prog K C fld) (X : K.In hp) (hg : hp.Ns mainGlobals mg) (hms : mg "super" = none) (hb : hp.Ns builtinsNs mb) (hbs : mb "super" = bootBuiltins "super") (hl : hp.NoLimit) (hr : ∀ us, (A.under (.builtin "type.__call__" ⟨.ref C :: us, []⟩)).depth < recursionLimit) {u : Value} {Q : Value → Shared → Prop}
    (hq : ∀ h' tk' e t1 dx, hp.objs.size ≤ e → hp.objs.size ≤ dx → dx ≠ e → (∀ b o, hp.get? b = some o → h'.get? b = some o) → h'.get? e = some (exN C t1 (some dx)) → h'.Ns1 dx (fun y => if y = fld then some u else none) → Q (.ref e) ⟨h', g, d, tk', os⟩) :
    wpAny (model prog w) A (call (.ref C) [u]) Q E ⟨hp, g, d, t, os⟩ := by
  obtain ⟨B, newId, i, bmB, fI, cc, cda, qual, par, msg, file, tf, params, scope, kV, doc, pm, ct, an, od, osl, kk, a0, a1, a2, a3, a4, a5, b0, b1, b2, b3, ccl, cl, cdd, cld, vs, ccs, csl, cdD, FB, KF, SF, iC, lI, hcd, lcd, hvs, hfile, htop, lcc, hD, hsub, hsu, hth, hsi, hB, hsa, hov, htk, hhd, hin, hps, hbi, n1, n2, n3, n4, hk, hco, hgen, hcell, p1, p2, p3, f1, f2, f3⟩ := T
  obtain ⟨nm, N', qn, bs, bm, hdct, sn, sub, ab, col, dd, k0, k1, k2, k3, k5, hC, hT⟩ := excInit_of X hin
  have oI : hp.get? fI = _ := X _ _ lI
  have kk2 : ∀ b o, hp.get? b = some o → ((hp.push (PySem.W.kdv_tup [u])).push (PX.excO C hp.objs.size)).get? b = some o := fun b o e => Heap.get?_push_of_some _ (Heap.get?_push_of_some _ e)
  have hget : ((hp.push (PySem.W.kdv_tup [u])).push (PX.excO C hp.objs.size)).get? (hp.objs.size + 1) = some (PX.excO C hp.objs.size) := by heap_get
  have sz2 : ((hp.push (PySem.W.kdv_tup [u])).push (PX.excO C hp.objs.size)).objs.size = hp.objs.size + 2 := by rw [Heap.size_push, Heap.size_push]
  refine wpAny_call (PX.call_own FB hT hC (looks_findIn X iC) (fun self => exc_bind oI rfl self) (by show 1 ≤ sizeLine; rw [sizeLine_eq]; omega) ?_)
  refine ks_codeAny_call_defAt (o := _) (fd := ksFn "__init__" qual params (ibody msg par fld kk a0 a1 a2 a3 a4 a5 b0 b1 b2 b3) scope .none kV doc pm an (.ref cda) ct cc) (binds := ([("self", .ref (hp.objs.size + 1)), (par, u)] : List (Str × Value))) (hr [u]) (kk2 _ _ oI) rfl (hl.keeps kk2) (codeRec_of (X.keeps kk2) hcd) rfl (.of_eq (hbi _ _)) hcell
    (fun y hy => by
      rcases List.mem_cons.mp hy with rfl | hy
      · exact n3
      · rw [List.mem_singleton.mp hy]; exact n4) (fun h1 hns hk1 => ?_) hco hgen hk
  rw [sz2] at hns
  rw [show ((hp.push (PySem.W.kdv_tup [u])).push (PX.excO C hp.objs.size)).objs.size = hp.objs.size + 2 from sz2]
  have k1' : ∀ b o, hp.get? b = some o → h1.get? b = some o := fun b o e => hk1 b o (kk2 b o e)
  have F : Fr hp (hp.objs.size + 2) h1 (fun x => ([("self", .ref (hp.objs.size + 1)), (par, u)] : List (Str × Value)).reverse.lookup x) := ⟨hns, k1', by omega⟩
  have N : News hp (hp.objs.size + 2) h1 [(hp.objs.size + 1, excObj C hp.objs.size none .none)] := fun p hp' => by
    rw [List.mem_singleton.mp hp']
    exact ⟨hk1 _ _ hget, by show hp.objs.size + 1 ≠ hp.objs.size + 2; omega, Heap.get?_none_of_le (by omega)⟩
  have p1' : (("self" : Str) == par) = false := by rw [beq_eq_false_iff_ne] at p1 ⊢; exact fun e => p1 e.symm
  have vself : (fun x => ([("self", .ref (hp.objs.size + 1)), (par, u)] : List (Str × Value)).reverse.lookup x) "self" = some (.ref (hp.objs.size + 1)) := by
    show List.lookup ("self" : Str) [(par, u), ("self", .ref (hp.objs.size + 1))] = _
    rw [List.lookup_cons, p1', List.lookup_cons]
    rfl
  have vpar : (fun x => ([("self", .ref (hp.objs.size + 1)), (par, u)] : List (Str × Value)).reverse.lookup x) par = some u := by
    show List.lookup par [(par, u), ("self", .ref (hp.objs.size + 1))] = _
    rw [List.lookup_cons, beq_self_eq_true]
  show PySem.wpAt _ _ (.func _ (ksEnv qual scope (hp.objs.size + 2) fI (.ref cda) cc)) (execs (ibody msg par fld kk a0 a1 a2 a3 a4 a5 b0 b1 b2 b3) (ksEnv qual scope (hp.objs.size + 2) fI (.ref cda) cc)) _ _ _
  have henv : ∀ x k, scope.names.lookup x = some k → (ksEnv qual scope (hp.objs.size + 2) fI (.ref cda) cc).kindOf x = some k := fun x k h => h
  obtain ⟨ar, har, hself⟩ := Option.map_eq_some_iff.mp hps
  have hself : ar.arg = "self" := hself
  have hint : interactive (ksEnv qual scope (hp.objs.size + 2) fI (.ref cda) cc) = false := by
    have hk2 : (ksEnv qual scope (hp.objs.size + 2) fI (.ref cda) cc).scope.kind = .function := hk
    unfold interactive
    rw [hk2]
    rfl
  refine ks_wpAt_execs_cons (ks_wpAt_Expr_any (ks_wpAt_MethodCall ?_ (f1 _)) hint (f2 _))
  refine ks_wpAt_super_base (env := ksEnv qual scope (hp.objs.size + 2) fI (.ref cda) cc) (henv _ _ n1) (henv _ _ n2) (by decide) rfl (k1' _ _ oI) rfl har rfl (k1' _ _ (X _ _ lcd)) rfl hvs hfile htop ?_
  rw [hself]
  refine ks_loadName_global hk (henv _ _ n1) (loadGlobal_builtin (env := ksEnv qual scope (hp.objs.size + 2) fI (.ref cda) cc) (hg.keeps k1') hms (hb.keeps k1') (hbs.trans (by decide +kernel)) ⟨rfl, ?_⟩)
  refine wpAny_loadName_free hk (henv _ _ n2) rfl ⟨_, k1' _ _ (X _ _ lcc), rfl⟩ ?_
  refine wpAny_loadName_local hk (henv _ _ n3) F.ns vself ?_
  have hx1 : h1.get? (hp.objs.size + 1) = some (excObj C hp.objs.size none .none) := hk1 _ _ hget
  refine ks_wpAny_isType_cls (k1' _ _ hC) rfl ⟨rfl, ?_⟩
  refine ks_wpAny_call_super (k1' _ _ hC) rfl hx1 rfl (fun c e => by cases e) (looks_mroIn (X.keeps k1') hsub) (fun h2 e2 k2 => ?_)
  obtain ⟨F2, N2, l2⟩ := ks_newsPush (s := ⟨h1, g, d, t, os⟩) F N rfl e2 k2
  have ne2 : h1.objs.size ≠ hp.objs.size + 1 := fun z => absurd (l2 (hp.objs.size + 1, excObj C hp.objs.size none .none) (List.mem_cons_self ..)) (by rw [z]; exact Nat.lt_irrefl _)
  refine kxs_method (so := h1.objs.size) KF F2 X N2 (by simp) (show W.InstAt h2 (hp.objs.size + 1) (excObj C hp.objs.size none .none) C none from ⟨k2 _ _ hx1, rfl, rfl, trivial⟩) hth hsi hB (by decide) (fun q h3 F3 N3 l3 => ?_)
  refine kxs_callWith1 (i := i) (x := hp.objs.size + 1) N3 (by simp) ?_
  show wpAny _ _ (spliced ((false, eval (.Constant (.str msg) kk a3) _) :: backTo a4 (starEach [] _))) _ _ _
  refine Calls.spliced_cons (wpAny_Constant_str ?_)
  refine Calls.spliced_nil ⟨kxs_at N3 (by simp), ?_⟩
  have nq1 : q ≠ h1.objs.size := fun z => absurd (l3 _ (List.mem_cons_self ..)) (by rw [z]; exact Nat.lt_irrefl _)
  have nq2 : q ≠ hp.objs.size + 1 := fun z => absurd (l3 (hp.objs.size + 1, excObj C hp.objs.size none .none) (by simp)) (by rw [z]; exact Nat.lt_irrefl _)
  refine kxs_call (x := hp.objs.size + 1) (t := hp.objs.size) (C := C) (dv := none) (c2 := .none) F3 X N3 FB hin (by simp) (.tail nq2 (.tail ne2 (.head (by simp)))) (by show 1 ≤ sizeLine; rw [sizeLine_eq]; omega) (fun t4 h4 F4 N4 l4 => ?_)
  have hx4 : h4.get? (hp.objs.size + 1) = some (excObj C t4 none .none) := (N4 (hp.objs.size + 1, excObj C t4 none .none) (by simp)).1
  show PySem.wpAt _ _ _ (execs _ _) _ _ _
  refine ks_wpAt_execs_cons (ks_wpAt_Assign_Attr (wpAt_of_wpAny (wpAny_Name (wpAny_loadName_local hk (henv _ _ n4) F4.ns vpar (wpAny_Name (wpAny_loadName_local hk (henv _ _ n3) F4.ns vself ?_) (by decide))) p2)) (f3 _))
  have X4 : K.In h4 := X.keeps F4.keep
  refine set_plain (od := none) X4 ⟨hx4, rfl, rfl, trivial⟩ hsa (store1 SF X4 hx4 hov htk hhd fun h5 tk5 dx k5 s5 ne5 e5 ns5 => ?_)
  refine wpAt_of_wpAny ?_
  show wpAny _ _ (pure Flow.next) _ _ _
  refine wpAny_pure ?_
  have k6 : ∀ b o, hp.get? b = some o → h5.get? b = some o := fun b o e => k5 b o (fun z => by rw [z, Heap.get?_none_of_le (Nat.le_succ _)] at e; cases e) (F4.keep b o e)
  have s4 : hp.objs.size ≤ h4.objs.size := Nat.le_trans (Nat.le_succ _) (Nat.le_of_lt (Heap.lt_size hx4))
  exact ⟨rfl, hq h5 tk5 (hp.objs.size + 1) t4 dx (Nat.le_succ _) (Nat.le_trans s4 s5) ne5 k6 e5 ns5⟩
end
end OwnI

namespace DL
open PySem PySem.Spec PyProof.Rows L2
variable [HasT]
/-- C(e) .. raised: its argument becomes its field -/
def tRaiO (K : PySem.W.Frag) (te : TE) (c fld : Str) (E : XK) : TS := fun _ σ H => te σ H fun v H1 => ∀ d, H1 d = none → E (.ref (cA K c)) (some d) (upd H1 d (.xd [(fld, v)]))
/-- what is known of the class named c -/
structure OwnA (P : Program) (K : PySem.W.Frag) (mg : Str → Option Value) (c fld : Str) : Prop where
  gl : mg c = some (.ref (cA K c))
  sup : mg "super" = none
  ini : OwnI.OInit P K (cA K c) fld
  kp : PySem.W.keepIn K (.ref (cA K c)) = true
  sb : PySem.W.subIn K (.ref (cA K c)) (.type "BaseException") = some true
  ty : PySem.W.typeIn K (.ref (cA K c)) = some (.type "type")
  fld : fld ≠ ""
theorem ownA_mk {P : Program} {K : PySem.W.Frag} {mg : Str → Option Value} {c fld : Str} {C : Addr} {h : Heap} (X : K.In h) (G : h.Ns mainGlobals mg) (a : PySem.W.nsIn K mainGlobals c = some (some (.ref C))) (o : OwnI.OInit P K C fld) (su : PySem.W.nsIn K mainGlobals "super" = some none) (k : PySem.W.keepIn K (.ref C) = true)
    (s : PySem.W.subIn K (.ref C) (.type "BaseException") = some true) (t : PySem.W.typeIn K (.ref C) = some (.type "type")) (hf : fld ≠ "") : OwnA P K mg c fld := by
  have ec := cA_of a
  exact ⟨by rw [ec]; exact PySem.W.mg_of X G a, PySem.W.mg_none_of X G su, by rw [ec]; exact o, by rw [ec]; exact k, by rw [ec]; exact s, by rw [ec]; exact t, hf⟩
/-- what is known of its field -/
structure FldA (K : PySem.W.Frag) (c fld : Str) : Prop where
  ne : fld ≠ ""
  xf : XfC K (cA K c)
  no : PySem.W.findIn K (.ref (cA K c)) fld = some none
theorem fldA_mk {K : PySem.W.Frag} {c fld : Str} {C : Addr} (a : PySem.W.nsIn K mainGlobals c = some (some (.ref C))) (x : xfB K C = true) (n : PySem.W.findIn K (.ref C) fld = some none) (hf : fld ≠ "") : FldA K c fld := by
  have ec := cA_of a
  exact ⟨hf, by rw [ec]; exact xfB_ok x, by rw [ec]; exact n⟩
section
variable {X : Cx} {c fld : Str} {e : Expr} {te : TE} {p pos pos' : Pos} {k : Nat}
theorem pmk_own (T : OwnA X.prog X.K X.mg c fld) (hr : Room (k + 1) X.A) (he : PE X e te) (hg : Gl X c := by rfl) (hs : starEach [e] X.env = (false, eval e X.env) :: starEach [] X.env := by rfl) (hdb : (c == ("__debug__" : Str)) = false := by decide) :
    PMk X (.Call (.Name c p) [e] [] pos) (fun σ H Q => te σ H fun v H1 => ∀ d, H1 d = none → Q (.ref (cA X.K c)) (some d) (upd H1 d (.xd [(fld, v)]))) := by
  intro pins s σ H Q I h
  refine wpAny_Call_Name_kw (ld_glob I hg T.gl ?_ hdb)
  refine PySem.W.callWith_K (h₀ := X.base) I.ok.mod.kin T.kp ?_ hs (by rfl)
  rw [hs]
  show wpAny _ _ (spliced ((false, eval e X.env) :: backTo pos (starEach [] X.env))) _ _ s
  refine Calls.spliced_cons (thn (he.run pins s σ H _ I h) fun u s1 ⟨v, H1, I1, r1, q1⟩ => ?_)
  refine Calls.spliced_nil ⟨I1.kIn, ?_⟩
  show wpAny _ _ (call (.ref (cA X.K c)) [u]) _ _ _
  obtain ⟨mb, b1, b2⟩ := I1.mod.blt
  obtain ⟨hp, g, dr, tk, os⟩ := s1
  refine OwnI.call_init T.ini I1.kIn (I1.mod.glob.keeps I1.bk) T.sup (b1.keeps I1.bk) (b2 _ (by decide)) (I1.mod.nolimit.keeps I1.bk) (fun us => (hr.make _ us []).depth) fun h' tk' a t1 dx ha hdx hne k' he' hns => ?_
  obtain ⟨G, g1, g2⟩ := restrict h' fun b => decide (b ≠ a)
  have gk : ∀ b, b ≠ a → G.get? b = h'.get? b := fun b hb => g1 b (decide_eq_true hb)
  have ge : G.get? a = none := g2 a (by simp)
  have kG : ∀ b o, hp.get? b = some o → G.get? b = some o := fun b o z => by
    have hb : b ≠ a := Nat.ne_of_lt (Nat.lt_of_lt_of_le (Heap.lt_size z) ha)
    rw [gk b hb]
    exact k' b o z
  have hd1 : H1 dx = none := I1.hok.fresh hdx
  have ha1 : H1 a = none := I1.hok.fresh ha
  have J : Inv X pins σ (upd H1 dx (.xd [(fld, v)])) ⟨G, g, dr, tk', os⟩ := I1.laid (t' := tk') (a := dx) (o := .xd [(fld, v)]) (h' := G) kG hdx
    ⟨_, hns.at fun o z => (gk dx hne).trans z, fun y => by
      by_cases ey : y = fld
      · subst ey
        rw [if_pos rfl, List.lookup_cons, beq_self_eq_true]
        exact r1
      · rw [if_neg ey, List.lookup_cons, beq_eq_false_iff_ne.mpr ey]
        trivial⟩
  refine ⟨a, _, _, ⟨G, g, dr, tk', os⟩, _, .ref (cA X.K c), some dx, rfl, J, fun b o z => ?_, ge, he', ⟨rfl, rfl⟩, rfl, rfl, ?_, rfl, I1.bare, raises_own T.sb T.ty, q1 dx hd1⟩
  · by_cases hba : b = a
    · rw [hba, ge] at z
      cases z
    · exact (gk b hba).symm.trans z
  · rw [upd_ne (Ne.symm hne)]
    exact ha1
theorem ps_raiseO {K : PySem.W.Frag} {E : XK} (hK : X.K = K) (T : OwnA X.prog X.K X.mg c fld) (hr : Room (k + 1) X.A) (hc : X.calm = true) (tk : Takes X (fun cls d _ H => E cls d H)) (he : PE X e te)
    (hg : Gl X c := by rfl) (hs : starEach [e] X.env = (false, eval e X.env) :: starEach [] X.env := by rfl) (hdb : (c == ("__debug__" : Str)) = false := by decide) :
    PS X (.Raise (some (.Call (.Name c p) [e] [] pos)) none pos') (tRaiO K te c fld E) := by
  subst hK
  exact ps_raise hc tk (pmk_own T hr he hg hs hdb)
end
section
variable {K : PySem.W.Frag} {ρ : List Sl} {P : PD} {te : TE}
theorem sd_raiseO {c fld : Str} {E : XK} (hE : P.xe = E) (h : ED K ρ te fun a ρ1 => ∃ x, a = .d x ∧ P.xp (.exc c fld x)) : SD K ρ (tRaiO K te c fld E) P := by
  subst hE
  intro G F H σ f e Dn k
  refine h G F H σ f e _ fun v a ρ1 G1 F1 H1 s sh e1 o w ⟨x, ha, q⟩ => ?_
  subst ha
  intro d hd
  have f1 := s.fr
  have f2 := f1.newG (p := d) (o := .xd [(fld, v)]) hd
  have sm : Same G1 (upd G1 d (.xd [(fld, v)])) := fun b u hb => by
    have : b ≠ d := fun z => by rw [z] at hb; rw [f1.g _ _ hb] at hd; cases hd
    rw [upd_ne this]; exact hb
  refine k.ex _ _ _ (upd G1 d (.xd [(fld, v)])) F1 _ ⟨?_, f2, s.keep⟩ ⟨c, fld, x, rfl, rfl, .inr ⟨d, v, rfl, upd_same, o.mono sm⟩⟩ q
  exact s.ex.trans sm
end
end DL
namespace DL
open PySem PySem.Spec PyProof.Rows L2
variable [HasT]
/-! ### is None -/
def nonB : D → Bool
  | .non => true
  | _ => false
theorem rep_nonB {K : PySem.W.Frag} {G : Hp} {v : V} {x : D} (h : Rep K G v x) : decide (v = .non) = nonB x := by
  cases h <;> first | rfl | (simp [nonB])
section
variable {K : PySem.W.Frag} {x : D} {post : Rs → Prop}
theorem od_isNB (q : post (.d (.bl (nonB x)))) : OD K rIsN x .non post := by
  intro G F H v w f rx ry Q k
  have e := rep_nonB (rx.rep f.g)
  have ew : w = .non := by
    have r := ry.rep f.g
    cases r
    rfl
  refine ⟨ew, ?_⟩
  rw [e]
  exact k _ (.d (.bl _)) G F H (.refl _) (.refl _) f (Rep.bl _) q
theorem od_notNB (q : post (.d (.bl (!nonB x)))) : OD K rNotN x .non post := by
  intro G F H v w f rx ry Q k
  have e := rep_nonB (rx.rep f.g)
  have ew : w = .non := by
    have r := ry.rep f.g
    cases r
    rfl
  refine ⟨ew, ?_⟩
  rw [e]
  exact k _ (.d (.bl _)) G F H (.refl _) (.refl _) f (Rep.bl _) q
end
theorem nonB_exc {c n : Str} {y : D} : nonB (.exc c n y) = false := rfl
theorem red_take {s : List Nat} (n : Nat) (h : Red s) : Red (s.take n) := by
  have := red_app (s := s.take n) (t := s.drop n)
  rw [List.take_append_drop] at this
  exact (this.mp h).1
theorem take_al {s : List Nat} {r : Int} (n : Nat) (h : ∀ c ∈ s, c ∈ alph r) : ∀ c ∈ s.take n, c ∈ alph r := fun c hc => h c (List.mem_of_mem_take hc)
theorem take_len (s : List Nat) (n : Nat) : (s.take n).length ≤ n ∧ (s.take n).length ≤ s.length := by rw [List.length_take]; omega
theorem free_al {s : List Nat} {r : Int} (h : ∀ c ∈ s, c ∈ alph r) : ∀ c ∈ freeW s, c ∈ alph r := fun c hc => h c (free_mem hc)
theorem app_al {s t : List Nat} {r : Int} (h : ∀ c ∈ s, c ∈ alph r) (h2 : ∀ c ∈ t, c ∈ alph r) : ∀ c ∈ s ++ t, c ∈ alph r := fun c hc => (List.mem_append.mp hc).elim (h c) (h2 c)
/-- the product of three, in both orders -/
theorem free_assoc (a b c : List Nat) : freeW (freeW (a ++ b) ++ c) = freeW (a ++ b ++ c) ∧ freeW (a ++ freeW (b ++ c)) = freeW (a ++ b ++ c) := by
  refine ⟨free_app_l _ _, ?_⟩
  rw [free_app_r, List.append_assoc]
theorem free_undo_r {a b : List Nat} (h : Red a) : freeW (freeW (a ++ b) ++ invW b) = a := by
  rw [free_app_l, List.append_assoc, ← free_app_r, free_inv_r, List.append_nil, free_of_red h]
theorem free_undo_l {a b : List Nat} (h : Red b) : freeW (invW a ++ freeW (a ++ b)) = b := by
  rw [free_app_r, ← List.append_assoc, ← free_app_l, free_inv_l, List.nil_append, free_of_red h]
end DL
namespace DL
open PySem PySem.Spec PyProof.Rows L2
variable [HasT]
/-! ### str(100), texts of letters only, deleting pairs -/
theorem c_strI {X : Cx} : CallR X (.type "str") rReprI := call_str_int
theorem cd_str100 {K : PySem.W.Frag} {post : Rs → Prop} (q : post (.d (.str [49, 48, 48]))) : CD K rReprI [.int 100] post := cd_reprI (by decide) (by rw [show (toString (100 : Int) : Str).cps.toList = [49, 48, 48] by decide +kernel]; exact q)
theorem hlo_iff {r : Int} {s : List Nat} : hlo r (.str s) = true ↔ ∀ c ∈ s, c ∈ alph r := by
  show ((s.map fun c => decide (c ∈ alph r)).all id) = true ↔ _
  rw [List.all_map, List.all_eq_true]
  exact ⟨fun h c hc => of_decide_eq_true (h c hc), fun h c hc => decide_eq_true (h c hc)⟩
theorem hlo_no {r : Int} {s : List Nat} {c : Nat} (h1 : c ∈ s) (h2 : c ∉ alph r) : hlo r (.str s) = false := by
  cases e : hlo r (.str s) with
  | false => rfl
  | true => exact absurd (hlo_iff.mp e c h1) h2
theorem not_alph {r : Int} {c : Nat} (h : c ∉ al) : c ∉ alph r := fun z => h (alph_al z)
/-- the places of adjacent inverses -/
def pairF (t : List Nat) (k : Nat) : Option Int := if t[k]? = (t[k + 1]?).map flipC then some (k : Int) else none
def pairsW (t : List Nat) : List Int := (List.range (t.length - 1)).filterMap (pairF t)
theorem pairs_mem {t : List Nat} {v : Int} (h : v ∈ pairsW t) : ∃ (k a : Nat), v = k ∧ k + 1 < t.length ∧ t = t.take k ++ [flipC a, a] ++ t.drop (k + 2) := by
  obtain ⟨k, hk, e⟩ := List.mem_filterMap.mp h
  have hk2 : k < t.length - 1 := List.mem_range.mp hk
  unfold pairF at e
  split at e
  · rename_i hc
    cases e
    have h1 : k < t.length := by omega
    have h2 : k + 1 < t.length := by omega
    rw [List.getElem?_eq_getElem h1, List.getElem?_eq_getElem h2] at hc
    have hc : t[k] = flipC t[k + 1] := by simpa using hc
    refine ⟨k, t[k + 1], rfl, h2, ?_⟩
    rw [← hc]
    have e1 : t.drop k = t[k] :: t.drop (k + 1) := List.drop_eq_getElem_cons h1
    have e2 : t.drop (k + 1) = t[k + 1] :: t.drop (k + 2) := List.drop_eq_getElem_cons h2
    rw [List.append_assoc]
    show t = t.take k ++ (t[k] :: t[k + 1] :: t.drop (k + 2))
    rw [← e2, ← e1, List.take_append_drop]
  · cases e
theorem pairs_nil {t : List Nat} (h : pairsW t = []) : Red t := fun k a b h1 h2 e => by
  have l2 := (List.getElem?_eq_some_iff.mp h2).1
  have := List.filterMap_eq_nil_iff.mp h k (List.mem_range.mpr (by omega))
  unfold pairF at this
  rw [h1, h2, if_pos (by rw [e]; rfl)] at this
  cases this
theorem pairs_del {t : List Nat} {k a : Nat} (e : t = t.take k ++ [flipC a, a] ++ t.drop (k + 2)) : freeW (t.take k ++ t.drop (k + 2)) = freeW t := by
  have := free_pair (t.take k) (t.drop (k + 2)) (flipC a)
  rw [DL.flip_flip] at this
  rw [← e] at this
  exact this.symm
end DL
namespace DL
open PySem PySem.Spec PyProof.Rows L2
variable [HasT]
section
variable {K : PySem.W.Frag} {post : Rs → Prop}
theorem od_mulT {i j : Int} {a b : Nat} (h1 : i.natAbs ≤ a) (h2 : j.natAbs ≤ b) (ha : a < 10 ^ 200) (hb : b < 10 ^ 200) (q : post (.d (.int (i * j)))) : OD K (rMulP K) (.int i) (.int j) post :=
  od_mul_int (cmulW (Nat.lt_of_le_of_lt h1 ha) (Nat.lt_of_le_of_lt h2 hb)) q
theorem od_mulC {i j : Int} (h1 : i.natAbs ≤ 1000000000) (h2 : j.natAbs ≤ 1000000000) (q : post (.d (.int (i * j)))) : OD K (rMulP K) (.int i) (.int j) post :=
  od_mul_int (cmulW (Nat.lt_of_le_of_lt h1 (by decide +kernel)) (Nat.lt_of_le_of_lt h2 (by decide +kernel))) q
/-- an item of a list, of which only a property is kept -/
theorem od_ix_lstP {ds : List D} {v : Int} (Pz : D → Prop) (h : ∀ x ∈ ds, Pz x) (h0 : 0 ≤ v) (h1 : v < ds.length) (q : ∀ x, Pz x → post (.d x)) : OD K (rIx K) (.lst ds) (.int v) post := by
  obtain ⟨z, hz1, hz2⟩ := atI_mem h0 h1
  exact od_ix_lst hz1 (q z (h z hz2))
theorem od_ix_tupP {ds : List D} {v : Int} (Pz : D → Prop) (h : ∀ x ∈ ds, Pz x) (h0 : 0 ≤ v) (h1 : v < ds.length) (q : ∀ x, Pz x → post (.d x)) : OD K (rIx K) (.tup ds) (.int v) post := by
  obtain ⟨z, hz1, hz2⟩ := atI_mem h0 h1
  exact od_ix_tup hz1 (q z (h z hz2))
end
section
/-- a statement by what holds behind it -/
theorem sd_cut {K : PySem.W.Frag} {ρ : List Sl} {ts : TS} {P : PD} (M : List Sl → Prop) (h : SD K ρ ts { P with nx := M }) (g : ∀ ρ1, M ρ1 → P.nx ρ1) : SD K ρ ts P :=
  fun G F H σ f e Dn k => h G F H σ f e Dn { k with nx := fun ρ' σ' G' F' H' a b c => k.nx ρ' σ' G' F' H' a b (g ρ' c) }
end
section
theorem sd_asgTT {K : PySem.W.Frag} {ρ : List Sl} {P : PD} {te : TE} {n : Nat} {g : TGs} (h : EP K ρ te fun x ρ1 => ∃ ps, GT K (gTup K n g) x ps ∧ P.nx (setS ρ1 ps)) : SD K ρ (tAsg te (gTup K n g)) P := sd_asgT h
end
section
/-- a list written out, times a number -/
def tMulL (K : PySem.W.Frag) (ta tb : TE) : TE := tOp (rMulP K) ta tb
theorem pe_mulL {X : Cx} {e : Expr} {K : PySem.W.Frag} {ta tb : TE} (h : PE X e (tOp (rMulP K) ta tb)) : PE X e (tMulL K ta tb) := h
theorem ed_mulLL {K : PySem.W.Frag} {ρ : List Sl} {ta tb : TE} {post : Ar → List Sl → Prop} (h : ED K ρ ta fun a ρ1 => ED K ρ1 tb fun b ρ2 => ∃ p ds k, a = .n p (.lst ds) ∧ b = .d (.int k) ∧ -(2 ^ 63) ≤ k ∧ k < 2 ^ 63 ∧ ds.length * k.toNat ≤ sizeLine ∧
    ∀ p2, post (.n p2 (.lst (List.replicate k.toNat ds).flatten)) ρ2) : ED K ρ (tMulL K ta tb) post := ed_mulL h
end
section
/-- a walk over what is a list or a tuple -/
def iSeq (K : PySem.W.Frag) (te : TE) : TI := fun σ H R => iList K te σ H R ∨ iTup K te σ H R
theorem pi_seq {X : Cx} {tg e : Expr} {K : PySem.W.Frag} {te : TE} (h1 : PI X tg e (iList K te)) (h2 : PI X tg e (iTup K te)) : PI X tg e (iSeq K te) :=
  ⟨fun pins s σ H R I h => h.elim (h1.run pins s σ H R I) (h2.run pins s σ H R I)⟩
theorem ei_seqL {K : PySem.W.Frag} {ρ : List Sl} {te : TE} {post : List D → List Sl → Prop} (h : EP K ρ te (isLst post)) : EI K ρ (iSeq K te) post := fun G F H σ f e R k => .inl (ei_list h G F H σ f e R k)
theorem ei_seqT {K : PySem.W.Frag} {ρ : List Sl} {te : TE} {post : List D → List Sl → Prop} (h : EP K ρ te (isTup post)) : EI K ρ (iSeq K te) post := fun G F H σ f e R k => .inr (ei_tup h G F H σ f e R k)
end
end DL
namespace DL
open PySem PySem.Spec PySem.W PyProof.Rows L2
variable [HasT]
/-! ### tables: matrices of two rows -/
structure M2 where
  p : Int
  q : Int
  u : Int
  v : Int
def tabD (m : M2) : D := .tup [.tup [.int m.p, .int m.q], .tup [.int m.u, .int m.v]]
def M2.mul (m n : M2) : M2 := ⟨m.p * n.p + m.q * n.u, m.p * n.q + m.q * n.v, m.u * n.p + m.v * n.u, m.u * n.q + m.v * n.v⟩
def M2.inv (m : M2) : M2 := ⟨m.v, -m.q, -m.u, m.p⟩
def M2.one : M2 := ⟨1, 0, 0, 1⟩
def M2.det (m : M2) : Int := m.p * m.v - m.q * m.u
def M2.tr (m : M2) : Int := m.p + m.v
def Bd (m : M2) (b : Nat) : Prop := m.p.natAbs ≤ b ∧ m.q.natAbs ≤ b ∧ m.u.natAbs ≤ b ∧ m.v.natAbs ≤ b
theorem M2.ext' {m n : M2} (h1 : m.p = n.p) (h2 : m.q = n.q) (h3 : m.u = n.u) (h4 : m.v = n.v) : m = n := by cases m; cases n; simp_all
theorem mul_assoc' (a b c : M2) : (a.mul b).mul c = a.mul (b.mul c) := by
  apply M2.ext' <;> simp only [M2.mul] <;> grind
theorem one_mul' (a : M2) : M2.one.mul a = a := by apply M2.ext' <;> simp only [M2.mul, M2.one] <;> grind
theorem mul_one' (a : M2) : a.mul M2.one = a := by apply M2.ext' <;> simp only [M2.mul, M2.one] <;> grind
theorem mul_inv' {a : M2} (h : a.det = 1) : a.mul a.inv = M2.one := by
  unfold M2.det at h
  apply M2.ext' <;> simp only [M2.mul, M2.one, M2.inv] <;> grind
theorem inv_mul' {a : M2} (h : a.det = 1) : a.inv.mul a = M2.one := by
  unfold M2.det at h
  apply M2.ext' <;> simp only [M2.mul, M2.one, M2.inv] <;> grind
theorem inv_inv' (a : M2) : a.inv.inv = a := by apply M2.ext' <;> simp only [M2.inv] <;> grind
theorem inv_of_mul (a b : M2) : (a.mul b).inv = b.inv.mul a.inv := by apply M2.ext' <;> simp only [M2.mul, M2.inv] <;> grind
theorem det_mul (a b : M2) : (a.mul b).det = a.det * b.det := by simp only [M2.mul, M2.det]; grind
theorem det_inv (a : M2) : a.inv.det = a.det := by simp only [M2.inv, M2.det]; grind
theorem det_one : M2.one.det = 1 := rfl
theorem tr_comm (a b : M2) : (a.mul b).tr = (b.mul a).tr := by simp only [M2.mul, M2.tr]; grind
theorem inv_one' : M2.one.inv = M2.one := rfl
theorem mulAbs {x y : Int} {a b : Nat} (h1 : x.natAbs ≤ a) (h2 : y.natAbs ≤ b) : (x * y).natAbs ≤ a * b := by
  rw [Int.natAbs_mul]; exact Nat.mul_le_mul h1 h2
theorem bd_mul {m n : M2} {a b : Nat} (h1 : Bd m a) (h2 : Bd n b) : Bd (m.mul n) (2 * a * b) := by
  obtain ⟨m1, m2, m3, m4⟩ := h1
  obtain ⟨n1, n2, n3, n4⟩ := h2
  have key : ∀ x y z w : Int, x.natAbs ≤ a → y.natAbs ≤ b → z.natAbs ≤ a → w.natAbs ≤ b → (x * y + z * w).natAbs ≤ 2 * a * b := fun x y z w e1 e2 e3 e4 => by
    have h1 := mulAbs e1 e2
    have h2 := mulAbs e3 e4
    have := Int.natAbs_add_le (x * y) (z * w)
    have e : 2 * a * b = a * b + a * b := by rw [Nat.mul_assoc, Nat.two_mul]
    omega
  exact ⟨key _ _ _ _ m1 n1 m2 n3, key _ _ _ _ m1 n2 m2 n4, key _ _ _ _ m3 n1 m4 n3, key _ _ _ _ m3 n2 m4 n4⟩
theorem bd_inv {m : M2} {b : Nat} (h : Bd m b) : Bd m.inv b := by
  obtain ⟨h1, h2, h3, h4⟩ := h
  refine ⟨h4, ?_, ?_, h1⟩
  · show (-m.q).natAbs ≤ b; omega
  · show (-m.u).natAbs ≤ b; omega
theorem bd_one {b : Nat} (h : 1 ≤ b) : Bd M2.one b := by refine ⟨?_, ?_, ?_, ?_⟩ <;> (unfold M2.one; simp) <;> omega
theorem Bd.mono {m : M2} {a b : Nat} (h : Bd m a) (l : a ≤ b) : Bd m b := ⟨Nat.le_trans h.1 l, Nat.le_trans h.2.1 l, Nat.le_trans h.2.2.1 l, Nat.le_trans h.2.2.2 l⟩
/-- the table of a letter -/
def valT (ms : List M2) (c : Nat) : M2 := if islC c then ms.getD (numC c) M2.one else (ms.getD (numC c) M2.one).inv
def valM (ms : List M2) (s : List Nat) : M2 := s.foldl (fun m c => m.mul (valT ms c)) M2.one
def Ts (ms : List M2) : Prop := ∀ m ∈ ms, m.det = 1
def Tb (ms : List M2) (b : Nat) : Prop := 1 ≤ b ∧ ∀ m ∈ ms, Bd m b
section
variable {ms : List M2}
theorem fold_mul (m : M2) : ∀ s : List Nat, s.foldl (fun m c => m.mul (valT ms c)) m = m.mul (valM ms s) := by
  intro s
  induction s generalizing m with
  | nil => exact (mul_one' m).symm
  | cons c s ih =>
    show s.foldl _ (m.mul (valT ms c)) = m.mul (s.foldl _ (M2.one.mul (valT ms c)))
    rw [ih, ih (M2.one.mul (valT ms c)), one_mul', mul_assoc']
theorem valM_nil : valM ms [] = M2.one := rfl
theorem valM_one (c : Nat) : valM ms [c] = valT ms c := one_mul' _
theorem valM_app (s t : List Nat) : valM ms (s ++ t) = (valM ms s).mul (valM ms t) := by
  unfold valM; rw [List.foldl_append]; exact fold_mul _ _
theorem valM_snoc (s : List Nat) (c : Nat) : valM ms (s ++ [c]) = (valM ms s).mul (valT ms c) := by rw [valM_app, valM_one]
theorem getD_mem (n : Nat) : ms.getD n M2.one ∈ ms ∨ ms.getD n M2.one = M2.one := by
  rw [List.getD_eq_getElem?_getD]
  cases e : ms[n]? with
  | none => exact .inr rfl
  | some m => exact .inl (List.mem_of_getElem? e)
theorem valT_det (h : Ts ms) (c : Nat) : (valT ms c).det = 1 := by
  unfold valT
  have : (ms.getD (numC c) M2.one).det = 1 := by
    rcases getD_mem (ms := ms) (numC c) with e | e
    · exact h _ e
    · rw [e]; rfl
  split
  · exact this
  · rw [det_inv]; exact this
theorem valM_det (h : Ts ms) : ∀ s : List Nat, (valM ms s).det = 1 := by
  intro s
  suffices ∀ n (s : List Nat), s.length = n → (valM ms s).det = 1 from this _ s rfl
  intro n
  induction n with
  | zero => intro s e; rw [List.length_eq_zero_iff.mp e]; rfl
  | succ n ih =>
    intro s e
    rcases eq_nil_or_snoc s with rfl | ⟨t, c, rfl⟩
    · cases e
    · rw [valM_snoc, det_mul, ih t (by simpa using e), valT_det h]; rfl
theorem valT_flip {c : Nat} (hc : c ∈ al) : valT ms (flipC c) = (valT ms c).inv := by
  obtain ⟨e1, e2, _⟩ := isl_flip c hc
  unfold valT
  rw [e1, e2]
  cases islC c
  · simp only [Bool.not_false, if_true, if_false, Bool.false_eq_true]; rw [inv_inv']
  · simp only [Bool.not_true, if_true, if_false, Bool.false_eq_true]
theorem valT_bd {b : Nat} (h : Tb ms b) (c : Nat) : Bd (valT ms c) b := by
  have : Bd (ms.getD (numC c) M2.one) b := by
    rcases getD_mem (ms := ms) (numC c) with e | e
    · exact h.2 _ e
    · rw [e]; exact bd_one h.1
  unfold valT
  split
  · exact this
  · exact bd_inv this
theorem pow_mono {b n m : Nat} (hb : 1 ≤ b) (h : n ≤ m) : (2 * b) ^ n ≤ (2 * b) ^ m := Nat.pow_le_pow_right (by omega) h
theorem valM_bd {b : Nat} (h : Tb ms b) : ∀ s : List Nat, Bd (valM ms s) ((2 * b) ^ s.length) := by
  intro s
  suffices ∀ n (s : List Nat), s.length = n → Bd (valM ms s) ((2 * b) ^ n) from this _ s rfl
  intro n
  induction n with
  | zero => intro s e; rw [List.length_eq_zero_iff.mp e]; exact bd_one (by simp)
  | succ n ih =>
    intro s e
    rcases eq_nil_or_snoc s with rfl | ⟨t, c, rfl⟩
    · cases e
    · rw [valM_snoc]
      have := bd_mul (ih t (by simpa using e)) (valT_bd h c)
      rw [show (2 * b) ^ (n + 1) = 2 * (2 * b) ^ n * b by rw [Nat.pow_succ, Nat.mul_comm 2 ((2 * b) ^ n), Nat.mul_assoc]]
      exact this
theorem valM_push (h : Ts ms) {k : List Nat} {c : Nat} (hc : c ∈ al) : valM ms (push1 k c) = valM ms (k ++ [c]) := by
  unfold push1
  split
  · rename_i e
    rcases eq_nil_or_snoc k with rfl | ⟨t, z, rfl⟩
    · cases e
    · rw [List.getLast?_concat] at e
      cases e
      rw [List.dropLast_concat, List.append_assoc, valM_app t, List.singleton_append, show [flipC c, c] = [flipC c] ++ [c] from rfl, valM_app, valM_one, valM_one, valT_flip hc, inv_mul' (valT_det h c), mul_one']
  · rfl
theorem valM_free (h : Ts ms) : ∀ {s : List Nat}, (∀ c ∈ s, c ∈ al) → valM ms (freeW s) = valM ms s := by
  intro s
  suffices ∀ n (s : List Nat), s.length = n → (∀ c ∈ s, c ∈ al) → valM ms (freeW s) = valM ms s from this _ s rfl
  intro n
  induction n with
  | zero => intro s e _; rw [List.length_eq_zero_iff.mp e]; rfl
  | succ n ih =>
    intro s e ha
    rcases eq_nil_or_snoc s with rfl | ⟨t, c, rfl⟩
    · cases e
    · rw [free_snoc, valM_push h (ha c (by simp)), valM_snoc, valM_snoc, ih t (by simpa using e) fun d hd => ha d (List.mem_append_left _ hd)]
theorem valM_inv : ∀ {s : List Nat}, (∀ c ∈ s, c ∈ al) → valM ms (invW s) = (valM ms s).inv := by
  intro s
  induction s with
  | nil => intro _; rfl
  | cons c s ih =>
    intro ha
    rw [inv_cons, valM_snoc, valT_flip (ha c List.mem_cons_self), ih fun d hd => ha d (List.mem_cons_of_mem _ hd), show c :: s = [c] ++ s from rfl, valM_app, valM_one, inv_of_mul]
theorem tr_rot {s y : List Nat} (h : IsRot s y) : (valM ms y).tr = (valM ms s).tr := by
  obtain ⟨a, b, rfl, rfl⟩ := h
  rw [valM_app, valM_app, tr_comm]
theorem tr_core (h : Ts ms) {s : List Nat} (ha : ∀ c ∈ s, c ∈ al) : (valM ms (coreW s)).tr = (valM ms s).tr := by
  obtain ⟨p, hp⟩ := core_split s
  have ap : ∀ c ∈ p, c ∈ al := fun c hc => ha c (by rw [hp]; exact List.mem_append_left _ (List.mem_append_left _ hc))
  have : valM ms s = ((valM ms p).mul (valM ms (coreW s))).mul (valM ms p).inv := by
    conv => lhs; rw [hp]
    rw [valM_app, valM_app, valM_inv ap]
  rw [this, tr_comm, ← mul_assoc', inv_mul' (valM_det h p), one_mul']
theorem tr_ring (h : Ts ms) {s : List Nat} (ha : ∀ c ∈ s, c ∈ al) (hr : Red s) : (valM ms (ringO s)).tr = (valM ms s).tr := by
  rw [tr_rot (ringO_rot ha hr), tr_core h ha]
end
/-- the dict of the tables of all letters -/
def TabM (ms : List M2) (kvs : List (L2.Key × D)) : Prop := ∀ c ∈ alph (ms.length : Nat), valD kvs (.inr (S [c])) = some (tabD (valT ms c))
theorem tabM_step {ms : List M2} {k : Nat} {w : M2} (hk : k < 4) (hw : ms[k]? = some w) {kvs : List (L2.Key × D)} (h : TabM (ms.take k) kvs) :
    TabM (ms.take (k + 1)) (putD (putD kvs (.inr (S [97 + k])) (tabD w)) (.inr (S [65 + k])) (tabD w.inv)) := by
  have kl : k < ms.length := (List.getElem?_eq_some_iff.mp hw).1
  have l1 : (ms.take (k + 1)).length = k + 1 := by rw [List.length_take]; omega
  have l0 : (ms.take k).length = k := by rw [List.length_take]; omega
  intro c hc
  rw [l1, alph_succ k hk] at hc
  rw [valD_put, valD_put]
  have gt : ∀ {j : Nat}, j < k + 1 → (ms.take (k + 1)).getD j M2.one = ms.getD j M2.one := fun {j} hj => by
    rw [List.getD_eq_getElem?_getD, List.getElem?_take, if_pos hj, List.getD_eq_getElem?_getD]
  have gw : ms.getD k M2.one = w := by rw [List.getD_eq_getElem?_getD, hw]; rfl
  rcases List.mem_append.mp hc with hc | hc
  · obtain ⟨n1, n2, n3, n4⟩ := alph_lt k hk c hc
    rw [if_neg (fun e => n2 (key_eq.mp e)), if_neg (fun e => n1 (key_eq.mp e)), h c (by rw [l0]; exact hc)]
    unfold valT
    rw [gt (by omega)]
    have : (ms.take k).getD (numC c) M2.one = ms.getD (numC c) M2.one := by rw [List.getD_eq_getElem?_getD, List.getElem?_take, if_pos n3, List.getD_eq_getElem?_getD]
    rw [this]
  · simp only [List.mem_cons, List.not_mem_nil, or_false] at hc
    rcases hc with rfl | rfl
    · rw [if_neg (fun e => by have := key_eq.mp e; omega), if_pos rfl]
      have e1 : islC (97 + k) = true := by unfold islC; exact decide_eq_true (by omega)
      unfold valT
      rw [e1, if_pos rfl, show numC (97 + k) = k by unfold numC; rw [e1, if_pos rfl]; omega, gt (by omega), gw]
    · rw [if_pos rfl]
      have e1 : islC (65 + k) = false := by unfold islC; exact decide_eq_false (by omega)
      unfold valT
      rw [e1, if_neg (by decide), show numC (65 + k) = k by unfold numC; rw [e1, if_neg (by decide)]; omega, gt (by omega), gw]
/-- values that are tables -/
def tblB (x : D) : Bool := match x with
  | .tup [.tup [.int p, .int q], .tup [.int u, .int v]] => decide (p * v - q * u = 1)
  | _ => false
def lineB (x : D) : Bool := match x with
  | .tup ds => decide (ds.length = 2)
  | _ => false
def intB (x : D) : Bool := match x with
  | .int _ => true
  | _ => false
def tblsB (r : Int) (x : D) : Bool := match x with
  | .tup ds => decide ((ds.length : Int) = r) && ds.all tblB
  | _ => false
/-- what a value may be that is held against tables -/
def tblIn (x : D) : Prop := okT x ∧ ∀ ds, x = .tup ds → ds.length ≤ 1000 ∧ ∀ d ∈ ds, okT d ∧ ∀ es, d = .tup es → es.length ≤ 1000 ∧ ∀ e ∈ es, okT e ∧ ∀ i, e = .int i → i.natAbs < 10 ^ 200
theorem tblB_tab (m : M2) : tblB (tabD m) = decide (m.det = 1) := rfl
theorem tblB_inv {x : D} (h : tblB x = true) : ∃ m : M2, x = tabD m ∧ m.det = 1 := by
  unfold tblB at h
  split at h
  · exact ⟨⟨_, _, _, _⟩, rfl, of_decide_eq_true h⟩
  · cases h
theorem tblsB_mk {r : Int} {ms : List M2} (hl : (ms.length : Int) = r) (h : Ts ms) : tblsB r (.tup (ms.map tabD)) = true := by
  show (decide (((ms.map tabD).length : Int) = r) && _) = true
  rw [List.length_map, decide_eq_true hl, Bool.true_and, List.all_eq_true]
  intro d hd
  obtain ⟨m, hm, rfl⟩ := List.mem_map.mp hd
  rw [tblB_tab, decide_eq_true (h m hm)]
theorem tblIn_tab {m : M2} {b : Nat} (h : Bd m b) (hb : b < 10 ^ 200) : tblIn (tabD m) := by
  refine ⟨okT_tup _, fun ds e => ?_⟩
  cases e
  refine ⟨by simp, fun d hd => ⟨?_, fun es e => ?_⟩⟩
  · simp only [List.mem_cons, List.not_mem_nil, or_false] at hd
    rcases hd with rfl | rfl <;> exact okT_tup _
  · simp only [List.mem_cons, List.not_mem_nil, or_false] at hd
    obtain ⟨h1, h2, h3, h4⟩ := h
    rcases hd with rfl | rfl <;> cases e <;> refine ⟨by simp, fun x hx => ?_⟩ <;> simp only [List.mem_cons, List.not_mem_nil, or_false] at hx <;> rcases hx with rfl | rfl <;>
      exact ⟨⟨rfl, fun _ e => by cases e⟩, fun i e => by cases e; omega⟩
theorem tblB_len {ds : List D} (h : ds.length ≠ 2) : tblB (.tup ds) = false := by
  unfold tblB
  split
  · rename_i e; cases e; simp at h
  · rfl
theorem tblB_line {d e : D} (h : lineB d = false ∨ lineB e = false) : tblB (.tup [d, e]) = false := by
  unfold tblB
  split
  · rename_i e; cases e; rcases h with h | h <;> simp [lineB] at h
  · rfl
theorem tblB_int {a b c d : D} (h : ([a, b, c, d].map intB).all id = false) : tblB (.tup [.tup [a, b], .tup [c, d]]) = false := by
  unfold tblB
  split
  · rename_i e; cases e; simp [intB] at h
  · rfl
theorem lineB_inv {d : D} (h : lineB d = true) : ∃ a b, d = .tup [a, b] := by
  unfold lineB at h
  split at h
  · rename_i ds
    match ds, of_decide_eq_true h with
    | [a, b], _ => exact ⟨a, b, rfl⟩
  · cases h
theorem intB_inv {d : D} (h : intB d = true) : ∃ i, d = .int i := by
  unfold intB at h
  split at h
  · exact ⟨_, rfl⟩
  · cases h
theorem len2 {α : Type} {l : List α} (h : l.length = 2) : ∃ a b, l = [a, b] := by
  match l, h with
  | [a, b], _ => exact ⟨a, b, rfl⟩
end DL
namespace DL
variable [HasT]
theorem tblsIn {r : Int} {ms : List M2} {b : Nat} (hl : (ms.length : Int) = r) (hr : Rk r) (hb : Tb ms b) (hb2 : b < 10 ^ 200) : okT (.tup (ms.map tabD)) ∧ ∀ ds, D.tup (ms.map tabD) = .tup ds → ds.length ≤ 1000 ∧ ∀ d ∈ ds, tblIn d := by
  refine ⟨okT_tup _, fun ds e => ?_⟩
  cases e
  have := hr.2
  refine ⟨by rw [List.length_map]; omega, fun d hd => ?_⟩
  obtain ⟨m, hm, rfl⟩ := List.mem_map.mp hd
  exact tblIn_tab (hb.2 m hm) hb2
end DL
namespace DL
theorem bas_at {r : Int} {k b : Nat} (h : (bas r)[k]? = some b) : base4[k]? = some b := by
  unfold bas at h
  rw [List.getElem?_take] at h
  split at h
  · exact h
  · cases h
end DL
namespace DL
open PySem PySem.Spec PySem.W PyProof.Rows L2
variable [HasT]
/-! ### data with large integers can be shown -/
mutual
def smJ : D → Bool
  | .int i => decide (i.natAbs < 10 ^ 200)
  | .lst ds => smJs ds
  | .tup ds => smJs ds
  | _ => true
def smJs : List D → Bool
  | [] => true
  | d :: ds => smJ d && smJs ds
end
mutual
def weJ : D → Nat
  | .str s => s.length
  | .int _ => 800
  | .lst ds => weJs ds
  | .tup ds => weJs ds
  | _ => 0
def weJs : List D → Nat
  | [] => 0
  | d :: ds => weJ d + 1 + weJs ds
end
theorem log_big {i : Int} (h : i.natAbs < 10 ^ 200) : i.natAbs.log2 < 665 := by
  by_cases z : i.natAbs = 0
  · rw [z]; decide
  · exact (Nat.log2_lt z).mpr (Nat.lt_of_lt_of_le h (by decide +kernel))
mutual
theorem weJ_le : ∀ x : D, smJ x = true → (toP x).weight ≤ weJ x
  | .non, _ => by simp [toP, PyData.weight]
  | .bl _, _ => by simp [toP, PyData.weight]
  | .int i, h => by
    have h : i.natAbs < 10 ^ 200 := by simpa [smJ] using h
    simp only [toP, PyData.weight, weJ]
    split
    · omega
    · have := log_big h
      omega
  | .str s, _ => by simp [toP, PyData.weight, weJ]
  | .lst ds, h => by simp only [toP, PyData.weight, weJ]; exact weJs_le ds (by simpa [smJ] using h)
  | .tup ds, h => by simp only [toP, PyData.weight, weJ]; exact weJs_le ds (by simpa [smJ] using h)
  | .dct _, _ => by simp [toP, PyData.weight, PyData.weightKv]
  | .obj _, _ => by simp [toP, PyData.weight, PyData.weightKv]
  | .ty _, _ => by simp [toP, PyData.weight, PyData.weightKv]
  | .cls _, _ => by simp [toP, PyData.weight, PyData.weightKv]
  | .exc _ _ _, _ => by simp [toP, PyData.weight, PyData.weightKv]
  | .fnc _ _, _ => by simp [toP, PyData.weight, PyData.weightKv]
theorem weJs_le : ∀ xs : List D, smJs xs = true → PyData.weightAll (toPs xs) ≤ weJs xs
  | [], _ => by simp [toPs, PyData.weightAll, weJs]
  | x :: xs, h => by
    simp only [smJs, Bool.and_eq_true] at h
    simp only [toPs, PyData.weightAll, weJs]
    have := weJ_le x h.1
    have := weJs_le xs h.2
    omega
end
theorem shown_int200 {i : Int} (h : i.natAbs < 10 ^ 200) : (PyData.shown (.int i)).length ≤ 201 := by
  have e := int_text_length_le10 (k := 200) (by decide) h
  show (Str.ofString (toString i)).length ≤ 201
  rw [PySem.ofString_length]; exact e
mutual
theorem shJ : ∀ x : D, smJ x = true → okD x = true → (toP x).showable = true ∧ (toP x).intsShort 201 = true
  | .non, _, _ => ⟨rfl, rfl⟩
  | .bl _, _, _ => ⟨rfl, rfl⟩
  | .int i, h, _ => by
    have h : i.natAbs < 10 ^ 200 := by simpa [smJ] using h
    refine ⟨?_, ?_⟩
    · simp only [toP, PyData.showable, decide_eq_true_eq]
      have := log_big h
      omega
    · simp only [toP, PyData.intsShort, decide_eq_true_eq]
      exact shown_int200 h
  | .str s, _, _ => ⟨rfl, rfl⟩
  | .lst ds, h, h2 => by
    simp only [toP, PyData.showable, PyData.intsShort]
    exact shJs ds (by simpa [smJ] using h) (by simpa [okD] using h2)
  | .tup ds, h, h2 => by
    simp only [toP, PyData.showable, PyData.intsShort]
    exact shJs ds (by simpa [smJ] using h) (by simpa [okD] using h2)
  | .dct _, _, h => by simp [okD] at h
  | .obj _, _, h => by simp [okD] at h
  | .ty _, _, h => by simp [okD] at h
  | .cls _, _, h => by simp [okD] at h
  | .exc _ _ _, _, h => by simp [okD] at h
  | .fnc _ _, _, h => by simp [okD] at h
theorem shJs : ∀ xs : List D, smJs xs = true → okDs xs = true → PyData.showableAll (toPs xs) = true ∧ PyData.intsShortAll 201 (toPs xs) = true
  | [], _, _ => ⟨rfl, rfl⟩
  | x :: xs, h, h2 => by
    simp only [smJs, Bool.and_eq_true] at h
    simp only [okDs, Bool.and_eq_true] at h2
    have a := shJ x h.1 h2.1
    have b := shJs xs h.2 h2.2
    simp only [toPs, PyData.showableAll, PyData.intsShortAll, a.1, a.2, b.1, b.2, Bool.and_self, and_self]
end
theorem shw_ofJ {x : D} (h1 : okD x = true) (h2 : depD x ≤ 60) (h3 : smJ x = true) (h4 : weJ x ≤ 2 ^ 16) : shwD x := by
  refine .inl ⟨h1, h2, (shJ x h3 h1).1, ?_⟩
  have h := PyData.shown_le 201 (by decide) _ (PyData.leavesShort_of_canLay0 201 _ (canLay_ok h1) (shJ x h3 h1).2)
  have w := Nat.le_trans (weJ_le x h3) h4
  have h5 : (201 + 2) * (toP x).weight ≤ 203 * 65536 := Nat.mul_le_mul (by omega) w
  rw [sizeLine_eq]
  omega
/-- data that can be shown and compared, with large integers -/
structure Pj (n w : Nat) (d : D) : Prop where
  ok : okD d = true
  dep : depD d ≤ n
  sm : smJ d = true
  we : weJ d ≤ w
theorem Pj.shw {n w : Nat} {d : D} (h : Pj n w d) (hn : n ≤ 60) (hw : w ≤ 2 ^ 16) : shwD d := shw_ofJ h.ok (Nat.le_trans h.dep hn) h.sm (Nat.le_trans h.we hw)
theorem Pj.mono {n w n' w' : Nat} {d : D} (h : Pj n w d) (a : n ≤ n') (b : w ≤ w') : Pj n' w' d := ⟨h.ok, Nat.le_trans h.dep a, h.sm, Nat.le_trans h.we b⟩
theorem pj_int {i : Int} (h : i.natAbs < 10 ^ 200) : Pj 0 800 (.int i) := ⟨by simp [okD], by simp [depD], by simp only [smJ]; exact decide_eq_true h, by simp [weJ]⟩
theorem pj_str {w : Nat} {s : List Nat} (h : ascii s) (hl : s.length ≤ w) : Pj 0 w (.str s) := ⟨okD_asc h, by simp [depD], by simp [smJ], by rw [weJ]; exact hl⟩
theorem pj_seq {n w : Nat} : ∀ {ds : List D}, (∀ d ∈ ds, Pj n w d) → okDs ds = true ∧ depDs ds ≤ n ∧ smJs ds = true ∧ weJs ds ≤ ds.length * (w + 1)
  | [], _ => ⟨by simp [okDs], by simp [depDs], by simp [smJs], by simp [weJs]⟩
  | d :: ds, h => by
    have a := h d List.mem_cons_self
    have ⟨b1, b2, b3, b4⟩ := pj_seq fun x hx => h x (List.mem_cons_of_mem _ hx)
    refine ⟨by simp only [okDs, a.ok, b1, Bool.and_self], by simp only [depDs]; exact Nat.max_le.mpr ⟨a.dep, b2⟩, by simp only [smJs, a.sm, b3, Bool.and_self], ?_⟩
    have := a.we
    simp only [weJs, List.length_cons, Nat.add_mul]
    omega
theorem pj_tup {n w m : Nat} {ds : List D} (h : ∀ d ∈ ds, Pj n w d) (hl : ds.length ≤ m) : Pj (n + 1) (m * (w + 1)) (.tup ds) := by
  obtain ⟨a, b, c, d⟩ := pj_seq h
  exact ⟨by simp only [okD]; exact a, by simp only [depD]; omega, by simp only [smJ]; exact c, by simp only [weJ]; exact Nat.le_trans d (Nat.mul_le_mul_right _ hl)⟩
theorem pj_lst {n w m : Nat} {ds : List D} (h : ∀ d ∈ ds, Pj n w d) (hl : ds.length ≤ m) : Pj (n + 1) (m * (w + 1)) (.lst ds) := by
  obtain ⟨a, b, c, d⟩ := pj_seq h
  exact ⟨by simp only [okD]; exact a, by simp only [depD]; omega, by simp only [smJ]; exact c, by simp only [weJ]; exact Nat.le_trans d (Nat.mul_le_mul_right _ hl)⟩
theorem pj_2 {n w : Nat} {x y : D} {P : D → Prop} (hx : P x) (hy : P y) : ∀ d ∈ [x, y], P d := fun d hd => by
  simp only [List.mem_cons, List.not_mem_nil, or_false] at hd
  rcases hd with rfl | rfl <;> assumption
theorem pj_tab {m : M2} {b : Nat} (h : Bd m b) (hb : b < 10 ^ 200) : Pj 2 3206 (tabD m) := by
  obtain ⟨h1, h2, h3, h4⟩ := h
  have i : ∀ {x : Int}, x.natAbs ≤ b → Pj 0 800 (.int x) := fun h => pj_int (Nat.lt_of_le_of_lt h hb)
  exact pj_tup (m := 2) (pj_2 (n := 0) (w := 0) (pj_tup (m := 2) (pj_2 (n := 0) (w := 0) (i h1) (i h2)) (by simp)) (pj_tup (m := 2) (pj_2 (n := 0) (w := 0) (i h3) (i h4)) (by simp))) (by simp)
section
variable {K : PySem.W.Frag} {post : Rs → Prop}
theorem od_ne_sameJ {x : D} {n w : Nat} (h : Pj n w x) (hn : n ≤ 60) (q : post (.d (.bl false))) : OD K (rNeD K) x x post :=
  od_neD h.ok h.ok (Nat.le_trans h.dep (by omega)) (Nat.le_trans h.dep (by omega)) (by rw [eqD_refl h.ok]; exact q)
theorem od_eq_sameJ {x : D} {n w : Nat} (h : Pj n w x) (hn : n ≤ 60) (q : post (.d (.bl true))) : OD K (rEqD K) x x post :=
  od_eqD h.ok h.ok (Nat.le_trans h.dep (by omega)) (Nat.le_trans h.dep (by omega)) (by rw [eqD_refl h.ok]; exact q)
end
end DL
namespace DL
variable [HasT]
section
variable {ms : List M2}
/-- the tables of the images -/
def carV (ms : List M2) (ims : List (List Nat)) : List M2 := ims.map (valM ms)
theorem carV_len (ims : List (List Nat)) : (carV ms ims).length = ims.length := by unfold carV; rw [List.length_map]
theorem carV_ts (h : Ts ms) (ims : List (List Nat)) : Ts (carV ms ims) := fun m hm => by
  obtain ⟨w, _, rfl⟩ := List.mem_map.mp hm
  exact valM_det h w
theorem carV_tb {b n : Nat} (h : Tb ms b) {ims : List (List Nat)} (hl : ∀ w ∈ ims, w.length ≤ n) : Tb (carV ms ims) ((2 * b) ^ n) := by
  refine ⟨Nat.one_le_pow _ _ (by have := h.1; omega), fun m hm => ?_⟩
  obtain ⟨w, hw, rfl⟩ := List.mem_map.mp hm
  exact (valM_bd h w).mono (pow_mono h.1 (hl w hw))
theorem valT_car {r : Int} (hr : Rk r) {ims : List (List Nat)} (hi : ImA r ims) {c : Nat} (hc : c ∈ alph r) : valT (carV ms ims) c = valM ms (subC ims c) := by
  have hn := alph_num hr c hc
  have hl := hi.len
  have hlt : numC c < ims.length := by omega
  have e : (carV ms ims).getD (numC c) M2.one = valM ms (ims.getD (numC c) []) := by
    unfold carV
    rw [List.getD_eq_getElem?_getD, List.getElem?_map, List.getD_eq_getElem?_getD, List.getElem?_eq_getElem hlt]; rfl
  have hw : ∀ x ∈ ims.getD (numC c) [], x ∈ al := fun x hx => by
    obtain ⟨w, hw, _, e2⟩ := hi.get hr hc
    rw [e2] at hx
    exact alph_al (hi.mem w hw x hx)
  unfold valT subC
  rw [e]
  split
  · rfl
  · rw [valM_inv hw]
theorem valM_car {r : Int} (hr : Rk r) {ims : List (List Nat)} (hi : ImA r ims) : ∀ {s : List Nat}, (∀ c ∈ s, c ∈ alph r) → valM (carV ms ims) s = valM ms (subT ims s) := by
  intro s
  induction s with
  | nil => intro _; rfl
  | cons c s ih =>
    intro h
    rw [show c :: s = [c] ++ s from rfl, valM_app, valM_one, subT_app, subT_one, valM_app, ih fun d hd => h d (List.mem_cons_of_mem _ hd), valT_car hr hi (h c List.mem_cons_self)]
theorem valM_map {r : Int} (hr : Rk r) {ims : List (List Nat)} (hi : ImA r ims) (ht : Ts ms) {s : List Nat} (h : ∀ c ∈ s, c ∈ alph r) : valM ms (mapW ims s) = valM (carV ms ims) s := by
  unfold mapW
  rw [valM_free ht fun c hc => alph_al (hi.subT hr h c hc), valM_car hr hi h]
theorem carV_car {r : Int} (hr : Rk r) {ims ws : List (List Nat)} (hi : ImA r ims) (ht : Ts ms) (hw : ∀ w ∈ ws, ∀ c ∈ w, c ∈ alph r) : carV (carV ms ims) ws = carV ms (ws.map (mapW ims)) := by
  unfold carV
  rw [List.map_map]
  refine List.map_congr_left fun w h => ?_
  exact (valM_map hr hi ht (hw w h)).symm
end
end DL
namespace DL
open PySem PySem.Spec PySem.W PyProof.Rows L2
variable [HasT]
/-! ### the rule of change -/
/-- ahead of a letter, the letter itself, behind it -/
def preS (s : Nat) (z : List Nat) (x : Nat) : List Nat := if flipC x ∈ z then [flipC s] else []
def midS (s x : Nat) : List Nat := if x = s ∨ x = flipC s then [] else [x]
def posS (s : Nat) (z : List Nat) (x : Nat) : List Nat := if x ∈ z then [s] else []
/-- between two letters -/
def pwS (s : Nat) (z : List Nat) (p : Nat × Nat) : List Nat := if p.1 ∈ z then (if flipC p.2 ∈ z then [] else [s]) else if flipC p.2 ∈ z then [flipC s] else []
def gS (s : Nat) (z : List Nat) (ps : List (Nat × Nat)) : List Nat := (ps.map fun p => midS s p.1 ++ pwS s z p).flatten
theorem al_cases : ∀ c ∈ al, ∀ s ∈ al, (lowC c = lowC s ↔ c = s ∨ c = flipC s) := by decide
theorem al_low : ∀ c ∈ al, (islC c = true → lowC c = c ∧ uppC c = flipC c) ∧ (islC c = false → lowC c = flipC c ∧ uppC (flipC c) = c ∧ islC (flipC c) = true) := by decide
theorem bas_num : ∀ c ∈ al, base4[numC c]? = some (lowC c) := by decide
section
variable {r : Int} {s : Nat} {z : List Nat}
theorem gS_nil : gS s z [] = [] := rfl
theorem gS_cons (p : Nat × Nat) (ps : List (Nat × Nat)) : gS s z (p :: ps) = midS s p.1 ++ pwS s z p ++ gS s z ps := by unfold gS; rw [List.map_cons, List.flatten_cons]
theorem gS_app (ps qs : List (Nat × Nat)) : gS s z (ps ++ qs) = gS s z ps ++ gS s z qs := by unfold gS; rw [List.map_append, List.flatten_append]
theorem mvI_at (hr : Rk r) {c : Nat} (hc : c ∈ alph r) : (mvI r s z).getD (numC c) [] = mvC s z (lowC c) := by
  have hn := alph_num hr c hc
  have hb := bas_num c (alph_al hc)
  have hl := bas_len hr
  have e : (bas r)[numC c]? = some (lowC c) := by
    unfold bas
    rw [List.getElem?_take, if_pos (by have := hr.1; omega)]
    exact hb
  unfold mvI
  rw [List.getD_eq_getElem?_getD, List.getElem?_map, e]
  rfl
/-- the image of a letter -/
theorem sub_mv (hr : Rk r) (h : MvOk r s z) {c : Nat} (hc : c ∈ alph r) : subC (mvI r s z) c = preS s z c ++ midS s c ++ posS s z c := by
  have hca := alph_al hc
  have hsa := alph_al h.hs
  have hcs := al_cases c hca s hsa
  obtain ⟨l1, l2⟩ := al_low c hca
  unfold subC
  rw [mvI_at hr hc]
  have inS : c = s → preS s z c ++ midS s c ++ posS s z c = [s] := fun e => by
    subst e
    unfold preS midS posS
    rw [if_neg h.ho, if_pos (.inl rfl), if_pos h.hi]; rfl
  have inT : c = flipC s → preS s z c ++ midS s c ++ posS s z c = [flipC s] := fun e => by
    subst e
    unfold preS midS posS
    rw [DL.flip_flip, if_pos h.hi, if_pos (.inr rfl), if_neg h.ho]; rfl
  cases hi : islC c with
  | true =>
    obtain ⟨e1, e2⟩ := l1 hi
    rw [if_pos rfl]
    unfold mvC
    rw [e1, e2]
    by_cases hs : c = s ∨ c = flipC s
    · have e3 : c = lowC s := by rw [← e1]; exact hcs.mpr hs
      rw [if_pos e3]
      rcases hs with e | e
      · rw [inS e, e]
      · rw [inT e, e]
    · rw [if_neg fun e3 => hs (hcs.mp (by rw [e1]; exact e3))]
      unfold preS midS posS
      rw [if_neg hs]
  | false =>
    obtain ⟨e1, e2, e3⟩ := l2 hi
    rw [if_neg (by decide)]
    unfold mvC
    rw [e1, e2]
    by_cases hs : c = s ∨ c = flipC s
    · have e4 : flipC c = lowC s := by rw [← e1]; exact hcs.mpr hs
      rw [if_pos e4, inv_one, DL.flip_flip]
      rcases hs with e | e
      · rw [inS e, e]
      · rw [inT e, e]
    · rw [if_neg fun e4 => hs (hcs.mp (by rw [e1]; exact e4))]
      unfold preS midS posS
      rw [if_neg hs, inv_app, inv_app, inv_one, DL.flip_flip]
      have i1 : ∀ (p : Prop) [Decidable p], invW (if p then [s] else []) = if p then [flipC s] else [] := fun p _ => by split <;> rfl
      have i2 : ∀ (p : Prop) [Decidable p], invW (if p then [flipC s] else []) = if p then [s] else [] := fun p _ => by split; rw [inv_one, DL.flip_flip]; rfl
      rw [i1, i2, List.append_assoc]
theorem free_mid {a b c d : List Nat} (h : freeW b = freeW c) : freeW (a ++ b ++ d) = freeW (a ++ c ++ d) := by
  rw [← free_app_l (a ++ b), ← free_app_r a b, h, free_app_r, free_app_l]
/-- behind a letter and ahead of the next one -/
theorem pw_free (x y : Nat) : freeW (posS s z x ++ preS s z y) = freeW (pwS s z (x, y)) := by
  unfold posS preS pwS
  by_cases h1 : x ∈ z
  · rw [if_pos h1]
    by_cases h2 : flipC y ∈ z
    · simp only [h1, h2, if_true]
      have := free_pair [] [] s
      simpa using this
    · simp only [h1, h2, if_true, if_false, List.append_nil]
  · rw [if_neg h1]
    by_cases h2 : flipC y ∈ z
    · simp only [h1, h2, if_true, if_false, List.nil_append]
    · simp only [h1, h2, if_false, List.nil_append]
theorem g_free (hr : Rk r) (h : MvOk r s z) (y : Nat) : ∀ (v : List Nat) (x : Nat), (∀ c ∈ x :: v, c ∈ alph r) →
    freeW (preS s z x ++ gS s z (List.zip (x :: v) (v ++ [y]))) = freeW (subT (mvI r s z) (x :: v) ++ preS s z y) := by
  intro v
  induction v with
  | nil =>
    intro x hx
    show freeW (preS s z x ++ gS s z [(x, y)]) = _
    rw [gS_cons, gS_nil, List.append_nil, subT_one, sub_mv hr h (hx x List.mem_cons_self)]
    have := free_mid (a := preS s z x ++ midS s x) (d := []) (pw_free (s := s) (z := z) x y)
    simp only [List.append_assoc, List.append_nil] at this ⊢
    exact this.symm
  | cons w v ih =>
    intro x hx
    show freeW (preS s z x ++ gS s z ((x, w) :: List.zip (w :: v) (v ++ [y]))) = _
    rw [gS_cons, subT_cons, sub_mv hr h (hx x List.mem_cons_self)]
    have e1 := free_mid (a := preS s z x ++ midS s x) (d := gS s z (List.zip (w :: v) (v ++ [y]))) (pw_free (s := s) (z := z) x w)
    have e2 := ih w fun c hc => hx c (List.mem_cons_of_mem _ hc)
    have e3 := free_mid (a := preS s z x ++ midS s x ++ posS s z x) (d := []) e2
    simp only [List.append_assoc, List.append_nil] at e1 e3 ⊢
    rw [← e1, e3]
/-- the first letter of what a letter and its successors give -/
def FstS (s : Nat) (z : List Nat) (x c : Nat) : Prop :=
  (x ≠ s ∧ x ≠ flipC s ∧ c = x) ∨ (x = s ∧ (c = s ∨ (c ≠ s ∧ c ≠ flipC s ∧ flipC c ∈ z))) ∨ (x = flipC s ∧ (c = flipC s ∨ (c ≠ s ∧ c ≠ flipC s ∧ flipC c ∉ z)))
theorem red_cons2 {a : Nat} {t : List Nat} (h : Red t) (k : ∀ x, t[0]? = some x → a ≠ flipC x) : Red (a :: t) := red_cons_iff.mpr ⟨h, k⟩
theorem g_red (h : MvOk r s z) : ∀ (v : List Nat) (x : Nat), Red (x :: v) → Red (gS s z (List.zip (x :: v) v)) ∧ ∀ c, (gS s z (List.zip (x :: v) v))[0]? = some c → FstS s z x c := by
  have hsne : flipC s ≠ s := (al_flip s (alph_al h.hs)).2
  intro v
  induction v with
  | nil => intro x _; exact ⟨red_nil, fun c hc => by cases hc⟩
  | cons y v ih =>
    intro x hx
    have hxy : x ≠ flipC y := (red_cons_iff.mp hx).2 y rfl
    obtain ⟨i1, i2⟩ := ih y (red_cons_iff.mp hx).1
    show Red (gS s z ((x, y) :: List.zip (y :: v) v)) ∧ ∀ c, (gS s z ((x, y) :: List.zip (y :: v) v))[0]? = some c → FstS s z x c
    rw [gS_cons]
    generalize gS s z (List.zip (y :: v) v) = g at i1 i2 ⊢
    have fi : ∀ {a b : Nat}, a = flipC b → b = flipC a := fun e => by rw [e, DL.flip_flip]
    have sf : s ≠ flipC s := fun e => hsne e.symm
    by_cases hs : x = s
    · subst hs
      have em : midS x x = [] := if_pos (.inl rfl)
      rw [em, List.nil_append]
      unfold pwS
      simp only [h.hi, if_true]
      by_cases hy : flipC y ∈ z
      · rw [if_pos hy, List.nil_append]
        have y1 : y ≠ x := fun e => h.ho (by rw [← e]; exact hy)
        have y2 : y ≠ flipC x := fun e => hxy (fi e)
        refine ⟨i1, fun c hc => ?_⟩
        rcases i2 c hc with ⟨_, _, e⟩ | ⟨e, _⟩ | ⟨e, _⟩
        · rw [e]; exact .inr (.inl ⟨rfl, .inr ⟨y1, y2, hy⟩⟩)
        · exact (y1 e).elim
        · exact (y2 e).elim
      · rw [if_neg hy]
        refine ⟨red_cons2 i1 fun c hc e => ?_, fun c hc => ?_⟩
        · rcases i2 c hc with ⟨_, _, e2⟩ | ⟨e2, e3⟩ | ⟨e2, _⟩
          · exact hxy (by rw [← e2]; exact e)
          · rcases e3 with e3 | ⟨_, e4, _⟩
            · exact sf (by rw [e3] at e; exact e)
            · exact e4 (fi e)
          · exact hxy (fi e2)
        · have : c = x := by simpa using hc.symm
          exact .inr (.inl ⟨rfl, .inl this⟩)
    · by_cases hf : x = flipC s
      · have em : midS s x = [] := if_pos (.inr hf)
        rw [em, List.nil_append]
        unfold pwS
        have hxz : x ∉ z := by rw [hf]; exact h.ho
        simp only [hxz, if_false]
        by_cases hy : flipC y ∈ z
        · rw [if_pos hy]
          refine ⟨red_cons2 i1 fun c hc e => ?_, fun c hc => ?_⟩
          · have ec : c = s := (flip_inj e).symm
            rcases i2 c hc with ⟨y1, _, e2⟩ | ⟨e2, _⟩ | ⟨e2, e3⟩
            · exact y1 (by rw [← e2]; exact ec)
            · exact hxy (by rw [e2]; exact hf)
            · rcases e3 with e3 | ⟨e4, _⟩
              · exact sf (ec.symm.trans e3)
              · exact e4 ec
          · have : c = flipC s := by simpa using hc.symm
            exact .inr (.inr ⟨hf, .inl this⟩)
        · rw [if_neg hy, List.nil_append]
          have y1 : y ≠ s := fun e => hxy (by rw [e]; exact hf)
          have y2 : y ≠ flipC s := fun e => hy (by rw [e, DL.flip_flip]; exact h.hi)
          refine ⟨i1, fun c hc => ?_⟩
          rcases i2 c hc with ⟨_, _, e⟩ | ⟨e, _⟩ | ⟨e, _⟩
          · rw [e]; exact .inr (.inr ⟨hf, .inr ⟨y1, y2, hy⟩⟩)
          · exact (y1 e).elim
          · exact (y2 e).elim
      · have em : midS s x = [x] := if_neg fun e => e.elim hs hf
        rw [em]
        have x1 : s ≠ flipC x := fun e => hf (fi e)
        have fst : ∀ t : List Nat, ∀ c, ([x] ++ t)[0]? = some c → FstS s z x c := fun t c hc => by
          have : c = x := by simpa using hc.symm
          exact .inl ⟨hs, hf, this⟩
        refine ⟨?_, by rw [List.append_assoc]; exact fst _⟩
        unfold pwS
        by_cases hxz : x ∈ z
        · simp only [hxz, if_true]
          by_cases hy : flipC y ∈ z
          · rw [if_pos hy, List.append_nil]
            refine red_cons2 i1 fun c hc e => ?_
            rcases i2 c hc with ⟨_, _, e2⟩ | ⟨e2, e3⟩ | ⟨e2, e3⟩
            · exact hxy (by rw [← e2]; exact e)
            · exact h.ho (by rw [← e2]; exact hy)
            · rcases e3 with e3 | ⟨_, _, e4⟩
              · exact hs (by rw [e, e3, DL.flip_flip])
              · exact e4 (by rw [← e]; exact hxz)
          · rw [if_neg hy]
            refine red_cons2 (red_cons2 i1 fun c hc e => ?_) fun c hc e => ?_
            · rcases i2 c hc with ⟨_, y2, e2⟩ | ⟨e2, e3⟩ | ⟨e2, e3⟩
              · exact y2 (by rw [← e2]; exact fi e)
              · rcases e3 with e3 | ⟨_, e4, _⟩
                · exact sf (by rw [e3] at e; exact e)
                · exact e4 (fi e)
              · exact hy (by rw [e2, DL.flip_flip]; exact h.hi)
            · have : c = s := by simpa using hc.symm
              exact hf (by rw [e, this])
        · simp only [hxz, if_false]
          by_cases hy : flipC y ∈ z
          · rw [if_pos hy]
            refine red_cons2 (red_cons2 i1 fun c hc e => ?_) fun c hc e => ?_
            · have ec : c = s := (flip_inj e).symm
              rcases i2 c hc with ⟨y1, _, e2⟩ | ⟨e2, _⟩ | ⟨e2, e3⟩
              · exact y1 (by rw [← e2]; exact ec)
              · exact h.ho (by rw [← e2]; exact hy)
              · rcases e3 with e3 | ⟨e4, _⟩
                · exact sf (ec.symm.trans e3)
                · exact e4 ec
            · have : c = flipC s := by simpa using hc.symm
              exact hs (by rw [e, this, DL.flip_flip])
          · rw [if_neg hy, List.append_nil]
            refine red_cons2 i1 fun c hc e => ?_
            rcases i2 c hc with ⟨_, _, e2⟩ | ⟨e2, e3⟩ | ⟨e2, e3⟩
            · exact hxy (by rw [← e2]; exact e)
            · rcases e3 with e3 | ⟨_, _, e4⟩
              · exact hf (by rw [e, e3])
              · exact hxz (by rw [e]; exact e4)
            · exact hy (by rw [e2, DL.flip_flip]; exact h.hi)
theorem crr_of_two {t : List Nat} (h : Red (t ++ t)) : CRr t := by
  obtain ⟨h1, _, h3⟩ := red_app.mp h
  exact ⟨h1, fun x y hx hy => h3 y x hy hx⟩
theorem crr_two {w : List Nat} (h : CRr w) (n : Nat) : Red (w ++ w ++ w.take n) := by
  have h2 : Red (w ++ w) := red_app.mpr ⟨h.1, h.1, fun y x hy hx => h.2 x y hx hy⟩
  refine red_app.mpr ⟨h2, red_take _ h.1, fun y x hy hx => ?_⟩
  have hx2 : w[0]? = some x := by
    rw [List.getElem?_take] at hx
    split at hx
    · exact hx
    · cases hx
  have hne : w ≠ [] := fun e => by rw [e] at hx2; cases hx2
  have el : (w ++ w).getLast? = w.getLast? := by
    rcases eq_nil_or_snoc w with rfl | ⟨w', z', rfl⟩
    · rfl
    · rw [← List.append_assoc, List.getLast?_concat, List.getLast?_concat]
  rw [el] at hy
  exact h.2 x y hx2 hy
/-- the cyclic word that a move makes of a ring -/
def cycS (s : Nat) (z : List Nat) (w : List Nat) : List Nat := gS s z (List.zip w (nextR w))
theorem cyc_crr (h : MvOk r s z) {w : List Nat} (hw : CRr w) : CRr (cycS s z w) := by
  cases w with
  | nil => exact hw
  | cons x v =>
    refine crr_of_two ?_
    have hr := crr_two hw 1
    have e : x :: v ++ (x :: v) ++ (x :: v).take 1 = x :: (v ++ [x] ++ (v ++ [x])) := by simp
    rw [e] at hr
    have g := (g_red h _ _ hr).1
    have e2 : List.zip (x :: (v ++ [x] ++ (v ++ [x]))) (v ++ [x] ++ (v ++ [x])) = List.zip (x :: v) (nextR (x :: v)) ++ List.zip (x :: v) (nextR (x :: v)) := by
      have n : nextR (x :: v) = v ++ [x] := rfl
      rw [n, ← List.zip_append (by simp), show x :: (v ++ [x] ++ (v ++ [x])) = (x :: v ++ (x :: v)) ++ [x] by simp]
      have := List.zip_append (l₁ := x :: v ++ (x :: v)) (r₁ := [x]) (l₂ := v ++ [x] ++ (v ++ [x])) (r₂ := []) (by simp; omega)
      rw [List.append_nil] at this
      rw [this]; simp
    rw [e2, gS_app] at g
    exact g
theorem gS_len : ∀ ps : List (Nat × Nat), (gS s z ps).length + ps.countP (fun p => decide (p.1 = s ∨ p.1 = flipC s)) = ps.length + ((ps.map fun p => (p.1, flipC p.2)).filter (half z)).length := by
  intro ps
  induction ps with
  | nil => rfl
  | cons p ps ih =>
    rw [gS_cons, List.countP_cons, List.map_cons, List.filter_cons, List.length_append, List.length_append, List.length_cons]
    have e1 : (midS s p.1).length + (if decide (p.1 = s ∨ p.1 = flipC s) = true then 1 else 0) = 1 := by
      unfold midS
      by_cases h : p.1 = s ∨ p.1 = flipC s
      · simp [h]
      · simp [h]
    have e2 : (if half z (p.1, flipC p.2) = true then (p.1, flipC p.2) :: (ps.map fun p => (p.1, flipC p.2)).filter (half z) else (ps.map fun p => (p.1, flipC p.2)).filter (half z)).length = (pwS s z p).length + ((ps.map fun p => (p.1, flipC p.2)).filter (half z)).length := by
      unfold pwS half
      by_cases h1 : p.1 ∈ z <;> by_cases h2 : flipC p.2 ∈ z <;> simp [h1, h2] <;> omega
    rw [e2]
    omega
theorem countP_or {s t : Nat} (h : s ≠ t) : ∀ w : List Nat, w.countP (fun c => decide (c = s ∨ c = t)) = w.count s + w.count t := by
  intro w
  induction w with
  | nil => rfl
  | cons c w ih =>
    rw [List.countP_cons, ih, List.count_cons, List.count_cons]
    by_cases h1 : c = s
    · subst h1; simp [h]; omega
    · by_cases h2 : c = t
      · subst h2; simp [h1]; omega
      · simp [h1, h2]
theorem zip_fst : ∀ (l m : List Nat) (p : Nat → Bool), l.length = m.length → (List.zip l m).countP (fun q => p q.1) = l.countP p := by
  intro l
  induction l with
  | nil => intro m p _; rfl
  | cons a l ih =>
    intro m p h
    cases m with
    | nil => cases h
    | cons b m =>
      rw [List.zip_cons_cons, List.countP_cons, List.countP_cons, ih m p (by simpa using h)]
theorem cyc_len (h : MvOk r s z) (w : List Nat) : (cycS s z w).length + (w.count s + w.count (flipC s)) = w.length + ((tieR w).filter (half z)).length := by
  have hne : s ≠ flipC s := fun e => (al_flip s (alph_al h.hs)).2 e.symm
  have g := gS_len (s := s) (z := z) (List.zip w (nextR w))
  rw [zip_fst w (nextR w) (fun c => decide (c = s ∨ c = flipC s)) (next_len w).symm, countP_or hne, List.length_zip, next_len, Nat.min_self] at g
  have e : (List.zip w (nextR w)).map (fun p => (p.1, flipC p.2)) = tieR w := by
    unfold tieR
    rw [List.zip_map_right]; rfl
  rw [e] at g
  exact g
theorem ringO_of_crr {t : List Nat} (ha : ∀ c ∈ t, c ∈ al) (h : CRr t) : IsRot t (ringO t) := by
  have := ringO_rot ha h.1
  rwa [h.core] at this
/-- the ring of the image is the ring of the cyclic word -/
theorem ring_mv (hr : Rk r) (h : MvOk r s z) {w : List Nat} (hw : CRr w) (ha : ∀ c ∈ w, c ∈ alph r) : ringO (mapW (mvI r s z) w) = ringO (cycS s z w) ∧ (∀ c ∈ cycS s z w, c ∈ al) := by
  have hsa := alph_al h.hs
  have hm : ∀ c ∈ cycS s z w, c ∈ al := fun c hc => by
    unfold cycS gS at hc
    obtain ⟨l, hl, hcl⟩ := List.mem_flatten.mp hc
    obtain ⟨p, hp, rfl⟩ := List.mem_map.mp hl
    have h1 := alph_al (ha _ (List.of_mem_zip hp).1)
    have hf := (al_flip s hsa).1
    rcases List.mem_append.mp hcl with h2 | h2
    · unfold midS at h2
      split at h2
      · cases h2
      · rw [List.mem_singleton.mp h2]; exact h1
    · unfold pwS at h2
      split at h2 <;> split at h2 <;> first | (cases h2; done) | (rw [List.mem_singleton.mp h2]; assumption)
  refine ⟨?_, hm⟩
  cases w with
  | nil => rfl
  | cons x v =>
    have g := g_free hr h x v x ha
    have n : nextR (x :: v) = v ++ [x] := rfl
    have pa : ∀ c ∈ preS s z x, c ∈ al := fun c hc => by
      unfold preS at hc
      split at hc
      · rw [List.mem_singleton.mp hc]; exact (al_flip s hsa).1
      · cases hc
    have e1 : freeW (preS s z x ++ cycS s z (x :: v) ++ invW (preS s z x)) = freeW (subT (mvI r s z) (x :: v)) := by
      have : freeW (preS s z x ++ gS s z (List.zip (x :: v) (v ++ [x])) ++ invW (preS s z x)) = freeW (subT (mvI r s z) (x :: v) ++ preS s z x ++ invW (preS s z x)) := by
        rw [← free_app_l (preS s z x ++ _), g, free_app_l]
      unfold cycS
      rw [n, this, List.append_assoc, ← free_app_r, free_inv_r, List.append_nil]
    unfold mapW
    rw [← e1, ring_conj pa hm, free_of_red (cyc_crr h hw).1]
theorem ring_mv_len (hr : Rk r) (h : MvOk r s z) {w : List Nat} (hw : CRr w) (ha : ∀ c ∈ w, c ∈ alph r) :
    (ringO (mapW (mvI r s z) w)).length + (w.count s + w.count (flipC s)) = w.length + ((tieR w).filter (half z)).length := by
  obtain ⟨e, hm⟩ := ring_mv hr h hw ha
  rw [e, (ringO_of_crr hm (cyc_crr h hw)).len]
  exact cyc_len h w
/-- the rule of change for rows -/
theorem row_mv_len (hr : Rk r) (h : MvOk r s z) : ∀ {rs : List (List Nat)}, RowL r rs →
    ((rs.map fun w => ringO (mapW (mvI r s z) w)).flatten).length + degN rs s = rs.flatten.length + cutN rs z := by
  intro rs
  induction rs with
  | nil => intro _; rfl
  | cons w rs ih =>
    intro hR
    obtain ⟨ha, hw⟩ := hR w List.mem_cons_self
    have e := ring_mv_len hr h hw ha
    have i := ih fun s hs => hR s (List.mem_cons_of_mem _ hs)
    have c : cutN (w :: rs) z = ((tieR w).filter (half z)).length + cutN rs z := by
      unfold cutN ties
      rw [List.map_cons, List.flatten_cons, List.filter_append, List.length_append]
    have d : degN (w :: rs) s = (w.count s + w.count (flipC s)) + degN rs s := by
      unfold degN
      rw [List.map_cons, List.sum_cons]
    rw [List.map_cons, List.flatten_cons, List.flatten_cons, List.length_append, List.length_append, c, d]
    omega
/-- the other letter and the other side: the same row -/
def coS (r : Int) (z : List Nat) : List Nat := (alph r).filterMap fun c => if c ∉ z then some c else none
theorem coS_mem {c : Nat} (hc : c ∈ alph r) : c ∈ coS r z ↔ c ∉ z := by
  unfold coS
  rw [fm_mem]
  exact ⟨fun h => h.2, fun h => ⟨hc, h⟩⟩
theorem co_ok (hr : Rk r) (h : MvOk r s z) : MvOk r (flipC s) (coS r z) := by
  have hf := alph_flip hr s h.hs
  refine ⟨hf, fm_sub _, (coS_mem hf).mpr h.ho, ?_⟩
  rw [DL.flip_flip]
  exact fun e => (coS_mem h.hs).mp e h.hi
theorem sub_co (hr : Rk r) (h : MvOk r s z) {c : Nat} (hc : c ∈ alph r) : freeW (subC (mvI r (flipC s) (coS r z)) c) = freeW ([s] ++ subC (mvI r s z) c ++ [flipC s]) := by
  rw [sub_mv hr (co_ok hr h) hc, sub_mv hr h hc]
  have hfc := alph_flip hr c hc
  have p1 : freeW (preS (flipC s) (coS r z) c) = freeW ([s] ++ preS s z c) := by
    unfold preS
    rw [DL.flip_flip]
    by_cases e : flipC c ∈ z
    · rw [if_pos e, if_neg (fun k => (coS_mem hfc).mp k e)]
      have := free_pair [] [] s
      simpa using this.symm
    · rw [if_neg e, if_pos ((coS_mem hfc).mpr e)]; rfl
  have p2 : freeW (posS (flipC s) (coS r z) c) = freeW (posS s z c ++ [flipC s]) := by
    unfold posS
    by_cases e : c ∈ z
    · rw [if_pos e, if_neg (fun k => (coS_mem hc).mp k e)]
      have := free_pair [] [] s
      simpa using this.symm
    · rw [if_neg e, if_pos ((coS_mem hc).mpr e)]; rfl
  have m : midS (flipC s) c = midS s c := by
    unfold midS
    rw [DL.flip_flip]
    by_cases h1 : c = s <;> by_cases h2 : c = flipC s <;> simp [h1, h2]
  rw [m]
  have e1 := free_mid (a := []) (d := midS s c ++ posS (flipC s) (coS r z) c) p1
  have e2 := free_mid (a := [s] ++ preS s z c ++ midS s c) (d := []) p2
  simp only [List.nil_append, List.append_nil, List.append_assoc] at e1 e2 ⊢
  rw [e1, e2]
theorem subT_co (hr : Rk r) (h : MvOk r s z) : ∀ {w : List Nat}, (∀ c ∈ w, c ∈ alph r) → freeW (subT (mvI r (flipC s) (coS r z)) w) = freeW ([s] ++ subT (mvI r s z) w ++ [flipC s]) := by
  intro w
  induction w with
  | nil =>
    intro _
    rw [subT_nil, subT_nil]
    have := free_pair [] [] s
    simpa using this.symm
  | cons c w ih =>
    intro ha
    rw [subT_cons, subT_cons, ← free_app_l, sub_co hr h (ha c List.mem_cons_self), free_app_l, ← free_app_r, ih fun d hd => ha d (List.mem_cons_of_mem _ hd), free_app_r]
    have := free_pair ([s] ++ subC (mvI r s z) c) (subT (mvI r s z) w ++ [flipC s]) (flipC s)
    rw [DL.flip_flip] at this
    simp only [List.append_assoc, List.singleton_append, List.cons_append, List.nil_append] at this ⊢
    exact this
theorem ring_co (hr : Rk r) (h : MvOk r s z) {w : List Nat} (ha : ∀ c ∈ w, c ∈ alph r) : ringO (mapW (mvI r (flipC s) (coS r z)) w) = ringO (mapW (mvI r s z) w) := by
  unfold mapW
  rw [subT_co hr h ha]
  have := ring_conj (u := [s]) (s := subT (mvI r s z) w) (fun c hc => by rw [List.mem_singleton.mp hc]; exact alph_al h.hs) (fun c hc => alph_al ((show ImA r (mvI r s z) from Stp.imA hr (x := .mv s z) h).subT hr ha c hc))
  rwa [inv_one] at this
theorem cutN_le (z : List Nat) : ∀ rs : List (List Nat), cutN rs z ≤ rs.flatten.length := by
  intro rs
  induction rs with
  | nil => exact Nat.le_refl _
  | cons w rs ih =>
    have c : cutN (w :: rs) z = ((tieR w).filter (half z)).length + cutN rs z := by
      unfold cutN ties
      rw [List.map_cons, List.flatten_cons, List.filter_append, List.length_append]
    have h1 : ((tieR w).filter (half z)).length ≤ w.length := Nat.le_trans (List.length_filter_le _ _) (by rw [tie_len]; exact Nat.le_refl _)
    rw [c, List.flatten_cons, List.length_append]
    omega
/-- the image of a ring is not empty -/
theorem mv_ne (hr : Rk r) (h : MvOk r s z) {w : List Nat} (hw : CRr w) (ha : ∀ c ∈ w, c ∈ alph r) (hne : w ≠ []) : mapW (mvI r s z) w ≠ [] := by
  intro e
  have l := ring_mv_len hr h hw ha
  rw [e] at l
  have l0 : (ringO []).length = 0 := rfl
  rw [l0] at l
  have hsf : s ≠ flipC s := fun e => (al_flip s (alph_al h.hs)).2 e.symm
  have cp := countP_or hsf w
  have le : w.countP (fun c => decide (c = s ∨ c = flipC s)) ≤ w.length := List.countP_le_length
  have all : ∀ c ∈ w, c = s ∨ c = flipC s := fun c hc => of_decide_eq_true (List.countP_eq_length.mp (show w.countP (fun c => decide (c = s ∨ c = flipC s)) = w.length by omega) c hc)
  have none0 : ((tieR w).filter (half z)).length = 0 := by omega
  cases w with
  | nil => exact hne rfl
  | cons x v =>
    have hx := all x List.mem_cons_self
    have r2 := crr_two hw 0
    rw [List.take_zero, List.append_nil] at r2
    obtain ⟨y, hy1, hy2⟩ : ∃ y, (x :: v ++ (x :: v))[1]? = some y ∧ (v ++ [x])[0]? = some y := by
      cases v with
      | nil => exact ⟨x, rfl, rfl⟩
      | cons a v => exact ⟨a, rfl, rfl⟩
    have hxy : x ≠ flipC y := r2 0 x y rfl hy1
    have hym : y = s ∨ y = flipC s := by
      have : y ∈ v ++ [x] := List.mem_of_getElem? hy2
      exact all y (by rcases List.mem_append.mp this with h | h; exact List.mem_cons_of_mem _ h; rw [List.mem_singleton.mp h]; exact List.mem_cons_self)
    have eyx : y = x := by
      rcases hx with e1 | e1 <;> rcases hym with e2 | e2
      · rw [e1, e2]
      · exact (hxy (by rw [e1, e2, DL.flip_flip])).elim
      · exact (hxy (by rw [e1, e2])).elim
      · rw [e1, e2]
    have hh : half z (x, flipC y) = true := by
      rw [eyx]
      unfold half
      rcases hx with e1 | e1
      · simp [e1, h.hi, h.ho]
      · simp [e1, DL.flip_flip, h.hi, h.ho]
    have ht : (tieR (x :: v))[0]? = some (x, flipC y) := tie_at (s := x :: v) rfl hy2
    have : (x, flipC y) ∈ (tieR (x :: v)).filter (half z) := List.mem_filter.mpr ⟨List.mem_of_getElem? ht, hh⟩
    rw [List.eq_nil_of_length_eq_zero none0] at this
    cases this
end
end DL
namespace DL
open PySem PySem.Spec PySem.W PyProof.Rows L2
variable [HasT]
/-! ### a text among texts -/
theorem reps_strsV {K : PySem.W.Frag} {G : Hp} : ∀ {l : List (List Nat)} {xs : List V}, Reps K G xs (l.map .str) → xs = l.map fun s => V.str (S s)
  | [], xs, h => by cases h; rfl
  | s :: l, xs, h => by
    cases h with
    | cons a b =>
      cases a
      rw [reps_strsV b]; rfl
theorem inV_strs (w : List Nat) : ∀ l : List (List Nat), inV (V.str (S w)) (l.map fun s => V.str (S s)) = decide (w ∈ l) := by
  intro l
  unfold inV
  induction l with
  | nil => rfl
  | cons s l ih =>
    rw [List.map_cons, List.any_cons, ih]
    have : eqV (V.str (S s)) (V.str (S w)) = decide (w = s) := by
      by_cases e : w = s
      · subst e; simp [eqV]
      · have : ¬ S s = S w := fun h => e (S_inj h).symm
        simp [eqV, this, e]
    rw [this]
    simp
theorem flat_strs (l : List (List Nat)) : (l.map fun s => V.str (S s)).all flatV = true := by
  rw [List.all_eq_true]
  intro x hx
  obtain ⟨s, _, rfl⟩ := List.mem_map.mp hx
  rfl
section
variable {K : PySem.W.Frag} {post : Rs → Prop} {w : List Nat} {l : List (List Nat)}
theorem od_in_tupS (q : post (.d (.bl (decide (w ∈ l))))) : OD K (rInP K) (.str w) (.tup (l.map .str)) post := by
  intro G F H v u f rx ry Q k
  have r1 := rx.rep f.g
  have r2 := ry.rep f.g
  cases r1
  cases r2 with
  | tup h1 h2 =>
    rw [reps_strsV h2] at h1
    refine .inr ⟨_, _, rfl, .inr h1, rfl, flat_strs l, ?_⟩
    rw [if_neg (by decide), inV_strs]
    exact k _ (.d (.bl _)) G F H (.refl _) (.refl _) f (Rep.bl _) q
theorem od_notin_tupS (q : post (.d (.bl (!decide (w ∈ l))))) : OD K (rNotInP K) (.str w) (.tup (l.map .str)) post := by
  intro G F H v u f rx ry Q k
  have r1 := rx.rep f.g
  have r2 := ry.rep f.g
  cases r1
  cases r2 with
  | tup h1 h2 =>
    rw [reps_strsV h2] at h1
    refine .inr ⟨_, _, rfl, .inr h1, rfl, flat_strs l, ?_⟩
    rw [if_pos rfl, inV_strs]
    exact k _ (.d (.bl _)) G F H (.refl _) (.refl _) f (Rep.bl _) q
theorem od_in_lstS (q : post (.d (.bl (decide (w ∈ l))))) : OD K (rInP K) (.str w) (.lst (l.map .str)) post := by
  intro G F H v u f rx ry Q k
  have r1 := rx.rep f.g
  have r2 := ry.rep f.g
  cases r1
  cases r2 with
  | lst h1 h2 =>
    rw [reps_strsV h2] at h1
    refine .inr ⟨_, _, rfl, .inl h1, rfl, flat_strs l, ?_⟩
    rw [if_neg (by decide), inV_strs]
    exact k _ (.d (.bl _)) G F H (.refl _) (.refl _) f (Rep.bl _) q
theorem od_notin_lstS (q : post (.d (.bl (!decide (w ∈ l))))) : OD K (rNotInP K) (.str w) (.lst (l.map .str)) post := by
  intro G F H v u f rx ry Q k
  have r1 := rx.rep f.g
  have r2 := ry.rep f.g
  cases r1
  cases r2 with
  | lst h1 h2 =>
    rw [reps_strsV h2] at h1
    refine .inr ⟨_, _, rfl, .inl h1, rfl, flat_strs l, ?_⟩
    rw [if_pos rfl, inV_strs]
    exact k _ (.d (.bl _)) G F H (.refl _) (.refl _) f (Rep.bl _) q
end
theorem mvD_ok {s : Nat} {z : List Nat} (hs : s < 128) (hz : ascii z) : okD (mvD s z) = true ∧ depD (mvD s z) ≤ 40 := by
  have p := pj_tup (m := 3) (n := 0) (w := z.length + 4) (ds := [D.str [109, 111, 118, 101], D.str [s], D.str z]) (fun d hd => by
    simp only [List.mem_cons, List.not_mem_nil, or_false] at hd
    rcases hd with rfl | rfl | rfl
    · exact pj_str (by unfold ascii; decide) (by simp)
    · exact pj_str (asc1 hs) (by simp)
    · exact pj_str hz (by omega)) (by simp)
  exact ⟨p.ok, Nat.le_trans p.dep (by decide)⟩
end DL
namespace DL
theorem _root_.List.length_le_of_mem_flatten' {α : Type} {w : List α} : ∀ {l : List (List α)}, w ∈ l → w.length ≤ l.flatten.length
  | a :: l, h => by
    rw [List.flatten_cons, List.length_append]
    rcases List.mem_cons.mp h with e | e
    · rw [e]; omega
    · have := List.length_le_of_mem_flatten' e
      omega
end DL
namespace DL
open PySem PySem.Spec PySem.W PyProof.Rows L2
variable [HasT]
/-! ### a walk over a list of new lists, each of which the body may change -/
/-- the items from k on stand as they were made, and no slot holds them -/
structure Pend (K : PySem.W.Frag) (G F : Hp) (ρ : List Sl) (Dd : Addr) (ps : List Addr) (Pz : Nat → List D → Prop) (k : Nat) : Prop where
  nd : ps.Nodup
  dn : Dd ∉ ps
  dc : Dd ∉ cells ρ
  df : F Dd = some (.lst (ps.map V.ref))
  it : ∀ (j : Nat) p, ps[j]? = some p → k ≤ j → p ∉ cells ρ ∧ ∃ xs ds, F p = some (.lst xs) ∧ Reps K G xs ds ∧ Pz j ds
section
variable {K : PySem.W.Frag} {ρ : List Sl} {P : PD}
theorem sd_forN {wi : TI} {g : TG} {te : TE} {tb : TS} {vs : List Nat} {i : Nat} (Pz : Nat → List D → Prop)
    (h : EI K ρ wi fun its ρ1 => ρ1 = ρ ∧ NoC vs ρ ∧ its.length ≤ 1000 ∧
      (∀ (k : Nat) x, its[k]? = some x → ∃ qs, GT K g x qs ∧ (∀ q ∈ qs, q.1 ∈ vs) ∧ ED K (setS (wipeS ρ vs) qs) te fun a ρ5 => (∃ p ds, a = .n p (.lst ds) ∧ Pz k ds) ∧ restore ρ ρ5 = ρ) ∧
      ∃ Jv : Nat → List Sl → Prop, Jv 0 ρ ∧
        (∀ (k : Nat) ρ2 p ds, k < its.length → Jv k ρ2 → Pz k ds → SD K (ρ2.set i (.cell p (.lst ds))) tb { nx := Jv (k + 1), ct := Jv (k + 1), bk := P.nx, rt := P.rt, xe := P.xe, xp := P.xp }) ∧
        ∀ ρ2, Jv its.length ρ2 → P.nx ρ2) : SD K ρ (tFor (iList K (tLc wi g tYes te vs)) (gName i) tb) P := by
  intro G F H σ f e Dn k
  refine h G F H σ f e _ fun J its ρ1 G1 F1 H1 s1 sh1 e1 wk ⟨hρ0, hn, hlen, hel, Jv, j0, hbody, hend⟩ Dd hD => ?_
  have hρ := hρ0.symm
  subst hρ
  have hF : F1 Dd = none := none_of_same s1.fr.f hD
  have nc1 : Dd ∉ cells ρ := fun z => by
    obtain ⟨i, y, ez⟩ := cells_mem z
    obtain ⟨o, ho⟩ := (e1.cell ez).2.some
    rw [hF] at ho; cases ho
  have e1' : Env K G1 (upd F1 Dd (.lst [])) σ ρ := e1.mono (.refl _) fun q hq => upd_ne fun z => nc1 (z ▸ hq)
  have s1' : Nx ρ G1 F1 ρ G1 (upd F1 Dd (.lst [])) (upd H1 Dd (.lst [])) := ⟨.refl _, s1.fr.newF hD, fun b o hb _ => by
    have : b ≠ Dd := fun z => by rw [z, hF] at hb; cases hb
    rw [upd_ne this]; exact hb, fun _ h => .inl h⟩
  -- making the list
  refine ⟨fun m n H2 => n = its.length - m ∧ m ≤ its.length ∧ ∃ ps G2 F2, Nx ρ G1 F1 ρ G2 F2 H2 ∧ Env K G2 F2 σ ρ ∧ ps.length = m ∧ (∀ p ∈ ps, F p = none) ∧ Pend K G2 F2 ρ Dd ps Pz 0,
    ⟨its.length, by simp, Nat.zero_le _, [], G1, _, s1', e1', rfl, (fun p hp => by cases hp), ⟨List.nodup_nil, by simp, nc1, upd_same, fun j p hp => by simp at hp⟩⟩, ?_⟩
  rintro m n H2 ⟨rfl, hm, ps, G2, F2, s2, e2, hps, hf0, pd⟩
  obtain ⟨w1, w2, w3⟩ := wk G2 F2 H2 s2.ex s2.fr m
  by_cases hlt : m < its.length
  · refine .inr ⟨w1 hlt, fun H3 => ∃ ps G2 F2, Nx ρ G1 F1 ρ G2 F2 H3 ∧ Env K G2 F2 σ ρ ∧ ps.length = m + 1 ∧ (∀ p ∈ ps, F p = none) ∧ Pend K G2 F2 ρ Dd ps Pz 0, fun H3 z => ⟨its.length - (m + 1), by omega, rfl, hlt, z⟩, fun x H' hy => ?_⟩
    have hx : its[m]? = some its[m] := List.getElem?_eq_getElem hlt
    obtain ⟨G3, a1, a2, a3, a4⟩ := w3 x H' hy _ hx
    obtain ⟨qs, gt, hqs, ed⟩ := hel m _ hx
    refine gt G3 F2 H' (L2.wipe σ vs) x a2 a3 _ fun us ok => ?_
    have hus : ∀ u ∈ us, u.1 ∈ vs := fun u hu => by
      have : u.1 ∈ qs.map (·.1) := by rw [← ok.idx]; exact List.mem_map.mpr ⟨u, hu, rfl⟩
      obtain ⟨q, hq, e⟩ := List.mem_map.mp this
      rw [← e]; exact hqs q hq
    refine ⟨wipe_setV hus, ?_⟩
    have e3 : Env K G3 F2 (setV (L2.wipe σ vs) us) (setS (wipeS ρ vs) qs) := ((e2.mono a1 fun _ _ => rfl).wipe vs).setMany ok
    have hl3 : (setV (L2.wipe σ vs) us).length = σ.length := by rw [setV_len, wipe_length]
    have c3 : ∀ p, p ∈ cells (setS (wipeS ρ vs) qs) → p ∈ cells ρ := fun p hp => cells_wipe (cells_setS hp)
    have g3 : ∀ j, j ∉ vs → (setS (wipeS ρ vs) qs)[j]? = ρ[j]? := fun j hj => by
      rw [setS_get (fun q hq z => hj (by rw [← z]; exact hqs q hq)), wipeS_get _ _ _ hj]
    show te _ _ _
    refine ed G3 F2 H' _ a2 e3 _ fun v a ρ5 G5 F5 H5 s5 sh5 e5 o5 w5 ⟨⟨p, ds, ea, pz⟩, hres⟩ => ?_
    subst ea
    obtain ⟨rfl, ⟨xs, hx5, r5⟩, hn5⟩ := o5
    have hpn : F2 p = none := w5 p _ rfl
    obtain ⟨q1, q2, q3, q4⟩ := env_restore e2 hn (a1.trans s5.ex) g3 sh5 e5 (env_lens e2 e5 hl3)
    rw [hres] at q1
    have keep5 : ∀ b o, F2 b = some o → b ∉ cells ρ → F5 b = some o := fun b o hb hc => s5.keep b o hb fun z => hc (c3 b z)
    have s25 : Nx ρ G1 F1 ρ G5 F5 H5 := s2.trans ⟨a1.trans s5.ex, s5.fr, keep5, fun q hq => .inl hq⟩
    have hD5 : F5 Dd = some (.lst (ps.map V.ref)) := keep5 _ _ pd.df pd.dc
    have hpD : p ≠ Dd := fun z => by rw [z, pd.df] at hpn; cases hpn
    have hpc : p ∉ cells ρ := fun z => by
      obtain ⟨j, y, ez⟩ := cells_mem z
      obtain ⟨o, ho⟩ := (e2.cell ez).2.some
      rw [hpn] at ho; cases ho
    have hpp : p ∉ ps := fun z => by
      obtain ⟨j, hj⟩ := List.getElem?_of_mem z
      obtain ⟨_, xs', ds', h1, _⟩ := pd.it j p hj (Nat.zero_le _)
      rw [hpn] at h1; cases h1
    refine ⟨ps.map V.ref, s25.fr.f _ _ hD5, ?_, ps ++ [p], G5, upd F5 Dd (.lst (ps.map V.ref ++ [V.ref p])), ⟨s25.ex, s25.fr.setF hD5, fun b o hb hn => ?_, s25.cel⟩, q1.mono (.refl _) fun q hq => upd_ne fun z => pd.dc (z ▸ hq), by rw [List.length_append, hps]; rfl, ?_, ⟨?_, ?_, pd.dc, ?_, ?_⟩⟩
    · rw [List.length_map, hps]; exact Nat.lt_of_le_of_lt (show m ≤ 1000 by omega) (by decide)
    · have : b ≠ Dd := fun z => by rw [z, hF] at hb; cases hb
      rw [upd_ne this]
      exact s25.keep b o hb hn
    · intro q hq
      rcases List.mem_append.mp hq with z | z
      · exact hf0 q z
      · rw [List.mem_singleton.mp z]
        cases eF : F p with
        | none => rfl
        | some o => rw [(s1.trans s2).keep p o eF hpc] at hpn; cases hpn
    · refine List.nodup_append.mpr ⟨pd.nd, by simp, fun a ha b hb => ?_⟩
      rw [List.mem_singleton.mp hb]
      exact fun z => hpp (z ▸ ha)
    · intro z
      rcases List.mem_append.mp z with z | z
      · exact pd.dn z
      · exact hpD (List.mem_singleton.mp z).symm
    · rw [upd_same, List.map_append]; rfl
    · intro j p' hj _
      rw [List.getElem?_append] at hj
      split at hj
      · obtain ⟨h1, xs', ds', h2, h3, h4⟩ := pd.it j p' hj (Nat.zero_le _)
        have hne : p' ≠ Dd := fun z => pd.dn (z ▸ List.mem_of_getElem? hj)
        exact ⟨h1, xs', ds', by rw [upd_ne hne]; exact keep5 _ _ h2 h1, h3.mono (a1.trans s5.ex), h4⟩
      · rename_i hge
        have e0 : j = ps.length := by
          by_cases z : j - ps.length = 0
          · omega
          · rw [List.getElem?_eq_none (by simp; omega)] at hj; cases hj
        rw [e0, Nat.sub_self] at hj
        cases hj
        exact ⟨hpc, xs, ds, by rw [upd_ne hpD]; exact hx5, r5, by rw [e0, hps]; exact pz⟩
  -- walking it
  have em : m = its.length := by omega
  refine .inl ⟨w2 em, Dd, rfl, ⟨ps.map V.ref, .inl (.inl (s2.fr.f _ _ pd.df))⟩, ?_⟩
  have s0 : Nx ρ G F ρ G2 F2 H2 := s1.trans s2
  have hnF : ∀ b : Addr, (b = Dd ∨ b ∈ ps) → True := fun _ _ => trivial
  refine ⟨fun c n σ3 H3 => n = ps.length - c ∧ c ≤ ps.length ∧ ∃ ρ3 G3 F3, Nx ρ G F ρ3 G3 F3 H3 ∧ Env K G3 F3 σ3 ρ3 ∧ Pend K G3 F3 ρ3 Dd ps Pz c ∧ Jv c ρ3,
    ⟨ps.length, by simp, Nat.zero_le _, ρ, G2, F2, s0, e2, pd, j0⟩, ?_⟩
  rintro c n σ3 H3 ⟨rfl, hc, ρ3, G3, F3, s3, e3, pd3, j3⟩
  have hDl : SqL K H3 Dd (ps.map V.ref) := .inl (.inl (s3.fr.f _ _ pd3.df))
  by_cases hlt : c < ps.length
  · have hpc : ps[c]? = some ps[c] := List.getElem?_eq_getElem hlt
    refine .inr ⟨⟨_, .ref ps[c], hDl, by rw [List.getElem?_map, hpc]; rfl⟩, fun σ4 H4 => ∃ ρ4 G4 F4, Nx ρ G F ρ4 G4 F4 H4 ∧ Env K G4 F4 σ4 ρ4 ∧ Pend K G4 F4 ρ4 Dd ps Pz (c + 1) ∧ Jv (c + 1) ρ4, fun σ4 H4 z => ⟨ps.length - (c + 1), by omega, rfl, hlt, z⟩, fun x H' hy => ?_⟩
    obtain ⟨rfl, hy⟩ := hy
    have hx := hy _ hDl
    rw [List.getElem?_map, hpc] at hx
    cases hx
    obtain ⟨hnc, xs, ds, hfx, hrx, hpz⟩ := pd3.it c _ hpc (Nat.le_refl _)
    show tb _ _ _
    have env4 : Env K G3 F3 (σ3.set i (some (.ref ps[c]))) (ρ3.set i (.cell ps[c] (.lst ds))) := e3.set i ⟨rfl, xs, hfx, hrx⟩ fun q hq => by cases hq; exact hnc
    have hpD : ps[c] ≠ Dd := fun z => pd3.dn (z ▸ List.getElem_mem hlt)
    have sub : ∀ q, q ∈ cells (ρ3.set i (.cell ps[c] (.lst ds))) → q ∈ cells ρ3 ∨ q = ps[c] := fun q hq => by
      rcases cells_set_sub hq with z | z
      · exact .inl z
      · cases z; exact .inr rfl
    have F0 : F ps[c] = none := hf0 _ (List.getElem_mem hlt)
    have s34 : Nx ρ G F (ρ3.set i (.cell ps[c] (.lst ds))) G3 F3 _ := nx_set s3 fun q hq => by cases hq; exact F0
    have nxt : ∀ (ρ4 : List Sl) (G4 F4 H4 : Hp), Nx (ρ3.set i (.cell ps[c] (.lst ds))) G3 F3 ρ4 G4 F4 H4 → Pend K G4 F4 ρ4 Dd ps Pz (c + 1) := fun ρ4 G4 F4 H4 s4 => by
      have out : ∀ b o, F3 b = some o → b ∉ cells ρ3 → b ≠ ps[c] → b ∉ cells ρ4 ∧ F4 b = some o := fun b o hb hb2 hb3 => by
        have nb : b ∉ cells (ρ3.set i (.cell ps[c] (.lst ds))) := fun z => (sub b z).elim hb2 hb3
        refine ⟨fun z => ?_, s4.keep b o hb nb⟩
        rcases s4.cel b z with z | z
        · exact nb z
        · rw [hb] at z; cases z
      obtain ⟨d1, d2⟩ := out Dd _ pd3.df pd3.dc hpD.symm
      refine ⟨pd3.nd, pd3.dn, d1, d2, fun j p' hj hjc => ?_⟩
      obtain ⟨h1, xs', ds', h2, h3, h4⟩ := pd3.it j p' hj (by omega)
      have hne : p' ≠ ps[c] := fun z => by
        have hj2 := (List.getElem?_eq_some_iff.mp hj)
        obtain ⟨hjl, ej⟩ := hj2
        exact (List.pairwise_iff_getElem.mp pd3.nd) c j hlt hjl (by omega) (ej.trans z).symm
      obtain ⟨o1, o2⟩ := out p' _ h2 h1 hne
      exact ⟨o1, xs', ds', o2, h3.mono s4.ex, h4⟩
    refine hbody c ρ3 ps[c] ds (by omega) j3 hpz G3 F3 _ _ s3.fr env4 _ ⟨?_, ?_, ?_, ?_, fun x cls d G4 F4 H4 s4 => k.ex x cls d G4 F4 H4 (s34.xtrans s4)⟩
    · intro ρ4 σ4 G4 F4 H4 s4 e4 q
      exact ⟨ρ4, G4, F4, s34.trans s4, e4, nxt ρ4 G4 F4 H4 s4, q⟩
    · intro v a ρ4 σ4 G4 F4 H4 s4 e4 o4 n4 q
      exact k.rt v a ρ4 σ4 G4 F4 H4 (s34.trans s4) e4 o4 (n4.back s34) q
    · intro ρ4 σ4 G4 F4 H4 s4 e4 q
      exact k.nx ρ4 σ4 G4 F4 H4 (s34.trans s4) e4 q
    · intro ρ4 σ4 G4 F4 H4 s4 e4 q
      exact ⟨ρ4, G4, F4, s34.trans s4, e4, nxt ρ4 G4 F4 H4 s4, q⟩
  · have ec : c = ps.length := by omega
    exact .inl ⟨⟨_, hDl, by rw [List.length_map]; omega⟩, k.nx ρ3 σ3 G3 F3 H3 s3 e3 (hend ρ3 (by rw [← em, ← hps, ← ec]; exact j3))⟩
end
end DL
namespace DL
open PySem PySem.Spec PyProof.Rows L2
variable [HasT]
/-! ### try: x = f(..): a direct call inside a try -/
theorem pe_callDW {X : Cx} {x : Str} {k : Nat} {ps : List Str} {sp : Sp} {W : WX} {p pos : Pos} {e : Expr} {es : List Expr} {t : TA} (Dk : DOkX X.prog X.w X.K X.mg X.base x k ps sp) (tk : Takes X W) (hr : Room k X.A) (ha : PA X (e :: es) t) (hg : Gl X x := by rfl) (hdb : (x == ("__debug__" : Str)) = false := by decide)
    (he : starEach (e :: es) X.env = (false, eval e X.env) :: starEach es X.env := by rfl) (hpl : (backTo pos (starEach es X.env)).any (·.1) = false := by rfl) :
    PE X (.Call (.Name x p) (e :: es) [] pos) (tCallS sp (WE W) t) := by
  obtain ⟨f, fd, h1, h2, h3, h4⟩ := Dk
  exact pe_callS h4 hr hg h1 h2 h3.1 (passAt tk) ha (hdb := hdb) (he := he) (hpl := hpl)
theorem exw_call {K : PySem.W.Frag} {ρ : List Sl} {n : Nat} {R : DSpX} {ta : TA} {post : Ar → List Sl → Prop} {xp : D → Prop} (hc : cells ρ = [])
    (h : EG K ρ ta fun as ρ1 => as.length = n ∧ (cells (as.map (arS ρ1))).Nodup ∧ R (as.map (arS ρ1)) (fun z ρ' => rsA post (wb as ρ' ρ1) z) xp) : EXW K ρ (fun W => tCallS (spX K n R) (WE W) ta) post xp := by
  intro G F H σ fr e Q W kn kx
  have := ex_call (E := WE W σ) h G F H σ fr e Q kn (fun x cls d G' F' H' s er hx => kx x cls d G' F' H' s.ex (fun b o hb => s.keep b o hb (by rw [hc]; simp)) s.fr er hx)
  simpa only [tCall, tCallS, List.append_nil] using this
end DL
namespace DL
open PySem PySem.Spec PySem.W PyProof.Rows L2
variable [HasT]
/-! ### max, min of integers -/
def rMaxD (K : PySem.W.Frag) : List V → Hp → VK → Prop := fun vs H Q => ∃ (a : Addr) (xs : List V) (d0 : PyData) (ds : List PyData), vs = [.ref a] ∧ SqL K H a xs ∧ DpAll K H xs (d0 :: ds) ∧ AlikeAll (d0 :: ds) ∧ PyData.depthAll (d0 :: ds) ≤ 60 ∧
  ∀ (i : Nat) v d, xs[i]? = some v → (d0 :: ds)[i]? = some d → d = maxD d0 ds → Q v H
theorem cr_maxD {X : Cx} (hc : X.calm = true) (hu : X.A.units + 64 < cLine) : CallR X (.builtin "max") (rMaxD X.K) := by
  intro pins s σ H vs us Q I r h
  obtain ⟨a, xs, d0, ds, rfl, hs, hd, ha, hdep, q⟩ := h
  obtain ⟨its, rv, hl, _⟩ := I.list hs
  rw [Vals.ref1 r]
  obtain ⟨as, hr⟩ := Dp.readsAll I (d0 :: ds) xs its hd rv
  refine max_list_data (I.ok.hd hc) hl.isList (by simpa using hr) ha (by omega) fun i v h' tk bs hv hrd hk => ?_
  have hv : its[i]? = some v := by simpa using hv
  have hi : i < xs.length := by rw [rv.length]; exact (List.getElem?_eq_some_iff.mp hv).1
  have hi2 : i < (d0 :: ds).length := by rw [← dpAll_len hd]; exact hi
  have e1 : xs[i]? = some xs[i] := List.getElem?_eq_getElem hi
  have e2 : (d0 :: ds)[i]? = some (d0 :: ds)[i] := List.getElem?_eq_getElem hi2
  obtain ⟨u, hu2, ru⟩ := rv.get e1
  rw [hv] at hu2
  cases hu2
  obtain ⟨bs2, r2⟩ := Dp.reads I _ _ v (dpAll_at hd e1 e2) ru
  have same := (Reads.unique (reads_keeps hk r2) _ _ hrd).1
  exact ⟨xs[i], H, I.kept (h' := h') (t' := tk) hk, ru, q i _ _ e1 e2 same⟩
theorem k_max {X : Cx} {K : PySem.W.Frag} (hK : X.K = K) (hc : X.calm = true) (hu : X.A.units + 64 < cLine) : CallR X (.builtin "max") (rMaxD K) := by subst hK; exact cr_maxD hc hu
theorem dp_intsV {K : PySem.W.Frag} {G : Hp} : ∀ {ss : List Int} {vs : List V}, Reps K G vs (ss.map .int) → DpAll K G vs (ss.map PyData.int) ∧ vs = ss.map V.int
  | [], [], _ => ⟨.nil, rfl⟩
  | s :: ss, _ :: vs, .cons h1 h2 => by
    cases h1
    obtain ⟨h3, h4⟩ := dp_intsV h2
    exact ⟨.cons (.int _) h3, by rw [h4]; rfl⟩
theorem fold_max : ∀ (ns : List Int) (n : Int), ns.foldl max n ∈ n :: ns ∧ ∀ y ∈ n :: ns, y ≤ ns.foldl max n
  | [], n => ⟨by simp, fun y hy => by rw [List.mem_singleton.mp hy]; exact Int.le_refl _⟩
  | k :: ns, n => by
    obtain ⟨h1, h2⟩ := fold_max ns (max n k)
    rw [List.foldl_cons]
    refine ⟨?_, fun y hy => ?_⟩
    · rcases List.mem_cons.mp h1 with e | e
      · rw [e]
        by_cases h : n ≤ k
        · rw [Int.max_eq_right h]; simp
        · rw [Int.max_eq_left (by omega)]; simp
      · exact List.mem_cons_of_mem _ (List.mem_cons_of_mem _ e)
    · have h3 := h2 (max n k) List.mem_cons_self
      rcases List.mem_cons.mp hy with rfl | hy
      · exact Int.le_trans (Int.le_max_left _ _) h3
      · rcases List.mem_cons.mp hy with rfl | hy
        · exact Int.le_trans (Int.le_max_right _ _) h3
        · exact h2 y (List.mem_cons_of_mem _ hy)
theorem fold_min : ∀ (ns : List Int) (n : Int), ns.foldl min n ∈ n :: ns ∧ ∀ y ∈ n :: ns, ns.foldl min n ≤ y
  | [], n => ⟨by simp, fun y hy => by rw [List.mem_singleton.mp hy]; exact Int.le_refl _⟩
  | k :: ns, n => by
    obtain ⟨h1, h2⟩ := fold_min ns (min n k)
    rw [List.foldl_cons]
    refine ⟨?_, fun y hy => ?_⟩
    · rcases List.mem_cons.mp h1 with e | e
      · rw [e]
        by_cases h : n ≤ k
        · rw [Int.min_eq_left h]; simp
        · rw [Int.min_eq_right (by omega)]; simp
      · exact List.mem_cons_of_mem _ (List.mem_cons_of_mem _ e)
    · have h3 := h2 (min n k) List.mem_cons_self
      rcases List.mem_cons.mp hy with rfl | hy
      · exact Int.le_trans h3 (Int.min_le_left _ _)
      · rcases List.mem_cons.mp hy with rfl | hy
        · exact Int.le_trans h3 (Int.min_le_right _ _)
        · exact h2 y (List.mem_cons_of_mem _ hy)
section
variable {K : PySem.W.Frag} {post : Rs → Prop}
theorem dep_ints (l : List Int) : PyData.depthAll (l.map PyData.int) ≤ 0 := by
  induction l with
  | nil => simp [PyData.depthAll]
  | cons s l ih => simp only [List.map_cons, PyData.depthAll, PyData.depth] at ih ⊢; omega
theorem ali_ints (l : List Int) : AlikeAll (l.map PyData.int) := ⟨fun x hx y hy => by
    obtain ⟨a, _, rfl⟩ := List.mem_map.mp hx
    obtain ⟨b, _, rfl⟩ := List.mem_map.mp hy
    rfl, fun x hx => by
    obtain ⟨a, _, rfl⟩ := List.mem_map.mp hx
    exact fun z => by cases z⟩
theorem cd_max_i {ns : List Int} (hne : ns ≠ []) (q : ∀ m ∈ ns, (∀ y ∈ ns, y ≤ m) → post (.d (.int m))) : CD K (rMaxD K) [.lst (ns.map .int)] post := by
  intro G F H vs f rx Q k
  cases rx with
  | cons rx r2 =>
    cases r2
    obtain ⟨p, xs, rfl, h1, h2⟩ := rx
    obtain ⟨hd, ev⟩ := dp_intsV (Reps.mono f.g h2)
    cases ns with
    | nil => exact absurd rfl hne
    | cons n ns =>
      refine ⟨p, xs, _, _, rfl, h1, hd, ali_ints (n :: ns), Nat.le_trans (dep_ints (n :: ns)) (by decide), fun i v d hv hdd e => ?_⟩
      have hdd : ((n :: ns).map PyData.int)[i]? = some d := hdd
      rw [List.getElem?_map] at hdd
      obtain ⟨a, ha, rfl⟩ := Option.map_eq_some_iff.mp hdd
      rw [maxD_ints] at e
      cases e
      obtain ⟨m1, m2⟩ := fold_max ns n
      rw [ev, List.getElem?_map, ha] at hv
      cases hv
      exact k _ (.d (.int _)) G F H (.refl _) (.refl _) f (Rep.int _) (q _ m1 m2)
theorem cd_min_i {ns : List Int} (hne : ns ≠ []) (q : ∀ m ∈ ns, (∀ y ∈ ns, m ≤ y) → post (.d (.int m))) : CD K (rMinD K) [.lst (ns.map .int)] post := by
  intro G F H vs f rx Q k
  cases rx with
  | cons rx r2 =>
    cases r2
    obtain ⟨p, xs, rfl, h1, h2⟩ := rx
    obtain ⟨hd, ev⟩ := dp_intsV (Reps.mono f.g h2)
    cases ns with
    | nil => exact absurd rfl hne
    | cons n ns =>
      refine ⟨p, xs, _, _, rfl, h1, hd, ali_ints (n :: ns), Nat.le_trans (dep_ints (n :: ns)) (by decide), fun i v d hv hdd e => ?_⟩
      have hdd : ((n :: ns).map PyData.int)[i]? = some d := hdd
      rw [List.getElem?_map] at hdd
      obtain ⟨a, ha, rfl⟩ := Option.map_eq_some_iff.mp hdd
      rw [minD_ints] at e
      cases e
      obtain ⟨m1, m2⟩ := fold_min ns n
      rw [ev, List.getElem?_map, ha] at hv
      cases hv
      exact k _ (.d (.int _)) G F H (.refl _) (.refl _) f (Rep.int _) (q _ m1 m2)
end
/-! ### an integer in a tuple of integers -/
theorem reps_intsV {K : PySem.W.Frag} {G : Hp} : ∀ {l : List Int} {xs : List V}, Reps K G xs (l.map .int) → xs = l.map V.int
  | [], xs, h => by cases h; rfl
  | s :: l, xs, h => by
    cases h with
    | cons a b =>
      cases a
      rw [reps_intsV b]; rfl
theorem inV_ints (w : Int) : ∀ l : List Int, inV (V.int w) (l.map V.int) = decide (w ∈ l) := by
  intro l
  unfold inV
  induction l with
  | nil => rfl
  | cons s l ih =>
    rw [List.map_cons, List.any_cons, ih]
    have : eqV (V.int s) (V.int w) = decide (w = s) := by
      by_cases e : w = s
      · subst e; simp [eqV]
      · have : ¬ s = w := fun h => e h.symm
        simp [eqV, this, e]
    rw [this]
    simp
theorem flat_ints (l : List Int) : (l.map V.int).all flatV = true := by
  rw [List.all_eq_true]
  intro x hx
  obtain ⟨s, _, rfl⟩ := List.mem_map.mp hx
  rfl
section
variable {K : PySem.W.Frag} {post : Rs → Prop} {w : Int} {l : List Int}
theorem od_in_tupI (q : post (.d (.bl (decide (w ∈ l))))) : OD K (rInP K) (.int w) (.tup (l.map .int)) post := by
  intro G F H v u f rx ry Q k
  have r1 := rx.rep f.g
  have r2 := ry.rep f.g
  cases r1
  cases r2 with
  | tup h1 h2 =>
    rw [reps_intsV h2] at h1
    refine .inr ⟨_, _, rfl, .inr h1, rfl, flat_ints l, ?_⟩
    rw [if_neg (by decide), inV_ints]
    exact k _ (.d (.bl _)) G F H (.refl _) (.refl _) f (Rep.bl _) q
theorem od_notin_tupI (q : post (.d (.bl (!decide (w ∈ l))))) : OD K (rNotInP K) (.int w) (.tup (l.map .int)) post := by
  intro G F H v u f rx ry Q k
  have r1 := rx.rep f.g
  have r2 := ry.rep f.g
  cases r1
  cases r2 with
  | tup h1 h2 =>
    rw [reps_intsV h2] at h1
    refine .inr ⟨_, _, rfl, .inr h1, rfl, flat_ints l, ?_⟩
    rw [if_pos rfl, inV_ints]
    exact k _ (.d (.bl _)) G F H (.refl _) (.refl _) f (Rep.bl _) q
end
/-! ### a promise that is never asked -/
section
variable {P : Program} {w : World} {K : PySem.W.Frag} {mg : Str → Option Value} {base : Heap}
theorem mk_def0 {x : Str} {st : Stmt} {ps : List Str} {n k : Nat} {R : DSp} (F : FunAt K mg x st ps) (h : ∀ ρ post, ¬ R ρ post) : DOk P w K mg base x k ps (spD K n R) := by
  obtain ⟨f, fd, hf, hg, hb⟩ := F
  refine ⟨f, fd, hg, hf.kp, ⟨hb, fnAt_of hf⟩, ⟨fun vs H Q E z => ?_, fun A outer s H args us vs Q E hr he hb hv z => ?_⟩⟩
  · obtain ⟨_, _, _, _, _, _, _, hR, _⟩ := z
    exact absurd hR (h _ _)
  · obtain ⟨_, _, _, _, _, _, _, hR, _⟩ := z
    exact absurd hR (h _ _)
end
/-! ### texts of one letter compared -/
def rGtS : R2 := fun x y H Q => ∃ i j, x = .str i ∧ y = .str j ∧ Q (.bl (decide (j.cps.toList < i.cps.toList))) H
theorem op_gtS {X : Cx} : OpR X (compareOp .Gt) rGtS := by
  intro pins s σ H x y v u Q I rx ry h
  obtain ⟨i, j, rfl, rfl, q⟩ := h
  obtain ⟨t, rfl⟩ := rx
  obtain ⟨t', rfl⟩ := ry
  exact PySem.P.gt_str (fin_bl I q rfl)
theorem od_gtS {K : PySem.W.Frag} {post : Rs → Prop} {a b : Nat} (q : post (.d (.bl (decide (b < a))))) : OD K rGtS (.str [a]) (.str [b]) post := by
  intro G F H v u f rx ry Q k
  have r1 := rx.rep f.g
  have r2 := ry.rep f.g
  cases r1
  cases r2
  refine ⟨_, _, rfl, rfl, ?_⟩
  have e : decide ((S [b]).cps.toList < (S [a]).cps.toList) = decide (b < a) := by
    rw [S_tl, S_tl]
    exact decide_eq_decide.mpr ⟨fun h => (List.cons_lt_cons_iff.mp h).elim id fun h => absurd h.2 (by simp), fun h => List.cons_lt_cons_iff.mpr (.inl h)⟩
  rw [e]
  exact k _ (.d (.bl _)) G F H (.refl _) (.refl _) f (Rep.bl _) q
end DL
namespace DL
open PySem PySem.Spec PyProof.Rows L2
variable [HasT]
/-! ### is True, is not False -/
def rIsBl : R2 := fun x y H Q => ∃ b, y = .bl b ∧ Q (.bl (decide (x = .bl b))) H
def rNotBl : R2 := fun x y H Q => ∃ b, y = .bl b ∧ Q (.bl (!decide (x = .bl b))) H
theorem op_isBD {X : Cx} : OpR X (compareOp .Is) rIsBl := by
  intro pins s σ H x y v u Q I rx ry h
  obtain ⟨b, rfl, q⟩ := h
  cases ry
  cases x with
  | bl c => cases rx; exact wpAny_is_plain rfl (fin_bl I q (by cases b <;> cases c <;> rfl))
  | non => cases rx; exact wpAny_is_plain rfl (fin_bl I q (by rfl))
  | ref a => cases rx; exact wpAny_is_plain rfl (fin_bl I q (by rfl))
  | ty a => cases rx; exact wpAny_is_plain rfl (fin_bl I q (by rfl))
  | _ => obtain ⟨t, rfl⟩ := rx; exact wpAny_is_plain rfl (fin_bl I q (by rfl))
theorem op_notBD {X : Cx} : OpR X (compareOp .IsNot) rNotBl := by
  intro pins s σ H x y v u Q I rx ry h
  obtain ⟨b, rfl, q⟩ := h
  cases ry
  cases x with
  | bl c => cases rx; exact wpAny_isNot_plain rfl (fin_bl I q (by cases b <;> cases c <;> rfl))
  | non => cases rx; exact wpAny_isNot_plain rfl (fin_bl I q (by rfl))
  | ref a => cases rx; exact wpAny_isNot_plain rfl (fin_bl I q (by rfl))
  | ty a => cases rx; exact wpAny_isNot_plain rfl (fin_bl I q (by rfl))
  | _ => obtain ⟨t, rfl⟩ := rx; exact wpAny_isNot_plain rfl (fin_bl I q (by rfl))
def isBD (x : D) (b : Bool) : Bool := match x with
  | .bl c => c == b
  | _ => false
theorem rep_isB {K : PySem.W.Frag} {G : Hp} {v : V} {x : D} {b : Bool} (h : Rep K G v x) : decide (v = .bl b) = isBD x b := by
  cases h <;> first | (rename_i c; cases b <;> cases c <;> rfl) | (simp [isBD])
section
variable {K : PySem.W.Frag} {x : D} {b : Bool} {post : Rs → Prop}
theorem od_isBl (q : post (.d (.bl (isBD x b)))) : OD K rIsBl x (.bl b) post := by
  intro G F H v w f rx ry Q k
  have e := rep_isB (b := b) (rx.rep f.g)
  have ew : w = .bl b := by
    have r := ry.rep f.g
    cases r
    rfl
  refine ⟨b, ew, ?_⟩
  rw [e]
  exact k _ (.d (.bl _)) G F H (.refl _) (.refl _) f (Rep.bl _) q
theorem od_notBl (q : post (.d (.bl (!isBD x b)))) : OD K rNotBl x (.bl b) post := by
  intro G F H v w f rx ry Q k
  have e := rep_isB (b := b) (rx.rep f.g)
  have ew : w = .bl b := by
    have r := ry.rep f.g
    cases r
    rfl
  refine ⟨b, ew, ?_⟩
  rw [e]
  exact k _ (.d (.bl _)) G F H (.refl _) (.refl _) f (Rep.bl _) q
end
end DL
namespace DL
open PySem PySem.Spec PyProof.Rows L2
/-! ### behind a local's store a token is out -/
section
variable {X : Cx} {pins : List (Addr × Obj)} {σ : L2.St} {H : Hp} {s : Shared}
theorem store_okT {M : Model} {A : Around} {E : Value → Shared → Prop} {i : Nat} {x : Str} {v : V} {u : Value} {Q : Unit → Shared → Prop} (I : Inv X pins σ H s) (hN : X.N.Nodup) (hi : X.N[i]? = some x) (hk : X.env.scope.names.lookup x = some .local) (r : RelV v u)
    (h : ∀ s', 1 ≤ s'.toks → Inv X pins (σ.set i (some v)) H s' → Q () s') : wpAny M A (storeName X.env x u) Q E s := by
  obtain ⟨m, hn, hl⟩ := id I.loc
  have hcls : (X.env.scope.kind == .class || (X.env.scope.kind == .module && X.env.locals != X.env.globals)) = false := by rw [I.ok.kind]; rfl
  have hiσ : i < σ.length := by rw [I.len]; exact (List.getElem?_eq_some_iff.mp hi).1
  have cne := I.cne
  have tracked : ∀ {a : Addr} {h' : Heap}, (∃ o, s.heap.get? a = some o ∧ H a = none) → Heap.SameBut a s.heap h' → HOk X.prog X.w H h' := fun {a h'} ha hs b ob e => by
    obtain ⟨_, _, hfree⟩ := ha
    refine (I.hok b ob e).stay (fun c w' hc q => (hs.2 c ?_).trans q) (fun _ q => q) fun _ _ q => q
    rintro rfl
    rcases hc with rfl | hc
    · rw [hfree] at e; cases e
    · rw [hfree] at hc; cases hc
  refine wpAny_storeName_local hk hn (fun h' hn' hs => ?_) hcls
  obtain ⟨oL, _, _, hoL, _⟩ := id hn
  refine h _ (by show 1 ≤ s.toks + 1; omega) ⟨I.ok, I.os, I.bare, ⟨fun b o e n hb hx => ?_, fun b o e n hb hx => ?_, I.base.free, fun b o e hx => ?_, I.base.tups, I.base.frzs, I.base.tbls⟩, ⟨_, hn', fun j y v' e1 e2 e3 => ?_⟩, fun y c e => ?_, I.free, I.freeC, fun p hp => ?_, tracked ⟨oL, hoL, I.free⟩ hs, by simpa using I.len⟩
  · exact (hs.2 b (Nat.ne_of_lt (Nat.lt_of_lt_of_le (Heap.lt_size e) I.ok.above))).trans (I.base.keep b o e n hb hx)
  · obtain ⟨sl, e1⟩ := I.base.slot b o e n hb hx
    exact ⟨sl, (hs.2 b (Nat.ne_of_lt (Nat.lt_of_lt_of_le (Heap.lt_size e) I.ok.above))).trans e1⟩
  · obtain ⟨o', e1⟩ := I.base.there b o e hx
    exact ⟨o', (hs.2 b (Nat.ne_of_lt (Nat.lt_of_lt_of_le (Heap.lt_size e) I.ok.above))).trans e1⟩
  · by_cases hj : j = i
    · subst hj
      rw [hi] at e1; cases e1
      rw [List.getElem?_set_self hiσ] at e2
      cases e2
      exact ⟨u, r, .inl ⟨hk, by simp⟩⟩
    · rw [List.getElem?_set_ne (Ne.symm hj)] at e2
      obtain ⟨u', r', q⟩ := hl j y v' e1 e2 e3
      refine ⟨u', r', ?_⟩
      rcases q with ⟨k, e⟩ | ⟨k, c, e, z⟩
      · refine .inl ⟨k, ?_⟩
        have : y ≠ x := fun e => hj (nodup_ix hN e1 (e ▸ hi))
        simp [this, e]
      · exact .inr ⟨k, c, e, z.sameBut hs (cne y c e)⟩
  · obtain ⟨w', z⟩ := I.cell y c e
    exact ⟨w', z.sameBut hs (cne y c e)⟩
  · obtain ⟨e, n, ne, nf, d⟩ := I.pin p hp
    exact ⟨(hs.2 p.1 ne).trans e, n, ne, nf, d⟩
end
section
variable {X : Cx} {rest : List Stmt} {u : TS}
/-- name = e, the rest with a token out -/
theorem pss_setT {i : Nat} {x : Str} {e : Expr} {te : TE} {pos' pos : Pos} (hN : X.N.Nodup) (hi : X.N[i]? = some x) (hk : X.env.scope.names.lookup x = some .local) (he : PE X e te) (h2 : PSsT X rest u) (hs : swapsWith e (some (.Name x pos')) pos.line X.env = pure false := by rfl) :
    PSs X (.Assign [.Name x pos'] e pos :: rest) (tSeq (tAsg te (gName i)) u) := by
  refine ⟨fun pins s σ H D I h => ?_⟩
  refine wpAny_execs_cons (wpAny_Assign_Name (thn (he.run pins s σ H _ I h) fun v s1 ⟨y, H1, I1, r1, q1⟩ => ?_) hs)
  exact store_okT I1 hN hi hk r1 fun s2 k2 I2 => h2 pins s2 _ H1 D k2 I2 q1
theorem pst_set {i : Nat} {x : Str} {e : Expr} {te : TE} {pos' pos : Pos} (hN : X.N.Nodup) (hi : X.N[i]? = some x) (hx : Loc X.env.scope x) (he : PET X e te) (hs : swapsWith e (some (.Name x pos')) pos.line X.env = pure false := by rfl) (hf : X.fn x = true ∨ X.env.scope.names.lookup x = some .local := by first | exact .inl rfl | exact .inr rfl | assumption) :
    PST X (.Assign [.Name x pos'] e pos) (tAsg te (gName i)) := by
  intro pins s σ H D h0 I h
  refine wpAny_Assign_Name (thn (he pins s σ H _ h0 I h) fun v s1 ⟨y, H1, I1, r1, q1⟩ => ?_) hs
  exact store_ok I1 hN hi hx r1 (fun s2 I2 => ⟨_, H1, I2, q1⟩) hf
end
/-! ### replace of written texts by data -/
section
variable [HasT] {K : PySem.W.Frag} {ρ : List Sl}
theorem ed_repl {to : TE} {y z : Str} {post : Ar → List Sl → Prop} (h : ED K ρ to fun a ρ1 => ∃ l : List Nat, arD ρ1 a = .str l ∧ l.length + (l.length + 1) * z.length ≤ 16777216 ∧ post (.d (.str (Txt.replace (S l) y z).cps.toList)) ρ1) : ED K ρ (CwR.tReplC to y z) post := by
  intro G F H σ f e Q k
  refine h G F H σ f e _ fun v a ρ' G' F' H' n sh e' o nw ⟨l, el, hz, q⟩ => ?_
  have t := o.top n.fr e'
  rw [el] at t
  cases t
  refine ⟨S l, rfl, by rw [S_len]; exact hz, ?_⟩
  refine k _ (.d (.str (Txt.replace (S l) y z).cps.toList)) ρ' G' F' H' n sh e' ?_ ArNew.d q
  show Rep K G' _ _
  rw [← S_of (Txt.replace (S l) y z)]
  rw [S_tl]
  exact .str _
end
section
variable [HasT] {K : PySem.W.Frag} {ρ : List Sl}
/-! ### startswith -/
def rStart : V → List V → Hp → VK → Prop := fun x xs H Q => ∃ a b, x = .str a ∧ xs = [.str b] ∧ Q (.bl (Txt.startswith a b)) H
theorem m_start {X : Cx} : MtR X "str.startswith" rStart := mt_startswith
theorem starts_eq (l m : List Nat) : Txt.startswith (S l) (S m) = decide (l.take m.length = m) := by
  show (decide (0 + (S m).length ≤ (S l).length) && Builtin.Str.subAt (S l) (S m) 0) = _
  rw [StrLaws.subAt_eq, S_tl, S_tl, S_len, S_len, List.drop_zero]
  by_cases h : l.take m.length = m
  · have hl : m.length ≤ l.length := by
      have := congrArg List.length h
      rw [List.length_take] at this
      omega
    rw [h, decide_eq_true (by omega : 0 + m.length ≤ l.length)]
    simp
  · rw [decide_eq_false h]
    have : (l.take m.length == m) = false := by simpa using h
    rw [this, Bool.and_false]
theorem md_start {l m : List Nat} {post : Rs → Prop} (q : post (.d (.bl (decide (l.take m.length = m))))) : MD K rStart (.str l) [.str m] post := by
  intro G F H v vs f rx rs Q k
  cases rx
  cases rs with
  | cons r1 r2 =>
    cases r2
    cases r1
    refine ⟨_, _, rfl, rfl, ?_⟩
    rw [starts_eq]
    exact k _ (.d (.bl _)) G F H (.refl _) (.refl _) f (Rep.bl _) q
/-! ### text or text -/
def tOrS (ta tb : TE) : TE := fun σ H Q => ta σ H fun x H1 => ∃ z : Str, x = .str z ∧ z.length ≤ sizeLine ∧ if z.length = 0 then tb σ H1 Q else Q (.str z) H1
theorem pe_orS {X : Cx} {a b : Expr} {rest : List Expr} {ta tb : TE} {pos : Pos} (ha : PE X a ta) (hb : PE X (.BoolOp .Or (b :: rest) pos) tb) : PE X (.BoolOp .Or (a :: b :: rest) pos) (tOrS ta tb) := by
  refine ⟨fun pins s σ H Q I h => ?_⟩
  refine BoolOp_or (thn (ha.run pins s σ H _ I h) fun v s1 ⟨x, H1, I1, r1, q1⟩ => ?_)
  obtain ⟨z, rfl, hz, q1⟩ := q1
  obtain ⟨t, rfl⟩ := r1
  have h63 : ¬ (z.length : Int) ≥ 2 ^ 63 := by
    have : (sizeLine : Int) < 2 ^ 63 := by decide
    have : (z.length : Int) ≤ (sizeLine : Int) := by exact_mod_cast hz
    omega
  refine PySem.P.truthy_str h63 ?_
  by_cases e : z.length = 0
  · rw [if_pos e] at q1
    have : ((z.length : Int) != 0) = false := by rw [e]; rfl
    rw [this]
    exact hb.run pins _ σ H1 Q (I1.tok _) q1
  · rw [if_neg e] at q1
    have : ((z.length : Int) != 0) = true := by simp; omega
    rw [this]
    exact ⟨.str z, H1, I1.tok _, ⟨t, rfl⟩, q1⟩
theorem ed_orS {ta tb : TE} {post : Ar → List Sl → Prop} (h : ED K ρ ta fun a ρ1 => ∃ l : List Nat, a = .d (.str l) ∧ l.length ≤ sizeLine ∧ if l = [] then ED K ρ1 tb post else post (.d (.str l)) ρ1) : ED K ρ (tOrS ta tb) post := by
  intro G F H σ f e Q k
  refine h G F H σ f e _ fun v a ρ' G' F' H' n sh e' o nw ⟨l, el, hz, q⟩ => ?_
  subst el
  cases o
  refine ⟨S l, rfl, by rw [S_len]; exact hz, ?_⟩
  rw [S_len]
  by_cases hl : l = []
  · subst hl
    rw [if_pos rfl] at q
    rw [if_pos (show ([] : List Nat).length = 0 from rfl)]
    exact q G' F' H' σ n.fr e' Q fun v a ρ2 G2 F2 H2 n2 sh2 e2 o2 w2 q2 => k v a ρ2 G2 F2 H2 (n.trans n2) (sh.trans sh2) e2 o2 (w2.back n sh e') q2
  · rw [if_neg hl] at q
    rw [if_neg (by intro z; exact hl (List.length_eq_zero_iff.mp z))]
    exact k _ (.d (.str l)) ρ' G' F' H' n sh e' (Rep.str l) ArNew.d q
/-! ### f"{name}text" -/
theorem ed_msg1 {i : Nat} {l m : List Nat} {z : Str} {post : Ar → List Sl → Prop} (h : ρ[i]? = some (.d (.str l))) (hz : z = S m) (hl : l.length + m.length ≤ 1000000) (q : post (.d (.str (l ++ m))) ρ) : ED K ρ (tMsg [tFmt (tVar i), tC (.str z)]) post := by
  intro G F H σ f e Q k
  obtain ⟨o, h1, v, rfl, hv⟩ := e.at_ i _ h
  cases hv
  have hb : (1000000 : Nat) ≤ sizeLine := by decide
  have e1 : (Str.empty ++ S l) = S l := by
    show (⟨#[] ++ l.toArray⟩ : Str) = ⟨l.toArray⟩
    simp
  have e2 : (S l ++ z) = S (l ++ m) := by
    rw [hz]
    show (⟨l.toArray ++ m.toArray⟩ : Str) = ⟨(l ++ m).toArray⟩
    simp
  refine ⟨_, h1, .inl ⟨S l, rfl, by rw [S_len]; omega, S l, rfl, by rw [e1, S_len]; omega, z, rfl, by rw [e1, e2, S_len, List.length_append]; omega, ?_⟩⟩
  rw [e1, e2]
  exact k _ (.d (.str (l ++ m))) ρ G F H (.refl f) (.refl ρ) e (Rep.str _) .d q
end
end DL
namespace DL
/-- the turn i takes the first letter -/
def incB (P n i : Nat) : Bool := decide (i * P / n < (i + 1) * P / n)
theorem div_step {P n i : Nat} (hn : 0 < n) : (i + 1) * P / n = i * P / n + (i * P % n + P) / n := by
  have e : (i + 1) * P = i * P + P := Nat.succ_mul i P
  have h1 := Nat.div_add_mod (i * P) n
  have : i * P + P = (i * P % n + P) + n * (i * P / n) := by omega
  rw [e, this, Nat.add_mul_div_left _ _ hn, Nat.add_comm]
theorem inc_mod {P n i : Nat} (hn : 0 < n) : incB P n i = decide (n ≤ i * P % n + P) := by
  unfold incB
  rw [div_step hn]
  by_cases h : n ≤ i * P % n + P
  · have : (i * P % n + P) / n ≥ 1 := (Nat.le_div_iff_mul_le hn).mpr (by omega)
    rw [decide_eq_true h, decide_eq_true (by omega)]
  · have : (i * P % n + P) / n = 0 := Nat.div_eq_of_lt (by omega)
    rw [decide_eq_false h, this, decide_eq_false (by omega)]
theorem inc_val {P n i : Nat} (hn : 0 < n) (hP : P ≤ n) : (i + 1) * P / n = i * P / n + (incB P n i).toNat := by
  rw [div_step hn, inc_mod hn]
  have h2 := Nat.mod_lt (i * P) hn
  by_cases h : n ≤ i * P % n + P
  · rw [decide_eq_true h]
    have : (i * P % n + P) / n = 1 := by
      rw [Nat.div_eq_iff hn]
      constructor <;> omega
    rw [this]; rfl
  · rw [decide_eq_false h, Nat.div_eq_of_lt (show i * P % n + P < n by omega)]; rfl
theorem bez : ∀ n, n < 61 → ∀ P, P < n + 1 → Nat.gcd P n = 1 → 0 < n → ∃ t, t < n ∧ (t * P + 1) % n = 0 := by decide +kernel
theorem mod_sum {a b n c : Nat} (hn : 0 < n) (h : a + b = n * c) : a % n = if b % n = 0 then 0 else n - b % n := by
  have h1 := Nat.mod_lt a hn
  have h2 := Nat.mod_lt b hn
  have h3 : (a % n + b % n) % n = 0 := by rw [← Nat.add_mod, h]; exact Nat.mul_mod_right n c
  split
  · rename_i e
    rw [e, Nat.add_zero, Nat.mod_mod] at h3
    exact h3
  · rename_i e
    rcases Nat.lt_or_ge (a % n + b % n) n with z | z
    · rw [Nat.mod_eq_of_lt z] at h3; omega
    · rw [Nat.mod_eq_sub_mod z, Nat.mod_eq_of_lt (by omega)] at h3; omega
section
variable {P n t : Nat} (hn : 0 < n) (hP : P ≤ n) (ht : (t * P + 1) % n = 0)
include hn ht
theorem shift_mod (i : Nat) : ((i + t) % n * P) % n = if i * P % n = 0 then n - 1 else i * P % n - 1 := by
  have e1 : ((i + t) % n * P) % n = (i * P + t * P) % n := by rw [Nat.mod_mul_mod, Nat.add_mul]
  have h2 := Nat.mod_lt (i * P) hn
  have hv : (i * P + t * P + 1) % n = i * P % n := by
    rw [Nat.add_assoc, Nat.add_mod, ht, Nat.add_zero, Nat.mod_mod]
  have h3 := Nat.mod_lt (i * P + t * P) hn
  rw [e1]
  have h4 : ((i * P + t * P) % n + 1) % n = i * P % n := by rw [← hv]; simp
  by_cases z : (i * P + t * P) % n + 1 < n
  · rw [Nat.mod_eq_of_lt z] at h4
    rw [← h4, if_neg (by omega)]; omega
  · have : (i * P + t * P) % n + 1 = n := by omega
    rw [this, Nat.mod_self] at h4
    rw [← h4, if_pos rfl]; omega
include hP
theorem ex_inc (i : Nat) : incB (n - P) n i = !incB P n ((i + t) % n) := by
  rw [inc_mod hn, inc_mod hn, shift_mod hn ht]
  have h2 := Nat.mod_lt (i * P) hn
  have hq : i * (n - P) % n = if i * P % n = 0 then 0 else n - i * P % n := mod_sum (c := i) hn (by rw [← Nat.mul_add, Nat.sub_add_cancel hP, Nat.mul_comm])
  rw [hq]
  by_cases u : i * P % n = 0
  · rw [if_pos u, if_pos u]
    by_cases p0 : P = 0
    · rw [decide_eq_true (by omega), decide_eq_false (by omega)]; rfl
    · rw [decide_eq_false (by omega), decide_eq_true (by omega)]; rfl
  · rw [if_neg u, if_neg u]
    by_cases z : i * P % n ≤ n - P
    · rw [decide_eq_true (by omega), decide_eq_false (by omega)]; rfl
    · rw [decide_eq_false (by omega), decide_eq_true (by omega)]; rfl
theorem re_inc {i : Nat} (hi : i < n) : incB P n (n - 1 - i) = incB P n ((i + t) % n) := by
  rw [inc_mod hn, inc_mod hn, shift_mod hn ht]
  have h2 := Nat.mod_lt (i * P) hn
  have e : (i + 1) * P % n = if i * P % n + P < n then i * P % n + P else i * P % n + P - n := by
    rw [Nat.succ_mul, ← Nat.mod_add_mod]
    split
    · rename_i z; exact Nat.mod_eq_of_lt z
    · rename_i z; rw [Nat.mod_eq_sub_mod (by omega), Nat.mod_eq_of_lt (by omega)]
  have hq : (n - 1 - i) * P % n = if (i + 1) * P % n = 0 then 0 else n - (i + 1) * P % n := mod_sum (c := P) hn (by rw [← Nat.add_mul]; congr 1; omega)
  rw [hq, e]
  congr 1
  by_cases a : i * P % n + P < n
  · rw [if_pos a]
    generalize i * P % n = u at *
    split <;> split <;> simp <;> omega
  · rw [if_neg a]
    generalize i * P % n = u at *
    split <;> split <;> simp <;> omega
end
/-- the word of a pair -/
def cwW (x y P n : Nat) : List Nat := (List.range n).map fun i => if incB P n i then x else y
theorem cw_len (x y P n : Nat) : (cwW x y P n).length = n := by simp [cwW]
theorem cw_at {x y P n i : Nat} (h : i < n) : (cwW x y P n)[i]? = some (if incB P n i then x else y) := by
  unfold cwW
  rw [List.getElem?_map, List.getElem?_range h]; rfl
theorem rot_get {s : List Nat} {t i : Nat} (ht : t < s.length) (hi : i < s.length) : (s.drop t ++ s.take t)[i]? = s[(i + t) % s.length]? := by
  by_cases h : i < s.length - t
  · rw [List.getElem?_append_left (by rw [List.length_drop]; exact h), List.getElem?_drop, Nat.mod_eq_of_lt (by omega), Nat.add_comm]
  · rw [List.getElem?_append_right (by rw [List.length_drop]; omega), List.length_drop, List.getElem?_take, if_pos (by omega)]
    congr 1
    rw [Nat.mod_eq_sub_mod (by omega), Nat.mod_eq_of_lt (by omega)]; omega
theorem cw_ex {x y P n t : Nat} (hn : 0 < n) (hP : P ≤ n) (ht : (t * P + 1) % n = 0) (tn : t < n) : cwW y x (n - P) n = (cwW x y P n).drop t ++ (cwW x y P n).take t := by
  apply List.ext_getElem?
  intro i
  by_cases hi : i < n
  · rw [cw_at hi, rot_get (by rw [cw_len]; exact tn) (by rw [cw_len]; exact hi), cw_len, cw_at (Nat.mod_lt _ hn), ex_inc hn hP ht]
    cases incB P n ((i + t) % n) <;> rfl
  · rw [List.getElem?_eq_none (by rw [cw_len]; omega), List.getElem?_eq_none (by simp [cw_len]; omega)]
theorem cw_rev {x y P n t : Nat} (hn : 0 < n) (hP : P ≤ n) (ht : (t * P + 1) % n = 0) (tn : t < n) : (cwW x y P n).reverse = (cwW x y P n).drop t ++ (cwW x y P n).take t := by
  apply List.ext_getElem?
  intro i
  by_cases hi : i < n
  · rw [List.getElem?_reverse (by rw [cw_len]; exact hi), cw_len, cw_at (by omega), rot_get (by rw [cw_len]; exact tn) (by rw [cw_len]; exact hi), cw_len, cw_at (Nat.mod_lt _ hn), re_inc hn hP ht hi]
  · rw [List.getElem?_eq_none (by simp [cw_len]; omega), List.getElem?_eq_none (by simp [cw_len]; omega)]
theorem cw_map (f : Nat → Nat) (x y P n : Nat) : (cwW x y P n).map f = cwW (f x) (f y) P n := by
  unfold cwW
  rw [List.map_map]
  refine List.map_congr_left fun i _ => ?_
  show f (if _ then _ else _) = _
  split <;> rfl
theorem cw_cong {x y x' y' P n : Nat} (hn : 0 < n) (hx : x = x' ∨ P = 0) (hy : y = y' ∨ P = n) : cwW x y P n = cwW x' y' P n := by
  unfold cwW
  refine List.map_congr_left fun i _ => ?_
  rcases hx with rfl | rfl
  · rcases hy with rfl | rfl
    · rfl
    · have : incB P P i = true := by unfold incB; rw [Nat.mul_div_cancel _ hn, Nat.mul_div_cancel _ hn]; simp
      rw [this]; rfl
  · have e : incB 0 n i = false := by unfold incB; simp
    rw [e]
    rcases hy with rfl | rfl
    · rfl
    · omega
theorem cw_count {x y : Nat} (hxy : x ≠ y) {P n : Nat} (hn : 0 < n) (hP : P ≤ n) : ∀ m, (((List.range m).map fun i => if incB P n i then x else y).count x = m * P / n) ∧ (((List.range m).map fun i => if incB P n i then x else y).count y = m - m * P / n) ∧ m * P / n ≤ m
  | 0 => by simp
  | m + 1 => by
    obtain ⟨a, b, c⟩ := cw_count hxy hn hP m
    rw [List.range_succ, List.map_append, List.count_append, List.count_append, a, b, inc_val hn hP]
    have hyx : y ≠ x := fun e => hxy e.symm
    have c1 : [x].count x = 1 := by simp
    have c2 : [x].count y = 0 := by simp [hxy]
    have c3 : [y].count x = 0 := by simp [hyx]
    have c4 : [y].count y = 1 := by simp
    generalize m * P / n = d at *
    cases h : incB P n m with
    | true => simp only [List.map_cons, List.map_nil, h, if_true, c1, c2, Bool.toNat_true]; (repeat' apply And.intro) <;> first | trivial | omega
    | false => simp only [List.map_cons, List.map_nil, h, if_false, Bool.false_eq_true, c3, c4, Bool.toNat_false]; (repeat' apply And.intro) <;> first | trivial | omega
theorem cw_cx {x y : Nat} (hxy : x ≠ y) {P n : Nat} (hn : 0 < n) (hP : P ≤ n) : (cwW x y P n).count x = P ∧ (cwW x y P n).count y = n - P := by
  obtain ⟨a, b, _⟩ := cw_count (x := x) (y := y) hxy hn hP n
  rw [Nat.mul_div_cancel_left _ hn] at a b
  exact ⟨a, b⟩
/-- windows -/
theorem win_count {x y : Nat} (hxy : x ≠ y) {P n : Nat} (hn : 0 < n) (hP : P ≤ n) (s : Nat) : ∀ m, ((List.range m).map fun i => if incB P n (s + i) then x else y).count x = (s + m) * P / n - s * P / n ∧ s * P / n ≤ (s + m) * P / n
  | 0 => by simp
  | m + 1 => by
    obtain ⟨a, b⟩ := win_count hxy hn hP s m
    rw [List.range_succ, List.map_append, List.count_append, a, ← Nat.add_assoc, inc_val hn hP]
    have hyx : y ≠ x := fun e => hxy e.symm
    have c1 : [x].count x = 1 := by simp
    have c3 : [y].count x = 0 := by simp [hyx]
    cases h : incB P n (s + m) with
    | true => simp only [List.map_cons, List.map_nil, h, if_true, c1, Bool.toNat_true]; omega
    | false => simp only [List.map_cons, List.map_nil, h, if_false, Bool.false_eq_true, c3, Bool.toNat_false]; omega
theorem inc_per {P n i : Nat} (hn : 0 < n) : incB P n (i % n) = incB P n i := by
  rw [inc_mod hn, inc_mod hn, Nat.mod_mul_mod]
theorem win_bound {P n : Nat} (hn : 0 < n) (s m : Nat) : m * P / n ≤ (s + m) * P / n - s * P / n ∧ (s + m) * P / n - s * P / n ≤ m * P / n + 1 := by
  rw [Nat.add_mul]
  have h1 := Nat.div_add_mod (s * P) n
  have h2 := Nat.div_add_mod (m * P) n
  have h3 := Nat.mod_lt (s * P) hn
  have h4 := Nat.mod_lt (m * P) hn
  have e : s * P + m * P = (s * P % n + m * P % n) + n * (s * P / n + m * P / n) := by rw [Nat.mul_add]; omega
  rw [e, Nat.add_mul_div_left _ _ hn]
  clear e h1 h2
  have h5 : (s * P % n + m * P % n) / n ≤ 1 := by
    have : (s * P % n + m * P % n) / n < 2 := (Nat.div_lt_iff_lt_mul hn).mpr (by omega)
    omega
  generalize (s * P % n + m * P % n) / n = d at *
  generalize m * P / n = d2 at *
  generalize s * P / n = d3 at *
  omega
end DL
namespace DL
open PySem PySem.Spec PyProof.Rows L2
/-! ### a token is out: calls of own defs, tests -/
section
variable {X : Cx}
theorem pet_callD {x : Str} {k : Nat} {ps : List Str} {sp : Sp} {p pos : Pos} {e : Expr} {es : List Expr} {t : TA} (Dk : DOk X.prog X.w X.K X.mg X.base x k ps sp) (hr : Room k X.A) (ha : PAT X (e :: es) t) (hg : Gl X x := by rfl) (hdb : (x == ("__debug__" : Str)) = false := by decide)
    (he : starEach (e :: es) X.env = (false, eval e X.env) :: starEach es X.env := by rfl) (hpl : (backTo pos (starEach es X.env)).any (·.1) = false := by rfl) :
    PET X (.Call (.Name x p) (e :: es) [] pos) (tCall sp [] E0 t) := by
  obtain ⟨f, fd, h1, h2, h3, h4⟩ := Dk
  intro pins s σ H Q h0 I h
  refine wpAny_Call_Name_kw (ld_glob I hg h1 ?_ hdb)
  refine PySem.W.callWith_K (h₀ := X.base) I.ok.mod.kin h2 (thn (ha pos pins s σ H _ h0 I h) fun us s1 ⟨vs, H1, I1, r, q⟩ => ⟨I1.kIn, ?_⟩) he hpl
  exact run_fn h4 hr h3.1 .nil pass0 I1 r q
def PTT (X : Cx) (e : Expr) (t : TT) : Prop :=
  ∀ (pins : List (Addr × Obj)) (s : Shared) (σ : L2.St) (H : Hp) (Q : Bool → Hp → Prop), 1 ≤ s.toks → Inv X pins σ H s → t σ H Q → wpAny (model X.prog X.w) X.A (isTrue e X.env (eval e X.env)) (TP X pins σ Q) X.xe s
theorem PTT.of {e : Expr} {t : TT} (h : PT X e t) : PTT X e t := fun pins s σ H Q _ I q => h.run pins s σ H Q I q
theorem ptt_cmpR {op : CmpOp} {r : R2} {a b : Expr} {ta tb : TE} {pos : Pos} (ho : OpR X (compareOp op) r) (ha : PET X a ta) (hb : PET X b tb) (hm : behindInMarks op b = false) : PTT X (.Compare a [op] [b] pos) (tTest (tOp r ta tb)) := by
  intro pins s σ H Q h0 I h
  refine wpAny_isTrue_Compare1 (wpAny_mono (PySem.wpAny_toks (ha pins s σ H _ h0 I h)) (fun v s1 q => ?_) fun _ _ z => z.2) hm
  obtain ⟨hk, x, H1, I1, r1, q1⟩ := q
  refine thn (hb pins s1 σ H1 _ (Nat.le_trans h0 hk) I1 q1) fun u s2 ⟨y, H2, I2, r2, q2⟩ =>
    thn (ho pins s2 σ H2 x y v u _ I2 r1 r2 q2) fun c s3 ⟨z, H3, I3, r3, k, e, q3⟩ => ?_
  subst e
  cases r3
  exact wpAny_truthy_bool ⟨H3, I3, q3⟩
theorem pst_ifT {c : Expr} {a b : List Stmt} {tc : TT} {t u : TS} {pos : Pos} (hc : PTT X c tc) (ha : PSsT X a t) (hb : PSsT X b u) : PST X (.If c a b pos) (tIfS tc t u) := by
  intro pins s σ H D h0 I h
  refine wpAny_If (wpAny_mono (PySem.wpAny_toks (hc pins s σ H _ h0 I h)) (fun d s1 q => ?_) fun _ _ z => z.2)
  obtain ⟨hk, H1, I1, q1⟩ := q
  cases d with
  | true => exact ha pins s1 σ H1 D (Nat.le_trans h0 hk) I1 q1
  | false => exact hb pins s1 σ H1 D (Nat.le_trans h0 hk) I1 q1
/-! ### abs, gcd -/
def rAbs : List V → Hp → VK → Prop := fun xs H Q => ∃ i, xs = [.int i] ∧ Q (.int (if i < 0 then -i else i)) H
theorem c_abs : CallR X (.builtin "abs") rAbs := call_abs
end
section
variable [HasT] {K : PySem.W.Frag} {post : Rs → Prop}
theorem cd_abs {i : Int} (q : post (.d (.int (i.natAbs : Int)))) : CD K rAbs [.int i] post := by
  intro G F H vs f rs Q k
  cases rs with
  | cons r1 r2 =>
    cases r2
    cases r1
    refine ⟨i, rfl, back_d f k (.int _) ?_⟩
    have : (if i < 0 then -i else i) = (i.natAbs : Int) := by split <;> omega
    rw [this]; exact q
theorem cd_gcd {a b : Int} (q : post (.d (.int ((Nat.gcd a.natAbs b.natAbs : Nat) : Int)))) : CD K rGcd [.int a, .int b] post := by
  intro G F H vs f rs Q k
  cases rs with
  | cons r1 r2 =>
    cases r2 with
    | cons r3 r4 =>
      cases r4
      cases r1
      cases r3
      exact ⟨a, b, rfl, back_d f k (.int _) q⟩
end
section
variable [HasT]
theorem ed_ifS {c : Prop} [Decidable c] {K : PySem.W.Frag} {ρ : List Sl} {post : Ar → List Sl → Prop} {y z : Str} {a b : Nat} (hy : y = S [a]) (hz : z = S [b]) (q : post (.d (.str [if c then a else b])) ρ) : if c then ED K ρ (tC (.str y)) post else ED K ρ (tC (.str z)) post := by
  by_cases h : c
  · rw [if_pos h] at q ⊢; exact ed_str hy q
  · rw [if_neg h] at q ⊢; exact ed_str hz q
/-! ### a letter for a letter -/
def swC (a b c : Nat) : Nat := if c = a then b else c
theorem replS_one (a b : Nat) : ∀ l : List Nat, PySem.StrLaws.replS [a] [b] 0 l = l.map (swC a b)
  | [] => rfl
  | c :: l => by
    rw [PySem.StrLaws.replS, List.map_cons]
    unfold swC
    by_cases h : c = a
    · subst h
      rw [if_pos (by simp), if_pos rfl]
      show b :: PySem.StrLaws.replS [c] [b] 0 l = _
      rw [replS_one c b l]; rfl
    · rw [if_neg (by simpa using h), if_neg h, replS_one a b l]; rfl
theorem repl_one {a b : Nat} (l : List Nat) : (Txt.replace (S l) (S [a]) (S [b])).cps.toList = l.map (swC a b) := by
  rw [PySem.StrLaws.replace_list (by simp [S, Str.length]), S_tl, S_tl, S_tl]
  exact replS_one a b l
/-! ### the ring of a pair -/
theorem IsRot.count {s y : List Nat} (h : IsRot s y) (c : Nat) : y.count c = s.count c := by
  obtain ⟨a, b, rfl, rfl⟩ := h
  rw [List.count_append, List.count_append, Nat.add_comm]
theorem IsRot.map {s y : List Nat} (f : Nat → Nat) (h : IsRot s y) : IsRot (s.map f) (y.map f) := by
  obtain ⟨a, b, rfl, rfl⟩ := h
  exact ⟨a.map f, b.map f, List.map_append, List.map_append⟩
theorem IsRot.rev {s y : List Nat} (h : IsRot s y) : IsRot s.reverse y.reverse := by
  obtain ⟨a, b, rfl, rfl⟩ := h
  exact ⟨b.reverse, a.reverse, List.reverse_append, List.reverse_append⟩
/-- the letters of a pair's ring -/
structure XY (x y : Nat) : Prop where
  xa : x ∈ alph 2
  ya : y ∈ alph 2
  ne : x ≠ y
  xx : flipC x ≠ x
  xy : flipC x ≠ y
  yx : flipC y ≠ x
  yy : flipC y ≠ y
theorem crr_xy {x y : Nat} (z : XY x y) {s : List Nat} (h : ∀ c ∈ s, c = x ∨ c = y) : CRr s := by
  have key : ∀ a ∈ s, ∀ b ∈ s, a ≠ flipC b := fun a ha b hb e => by
    rcases h a ha with rfl | rfl <;> rcases h b hb with rfl | rfl
    · exact z.xx e.symm
    · exact z.yx e.symm
    · exact z.xy e.symm
    · exact z.yy e.symm
  exact ⟨fun i a b h1 h2 => key a (List.mem_of_getElem? h1) b (List.mem_of_getElem? h2), fun a b h1 h2 => key b (List.mem_of_getLast? h2) a (List.mem_of_getElem? h1)⟩
theorem cw_mem {x y P n : Nat} : ∀ c ∈ cwW x y P n, c = x ∨ c = y := fun c hc => by
  obtain ⟨i, _, rfl⟩ := List.mem_map.mp hc
  cases incB P n i
  · exact .inr rfl
  · exact .inl rfl
section
variable {x y P n : Nat} (z : XY x y) (hn : 0 < n)
include z
theorem cw_alph : ∀ c ∈ cwW x y P n, c ∈ alph 2 := fun c hc => (cw_mem c hc).elim (fun e => e ▸ z.xa) fun e => e ▸ z.ya
theorem cw_al : ∀ c ∈ cwW x y P n, c ∈ al := fun c hc => alph_al (cw_alph z c hc)
theorem cw_crr : CRr (cwW x y P n) := crr_xy z cw_mem
theorem pr_rot : IsRot (cwW x y P n) (ringO (cwW x y P n)) := by
  have := ringO_rot (cw_al z (P := P) (n := n)) (cw_crr z).1
  rwa [(cw_crr z).core] at this
/-- a rotation has the ring -/
theorem pr_of {s : List Nat} (h : IsRot (cwW x y P n) s) : ringO s = ringO (cwW x y P n) := ringO_crr (cw_al z) (cw_crr z) h
end
def xP (p : Int) : Nat := if 0 < p then 97 else 65
def yP (q : Int) : Nat := if 0 < q then 98 else 66
theorem xyP (p q : Int) : XY (xP p) (yP q) := by
  unfold xP yP
  split <;> split <;> exact ⟨by decide, by decide, by decide, by decide, by decide, by decide, by decide⟩
def prC (p q : Int) : List Nat := cwW (xP p) (yP q) p.natAbs (p.natAbs + q.natAbs)
def prW (p q : Int) : List Nat := ringO (prC p q)
def PairOk (p q : Int) : Prop := 1 ≤ p.natAbs + q.natAbs ∧ p.natAbs + q.natAbs ≤ 60 ∧ Nat.gcd p.natAbs q.natAbs = 1
theorem pr_len (p q : Int) : (prC p q).length = p.natAbs + q.natAbs := cw_len _ _ _ _
theorem prW_rot (p q : Int) : IsRot (prC p q) (prW p q) := pr_rot (xyP p q)
theorem prW_len (p q : Int) : (prW p q).length = p.natAbs + q.natAbs := by rw [(prW_rot p q).len, pr_len]
theorem prW_alph (p q : Int) : ∀ c ∈ prW p q, c ∈ alph 2 := fun c hc => cw_alph (xyP p q) c ((prW_rot p q).mem.mp hc)
theorem prW_crr (p q : Int) : CRr (prW p q) := (cw_crr (xyP p q)).rot (prW_rot p q)
section
variable {p q : Int} (h : PairOk p q)
include h
theorem PairOk.bez : ∃ t, t < p.natAbs + q.natAbs ∧ (t * p.natAbs + 1) % (p.natAbs + q.natAbs) = 0 :=
  DL.bez _ (by have := h.2.1; omega) _ (by omega) (by have := h.2.2; simpa using this) h.1
theorem prW_ring : ringB 2 (.str (prW p q)) = true := ringO_isB (cw_alph (xyP p q)) (cw_crr (xyP p q)).1 (by have := pr_len p q; have := h.2.1; unfold prC at *; omega) (fun e => by
  have := pr_len p q
  have h1 := h.1
  rw [e] at this
  simp at this; omega)
theorem prW_sums : expL 2 (prW p q) = [p, q] := by
  obtain ⟨c1, c2⟩ := cw_cx (xyP p q).ne (P := p.natAbs) (n := p.natAbs + q.natAbs) h.1 (by omega)
  have r := prW_rot p q
  have e0 : ∀ c, c ≠ xP p → c ≠ yP q → (prW p q).count c = 0 := fun c h1 h2 => by
    rw [r.count, List.count_eq_zero]
    exact fun m => (cw_mem c m).elim h1 h2
  have e1 : (prW p q).count (xP p) = p.natAbs := by rw [r.count]; exact c1
  have e2 : (prW p q).count (yP q) = q.natAbs := by rw [r.count]; exact c2.trans (by omega)
  show [exp1 97 _, exp1 98 _] = _
  unfold exp1
  rw [show flipC 97 = 65 from rfl, show flipC 98 = 66 from rfl]
  have hx : (((prW p q).count 97 : Nat) : Int) - (((prW p q).count 65 : Nat) : Int) = p := by
    unfold xP at e1 e0
    by_cases s : 0 < p
    · rw [if_pos s] at e1
      rw [e1, e0 65 (by rw [if_pos s]; decide) (by unfold yP; split <;> decide)]; omega
    · rw [if_neg s] at e1
      rw [e1, e0 97 (by rw [if_neg s]; decide) (by unfold yP; split <;> decide)]; omega
  have hy : (((prW p q).count 98 : Nat) : Int) - (((prW p q).count 66 : Nat) : Int) = q := by
    unfold yP at e2 e0
    by_cases s : 0 < q
    · rw [if_pos s] at e2
      rw [e2, e0 66 (by unfold xP; split <;> decide) (by rw [if_pos s]; decide)]; omega
    · rw [if_neg s] at e2
      rw [e2, e0 98 (by unfold xP; split <;> decide) (by rw [if_neg s]; decide)]; omega
  rw [hx, hy]
/-- exchanged -/
def exC (c : Nat) : Nat := swC 88 66 (swC 120 98 (swC 66 65 (swC 98 97 (swC 65 88 (swC 97 120 c)))))
theorem prW_exr : IsRot (prC q p) ((prW p q).map exC) := by
  obtain ⟨t, t1, t2⟩ := h.bez
  have e : IsRot (prC q p) ((prC p q).map exC) := by
    unfold prC
    rw [cw_map]
    have := cw_ex (x := exC (xP p)) (y := exC (yP q)) h.1 (P := p.natAbs) (by omega) t2 t1
    have hy : exC (yP q) = xP q := by unfold yP xP; split <;> rfl
    have hx : exC (xP p) = yP p := by unfold yP xP; split <;> rfl
    rw [show p.natAbs + q.natAbs - p.natAbs = q.natAbs by omega, hx, hy] at this
    rw [hx, hy, Nat.add_comm q.natAbs]
    exact IsRot.symm ⟨_, _, (List.take_append_drop t _).symm, this⟩
  exact e.trans ((prW_rot p q).map exC)
theorem prW_ex : ringO ((prW p q).map exC) = prW q p := pr_of (xyP q p) (prW_exr h)
theorem prW_invr : IsRot (prC (-p) (-q)) (invW (prW p q)) := by
  obtain ⟨t, t1, t2⟩ := h.bez
  have e : IsRot (prC (-p) (-q)) (invW (prC p q)) := by
    unfold invW prC
    rw [Int.natAbs_neg, Int.natAbs_neg, cw_rev h.1 (by omega) t2 t1, List.map_append, List.map_drop, List.map_take, cw_map]
    have e : cwW (flipC (xP p)) (flipC (yP q)) p.natAbs (p.natAbs + q.natAbs) = cwW (xP (-p)) (yP (-q)) p.natAbs (p.natAbs + q.natAbs) := by
      refine cw_cong h.1 ?_ ?_
      · by_cases p0 : p = 0
        · exact .inr (by omega)
        · left; unfold xP; split <;> split <;> first | rfl | omega
      · by_cases q0 : q = 0
        · exact .inr (by omega)
        · left; unfold yP; split <;> split <;> first | rfl | omega
    rw [e]
    exact ⟨_, _, (List.take_append_drop t _).symm, rfl⟩
  have e2 : IsRot (invW (prC p q)) (invW (prW p q)) := ((prW_rot p q).rev).map flipC
  exact e.trans e2
theorem prW_inv : ringO (invW (prW p q)) = prW (-p) (-q) := pr_of (xyP (-p) (-q)) (prW_invr h)
end
theorem prW_win (p q : Int) (hn : 0 < p.natAbs + q.natAbs) : ∃ s0, ∀ k m, k < p.natAbs + q.natAbs → m ≤ p.natAbs + q.natAbs → ((prW p q ++ prW p q).drop k).take m = (List.range m).map fun j => if incB p.natAbs (p.natAbs + q.natAbs) (s0 + k + j) then xP p else yP q := by
  have hC : prC p q ≠ [] := fun e => by have := pr_len p q; rw [e] at this; simp at this; omega
  obtain ⟨k0, hk0, e⟩ := (prW_rot p q).at hC
  rw [pr_len] at hk0
  have at1 : ∀ i, i < p.natAbs + q.natAbs → (prW p q)[i]? = some (if incB p.natAbs (p.natAbs + q.natAbs) (i + k0) then xP p else yP q) := fun i hi => by
    rw [e]
    show ((prC p q).drop k0 ++ (prC p q).take k0)[i]? = _
    rw [rot_get (by rw [pr_len]; exact hk0) (by rw [pr_len]; exact hi), pr_len]
    unfold prC
    rw [cw_at (Nat.mod_lt _ hn), inc_per hn]
  refine ⟨k0, fun k m hk hm => ?_⟩
  apply List.ext_getElem?
  intro j
  rw [List.getElem?_take, List.getElem?_drop, List.getElem?_map]
  by_cases hj : j < m
  · rw [if_pos hj, List.getElem?_range hj]
    show _ = some _
    by_cases h : k + j < p.natAbs + q.natAbs
    · rw [List.getElem?_append_left (by rw [prW_len]; exact h), at1 _ h, show k + j + k0 = k0 + k + j by omega]
    · rw [List.getElem?_append_right (by rw [prW_len]; omega), prW_len, at1 _ (by omega)]
      show some (if _ then _ else _) = some (if incB p.natAbs (p.natAbs + q.natAbs) (k0 + k + j) = true then xP p else yP q)
      rw [← inc_per hn (i := k0 + k + j), ← inc_per hn (i := k + j - (p.natAbs + q.natAbs) + k0)]
      have : (k0 + k + j) % (p.natAbs + q.natAbs) = (k + j - (p.natAbs + q.natAbs) + k0) % (p.natAbs + q.natAbs) := by
        rw [show k0 + k + j = (k + j - (p.natAbs + q.natAbs) + k0) + (p.natAbs + q.natAbs) by omega, Nat.add_mod_right]
      rw [this]
  · rw [if_neg hj, List.getElem?_eq_none (by simpa using hj)]; rfl
theorem prW_even (p q : Int) (hn : 0 < p.natAbs + q.natAbs) {m : Nat} (hm : m ≤ p.natAbs + q.natAbs) : ∃ d, ∀ k, k < p.natAbs + q.natAbs → d ≤ ((((prW p q ++ prW p q).drop k).take m).map lowC).count 97 ∧ ((((prW p q ++ prW p q).drop k).take m).map lowC).count 97 ≤ d + 1 := by
  obtain ⟨s0, hs⟩ := prW_win p q hn
  refine ⟨m * p.natAbs / (p.natAbs + q.natAbs), fun k hk => ?_⟩
  rw [hs k m hk hm, List.map_map]
  have e : ((List.range m).map (lowC ∘ fun j => if incB p.natAbs (p.natAbs + q.natAbs) (s0 + k + j) then xP p else yP q)) = (List.range m).map fun j => if incB p.natAbs (p.natAbs + q.natAbs) (s0 + k + j) then 97 else 98 := by
    refine List.map_congr_left fun j _ => ?_
    show lowC (if _ then _ else _) = _
    unfold xP yP
    split <;> split <;> rfl
  rw [e, (win_count (x := 97) (y := 98) (by decide) hn (by omega) (s0 + k) m).1]
  exact win_bound hn _ _
theorem pair_ok {n m : Nat} (h1 : 1 ≤ n + m) (h2 : n + m ≤ 60) {s t : Int} (hs : s = 1 ∨ s = -1) (ht : t = 1 ∨ t = -1) : PairOk (s * ((n / n.gcd m : Nat) : Int)) (t * ((m / n.gcd m : Nat) : Int)) := by
  have hg : 0 < n.gcd m := Nat.gcd_pos_iff.mpr (by omega)
  have a1 : (s * ((n / n.gcd m : Nat) : Int)).natAbs = n / n.gcd m := by generalize n / n.gcd m = z; rcases hs with rfl | rfl <;> simp
  have a2 : (t * ((m / n.gcd m : Nat) : Int)).natAbs = m / n.gcd m := by generalize m / n.gcd m = z; rcases ht with rfl | rfl <;> simp
  unfold PairOk
  rw [a1, a2]
  have l1 := Nat.div_le_self n (n.gcd m)
  have l2 := Nat.div_le_self m (n.gcd m)
  have d1 := Nat.gcd_dvd_left n m
  have d2 := Nat.gcd_dvd_right n m
  refine ⟨?_, by omega, ?_⟩
  · rcases Nat.eq_zero_or_pos n with z | z
    · have : 0 < m / n.gcd m := Nat.div_pos (Nat.le_of_dvd (by omega) d2) hg
      omega
    · have : 0 < n / n.gcd m := Nat.div_pos (Nat.le_of_dvd z d1) hg
      omega
  · rw [Nat.gcd_div d1 d2, Nat.div_self hg]
theorem held_step {P n k : Nat} (hn : 0 < n) (hP : P ≤ n) : (k + 1) * P % n = if n ≤ k * P % n + P then k * P % n + P - n else k * P % n + P := by
  have h2 := Nat.mod_lt (k * P) hn
  rw [Nat.succ_mul, ← Nat.mod_add_mod]
  split
  · rename_i z
    by_cases e : k * P % n + P - n < n
    · rw [Nat.mod_eq_sub_mod z, Nat.mod_eq_of_lt e]
    · omega
  · rename_i z; exact Nat.mod_eq_of_lt (by omega)
theorem map_rng {n k : Nat} {x : D} (h : ((List.range n).map fun k : Nat => D.int (k : Nat))[k]? = some x) : k < n ∧ x = .int (k : Nat) := by
  rw [List.getElem?_map] at h
  obtain ⟨j, hj, e⟩ := Option.map_eq_some_iff.mp h
  have l := (List.getElem?_eq_some_iff.mp hj).1
  rw [List.length_range] at l
  rw [List.getElem?_range l] at hj
  cases hj
  exact ⟨l, e.symm⟩
theorem inc_int {P n i : Nat} : ((i : Int) * (P : Int) / (n : Int) < ((i : Int) + 1) * (P : Int) / (n : Int)) ↔ incB P n i = true := by
  unfold incB
  rw [decide_eq_true_eq]
  norm_cast
end
end DL
namespace My
open PySem PySem.Spec PyProof.Rows L2 DL LamX
variable [HasT]
def top (i : Nat) : Stmt := PySem.Challenge.pw_ringleast_k58_rings_of_pairs.main.body.getD i (.Pass ⟨0, 0, 0, 0⟩)
abbrev scheck_rank : Stmt := top 10
abbrev Ncheck_rank : List Str := ["rank"]
theorem sccheck_rank : FnScope ["rank"] ["rank"] (defScope scheck_rank) := ⟨rfl, rfl, rfl, by decide +kernel, rfl, by decide +kernel, by decide +kernel⟩
abbrev sletters : Stmt := top 11
abbrev Nletters : List Str := ["rank"]
theorem scletters : FnScope ["rank"] ["rank"] (defScope sletters) := ⟨rfl, rfl, rfl, by decide +kernel, rfl, by decide +kernel, by decide +kernel⟩
abbrev shas_letters_only : Stmt := top 12
abbrev Nhas_letters_only : List Str := ["rank", "thing", "allowed", "letter"]
theorem schas_letters_only : FnScope ["rank", "thing", "allowed", "letter"] ["rank", "thing"] (defScope shas_letters_only) := ⟨rfl, rfl, rfl, by decide +kernel, rfl, by decide +kernel, by decide +kernel⟩
abbrev sis_reduced : Stmt := top 13
abbrev Nis_reduced : List Str := ["text", "x", "y"]
theorem scis_reduced : FnScope ["text", "x", "y"] ["text"] (defScope sis_reduced) := ⟨rfl, rfl, rfl, by decide +kernel, rfl, by decide +kernel, by decide +kernel⟩
abbrev sis_word : Stmt := top 14
abbrev Nis_word : List Str := ["rank", "thing"]
theorem scis_word : FnScope ["rank", "thing"] ["rank", "thing"] (defScope sis_word) := ⟨rfl, rfl, rfl, by decide +kernel, rfl, by decide +kernel, by decide +kernel⟩
abbrev sorder_marks : Stmt := top 15
abbrev Norder_marks : List Str := ["text"]
theorem scorder_marks : FnScope ["text"] ["text"] (defScope sorder_marks) := ⟨rfl, rfl, rfl, by decide +kernel, rfl, by decide +kernel, by decide +kernel⟩
abbrev swithout_inverse_ends : Stmt := top 17
abbrev Nwithout_inverse_ends : List Str := ["word", "start", "end"]
theorem scwithout_inverse_ends : FnScope ["word", "start", "end"] ["word"] (defScope swithout_inverse_ends) := ⟨rfl, rfl, rfl, by decide +kernel, rfl, by decide +kernel, by decide +kernel⟩
abbrev sfirst_rotation : Stmt := top 18
abbrev Nfirst_rotation : List Str := ["word", "text", "turns", "start", "k"]
theorem scfirst_rotation : FnScope ["word", "text", "turns", "start", "k"] ["word"] (defScope sfirst_rotation) := ⟨rfl, rfl, rfl, by decide +kernel, rfl, by decide +kernel, by decide +kernel⟩
abbrev sring_from : Stmt := top 19
abbrev Nring_from : List Str := ["word"]
theorem scring_from : FnScope ["word"] ["word"] (defScope sring_from) := ⟨rfl, rfl, rfl, by decide +kernel, rfl, by decide +kernel, by decide +kernel⟩
abbrev sis_ring : Stmt := top 20
abbrev Nis_ring : List Str := ["rank", "thing"]
theorem scis_ring : FnScope ["rank", "thing"] ["rank", "thing"] (defScope sis_ring) := ⟨rfl, rfl, rfl, by decide +kernel, rfl, by decide +kernel, by decide +kernel⟩
abbrev sis_integer_value : Stmt := top 22
abbrev Nis_integer_value : List Str := ["thing"]
theorem scis_integer_value : FnScope ["thing"] ["thing"] (defScope sis_integer_value) := ⟨rfl, rfl, rfl, by decide +kernel, rfl, by decide +kernel, by decide +kernel⟩
abbrev sis_pair : Stmt := top 24
abbrev Nis_pair : List Str := ["thing", "p", "q", "number"]
theorem scis_pair : FnScope ["thing", "p", "q", "number"] ["thing"] (defScope sis_pair) := ⟨rfl, rfl, rfl, by decide +kernel, rfl, by decide +kernel, by decide +kernel⟩
abbrev spair_ring : Stmt := top 25
abbrev Npair_ring : List Str := ["pair", "p", "n", "first", "second", "i"]
theorem scpair_ring : FnScope ["pair", "p", "n", "first", "second", "i"] ["pair"] (defScope spair_ring) := ⟨rfl, rfl, rfl, by decide +kernel, rfl, by decide +kernel, by decide +kernel⟩
abbrev s_law_source : Stmt := top 27
abbrev N_law_source : List Str := ["script", "k", "cell"]
theorem sc_law_source : FnScope ["script", "k", "cell"] ["script", "k"] (defScope s_law_source) := ⟨rfl, rfl, rfl, by decide +kernel, rfl, by decide +kernel, by decide +kernel⟩
abbrev s_law_next : Stmt := top 28
abbrev N_law_next : List Str := ["source", "many", "found", "primes", "prime"]
theorem sc_law_next : FnScope ["source", "many", "found", "primes", "prime"] ["source", "many"] (defScope s_law_next) := ⟨rfl, rfl, rfl, by decide +kernel, rfl, by decide +kernel, by decide +kernel⟩
abbrev s_law_other : Stmt := top 29
abbrev N_law_other : List Str := ["letter"]
theorem sc_law_other : FnScope ["letter"] ["letter"] (defScope s_law_other) := ⟨rfl, rfl, rfl, by decide +kernel, rfl, by decide +kernel, by decide +kernel⟩
abbrev s_law_back : Stmt := top 30
abbrev N_law_back : List Str := ["text", "letter"]
theorem sc_law_back : FnScope ["text", "letter"] ["text"] (defScope s_law_back) := ⟨rfl, rfl, rfl, by decide +kernel, rfl, by decide +kernel, by decide +kernel⟩
abbrev s_law_short : Stmt := top 31
abbrev N_law_short : List Str := ["text", "kept", "letter"]
theorem sc_law_short : FnScope ["text", "kept", "letter"] ["text"] (defScope s_law_short) := ⟨rfl, rfl, rfl, by decide +kernel, rfl, by decide +kernel, by decide +kernel⟩
abbrev s_law_key : Stmt := top 32
abbrev N_law_key : List Str := ["text", "letter"]
theorem sc_law_key : FnScope ["text", "letter"] ["text"] (defScope s_law_key) := ⟨rfl, rfl, rfl, by decide +kernel, rfl, by decide +kernel, by decide +kernel⟩
abbrev s_law_round : Stmt := top 33
abbrev N_law_round : List Str := ["text", "turns", "k"]
theorem sc_law_round : FnScope ["text", "turns", "k"] ["text"] (defScope s_law_round) := ⟨rfl, rfl, rfl, by decide +kernel, rfl, by decide +kernel, by decide +kernel⟩
abbrev s_law_sums : Stmt := top 34
abbrev N_law_sums : List Str := ["rank", "text", "found", "letter"]
theorem sc_law_sums : FnScope ["rank", "text", "found", "letter"] ["rank", "text"] (defScope s_law_sums) := ⟨rfl, rfl, rfl, by decide +kernel, rfl, by decide +kernel, by decide +kernel⟩
abbrev s_law_divisor : Stmt := top 35
abbrev N_law_divisor : List Str := ["one", "other"]
theorem sc_law_divisor : FnScope ["one", "other"] ["one", "other"] (defScope s_law_divisor) := ⟨rfl, rfl, rfl, by decide +kernel, rfl, by decide +kernel, by decide +kernel⟩
abbrev s_law_pair : Stmt := top 36
abbrev N_law_pair : List Str := ["source", "many", "p", "by", "signs"]
theorem sc_law_pair : FnScope ["source", "many", "p", "by", "signs"] ["source"] (defScope s_law_pair) := ⟨rfl, rfl, rfl, by decide +kernel, rfl, by decide +kernel, by decide +kernel⟩
abbrev s_law_crossed : Stmt := top 37
abbrev N_law_crossed : List Str := ["pair", "p", "q", "text", "held", "turn"]
theorem sc_law_crossed : FnScope ["pair", "p", "q", "text", "held", "turn"] ["pair"] (defScope s_law_crossed) := ⟨rfl, rfl, rfl, by decide +kernel, rfl, by decide +kernel, by decide +kernel⟩
abbrev s_law_is_even : Stmt := top 38
abbrev N_law_is_even : List Str := ["ring", "twice", "size", "counts", "k"]
theorem sc_law_is_even : FnScope ["ring", "twice", "size", "counts", "k"] ["ring"] (defScope s_law_is_even) := ⟨rfl, rfl, rfl, by decide +kernel, rfl, by decide +kernel, by decide +kernel⟩
abbrev slaw : Stmt := top 39
abbrev Nlaw : List Str := ["script", "k", "source", "pair", "found", "turned", "told"]
theorem sclaw : FnScope ["script", "k", "source", "pair", "found", "turned", "told"] ["script"] (defScope slaw) := ⟨rfl, rfl, rfl, by decide +kernel, rfl, by decide +kernel, by decide +kernel⟩
structure Txt (P : Program) (K : PySem.W.Frag) (mg : Str → Option Value) : Prop where
  nisinstance : mg "isinstance" = none
  nint : mg "int" = none
  nbool : mg "bool" = none
  nstr : mg "str" = none
  nall : mg "all" = none
  nany : mg "any" = none
  nzip : mg "zip" = none
  nlen : mg "len" = none
  nrange : mg "range" = none
  nmin : mg "min" = none
  ntuple : mg "tuple" = none
  nabs : mg "abs" = none
  nmax : mg "max" = none
  nrepr : mg "repr" = none
  gMAX_RANK : ∃ t, mg "MAX_RANK" = some (.int 4 t)
  gLETTER_ORDER : ∃ t, mg "LETTER_ORDER" = some (.str "aAbBcCdD" t)
  gMAX_WORD : ∃ t, mg "MAX_WORD" = some (.int 100 t)
  gMAX_LENGTH : ∃ t, mg "MAX_LENGTH" = some (.int 60 t)
  mBadRank : mg "BadRank" = some (.ref (cA K "BadRank"))
  mBadPair : mg "BadPair" = some (.ref (cA K "BadPair"))
  u_gcd : mg "gcd" = some (.builtin "math.gcd")
theorem cs_0 : (Str.ofString "a rank is an integer from 2 to ") = S [97, 32, 114, 97, 110, 107, 32, 105, 115, 32, 97, 110, 32, 105, 110, 116, 101, 103, 101, 114, 32, 102, 114, 111, 109, 32, 50, 32, 116, 111, 32] := by decide +kernel
theorem cs_1 : (Str.ofString "aAbBcCdD") = S [97, 65, 98, 66, 99, 67, 100, 68] := by decide +kernel
theorem cs_2 : (Str.ofString "01234567") = S [48, 49, 50, 51, 52, 53, 54, 55] := by decide +kernel
theorem cs_3 : (Str.ofString "") = S [] := by decide +kernel
theorem cs_4 : (Str.ofString "a") = S [97] := by decide +kernel
theorem cs_5 : (Str.ofString "A") = S [65] := by decide +kernel
theorem cs_6 : (Str.ofString "b") = S [98] := by decide +kernel
theorem cs_7 : (Str.ofString "B") = S [66] := by decide +kernel
theorem cs_8 : (Str.ofString "a pair has two integers without a common divisor, from 1 to ") = S [97, 32, 112, 97, 105, 114, 32, 104, 97, 115, 32, 116, 119, 111, 32, 105, 110, 116, 101, 103, 101, 114, 115, 32, 119, 105, 116, 104, 111, 117, 116, 32, 97, 32, 99, 111, 109, 109, 111, 110, 32, 100, 105, 118, 105, 115, 111, 114, 44, 32, 102, 114, 111, 109, 32, 49, 32, 116, 111, 32] := by decide +kernel
theorem cs_9 : (Str.ofString " in total") = S [32, 105, 110, 32, 116, 111, 116, 97, 108] := by decide +kernel
theorem cs_10 : (Str.ofString "abcd") = S [97, 98, 99, 100] := by decide +kernel
theorem cs_11 : (Str.ofString "ab") = S [97, 98] := by decide +kernel
theorem cs_12 : (Str.ofString "Ab") = S [65, 98] := by decide +kernel
theorem cs_13 : (Str.ofString "aabaabab") = S [97, 97, 98, 97, 97, 98, 97, 98] := by decide +kernel
theorem cs_14 : (Str.ofString "X") = S [88] := by decide +kernel
theorem cs_15 : (Str.ofString "x") = S [120] := by decide +kernel
local macro_rules | `(tactic| walk_at "strs") => `(tactic| first | exact cs_0 | exact cs_1 | exact cs_2 | exact cs_3 | exact cs_4 | exact cs_5 | exact cs_6 | exact cs_7 | exact cs_8 | exact cs_9 | exact cs_10 | exact cs_11 | exact cs_12 | exact cs_13 | exact cs_14 | exact cs_15)

local macro_rules | `(tactic| walk_at "nrm") => `(tactic| (try simp only [restore_g, rst_self, rst_dr, rst_nor, List.isEmpty_nil, List.isEmpty_cons, isEmpty_snoc, List.map_append, arD_d, arD_n, arD_c0, arD_cS, isB_bl, isBs_bl, asgP_d, asgP_n, asD_d, asD_n, asG_d, asG_n, asG_c, isI_i, isStr_s, isLst_l, isTup_l, rsA_d, rsA_n, isL_c, arS_d, arS_c0, arS_cS, wb_nil, wb_d, wb_c, endP_d, endP_n, endC_nil, endC_d, endC_no, endC_c, setS_nil, setS_c, wipeS_nil, wipeS_c, restore_nil, restore_d, restore_no, restore_c, truP_bl, truP_non, truP_lst, truP_tup, truP_str, truP_int, List.map_cons, List.map_nil, List.set_cons_zero, List.set_cons_succ, Bool.not_true, Bool.not_false, Bool.false_eq_true, if_true, if_false, reduceIte, Bool.not_eq_true', true_and, isaD_int, isaD_bl, isaD_str, isaD_lst, isaD_tup, isaD_non, String.reduceBEq, Bool.or_false, Bool.false_or, Bool.or_true, Bool.true_or, decide_eq_true_eq, decide_eq_false_iff_not, Bool.true_eq_false, decide_true, decide_false, eq_self, eq_self_iff_true]))
local macro_rules | `(tactic| walk_at "st") => `(tactic| with_reducible first
  | apply sd_seq | apply sd_if | apply sd_ret | apply sd_next | apply sd_drop | apply sd_asg | apply sd_par | apply sd_sub
  | apply td_or | apply td_and | apply td_not | apply td_test | apply td_tr
  | refine ed_var rfl ?_ | refine ed_cell rfl ?_ | apply ed_int | apply ed_bl | apply ed_non | apply ed_ty | refine ed_str (by walk_at "strs") ?_
  | apply ed_op | apply ed_un | apply ed_chain | apply ed_if | apply ed_andV | apply ed_orV | apply ed_notV | apply ed_sl | apply ed_append | apply ed_pop | apply ed_trans | apply ed_popAt | apply ed_bm0 | apply ed_bm | apply ed_cb | apply ed_call | apply ed_tup | apply ed_lst
  | apply ea_cons | apply ea_nil | apply eg_cons | apply eg_nil | apply dp_cons | apply dp_nil | apply op_none | apply op_some
  | apply ep_of_ed
  | apply od_add_int | apply od_in_sign | apply od_notin_sign | apply cd_all | apply cd_any | apply ud_neg | apply od_sub | apply od_lt | apply od_le | apply od_gt | apply od_ge
  | refine cd_isa (by with_unfolding_all rfl) (by decide) ?_ | apply cd_len_l | apply cd_len_t | apply cd_mx | apply cd_mn)
local macro_rules | `(tactic| walk_at "dl") => `(tactic| ((try simp only [nox_K, List.replicate, List.cons_append, List.nil_append]); walk_at "nrm"; repeat (walk_at "st"; walk_at "nrm")))

local macro_rules | `(tactic| walk_at "lc") => `(tactic| (refine ⟨(by simp [NoC]), _, _, rfl, ?_, ?_, fun p => ?_⟩))
local macro_rules | `(tactic| walk_at "g1") => `(tactic| (refine ⟨_, gt_name, (by simp), ?_⟩; walk_at "dl"))
local macro_rules | `(tactic| walk_at "g2") => `(tactic| (refine ⟨_, gt_tup rfl (gts_cons gt_name (gts_cons gt_name gts_nil)), (by simp), ?_⟩; walk_at "dl"))
local macro_rules | `(tactic| walk_at "app") => `(tactic| (refine ⟨_, _, rfl, ?_⟩; walk_at "dl"; refine ⟨_, _, rfl, rfl, ?_, ?_⟩))
local macro_rules | `(tactic| walk_at "aug") => `(tactic| (refine sd_augI rfl ?_; walk_at "dl"; refine ⟨_, rfl, rfl, ?_⟩; walk_at "dl"))
local macro_rules | `(tactic| walk_at "call") => `(tactic| refine ⟨rfl, cells_none (by simp [Sl.adr]), ?_⟩)

local macro_rules | `(tactic| walk_at "side") => `(tactic| first | omega | (with_reducible assumption) | (with_reducible rfl) | (with_reducible decide) | (with_reducible apply size1; omega) | (with_reducible apply size2; omega) | (with_reducible apply asc1; first | omega | assumption))
local macro_rules | `(tactic| walk_at "inst") => `(tactic| (first | refine ⟨rfl, ?_⟩ | refine ⟨_, rfl, ?_⟩ | refine ⟨_, _, rfl, ?_⟩ | refine ⟨_, _, _, rfl, ?_⟩ | refine ⟨_, _, _, _, rfl, ?_⟩ | refine ⟨_, _, _, _, _, rfl, ?_⟩ | refine ⟨_, _, _, _, _, _, rfl, ?_⟩ | refine ⟨_, _, _, _, _, _, _, rfl, ?_⟩ | refine ⟨_, _, _, _, _, _, _, _, rfl, ?_⟩))
local macro_rules | `(tactic| walk_at "sides") => `(tactic| repeat (refine ⟨(by walk_at "side"), ?_⟩))
local macro_rules | `(tactic| walk_at "cnd") => `(tactic| (first | ((simp only [cells_c, cells_d, cells_no, cells_nil]); first | exact List.nodup_nil | exact nodup_one | decide) | exact cells_none (by simp [Sl.adr])))
local macro_rules | `(tactic| walk_at "cl") => `(tactic| (refine ⟨rfl, (by walk_at "cnd"), ?_⟩; walk_at "inst"; walk_at "sides"; (try walk_at "dm")))

local macro_rules | `(tactic| walk_at "size") => `(tactic| first | omega | decide | (exact size1 (by omega)) | (simp only [List.length_cons, List.length_nil, List.length_map, List.length_append]; first | done | omega | (exact size1 (by omega)) | decide))
local macro_rules | `(tactic| walk_at "st2") => `(tactic| with_reducible first
  | refine sd_seqH fun _ _ => ?_ | refine sd_dropC rfl ?_ | refine sd_retC rfl ?_ | refine sd_asgC rfl ?_ | walk_at "st" | refine sd_open (by assumption) ?_ | apply sd_par3 | apply cd_tupL | apply cd_tupT | apply cd_lstL | apply cd_lstT | apply od_ne_i | apply od_eq_i | apply od_ne_v | apply od_eq_v | apply od_ne_b | apply od_eq_b | apply md_cnt | apply od_isNB | apply od_notNB | apply ed_mulLL
  | refine And.intro (a := tyD _ = some _) rfl ?_ | refine And.intro (a := _ ≤ _) (by walk_at "size") ?_
  | refine cd_len_s (by walk_at "side") ?_ | refine sld_str (by walk_at "side") ?_ | refine od_eq_s (by walk_at "side") (by walk_at "side") ?_ | refine od_ne_s (by walk_at "side") (by walk_at "side") ?_ | refine od_add_str (by walk_at "side") ?_ | refine od_mod (by walk_at "side") ?_)
local macro_rules | `(tactic| walk_at "d0") => `(tactic| ((try simp only [nox_K, List.replicate, List.cons_append, List.nil_append]); walk_at "nrm"))
local macro_rules | `(tactic| walk_at "nrm2") => `(tactic| (walk_at "nrm"; (try simp only [isaD_dct, String.reduceBEq, if_true, if_false, Bool.false_eq_true, Bool.true_eq_false, sufP_nx, sufP_rt, nonB])))
local macro_rules | `(tactic| walk_at "dm") => `(tactic| ((try simp only [nox_K, List.replicate, List.cons_append, List.nil_append]); walk_at "nrm2"; repeat (walk_at "st2"; walk_at "nrm2")))

local macro_rules | `(tactic| walk_at "szs") => `(tactic| first | omega | decide | (simp only [List.length_cons, List.length_nil, List.length_map, List.length_append]; first | done | omega | decide))
local macro_rules | `(tactic| walk_at "fr") => `(tactic| with_reducible first
  | refine fun (_ : Addr) => ?_ | refine ⟨_, _, _, rfl, rfl, by decide, by decide, (by walk_at "szl"), ?_⟩ | refine md_low (by walk_at "side") (by walk_at "szm") ?_ | refine md_upp (by walk_at "side") (by walk_at "szm") ?_ | refine md_swp (by walk_at "side") (by walk_at "szm") ?_ | refine od_mulC (by omega) (by omega) ?_ | refine ed_dnewK fun _ => ?_ | refine od_pow (by with_unfolding_all exact ⟨by decide, by decide, by decide⟩) ?_
  | refine od_mul_str (by decide) (by decide) (by decide) ?_ | refine od_add_str (size1 (by walk_at "szs")) ?_ | refine od_add_lst (size1 (by walk_at "szs")) ?_ | apply sd_asgTT | apply sd_subD)
local macro_rules | `(tactic| walk_at "dx") => `(tactic| (walk_at "dm"; repeat (walk_at "fr"; walk_at "dm")))
local macro_rules | `(tactic| walk_at "u2") => `(tactic| (refine ⟨_, gt_tup rfl (gts_cons gt_name (gts_cons gt_name gts_nil)), ?_⟩))
local macro_rules | `(tactic| walk_at "u3") => `(tactic| (refine ⟨_, gt_tup rfl (gts_cons gt_name (gts_cons gt_name (gts_cons gt_name gts_nil))), ?_⟩))

local macro_rules | `(tactic| walk_at "szl") => `(tactic| first | decide | (simp only [List.length_cons, List.length_nil, List.length_map, List.length_append]; first | done | decide | omega))
local macro_rules | `(tactic| walk_at "szm") => `(tactic| first | decide | omega | (simp only [List.length_cons, List.length_nil, List.length_map, List.length_append]; first | done | decide | omega))

local macro_rules | `(tactic| walk_at "u22") => `(tactic| (refine ⟨_, gt_tup rfl (gts_cons (gt_tup rfl (gts_cons gt_name (gts_cons gt_name gts_nil))) (gts_cons (gt_tup rfl (gts_cons gt_name (gts_cons gt_name gts_nil))) gts_nil)), ?_⟩))
local macro_rules | `(tactic| walk_at "ml") => `(tactic| (first | (refine od_mulT (by with_reducible assumption) (by with_reducible assumption) (by with_reducible assumption) (by with_reducible assumption) ?_) | refine od_mulC (by omega) (by omega) ?_))
local macro_rules | `(tactic| walk_at "dxm") => `(tactic| (walk_at "dx"; repeat (walk_at "ml"; walk_at "dx")))

section
variable {P : Program} {w : World} {K : PySem.W.Frag} {mg : Str → Option Value} {base : Heap}
def Rcheck_rank : DSp := fun ρ post => ∃ r : Int, ρ = [.d (.int r)] ∧ Rk r ∧ post (.d .non) [.d (.int r)]
theorem dcheck_rank (T : Txt P K mg) (F : FunAt K mg "check_rank" scheck_rank ["rank"])  : DOk P w K mg base "check_rank" 1 ["rank"] (spD K 1 Rcheck_rank) := by
  refine mk_def (k := 0) (n := 1) (m := 0) F sccheck_rank rfl rfl fun f cdv A outer s H E hr => ?_
  have hu := hr.units
  have hu1 := units65 hr
  have hu2 := hu_of hr
  refine ⟨_, (pss_one (ps_if (PW.pt (pw_or (pt_not (k_tru (K := K) rfl (pe_callB (k_isi (K := K) rfl) (by rfl) T.nisinstance (by decide +kernel) (pa_cons (pv 0) (pa_cons (pe_bltn (v := .ty "int") (by rfl) T.nint (by decide +kernel) rfl) pa_nil))))) (pw_or (k_tru (K := K) rfl (pe_callB (k_isi (K := K) rfl) (by rfl) T.nisinstance (by decide +kernel) (pa_cons (pv 0) (pa_cons (pe_bltn (v := .ty "bool") (by rfl) T.nbool (by decide +kernel) rfl) pa_nil)))) (pw_or1 (pt_not (pt_chain op_le op_le pe_int (pv 0) (pe_gI T.gMAX_RANK))))))) (pss_one ps_never) pss_nil)), fun ρ post hl h => ?_⟩
  obtain ⟨r, rfl, ⟨h1, h2⟩, q⟩ := h
  walk_at "dl"
  simp only [h1, h2, if_true]
  walk_at "dl"
  simp only [h2, not_true, if_false]
  walk_at "dl"
  exact q
def Ris_reduced : DSp := fun ρ post => ∃ s : List Nat, ρ = [.d (.str s)] ∧ s.length ≤ 100000 ∧ ascii s ∧ post (.d (.bl (redB s))) ρ
theorem dis_reduced (T : Txt P K mg) (F : FunAt K mg "is_reduced" sis_reduced ["text"])  : DOk P w K mg base "is_reduced" 1 ["text"] (spD K 1 Ris_reduced) := by
  refine mk_def (k := 0) (n := 1) (m := 2) F scis_reduced rfl rfl fun f cdv A outer s H E hr => ?_
  have hu := hr.units
  have hu1 := units65 hr
  have hu2 := hu_of hr
  refine ⟨_, (pss_one (ps_ret (pe_not (pe_callB (k_any (K := K) rfl rfl) (by rfl) T.nany (by decide +kernel) (pa_cons (pe_lc (own := [("x", 1), ("y", 2)]) (g := (gTup K 2 (gCons (gName 1) (gCons (gName 2) gNil)))) (tt := tYes) (by rfl) scis_reduced.nd (pi_zip2 (by rfl) T.nzip (pa_cons (pv 0) (pa_cons (pe_slice (k_sl (K := K) rfl) (pv 0) (po_some pe_int) po_none) pa_nil))) (blkOk_by (own := [("x", 1), ("y", 2)]) (N := Nis_reduced) (sc := defScope sis_reduced) (by decide +kernel)) (fun _ _ _ _ _ => (k_gtup (K := K) rfl rfl (pgs_cons (pg_name (i := 1) scis_reduced.nd rfl (by first | exact Or.inl rfl | exact Or.inr rfl)) (pgs_cons (pg_name (i := 2) scis_reduced.nd rfl (by first | exact Or.inl rfl | exact Or.inr rfl)) pgs_nil)))) (fun _ _ _ _ _ => pts_nil) (fun _ _ _ _ _ => (pe_cmpR (k_eq (K := K) rfl hu) (pv 1) (k_bm0 (K := K) rfl PySem.F.plainAttrs_str PySem.F.slot_str_swapcase PySem.F.type_str_swapcase mt_swap (pv 2)) (nomark _)))) pa_nil))))), fun ρ post hl h => ?_⟩
  obtain ⟨s, rfl, h1, h2, q⟩ := h
  walk_at "dl"
  refine ed_map .bl (fun p : Nat × Nat => decide (p.1 = flipC p.2)) ?_
  refine ei_zipT ?_
  walk_at "dl"
  refine sld_str (size1 h1) ?_
  walk_at "dl"
  refine ⟨_, _, rfl, ?_⟩
  walk_at "lc"
  · rw [List.length_zip]; exact Nat.le_trans (Nat.min_le_left _ _) (size1 h1)
  · intro x hx
    have m1 := h2 _ (List.of_mem_zip hx).1
    have m2 : x.2 < 128 := by
      have m := (List.of_mem_zip hx).2
      rw [show (1 : Int) = ((1 : Nat) : Int) from rfl, cutL_from] at m
      exact h2 _ (List.mem_of_mem_drop m)
    walk_at "g2"
    refine ⟨rfl, md_swp (asc1 m2) (by simp) ?_⟩
    walk_at "dl"
    refine od_eq_s (asc1 m1) (asc1 (flip_asc m2)) ?_
    walk_at "dl"
    simp
  · walk_at "dl"
    rw [show (1 : Int) = ((1 : Nat) : Int) from rfl, cutL_from]
    exact q
def Rorder_marks : DSp := fun ρ post => ∃ s : List Nat, ρ = [.d (.str s)] ∧ s.length ≤ 100000 ∧ (∀ c ∈ s, c ∈ al) ∧ post (.d (.str (s.map markC))) ρ
theorem dorder_marks (T : Txt P K mg) (F : FunAt K mg "order_marks" sorder_marks ["text"])  : DOk P w K mg base "order_marks" 1 ["text"] (spD K 1 Rorder_marks) := by
  refine mk_def (k := 0) (n := 1) (m := 0) F scorder_marks rfl rfl fun f cdv A outer s H E hr => ?_
  have hu := hr.units
  have hu1 := units65 hr
  have hu2 := hu_of hr
  refine ⟨_, (pss_one (ps_ret (k_bm (K := K) rfl PySem.F.plainAttrs_str PySem.F.slot_str_translate PySem.F.type_str_translate mt_trans (pv 0) (pa_cons (pe_mk (pl := _) (by rfl) T.nstr (pa_cons pe_str (pa_cons pe_str pa_nil))) pa_nil)))), fun ρ post hl h => ?_⟩
  obtain ⟨s, rfl, h1, h2, q⟩ := h
  walk_at "dl"
  refine ⟨s, rfl, ?_⟩
  walk_at "dl"
  refine ⟨_, _, markC, rfl, by decide, by decide, al_asc h2, Nat.le_trans h1 (by decide), fun c hc => ?_, ?_⟩
  · have := h2 c hc
    simp only [al, List.mem_cons, List.not_mem_nil, or_false] at this
    rcases this with rfl | rfl | rfl | rfl | rfl | rfl | rfl | rfl <;> exact ⟨by decide, by decide +kernel⟩
  · walk_at "dl"
    exact q
def Rwithout_inverse_ends : DSp := fun ρ post => ∃ s : List Nat, ρ = [.d (.str s)] ∧ s.length ≤ 100000 ∧ ascii s ∧ post (.d (.str (coreW s))) ρ
theorem dwithout_inverse_ends (T : Txt P K mg) (F : FunAt K mg "without_inverse_ends" swithout_inverse_ends ["word"])  : DOk P w K mg base "without_inverse_ends" 1 ["word"] (spD K 1 Rwithout_inverse_ends) := by
  refine mk_def (k := 0) (n := 1) (m := 2) F scwithout_inverse_ends rfl rfl fun f cdv A outer s H E hr => ?_
  have hu := hr.units
  have hu1 := units65 hr
  have hu2 := hu_of hr
  refine ⟨_, (pss_cons (ps_set (i := 1) scwithout_inverse_ends.nd rfl (by first | exact Or.inl rfl | exact Or.inr rfl) pe_int)
  (pss_cons (ps_set (i := 2) scwithout_inverse_ends.nd rfl (by first | exact Or.inl rfl | exact Or.inr rfl) (pe_callB (k_len (K := K) rfl) (by rfl) T.nlen PySem.boot_len (pa_cons (pv 0) pa_nil)))
  (pss_cons (ps_while PassesOwn.never (PW.pt (pw_and (pt_cmpR op_gt (pe_op op_sub (pv 2) (pv 1)) pe_int (nomark _)) (pw_and1 (pt_cmpR (k_eq (K := K) rfl hu) (pe_ix (k_ix (K := K) rfl) (pv 0) (pv 1) (fun _ _ => rfl)) (k_bm0 (K := K) rfl PySem.F.plainAttrs_str PySem.F.slot_str_swapcase PySem.F.type_str_swapcase mt_swap (pe_ix (k_ix (K := K) rfl) (pv 0) (pe_op op_sub (pv 2) pe_int) (fun _ _ => rfl))) (nomark _)))))
  (pss_cons (ps_aug (i := 1) scwithout_inverse_ends.nd rfl (by first | exact Or.inl rfl | exact Or.inr rfl) pe_int ip_add)
  (pss_one (ps_aug (i := 2) scwithout_inverse_ends.nd rfl (by first | exact Or.inl rfl | exact Or.inr rfl) pe_int ip_sub))))
  (pss_one (ps_ret (pe_slice (k_sl (K := K) rfl) (pv 0) (po_some (pv 1)) (po_some (pv 2)))))))), fun ρ post hl h => ?_⟩
  obtain ⟨s, rfl, h1, h2, q⟩ := h
  walk_at "dl"
  refine cd_len_s (size1 h1) ?_
  walk_at "dl"
  refine sd_while (fun m ρ => ∃ i : Nat, ρ = [.d (.str s), .d (.int (i : Nat)), .d (.int ((s.length - i : Nat) : Int))] ∧ 2 * i ≤ s.length ∧ m = s.length - 2 * i ∧ peel (s.length - i) (midW s i) = coreW s) s.length ⟨0, rfl, by omega, rfl, by rw [mid_zero]; rfl⟩ ?_
  rintro m ρ1 ⟨i, rfl, hi, rfl, hp⟩
  walk_at "dl"
  have fin : peel (s.length - i) (midW s i) = midW s i → post (.d (.str (midW s i))) [.d (.str s)] := fun e => by rw [← e, hp]; exact q
  have ret : peel (s.length - i) (midW s i) = midW s i → SD K [Sl.d (D.str s), Sl.d (D.int (i : Nat)), Sl.d (D.int ((s.length - i : Nat) : Int))] (tRet (tSl (rSlP K) (tVar 0) (tPart (tVar 1)) (tPart (tVar 2))))
      { nx := endP 1 [Sl.d (D.str s)] post (Ar.d D.non), rt := endP 1 [Sl.d (D.str s)] post } := fun e => by
    walk_at "dl"
    refine sld_mid (size1 h1) (by omega) (by omega) ?_
    walk_at "dl"
    have := fin e
    unfold midW at this
    rwa [show s.length - i - i = s.length - 2 * i by omega]
  by_cases hc : 1 < s.length - 2 * i
  · simp only [show (1 : Int) < ((s.length - i : Nat) : Int) - (i : Nat) by omega, if_true]
    walk_at "dl"
    have g1 : i < s.length := by omega
    have g2 : s.length - i - 1 < s.length := by omega
    refine od_ix_str (size1 h1) (atI_nat (List.getElem?_eq_getElem g1)) ?_
    walk_at "dl"
    rw [show ((s.length - i : Nat) : Int) - 1 = ((s.length - i - 1 : Nat) : Int) by omega]
    refine od_ix_str (size1 h1) (atI_nat (List.getElem?_eq_getElem g2)) ?_
    walk_at "dl"
    have a1 := h2 _ (List.getElem_mem g1)
    have a2 := h2 _ (List.getElem_mem g2)
    refine ⟨rfl, md_swp (asc1 a2) (by simp) ?_⟩
    walk_at "dl"
    refine od_eq_s (asc1 a1) (asc1 (flip_asc a2)) ?_
    walk_at "dl"
    by_cases he : s[i] = flipC s[s.length - i - 1]
    · simp only [he, if_true]
      walk_at "dl"
      walk_at "aug"
      walk_at "aug"
      refine ⟨s.length - 2 * (i + 1), by omega, i + 1, ?_, by omega, rfl, ?_⟩
      · rw [show ((s.length - (i + 1) : Nat) : Int) = ((s.length - i : Nat) : Int) - 1 by omega]; rfl
      · rw [← hp, show s.length - i = s.length - (i + 1) + 1 by omega]
        exact (peel_step hc (by rw [List.getElem?_eq_getElem g1, List.getElem?_eq_getElem g2, he]; rfl)).symm
    · have he2 : ¬ ([s[i]] = [flipC s[s.length - i - 1]]) := by simpa using he
      simp only [he2, if_false]
      refine ret (peel_stop hi fun z => he ?_)
      have z := z.2
      rw [List.getElem?_eq_getElem g1, List.getElem?_eq_getElem g2] at z
      exact Option.some.inj z
  · simp only [show ¬ (1 : Int) < ((s.length - i : Nat) : Int) - (i : Nat) by omega, if_false]
    exact ret (peel_stop hi fun z => hc z.1)
def Ris_integer_value : DSp := fun ρ post => ∃ x : D, ρ = [.d x] ∧ okT x ∧ post (.d (.bl (intB x))) ρ
theorem dis_integer_value (T : Txt P K mg) (F : FunAt K mg "is_integer_value" sis_integer_value ["thing"])  : DOk P w K mg base "is_integer_value" 1 ["thing"] (spD K 1 Ris_integer_value) := by
  refine mk_def (k := 0) (n := 1) (m := 0) F scis_integer_value rfl rfl fun f cdv A outer s H E hr => ?_
  have hu := hr.units
  have hu1 := units65 hr
  have hu2 := hu_of hr
  refine ⟨_, (pss_one (ps_ret (pe_and (pe_callB (k_isi (K := K) rfl) (by rfl) T.nisinstance (by decide +kernel) (pa_cons (pv 0) (pa_cons (pe_bltn (v := .ty "int") (by rfl) T.nint (by decide +kernel) rfl) pa_nil))) (pe_one (pe_not (pe_callB (k_isi (K := K) rfl) (by rfl) T.nisinstance (by decide +kernel) (pa_cons (pv 0) (pa_cons (pe_bltn (v := .ty "bool") (by rfl) T.nbool (by decide +kernel) rfl) pa_nil)))))))), fun ρ post hl h => ?_⟩
  obtain ⟨x, rfl, h2, q⟩ := h
  walk_at "dx"
  refine cd_isa h2.1 (by decide) ?_
  cases x with
  | int i => walk_at "dx"; exact q
  | bl b => walk_at "dx"; exact q
  | obj _ => cases h2.1
  | ty _ => cases h2.1
  | cls _ => cases h2.1
  | exc _ _ _ => cases h2.1
  | fnc _ _ => cases h2.1
  | _ => walk_at "dx"; exact q
def R_law_source : DSp := fun ρ post => ∃ (ns : List Int) (k : Nat), ρ = [.d (.lst (ns.map .int)), .d (.int k)] ∧ k ≤ 1000000 ∧ ns.length ≤ 1000000 ∧ ∀ a c : Int, post (.n (.lst [.int a, .int (3 * (k : Int)), .int c])) ρ
theorem d_law_source (T : Txt P K mg) (F : FunAt K mg "_law_source" s_law_source ["script", "k"])  : DOk P w K mg base "_law_source" 1 ["script", "k"] (spD K 2 R_law_source) := by
  refine mk_def (k := 0) (n := 2) (m := 1) F sc_law_source rfl rfl fun f cdv A outer s H E hr => ?_
  have hu := hr.units
  have hu1 := units65 hr
  have hu2 := hu_of hr
  refine ⟨_, (pss_cons (ps_set (i := 2) sc_law_source.nd rfl (by first | exact Or.inl rfl | exact Or.inr rfl) (pe_ifExp (pt_cmpR (k_ne (K := K) rfl hu) (pv 0) (pe_lst pa_nil) (nomark _)) (pe_ix (k_ix (K := K) rfl) (pv 0) (pe_op op_mod (pv 1) (pe_callB (k_len (K := K) rfl) (by rfl) T.nlen PySem.boot_len (pa_cons (pv 0) pa_nil))) (fun _ _ => rfl)) pe_int))
  (pss_one (ps_ret (pe_lst (pa_cons (pv 2) (pa_cons (pe_op (k_mul (K := K) rfl) pe_int (pv 1)) (pa_cons (pe_ifExp (pt_cmpR op_ge (pv 2) (pe_op op_pow pe_int pe_int) (nomark _)) (pe_op op_fdivW (pv 2) (pe_op op_pow pe_int pe_int)) pe_int) pa_nil))))))), fun ρ post hl h => ?_⟩
  obtain ⟨ns, k, rfl, h1, h2, q⟩ := h
  walk_at "dl"
  refine ⟨by decide, fun p => ?_⟩
  refine od_ne_li0 ?_
  walk_at "dl"
  have rest : ∀ (a : Int), SD K [Sl.d (D.lst (List.map D.int ns)), Sl.d (D.int k), Sl.d (D.int a)] (tRet (tLst (tCons (tVar 2) (tCons (tOp (rMulP K) (tC (V.int 3)) (tVar 1)) (tCons (tIf
      (tTest (tOp (rI0 fun i j => V.bl (decide (j ≤ i))) (tVar 2) (tOp (rI CPow fun i j => V.int (i ^ j.toNat)) (tC (V.int 10)) (tC (V.int 18)))))
      (tOp (rI CDivW fun i j => V.int (i / j)) (tVar 2) (tOp (rI CPow fun i j => V.int (i ^ j.toNat)) (tC (V.int 10)) (tC (V.int 18)))) (tC (V.int 0))) tNil)))))
      { nx := endP 2 [Sl.d (D.lst (List.map D.int ns)), Sl.d (D.int k)] post (Ar.d D.non), rt := endP 2 [Sl.d (D.lst (List.map D.int ns)), Sl.d (D.int k)] post } := fun a => by
    have cp : CPow 10 18 := by unfold CPow; decide
    walk_at "dl"
    refine od_mul_int (cmulW (by decide +kernel) (Nat.lt_of_le_of_lt (show (k : Int).natAbs ≤ 1000000 by omega) (by decide +kernel))) ?_
    walk_at "dl"
    refine od_pow cp ?_
    walk_at "dl"
    by_cases hc : (10 : Int) ^ (18 : Int).toNat ≤ a
    · simp only [hc, if_true]
      walk_at "dl"
      refine od_pow cp ?_
      walk_at "dl"
      refine od_div (cdivW (by decide) (by decide +kernel)) ?_
      walk_at "dl"
      exact ⟨(show 3 ≤ sizeLine by decide), fun _ => q _ _⟩
    · simp only [hc, if_false]
      walk_at "dl"
      exact ⟨(show 3 ≤ sizeLine by decide), fun _ => q _ _⟩
  by_cases hn : ns = []
  · subst hn
    simp only [decide_true, not_true, if_false]
    refine ed_int ?_
    walk_at "nrm"
    exact rest 1
  · simp only [hn, not_false_iff, if_true]
    walk_at "dl"
    have l0 : 0 < ns.length := List.length_pos_iff.mpr hn
    refine od_mod (by rw [List.length_map]; omega) ?_
    walk_at "nrm"
    have lm : k % ns.length < ns.length := Nat.mod_lt _ l0
    refine od_ix_lst (x := .int ns[k % ns.length]) (by rw [List.length_map]; exact atI_nat (j := k % ns.length) (by rw [List.getElem?_map, List.getElem?_eq_getElem lm]; rfl)) ?_
    walk_at "nrm"
    exact rest _
def R_law_next : DSp := fun ρ post => ∃ (p : Addr) (a b c m : Int), ρ = [.cell p (.lst [.int a, .int b, .int c]), .d (.int m)] ∧ 0 < m ∧ m < 2 ^ 40 ∧ 0 ≤ b ∧ b < 2 ^ 40 ∧ ∀ v b2 c2 : Int, 0 ≤ v → v < m → b ≤ b2 → b2 ≤ b + 1 → post (.d (.int v)) [.cell p (.lst [.int a, .int b2, .int c2]), .d (.int m)]
theorem d_law_next (T : Txt P K mg) (F : FunAt K mg "_law_next" s_law_next ["source", "many"])  : DOk P w K mg base "_law_next" 1 ["source", "many"] (spD K 2 R_law_next) := by
  refine mk_def (k := 0) (n := 2) (m := 3) F sc_law_next rfl rfl fun f cdv A outer s H E hr => ?_
  have hu := hr.units
  have hu1 := units65 hr
  have hu2 := hu_of hr
  refine ⟨_, (pss_cons (ps_if (pt_cmpR op_gt (pe_ix (k_ix (K := K) rfl) (pv 0) pe_int (fun _ _ => rfl)) pe_int (nomark _)) (pss_cons (ps_set (i := 2) sc_law_next.nd rfl (by first | exact Or.inl rfl | exact Or.inr rfl) (pe_op op_mod (pe_ix (k_ix (K := K) rfl) (pv 0) pe_int (fun _ _ => rfl)) (pv 1)))
  (pss_cons (ps_asg (pe_op op_fdivW (pe_ix (k_ix (K := K) rfl) (pv 0) pe_int (fun _ _ => rfl)) (pv 1)) (pg_sub (pv 0) pe_int set_list))
  (pss_one (ps_ret (pv 2))))) pss_nil)
  (pss_cons (ps_asg (pe_op (k_add (K := K) rfl) (pe_ix (k_ix (K := K) rfl) (pv 0) pe_int (fun _ _ => rfl)) pe_int) (pg_sub (pv 0) pe_int set_list))
  (pss_cons (ps_set (i := 3) sc_law_next.nd rfl (by first | exact Or.inl rfl | exact Or.inr rfl) (pe_lst (pa_cons pe_int (pa_cons pe_int (pa_cons pe_int (pa_cons pe_int (pa_cons pe_int (pa_cons pe_int (pa_cons pe_int (pa_cons pe_int pa_nil))))))))))
  (pss_cons (ps_set (i := 4) sc_law_next.nd rfl (by first | exact Or.inl rfl | exact Or.inr rfl) (pe_ix (k_ix (K := K) rfl) (pe_op (k_add (K := K) rfl) (pv 3) (pe_lst (pa_cons pe_int (pa_cons pe_int (pa_cons pe_int pa_nil))))) (pe_op op_mod (pe_ix (k_ix (K := K) rfl) (pv 0) pe_int (fun _ _ => rfl)) pe_int) (fun _ _ => rfl)))
  (pss_one (ps_ret (pe_op op_mod (pe_op op_fdivW (pe_op op_mod (pe_op op_pow (pe_op (k_add (K := K) rfl) (pe_op (k_add (K := K) rfl) (pe_op op_mod (pe_ix (k_ix (K := K) rfl) (pv 0) pe_int (fun _ _ => rfl)) (pv 4)) (pe_op (k_mul (K := K) rfl) pe_int (pe_ix (k_ix (K := K) rfl) (pv 0) pe_int (fun _ _ => rfl)))) pe_int) pe_int) (pv 4)) pe_int) (pv 1)))))))), fun ρ post hl h => ?_⟩
  obtain ⟨p, a, b, c, m, rfl, h1, h2, h3, h4, q⟩ := h
  have mW : ∀ i, CDivW i m := fun i => cdivW h1 (Nat.lt_of_le_of_lt (show m.natAbs ≤ 2 ^ 40 by omega) (by decide +kernel))
  walk_at "dl"
  refine od_ix_lst (x := .int c) rfl ?_
  walk_at "dl"
  by_cases hc : 0 < c
  · simp only [hc, if_true]
    walk_at "dl"
    refine od_ix_lst (x := .int c) rfl ?_
    walk_at "dl"
    refine od_mod h1 ?_
    walk_at "dl"
    refine od_ix_lst (x := .int c) rfl ?_
    walk_at "dl"
    refine od_div (mW _) ?_
    walk_at "dl"
    refine ⟨_, _, rfl, ?_⟩
    walk_at "dl"
    refine ⟨_, _, _, rfl, rfl, rfl, ?_⟩
    walk_at "dl"
    exact q _ _ _ (Int.emod_nonneg _ (by omega)) (Int.emod_lt_of_pos _ h1) (Int.le_refl _) (by omega)
  · simp only [hc, if_false]
    walk_at "dl"
    refine od_ix_lst (x := .int b) rfl ?_
    walk_at "dl"
    refine ⟨_, _, rfl, ?_⟩
    walk_at "dl"
    refine ⟨_, _, _, rfl, rfl, rfl, ?_⟩
    walk_at "dl"
    refine ⟨(show 8 ≤ sizeLine by decide), fun p2 => ?_⟩
    walk_at "dl"
    refine ⟨(show 3 ≤ sizeLine by decide), fun p3 => ?_⟩
    walk_at "dl"
    refine od_add_lst (show 11 ≤ sizeLine by decide) ?_
    walk_at "dl"
    refine fun p4 => ?_
    walk_at "dl"
    refine od_ix_lst (x := .int (b + 1)) rfl ?_
    walk_at "dl"
    refine od_mod (by decide) ?_
    walk_at "dl"
    obtain ⟨pr, e1, e2, e3⟩ := primes11 ((b + 1) % 11) (Int.emod_nonneg _ (by decide)) (Int.emod_lt_of_pos _ (by decide))
    refine od_ix_lst (x := .int pr) e1 ?_
    walk_at "dl"
    refine od_ix_lst (x := .int a) rfl ?_
    walk_at "dl"
    refine od_mod e2 ?_
    walk_at "dl"
    refine od_ix_lst (x := .int (b + 1)) rfl ?_
    walk_at "dl"
    refine od_mul_int (cmulW (by decide +kernel) (Nat.lt_of_le_of_lt (show (b + 1).natAbs ≤ 2 ^ 41 by omega) (by decide +kernel))) ?_
    walk_at "dl"
    have m0 := Int.emod_nonneg a (show pr ≠ 0 by omega)
    have m1 := Int.emod_lt_of_pos a e2
    generalize hb : a % pr + 7919 * (b + 1) + 1 = base
    have b1 : base.natAbs < 2 ^ 64 := by omega
    refine od_pow (show CPow base 5 from ⟨by decide, by decide, b1⟩) ?_
    walk_at "dl"
    refine od_mod e2 ?_
    walk_at "dl"
    refine od_div (cdivW (by decide) (by decide +kernel)) ?_
    walk_at "dl"
    refine od_mod h1 ?_
    walk_at "dl"
    exact q _ _ _ (Int.emod_nonneg _ (by omega)) (Int.emod_lt_of_pos _ h1) (by omega) (Int.le_refl _)
def R_law_other : DSp := fun ρ post => ∃ c : Nat, ρ = [.d (.str [c])] ∧ c ∈ al ∧ post (.d (.str [flipC c])) ρ
theorem d_law_other (T : Txt P K mg) (F : FunAt K mg "_law_other" s_law_other ["letter"])  : DOk P w K mg base "_law_other" 1 ["letter"] (spD K 1 R_law_other) := by
  refine mk_def (k := 0) (n := 1) (m := 0) F sc_law_other rfl rfl fun f cdv A outer s H E hr => ?_
  have hu := hr.units
  have hu1 := units65 hr
  have hu2 := hu_of hr
  refine ⟨_, (pss_one (ps_ret (pe_ifExp (k_tru (K := K) rfl (k_bm0 (K := K) rfl PySem.F.plainAttrs_str PySem.F.slot_str_islower PySem.F.type_str_islower m_isl (pv 0))) (k_bm0 (K := K) rfl PySem.F.plainAttrs_str PySem.F.slot_str_upper PySem.F.type_str_upper m_upp (pv 0)) (k_bm0 (K := K) rfl PySem.F.plainAttrs_str PySem.F.slot_str_lower PySem.F.type_str_lower m_low (pv 0))))), fun ρ post hl h => ?_⟩
  obtain ⟨c, rfl, h1, q⟩ := h
  have ha : ascii [c] := asc1 ((show ∀ c ∈ al, c < 128 by decide) c h1)
  walk_at "dl"
  refine ⟨rfl, md_isl ha ?_⟩
  walk_at "dl"
  by_cases hb : ([c].any islC && !([c].any isuC)) = true
  · simp only [hb, if_true]
    walk_at "dl"
    refine ⟨rfl, md_upp ha (by simp) ?_⟩
    walk_at "dl"
    rw [(show ∀ c ∈ al, ([c].any islC && !([c].any isuC)) = true → uppC c = flipC c by decide) c h1 hb]
    exact q
  · simp only [hb, if_false]
    walk_at "dl"
    refine ⟨rfl, md_low ha (by simp) ?_⟩
    walk_at "dl"
    rw [(show ∀ c ∈ al, ¬ ([c].any islC && !([c].any isuC)) = true → lowC c = flipC c by decide) c h1 hb]
    exact q
def R_law_key : DSp := fun ρ post => ∃ s : List Nat, ρ = [.d (.str s)] ∧ s.length ≤ 100000 ∧ (∀ c ∈ s, c ∈ al) ∧ post (.n (.lst (s.map fun c => .int (rankC c)))) ρ
theorem d_law_key (T : Txt P K mg) (F : FunAt K mg "_law_key" s_law_key ["text"])  : DOk P w K mg base "_law_key" 1 ["text"] (spD K 1 R_law_key) := by
  refine mk_def (k := 0) (n := 1) (m := 1) F sc_law_key rfl rfl fun f cdv A outer s H E hr => ?_
  have hu := hr.units
  have hu1 := units65 hr
  have hu2 := hu_of hr
  refine ⟨_, (pss_one (ps_ret (pe_lc (own := [("letter", 1)]) (g := (gName 1)) (tt := tYes) (by rfl) sc_law_key.nd (pi_str (pv 0)) (blkOk_by (own := [("letter", 1)]) (N := N_law_key) (sc := defScope s_law_key) (by decide +kernel)) (fun _ _ _ _ _ => (pg_name (i := 1) sc_law_key.nd rfl (by first | exact Or.inl rfl | exact Or.inr rfl))) (fun _ _ _ _ _ => pts_nil) (fun _ _ _ _ _ => (k_bm (K := K) rfl PySem.F.plainAttrs_str PySem.F.slot_str_index PySem.F.type_str_index mt_sindex pe_str (pa_cons (pv 1) pa_nil)))))), fun ρ post hl h => ?_⟩
  obtain ⟨s, rfl, h1, h2, q⟩ := h
  walk_at "dl"
  refine ed_map .int rankC ?_
  refine ei_str ?_
  walk_at "dl"
  walk_at "lc"
  · exact size1 h1
  · intro x hx
    walk_at "g1"
    refine ⟨rfl, ?_⟩
    walk_at "dl"
    refine md_sindex (i := (rankC x).toNat) ((show ∀ x ∈ al, Builtin.Str.occurrences (S [97, 65, 98, 66, 99, 67, 100, 68]) (S [x]) 0 (S [97, 65, 98, 66, 99, 67, 100, 68]).length 1 = [(rankC x).toNat] by decide +kernel) x (h2 x hx)) ?_
    walk_at "dl"
    exact ⟨(show ∀ x ∈ al, D.int (((rankC x).toNat : Nat) : Int) = D.int (rankC x) by intro x hx; exact congrArg D.int ((show ∀ x ∈ al, (((rankC x).toNat : Nat) : Int) = rankC x by decide) x hx)) x (h2 x hx), by first | trivial | rfl⟩
  · walk_at "dl"
    rw [List.map_map]
    exact q
def R_law_sums : DSp := fun ρ post => ∃ (r : Int) (s : List Nat), ρ = [.d (.int r), .d (.str s)] ∧ Rk r ∧ (∀ c ∈ s, c ∈ alph r) ∧ post (.d (.tup ((expL r s).map .int))) ρ
theorem d_law_sums (T : Txt P K mg) (F : FunAt K mg "_law_sums" s_law_sums ["rank", "text"])  : DOk P w K mg base "_law_sums" 1 ["rank", "text"] (spD K 2 R_law_sums) := by
  refine mk_def (k := 0) (n := 2) (m := 2) F sc_law_sums rfl rfl fun f cdv A outer s H E hr => ?_
  have hu := hr.units
  have hu1 := units65 hr
  have hu2 := hu_of hr
  refine ⟨_, (pss_cons (ps_set (i := 2) sc_law_sums.nd rfl (by first | exact Or.inl rfl | exact Or.inr rfl) (pe_mulL (pe_op (k_mul (K := K) rfl) (pe_lst (pa_cons pe_int pa_nil)) (pv 0))))
  (pss_cons (ps_for PassesOwn.never rfl (pi_str (pv 1)) (pg_name (i := 3) sc_law_sums.nd rfl (by first | exact Or.inl rfl | exact Or.inr rfl))
  (pss_one (ps_asg (pe_op (k_add (K := K) rfl) (pe_ix (k_ix (K := K) rfl) (pv 2) (k_bm (K := K) rfl PySem.F.plainAttrs_str PySem.F.slot_str_index PySem.F.type_str_index mt_sindex pe_str (pa_cons (k_bm0 (K := K) rfl PySem.F.plainAttrs_str PySem.F.slot_str_lower PySem.F.type_str_lower m_low (pv 3)) pa_nil)) (fun _ _ => rfl)) (pe_ifExp (pt_cmpR (k_in (K := K) rfl) (pv 3) pe_str (by rfl)) pe_int (pe_op op_sub pe_int pe_int))) (pg_sub (pv 2) (k_bm (K := K) rfl PySem.F.plainAttrs_str PySem.F.slot_str_index PySem.F.type_str_index mt_sindex pe_str (pa_cons (k_bm0 (K := K) rfl PySem.F.plainAttrs_str PySem.F.slot_str_lower PySem.F.type_str_lower m_low (pv 3)) pa_nil)) set_list))))
  (pss_one (ps_ret (pe_callTy (k_tup (K := K) rfl) (by rfl) T.ntuple (by decide +kernel) (pa_cons (pv 2) pa_nil)))))), fun ρ post hl h => ?_⟩
  obtain ⟨r, s, rfl, hr, hs, q⟩ := h
  have h0 := hr.1
  have h4 := hr.2
  walk_at "d0"
  refine sd_seq ?_
  refine sd_asg ?_
  refine ed_mulL ?_
  walk_at "dm"
  refine fun p0 => ?_
  walk_at "dm"
  refine ⟨_, _, _, rfl, rfl, by omega, by omega, size1 (by simp only [List.length_cons, List.length_nil]; omega), fun p => ?_⟩
  have e0 : (List.replicate r.toNat [D.int 0]).flatten = (expL r []).map .int := by rcases rk_cases hr with rfl | rfl | rfl <;> rfl
  rw [e0]
  walk_at "dm"
  refine sd_for ?_
  refine ei_str ?_
  walk_at "dm"
  refine ⟨fun k ρ => ∃ x3, ρ = [.d (.int r), .d (.str s), .cell p (.lst ((expL r (s.take k)).map .int)), x3], ⟨_, rfl⟩, ?_, ?_⟩
  · rintro k x ρ2 hx ⟨x3, rfl⟩
    rw [List.getElem?_map] at hx
    obtain ⟨c, hc, rfl⟩ := Option.map_eq_some_iff.mp hx
    have hm := hs c (List.mem_of_getElem? hc)
    obtain ⟨x, e1, e2, e3⟩ := expL_step hr c hm (s.take k)
    have hca := alph_al hm
    have h128 := al_asc (s := [c]) (fun d hd => by rw [List.mem_singleton.mp hd]; exact hca) c (List.mem_singleton_self c)
    have es : s.take (k + 1) = s.take k ++ [c] := by rw [List.take_add_one, hc]; rfl
    have oc : Builtin.Str.occurrences (S [97, 98, 99, 100]) (S (List.map lowC [c])) 0 (S [97, 98, 99, 100]).length 1 = [numC c] := (show ∀ c ∈ al, Builtin.Str.occurrences (S [97, 98, 99, 100]) (S (List.map lowC [c])) 0 (S [97, 98, 99, 100]).length 1 = [numC c] by decide +kernel) c hca
    refine ⟨_, gt_name, ?_⟩
    walk_at "dm"
    refine md_low (asc1 h128) (by simp) ?_
    walk_at "dm"
    refine md_sindex oc ?_
    walk_at "dm"
    refine od_ix_lst (x := .int x) (atI_nat (by rw [List.getElem?_map, e1]; rfl)) ?_
    have ew : decide (c ∈ ([97, 98, 99, 100] : List Nat)) = islC c := (show ∀ c ∈ al, decide (c ∈ ([97, 98, 99, 100] : List Nat)) = islC c by decide) c hca
    walk_at "dm"
    have fin : ∀ y : Int, x + y = x + (if islC c then 1 else -1) → ∃ x3 : Sl, [Sl.d (D.int r), .d (.str s), .cell p (.lst (((expL r (s.take k)).map D.int).set (numC c) (.int (x + y)))), .d (.str [c])] = [.d (.int r), .d (.str s), .cell p (.lst ((expL r (s.take (k + 1))).map .int)), x3] := fun y hy => by
      rw [es, e3, List.map_set, hy]
      exact ⟨_, rfl⟩
    have e5 : ixN ((expL r (s.take k)).map D.int).length ((numC c : Nat) : Int) = some (numC c) := ixN_nat (by rw [List.length_map, expL_len hr]; exact e2)
    by_cases hb : c ∈ ([97, 98, 99, 100] : List Nat)
    · rw [if_pos hb]
      have hi : islC c = true := by rw [← ew]; exact decide_eq_true hb
      walk_at "dm"
      refine ⟨_, _, rfl, ?_⟩
      walk_at "dm"
      refine md_low (asc1 h128) (by simp) ?_
      walk_at "dm"
      refine md_sindex oc ?_
      walk_at "dm"
      exact ⟨_, _, _, rfl, rfl, e5, fin 1 (by rw [hi]; rfl)⟩
    · rw [if_neg hb]
      have hi : islC c = false := by rw [← ew]; exact decide_eq_false hb
      walk_at "dm"
      refine ⟨_, _, rfl, ?_⟩
      walk_at "dm"
      refine md_low (asc1 h128) (by simp) ?_
      walk_at "dm"
      refine md_sindex oc ?_
      walk_at "dm"
      exact ⟨_, _, _, rfl, rfl, e5, fin (0 - 1) (by rw [hi]; rfl)⟩
  · rintro ρ2 ⟨x3, rfl⟩
    rw [List.length_map, List.take_length]
    walk_at "dm"
    exact q
def Rletters : DSp := fun ρ post => ∃ r : Int, ρ = [.d (.int r)] ∧ Rk r ∧ post (.d (.str (alph r))) [.d (.int r)]
theorem dletters (T : Txt P K mg) (F : FunAt K mg "letters" sletters ["rank"]) (Gcheck_rank : DOk P w K mg base "check_rank" 1 ["rank"] (spD K 1 Rcheck_rank)) : DOk P w K mg base "letters" 2 ["rank"] (spD K 1 Rletters) := by
  refine mk_def (k := 1) (n := 1) (m := 0) F scletters rfl rfl fun f cdv A outer s H E hr => ?_
  have hu := hr.units
  have hu1 := units65 hr
  have hu2 := hu_of hr
  refine ⟨_, (pss_cons (ps_expr (pe_callD Gcheck_rank (hr.mono (by decide)) (pa_cons (pv 0) pa_nil)))
  (pss_one (ps_ret (pe_slice (k_sl (K := K) rfl) (pe_gS T.gLETTER_ORDER) po_none (po_some (pe_op (k_mul (K := K) rfl) pe_int (pv 0))))))), fun ρ post hl h => ?_⟩
  obtain ⟨r, rfl, h1, q⟩ := h
  walk_at "dl"
  refine ⟨rfl, cells_none (by simp [Sl.adr]), r, rfl, h1, ?_⟩
  walk_at "dl"
  refine od_mul_int (i := 2) (j := r) (cmulW (by decide +kernel) (Nat.lt_of_le_of_lt (show r.natAbs ≤ 4 by have := h1.1; have := h1.2; omega) (by decide +kernel))) ?_
  walk_at "dl"
  refine sld_str (by decide) ?_
  walk_at "dl"
  rw [← alph_eq h1] at q
  exact q
def Rfirst_rotation : DSp := fun ρ post => ∃ s : List Nat, ρ = [.d (.str s)] ∧ 0 < s.length ∧ s.length ≤ 100000 ∧ (∀ c ∈ s, c ∈ al) ∧ post (.d (.str (firstW s))) ρ
theorem dfirst_rotation (T : Txt P K mg) (F : FunAt K mg "first_rotation" sfirst_rotation ["word"]) (Gorder_marks : DOk P w K mg base "order_marks" 1 ["text"] (spD K 1 Rorder_marks)) : DOk P w K mg base "first_rotation" 2 ["word"] (spD K 1 Rfirst_rotation) := by
  refine mk_def (k := 1) (n := 1) (m := 4) F scfirst_rotation rfl rfl fun f cdv A outer s H E hr => ?_
  have hu := hr.units
  have hu1 := units65 hr
  have hu2 := hu_of hr
  refine ⟨_, (pss_cons (ps_set (i := 1) scfirst_rotation.nd rfl (by first | exact Or.inl rfl | exact Or.inr rfl) (pe_callD Gorder_marks (hr.mono (by decide)) (pa_cons (pv 0) pa_nil)))
  (pss_cons (ps_setLc (i := 2) (own := [("k", 4)]) (g := (gName 4)) (tt := tYes) (by rfl) scfirst_rotation.nd rfl rfl (sw_true rfl rfl rfl (by decide +kernel)) (pi_range1 rfl T.nrange (pa_cons (pe_callB (k_len (K := K) rfl) (by rfl) T.nlen PySem.boot_len (pa_cons (pv 1) pa_nil)) pa_nil)) (blkOk_by (own := [("k", 4)]) (N := Nfirst_rotation) (sc := defScope sfirst_rotation) (by decide +kernel)) (fun _ _ _ _ _ => (pg_name (i := 4) scfirst_rotation.nd rfl (by first | exact Or.inl rfl | exact Or.inr rfl))) (fun _ _ _ _ _ => pts_nil) (fun _ _ _ _ _ => (pe_op (k_add (K := K) rfl) (pe_slice (k_sl (K := K) rfl) (pv 1) (po_some (pv 4)) po_none) (pe_slice (k_sl (K := K) rfl) (pv 1) po_none (po_some (pv 4))))))
  (pss_cons (ps_set (i := 3) scfirst_rotation.nd rfl (by first | exact Or.inl rfl | exact Or.inr rfl) (k_bm (K := K) rfl PySem.F.plainAttrs_list PySem.F.slot_list_index PySem.F.type_list_index (k_indexD (K := K) rfl hu1) (pv 2) (pa_cons (pe_callB (k_min (K := K) rfl rfl hu) (by rfl) T.nmin (by decide +kernel) (pa_cons (pv 2) pa_nil)) pa_nil)))
  (pss_one (ps_ret (pe_op (k_add (K := K) rfl) (pe_slice (k_sl (K := K) rfl) (pv 0) (po_some (pv 3)) po_none) (pe_slice (k_sl (K := K) rfl) (pv 0) po_none (po_some (pv 3))))))))), fun ρ post hl h => ?_⟩
  obtain ⟨s, rfl, h0, h1, h2, q⟩ := h
  walk_at "dl"
  walk_at "call"
  refine ⟨s, rfl, h1, h2, ?_⟩
  walk_at "dl"
  refine ed_map .str (fun k : Nat => rotW (s.map markC) k) ?_
  refine ei_rngN ?_
  walk_at "dl"
  refine cd_len_s (size1 (by rw [List.length_map]; exact h1)) ?_
  walk_at "dl"
  have hn : (s.map markC).length ≤ 100000 := by rw [List.length_map]; exact h1
  have rl : ∀ (t : List Nat) (k : Nat), (t.drop k).length + (t.take k).length = t.length := fun t k => by rw [List.length_drop, List.length_take]; omega
  refine ⟨_, rfl, by omega, ?_⟩
  walk_at "lc"
  · rw [List.length_range]; exact size1 hn
  · intro x hx
    walk_at "g1"
    refine sld_from (size1 hn) ?_
    walk_at "dl"
    refine sld_to (size1 hn) ?_
    walk_at "dl"
    refine od_add_str (by rw [rl]; exact size1 hn) ?_
    walk_at "dl"
    exact ⟨rfl, by first | trivial | rfl⟩
  · walk_at "dl"
    refine ⟨rfl, ?_⟩
    walk_at "dl"
    refine cd_min_s (fun e => ?_) fun m hm hl => ?_
    · have := congrArg List.length e
      simp only [List.length_map, List.length_range, List.length_nil] at this
      omega
    obtain ⟨k1, k2, k3⟩ := least_ok hm hl
    walk_at "dl"
    refine md_index_s (fun a ha => ?_) k2 k3 ?_
    · obtain ⟨k, _, rfl⟩ := List.mem_map.mp ha
      exact asc_rot (asc_marks h2)
    walk_at "dl"
    refine sld_from (size1 h1) ?_
    walk_at "dl"
    refine sld_to (size1 h1) ?_
    walk_at "dl"
    refine od_add_str (by rw [rl]; exact size1 h1) ?_
    walk_at "dl"
    exact q
def R_law_back : DSp := fun ρ post => ∃ s : List Nat, ρ = [.d (.str s)] ∧ s.length ≤ 100000 ∧ (∀ c ∈ s, c ∈ al) ∧ post (.d (.str (invW s))) ρ
theorem d_law_back (T : Txt P K mg) (F : FunAt K mg "_law_back" s_law_back ["text"]) (G_law_other : DOk P w K mg base "_law_other" 1 ["letter"] (spD K 1 R_law_other)) : DOk P w K mg base "_law_back" 2 ["text"] (spD K 1 R_law_back) := by
  refine mk_def (k := 1) (n := 1) (m := 1) F sc_law_back rfl rfl fun f cdv A outer s H E hr => ?_
  have hu := hr.units
  have hu1 := units65 hr
  have hu2 := hu_of hr
  refine ⟨_, (pss_one (ps_ret (k_bm (K := K) rfl PySem.F.plainAttrs_str PySem.F.slot_str_join PySem.F.type_str_join (k_join (K := K) rfl) pe_str (pa_cons (pe_lc (own := [("letter", 1)]) (g := (gName 1)) (tt := tYes) (by rfl) sc_law_back.nd (pi_str (pe_rev (k_rv (K := K) rfl) (pv 0))) (blkOk_by (own := [("letter", 1)]) (N := N_law_back) (sc := defScope s_law_back) (by decide +kernel)) (fun _ _ _ _ _ => (pg_name (i := 1) sc_law_back.nd rfl (by first | exact Or.inl rfl | exact Or.inr rfl))) (fun _ _ _ _ _ => pts_nil) (fun _ _ _ _ _ => (pe_callD G_law_other (hr.mono (by decide)) (pa_cons (pv 1) pa_nil)))) pa_nil)))), fun ρ post hl h => ?_⟩
  obtain ⟨s, rfl, h1, h2, q⟩ := h
  walk_at "dl"
  refine ⟨rfl, ?_⟩
  refine ea_cons ?_
  refine ed_map (fun c : Nat => D.str [c]) flipC ?_
  refine ei_str ?_
  walk_at "dl"
  refine ud_rev_str (size1 h1) ?_
  walk_at "dl"
  walk_at "lc"
  · rw [List.length_reverse]; exact size1 h1
  · intro x hx
    walk_at "g1"
    walk_at "call"
    refine ⟨x, rfl, h2 x (List.mem_reverse.mp hx), ?_⟩
    walk_at "dl"
  · walk_at "dl"
    refine md_join1 (by rw [List.length_map, List.length_reverse]; omega) ?_
    walk_at "dl"
    exact q
def R_law_short : DSp := fun ρ post => ∃ s : List Nat, ρ = [.d (.str s)] ∧ s.length ≤ 100000 ∧ (∀ c ∈ s, c ∈ al) ∧ post (.d (.str (freeW s))) ρ
theorem d_law_short (T : Txt P K mg) (F : FunAt K mg "_law_short" s_law_short ["text"]) (G_law_other : DOk P w K mg base "_law_other" 1 ["letter"] (spD K 1 R_law_other)) : DOk P w K mg base "_law_short" 2 ["text"] (spD K 1 R_law_short) := by
  refine mk_def (k := 1) (n := 1) (m := 2) F sc_law_short rfl rfl fun f cdv A outer s H E hr => ?_
  have hu := hr.units
  have hu1 := units65 hr
  have hu2 := hu_of hr
  refine ⟨_, (pss_cons (ps_set (i := 1) sc_law_short.nd rfl (by first | exact Or.inl rfl | exact Or.inr rfl) (pe_lst pa_nil))
  (pss_cons (ps_for PassesOwn.never rfl (pi_str (pv 0)) (pg_name (i := 2) sc_law_short.nd rfl (by first | exact Or.inl rfl | exact Or.inr rfl))
  (pss_one (ps_if (PW.pt (pw_and (pt_cmpR (k_ne (K := K) rfl hu) (pv 1) (pe_lst pa_nil) (nomark _)) (pw_and1 (pt_cmpR (k_eq (K := K) rfl hu) (pe_ix (k_ix (K := K) rfl) (pv 1) (pe_un un_neg pe_int) (fun _ _ => rfl)) (pe_callD G_law_other (hr.mono (by decide)) (pa_cons (pv 2) pa_nil)) (nomark _))))) (pss_one (ps_expr (k_bm0 (K := K) rfl PySem.F.plainAttrs_list PySem.F.slot_list_pop PySem.F.type_list_pop mt_pop (pv 1)))) (pss_one (ps_expr (k_bm (K := K) rfl PySem.F.plainAttrs_list PySem.F.slot_list_append PySem.F.type_list_append mt_append (pv 1) (pa_cons (pv 2) pa_nil)))))))
  (pss_one (ps_ret (k_bm (K := K) rfl PySem.F.plainAttrs_str PySem.F.slot_str_join PySem.F.type_str_join (k_join (K := K) rfl) pe_str (pa_cons (pv 1) pa_nil)))))), fun ρ post hl h => ?_⟩
  obtain ⟨s, rfl, h1, h2, q⟩ := h
  walk_at "dl"
  refine ⟨by simp, fun p => ?_⟩
  walk_at "dl"
  refine sd_for ?_
  refine ei_str ?_
  walk_at "dl"
  refine ⟨fun i ρ => ∃ c, ρ = [.d (.str s), .cell p (.lst ((freeW (s.take i)).map fun c => .str [c])), c] ∧ c.adr = none, ⟨_, rfl, rfl⟩, ?_, ?_⟩
  · rintro i x ρ2 hx ⟨c, rfl, hc⟩
    rw [List.getElem?_map] at hx
    obtain ⟨b, hb, rfl⟩ := Option.map_eq_some_iff.mp hx
    have hb3 := h2 b (List.mem_of_getElem? hb)
    have hb2 : b < 128 := (show ∀ c ∈ al, c < 128 by decide) b hb3
    have ha : ascii (freeW (s.take i)) := asc_free fun c hc => al_asc h2 c (List.mem_of_mem_take hc)
    have hs : freeW (s.take (i + 1)) = push1 (freeW (s.take i)) b := by rw [List.take_add_one, hb]; exact free_snoc _ _
    have hl2 : (freeW (s.take i)).length ≤ 100000 := Nat.le_trans (free_len _) (Nat.le_trans (by rw [List.length_take]; omega) h1)
    simp only [hs]
    refine ⟨_, gt_name, ?_⟩
    walk_at "dl"
    generalize freeW (s.take i) = k at *
    refine ⟨by simp, fun p2 => ?_⟩
    refine od_ne_sg ha ?_
    rcases eq_nil_or_snoc k with rfl | ⟨k', z, rfl⟩
    · walk_at "dl"
      walk_at "app"
      · decide
      · exact ⟨_, rfl, rfl⟩
    · have hne : ¬ (k' ++ [z] = []) := by simp
      simp only [hne, decide_false, Bool.not_false]
      walk_at "dl"
      have hz : z < 128 := ha z (List.mem_append_right _ List.mem_cons_self)
      refine od_ix_lst atI_last ?_
      walk_at "dl"
      walk_at "call"
      refine ⟨b, rfl, hb3, ?_⟩
      walk_at "dl"
      refine od_eq_s (asc1 hz) (asc1 (flip_asc hb2)) ?_
      walk_at "dl"
      by_cases he : z = flipC b
      · subst he
        rw [push_pop]
        walk_at "dl"
        refine ⟨_, _, rfl, _, List.getLast?_concat, ?_⟩
        rw [List.dropLast_concat]
        exact ⟨_, rfl, rfl⟩
      · rw [push_add he]
        have he2 : ¬ ([z] = [flipC b]) := by simpa using he
        simp only [he2, if_false]
        walk_at "dl"
        walk_at "app"
        · rw [List.length_append, List.length_map]; simp only [List.length_append, List.length_singleton] at hl2; simp only [List.length_singleton]; exact Nat.lt_of_le_of_lt hl2 (by decide)
        · exact ⟨_, rfl, rfl⟩
  · rintro ρ2 ⟨c, rfl, hc⟩
    rw [List.length_map, List.take_length]
    walk_at "dl"
    refine ⟨rfl, ?_⟩
    walk_at "dl"
    refine md_join1 (Nat.le_trans (free_len _) (by omega)) ?_
    walk_at "dl"
    exact q
def Rhas_letters_only : DSp := fun ρ post => ∃ (r : Int) (x : D), ρ = [.d (.int r), .d x] ∧ Rk r ∧ okT x ∧ post (.d (.bl (hlo r x))) ρ
theorem dhas_letters_only (T : Txt P K mg) (F : FunAt K mg "has_letters_only" shas_letters_only ["rank", "thing"]) (Gletters : DOk P w K mg base "letters" 2 ["rank"] (spD K 1 Rletters)) : DOk P w K mg base "has_letters_only" 3 ["rank", "thing"] (spD K 2 Rhas_letters_only) := by
  refine mk_def (k := 2) (n := 2) (m := 2) F schas_letters_only rfl rfl fun f cdv A outer s H E hr => ?_
  have hu := hr.units
  have hu1 := units65 hr
  have hu2 := hu_of hr
  refine ⟨_, (pss_cons (ps_set (i := 2) schas_letters_only.nd rfl (by first | exact Or.inl rfl | exact Or.inr rfl) (pe_callD Gletters (hr.mono (by decide)) (pa_cons (pv 0) pa_nil)))
  (pss_one (ps_ret (pe_and (pe_callB (k_isi (K := K) rfl) (by rfl) T.nisinstance (by decide +kernel) (pa_cons (pv 1) (pa_cons (pe_bltn (v := .ty "str") (by rfl) T.nstr (by decide +kernel) rfl) pa_nil))) (pe_one (pe_callB (k_all (K := K) rfl rfl) (by rfl) T.nall (by decide +kernel) (pa_cons (pe_lc (own := [("letter", 3)]) (g := (gName 3)) (tt := tYes) (by rfl) schas_letters_only.nd (pi_str (pv 1)) (blkOk_by (own := [("letter", 3)]) (N := Nhas_letters_only) (sc := defScope shas_letters_only) (by decide +kernel)) (fun _ _ _ _ _ => (pg_name (i := 3) schas_letters_only.nd rfl (by first | exact Or.inl rfl | exact Or.inr rfl))) (fun _ _ _ _ _ => pts_nil) (fun _ _ _ _ _ => (pe_cmpR (k_in (K := K) rfl) (pv 3) (pv 2) (by rfl)))) pa_nil))))))), fun ρ post hl h => ?_⟩
  obtain ⟨r, x, rfl, h1, h2, q⟩ := h
  walk_at "dl"
  refine ⟨rfl, cells_none (by simp [Sl.adr]), r, rfl, h1, ?_⟩
  walk_at "dl"
  refine cd_isa h2.1 (by decide) ?_
  cases x with
  | str s =>
    walk_at "dl"
    refine ed_map .bl (fun c => decide (c ∈ alph r)) ?_
    refine ei_str ?_
    walk_at "dl"
    walk_at "lc"
    · exact size1 (h2.2 _ rfl)
    · intro x hx
      walk_at "g1"
    · walk_at "dl"
      exact q
  | obj _ => cases h2.1
  | ty _ => cases h2.1
  | cls _ => cases h2.1
  | exc _ _ _ => cases h2.1
  | fnc _ _ => cases h2.1
  | _ => walk_at "dl"; exact q
def Rring_from : DSp := fun ρ post => ∃ s : List Nat, ρ = [.d (.str s)] ∧ Red s ∧ 0 < s.length ∧ s.length ≤ 100000 ∧ (∀ c ∈ s, c ∈ al) ∧ post (.d (.str (ringW s))) ρ
theorem dring_from (T : Txt P K mg) (F : FunAt K mg "ring_from" sring_from ["word"]) (Gfirst_rotation : DOk P w K mg base "first_rotation" 2 ["word"] (spD K 1 Rfirst_rotation)) (Gwithout_inverse_ends : DOk P w K mg base "without_inverse_ends" 1 ["word"] (spD K 1 Rwithout_inverse_ends)) : DOk P w K mg base "ring_from" 3 ["word"] (spD K 1 Rring_from) := by
  refine mk_def (k := 2) (n := 1) (m := 0) F scring_from rfl rfl fun f cdv A outer s H E hr => ?_
  have hu := hr.units
  have hu1 := units65 hr
  have hu2 := hu_of hr
  refine ⟨_, (pss_one (ps_ret (pe_callD Gfirst_rotation (hr.mono (by decide)) (pa_cons (pe_callD Gwithout_inverse_ends (hr.mono (by decide)) (pa_cons (pv 0) pa_nil)) pa_nil)))), fun ρ post hl h => ?_⟩
  obtain ⟨s, rfl, hr', h0, h1, h2, q⟩ := h
  walk_at "dl"
  walk_at "call"
  refine ⟨s, rfl, h1, al_asc h2, ?_⟩
  walk_at "dl"
  walk_at "call"
  refine ⟨_, rfl, core_pos hr' h0, Nat.le_trans (core_len s) h1, fun c hc => h2 c (core_mem hc), ?_⟩
  walk_at "dl"
  exact q
def R_law_round : DSp := fun ρ post => ∃ s : List Nat, ρ = [.d (.str s)] ∧ s.length ≤ 100000 ∧ (∀ c ∈ s, c ∈ al) ∧ post (.d (.str (ringO (freeW s)))) ρ
theorem d_law_round (T : Txt P K mg) (F : FunAt K mg "_law_round" s_law_round ["text"]) (G_law_short : DOk P w K mg base "_law_short" 2 ["text"] (spD K 1 R_law_short)) (G_law_other : DOk P w K mg base "_law_other" 1 ["letter"] (spD K 1 R_law_other)) (G_law_key : DOk P w K mg base "_law_key" 1 ["text"] (spD K 1 R_law_key)) : DOk P w K mg base "_law_round" 3 ["text"] (spD K 1 R_law_round) := by
  refine mk_def (k := 2) (n := 1) (m := 2) F sc_law_round rfl rfl fun f cdv A outer s H E hr => ?_
  have hu := hr.units
  have hu1 := units65 hr
  have hu2 := hu_of hr
  refine ⟨_, (pss_cons (ps_set (i := 0) sc_law_round.nd rfl (by first | exact Or.inl rfl | exact Or.inr rfl) (pe_callD G_law_short (hr.mono (by decide)) (pa_cons (pv 0) pa_nil)))
  (pss_cons (ps_while PassesOwn.never (PW.pt (pw_and (pt_cmpR op_gt (pe_callB (k_len (K := K) rfl) (by rfl) T.nlen PySem.boot_len (pa_cons (pv 0) pa_nil)) pe_int (nomark _)) (pw_and1 (pt_cmpR (k_eq (K := K) rfl hu) (pe_ix (k_ix (K := K) rfl) (pv 0) pe_int (fun _ _ => rfl)) (pe_callD G_law_other (hr.mono (by decide)) (pa_cons (pe_ix (k_ix (K := K) rfl) (pv 0) (pe_un un_neg pe_int) (fun _ _ => rfl)) pa_nil)) (nomark _)))))
  (pss_one (ps_set (i := 0) sc_law_round.nd rfl (by first | exact Or.inl rfl | exact Or.inr rfl) (pe_slice (k_sl (K := K) rfl) (pv 0) (po_some pe_int) (po_some (pe_un un_neg pe_int))))))
  (pss_cons (ps_setLc (i := 1) (own := [("k", 2)]) (g := (gName 2)) (tt := tYes) (by rfl) sc_law_round.nd rfl rfl (sw_true rfl rfl rfl (by decide +kernel)) (pi_range1 rfl T.nrange (pa_cons (pe_callB (k_len (K := K) rfl) (by rfl) T.nlen PySem.boot_len (pa_cons (pv 0) pa_nil)) pa_nil)) (blkOk_by (own := [("k", 2)]) (N := N_law_round) (sc := defScope s_law_round) (by decide +kernel)) (fun _ _ _ _ _ => (pg_name (i := 2) sc_law_round.nd rfl (by first | exact Or.inl rfl | exact Or.inr rfl))) (fun _ _ _ _ _ => pts_nil) (fun _ _ _ _ _ => (pe_op (k_add (K := K) rfl) (pe_slice (k_sl (K := K) rfl) (pv 0) (po_some (pv 2)) po_none) (pe_slice (k_sl (K := K) rfl) (pv 0) po_none (po_some (pv 2))))))
  (pss_one (ps_ret (pe_ifExp (pt_cmpR (k_ne (K := K) rfl hu) (pv 1) (pe_lst pa_nil) (nomark _)) (k_minK (K := K) rfl rfl G_law_key (hr.mono (by decide)) T.nmin (pa_cons (pv 1) pa_nil)) pe_str)))))), fun ρ post hl h => ?_⟩
  obtain ⟨s, rfl, h1, h2, q⟩ := h
  walk_at "dl"
  walk_at "call"
  refine ⟨s, rfl, h1, h2, ?_⟩
  walk_at "dl"
  have fa : ∀ c ∈ freeW s, c ∈ al := fun c hc => h2 c (free_mem hc)
  have fl := free_len s
  have fr := free_red s
  have q0 : post (.d (.str (if freeW s = [] then [] else firstW (coreW (freeW s))))) [.d (.str s)] := q
  clear q
  generalize freeW s = t0 at *
  refine sd_while (fun m ρ => ∃ (t : List Nat) (x y : Sl), ρ = [.d (.str t), x, y] ∧ x.adr = none ∧ y.adr = none ∧ m = t.length ∧ coreW t = coreW t0 ∧ t.length ≤ t0.length ∧ (∀ c ∈ t, c ∈ al)) _ ⟨t0, _, _, rfl, rfl, rfl, rfl, rfl, Nat.le_refl _, fa⟩ ?_
  rintro m ρ1 ⟨t, x, y, rfl, hx, hy, rfl, hc, hl3, ta⟩
  have tz : t.length ≤ 100000 := by omega
  refine TD.imp (p := fun c ρ1 => c = decide (condW t) ∧ ρ1 = [Sl.d (D.str t), x, y]) ?_ fun c ρ1 hq => ?_
  · walk_at "dl"
    refine cd_len_s (size1 tz) ?_
    walk_at "dl"
    by_cases hg : 1 < t.length
    · simp only [show (1 : Int) < (t.length : Int) by omega, if_true]
      walk_at "dl"
      rcases eq_nil_or_snoc t with rfl | ⟨t', z, rfl⟩
      · simp at hg
      cases t' with
      | nil => simp at hg
      | cons a t' =>
        have ma : a ∈ al := ta a (by simp)
        have mz : z ∈ al := ta z (by simp)
        refine od_ix_str (c := a) (size1 tz) (atI_nat (j := 0) rfl) ?_
        walk_at "dl"
        refine od_ix_str (c := z) (size1 tz) (show atI ((a :: t') ++ [z]) (-1) = some z from atI_last) ?_
        walk_at "dl"
        walk_at "call"
        refine ⟨z, rfl, mz, ?_⟩
        walk_at "dl"
        refine od_eq_s (asc1 ((show ∀ c ∈ al, c < 128 by decide) a ma)) (asc1 (flip_asc ((show ∀ c ∈ al, c < 128 by decide) z mz))) ?_
        walk_at "dl"
        refine ⟨?_, trivial⟩
        refine decide_eq_decide.mpr ?_
        have hz2 : (a :: (t' ++ [z])).getLast? = some z := by rw [← List.cons_append]; exact List.getLast?_concat
        unfold condW
        rw [hz2]
        simp
    · simp only [show ¬ (1 : Int) < (t.length : Int) by omega, if_false]
      exact ⟨(decide_eq_false fun c => hg c.1).symm, trivial⟩
  · obtain ⟨rfl, rfl⟩ := hq
    by_cases hcd : condW t
    · simp only [hcd, decide_true, if_true]
      walk_at "dl"
      obtain ⟨a, u, rfl⟩ := condW_iff hcd
      refine sld_in (size1 tz) (by simp) ?_
      walk_at "dl"
      have e : ((a :: (u ++ [flipC a])).drop 1).dropLast = u := by simp
      rw [e]
      exact ⟨u.length, by simp; omega, u, _, _, rfl, hx, hy, rfl, by rw [← hc, core_wrap], by simp at hl3 ⊢; omega, fun c hc => ta c (by simp [hc])⟩
    · have ht : t = coreW t0 := by rw [← hc, core_id hcd]
      simp only [hcd, decide_false, if_false]
      walk_at "dl"
      refine ed_map .str (fun k : Nat => rotW t k) ?_
      refine ei_rngN ?_
      walk_at "dl"
      refine cd_len_s (size1 tz) ?_
      walk_at "dl"
      have rl : ∀ (t : List Nat) (k : Nat), (t.drop k).length + (t.take k).length = t.length := fun t k => by rw [List.length_drop, List.length_take]; omega
      refine ⟨_, rfl, by omega, noC1 (z := y) rfl hy, _, _, rfl, ?_, ?_, fun p => ?_⟩
      · rw [List.length_range]; exact size1 tz
      · intro i hi
        walk_at "g1"
        refine sld_from (size1 tz) ?_
        walk_at "dl"
        refine sld_to (size1 tz) ?_
        walk_at "dl"
        refine od_add_str (by rw [rl]; exact size1 tz) ?_
        walk_at "dl"
        exact ⟨rfl, by first | trivial | rfl⟩
      · walk_at "dl"
        refine ⟨by simp, fun p2 => ?_⟩
        refine od_ne_ls0 (fun a ha => ?_) ?_
        · obtain ⟨k, _, rfl⟩ := List.mem_map.mp ha
          exact asc_rot (al_asc ta)
        walk_at "dl"
        by_cases he : t = []
        · subst he
          simp only [List.length_nil, List.range_zero, List.map_nil, not_true, if_false]
          walk_at "dl"
          have : t0 = [] := by
            rcases Nat.eq_zero_or_pos t0.length with z | z
            · exact List.length_eq_zero_iff.mp z
            · have := core_pos fr z; rw [← ht] at this; simp at this
          rw [if_pos this] at q0
          exact q0
        · have tn : 0 < t.length := List.length_pos_iff.mpr he
          have hne : (List.range t.length).map (rotW t) ≠ [] := fun e => by
            have := congrArg List.length e
            simp only [List.length_map, List.length_range, List.length_nil] at this
            omega
          have hne' : ¬ (List.map (fun k => rotW t k) (List.range t.length) = []) := hne
          simp only [hne', not_false_iff, if_true]
          refine ed_minKI .str (fun r => r.map rankC) ?_
          walk_at "dl"
          refine ⟨_, rfl, hne, fun r hr => ?_, fun r hr hmin => ?_⟩
          · obtain ⟨k, _, rfl⟩ := List.mem_map.mp hr
            refine ⟨_, rfl, by unfold rotW; rw [List.length_append, rl]; exact tz, fun c hc => ta c (rot_mem hc), ?_⟩
            show D.lst _ = _
            rw [List.map_map]; rfl
          · have hr2 : r = firstW t := round_min ta tn hr hmin
            walk_at "dl"
            have t0n : ¬ t0 = [] := fun e => by subst e; rw [show coreW [] = [] from rfl] at ht; exact he ht
            rw [if_neg t0n, ← ht, ← hr2] at q0
            exact q0
def Ris_word : DSp := fun ρ post => ∃ (r : Int) (x : D), ρ = [.d (.int r), .d x] ∧ Rk r ∧ okT x ∧ post (.d (.bl (wordB r x))) ρ
theorem dis_word (T : Txt P K mg) (F : FunAt K mg "is_word" sis_word ["rank", "thing"]) (Ghas_letters_only : DOk P w K mg base "has_letters_only" 3 ["rank", "thing"] (spD K 2 Rhas_letters_only)) (Gis_reduced : DOk P w K mg base "is_reduced" 1 ["text"] (spD K 1 Ris_reduced)) : DOk P w K mg base "is_word" 4 ["rank", "thing"] (spD K 2 Ris_word) := by
  refine mk_def (k := 3) (n := 2) (m := 0) F scis_word rfl rfl fun f cdv A outer s H E hr => ?_
  have hu := hr.units
  have hu1 := units65 hr
  have hu2 := hu_of hr
  refine ⟨_, (pss_one (ps_ret (pe_and (pe_callD Ghas_letters_only (hr.mono (by decide)) (pa_cons (pv 0) (pa_cons (pv 1) pa_nil))) (pe_and (pe_cmpR op_le (pe_callB (k_len (K := K) rfl) (by rfl) T.nlen PySem.boot_len (pa_cons (pv 1) pa_nil)) (pe_gI T.gMAX_WORD) (nomark _)) (pe_one (pe_callD Gis_reduced (hr.mono (by decide)) (pa_cons (pv 1) pa_nil))))))), fun ρ post hl h => ?_⟩
  obtain ⟨r, x, rfl, h1, h2, q⟩ := h
  walk_at "dl"
  refine ⟨rfl, cells_none (by simp [Sl.adr]), r, x, rfl, h1, h2, ?_⟩
  walk_at "dl"
  cases x with
  | str s =>
    cases hw : hlo r (.str s) with
    | false =>
      walk_at "dl"
      have : wordB r (.str s) = false := by unfold wordB; simp only [hw, Bool.false_and]
      rw [this] at q; exact q
    | true =>
      walk_at "dl"
      refine cd_len_s (size1 (h2.2 _ rfl)) ?_
      walk_at "dl"
      by_cases hl' : (s.length : Int) ≤ 100
      · simp only [hl', if_true]
        walk_at "dl"
        walk_at "call"
        refine ⟨s, rfl, h2.2 _ rfl, asc_of (hlo_mem hw), ?_⟩
        walk_at "dl"
        have : wordB r (.str s) = redB s := by unfold wordB; simp only [hw, Bool.true_and, decide_eq_true (show s.length ≤ 100 by omega)]
        rw [this] at q; exact q
      · simp only [hl', if_false]
        walk_at "dl"
        have : wordB r (.str s) = false := by unfold wordB; simp only [decide_eq_false (show ¬ s.length ≤ 100 by omega), Bool.false_and, Bool.and_false]
        rw [this] at q; exact q
  | obj _ => cases h2.1
  | ty _ => cases h2.1
  | cls _ => cases h2.1
  | exc _ _ _ => cases h2.1
  | fnc _ _ => cases h2.1
  | _ => walk_at "dl"; exact q
def Ris_ring : DSp := fun ρ post => ∃ (r : Int) (x : D), ρ = [.d (.int r), .d x] ∧ Rk r ∧ okT x ∧ post (.d (.bl (ringB r x))) ρ
theorem dis_ring (T : Txt P K mg) (F : FunAt K mg "is_ring" sis_ring ["rank", "thing"]) (Gis_word : DOk P w K mg base "is_word" 4 ["rank", "thing"] (spD K 2 Ris_word)) (Gring_from : DOk P w K mg base "ring_from" 3 ["word"] (spD K 1 Rring_from)) : DOk P w K mg base "is_ring" 5 ["rank", "thing"] (spD K 2 Ris_ring) := by
  refine mk_def (k := 4) (n := 2) (m := 0) F scis_ring rfl rfl fun f cdv A outer s H E hr => ?_
  have hu := hr.units
  have hu1 := units65 hr
  have hu2 := hu_of hr
  refine ⟨_, (pss_one (ps_ret (pe_and (pe_callD Gis_word (hr.mono (by decide)) (pa_cons (pv 0) (pa_cons (pv 1) pa_nil))) (pe_and (pe_cmpR (k_ne (K := K) rfl hu) (pv 1) pe_str (nomark _)) (pe_one (pe_cmpR (k_eq (K := K) rfl hu) (pe_callD Gring_from (hr.mono (by decide)) (pa_cons (pv 1) pa_nil)) (pv 1) (nomark _))))))), fun ρ post hl h => ?_⟩
  obtain ⟨r, x, rfl, h1, h2, q⟩ := h
  walk_at "dl"
  walk_at "call"
  refine ⟨r, x, rfl, h1, h2, ?_⟩
  walk_at "dl"
  cases hw : wordB r x with
  | false =>
    walk_at "dl"
    have : ringB r x = false := by unfold ringB; cases x <;> first | rfl | simp only [hw, Bool.false_and]
    rw [this] at q; exact q
  | true =>
    cases x with
    | str s =>
      walk_at "dl"
      refine od_ne_s (word_asc hw) (fun c hc => by cases hc) ?_
      walk_at "dl"
      have hm : ∀ c ∈ s, c ∈ al := fun c hc => alph_al (word_mem hw c hc)
      have hl2 := word_len hw
      by_cases he : s = []
      · subst he
        simp only [not_true, if_false]
        exact q
      · simp only [he, not_false_iff, if_true]
        walk_at "dl"
        walk_at "call"
        refine ⟨s, rfl, word_red hw, List.length_pos_iff.mpr he, by omega, hm, ?_⟩
        walk_at "dl"
        refine od_eq_s (asc_ring hm) (word_asc hw) ?_
        walk_at "dl"
        have : ringB r (.str s) = decide (ringW s = s) := by unfold ringB; simp only [hw, decide_eq_true he, Bool.true_and]
        rw [this] at q; exact q
    | _ => cases hw
end
end My
namespace My
open PySem PySem.Spec PyProof.Rows L2 DL LamX
variable [HasT]
local macro_rules | `(tactic| walk_at "strs") => `(tactic| first | exact cs_0 | exact cs_1 | exact cs_2 | exact cs_3 | exact cs_4 | exact cs_5 | exact cs_6 | exact cs_7 | exact cs_8 | exact cs_9 | exact cs_10 | exact cs_11 | exact cs_12 | exact cs_13 | exact cs_14 | exact cs_15)

local macro_rules | `(tactic| walk_at "nrm") => `(tactic| (try simp only [restore_g, rst_self, rst_dr, rst_nor, List.isEmpty_nil, List.isEmpty_cons, isEmpty_snoc, List.map_append, arD_d, arD_n, arD_c0, arD_cS, isB_bl, isBs_bl, asgP_d, asgP_n, asD_d, asD_n, asG_d, asG_n, asG_c, isI_i, isStr_s, isLst_l, isTup_l, rsA_d, rsA_n, isL_c, arS_d, arS_c0, arS_cS, wb_nil, wb_d, wb_c, endP_d, endP_n, endC_nil, endC_d, endC_no, endC_c, setS_nil, setS_c, wipeS_nil, wipeS_c, restore_nil, restore_d, restore_no, restore_c, truP_bl, truP_non, truP_lst, truP_tup, truP_str, truP_int, List.map_cons, List.map_nil, List.set_cons_zero, List.set_cons_succ, Bool.not_true, Bool.not_false, Bool.false_eq_true, if_true, if_false, reduceIte, Bool.not_eq_true', true_and, isaD_int, isaD_bl, isaD_str, isaD_lst, isaD_tup, isaD_non, String.reduceBEq, Bool.or_false, Bool.false_or, Bool.or_true, Bool.true_or, decide_eq_true_eq, decide_eq_false_iff_not, Bool.true_eq_false, decide_true, decide_false, eq_self, eq_self_iff_true]))
local macro_rules | `(tactic| walk_at "st") => `(tactic| with_reducible first
  | apply sd_seq | apply sd_if | apply sd_ret | apply sd_next | apply sd_drop | apply sd_asg | apply sd_par | apply sd_sub
  | apply td_or | apply td_and | apply td_not | apply td_test | apply td_tr
  | refine ed_var rfl ?_ | refine ed_cell rfl ?_ | apply ed_int | apply ed_bl | apply ed_non | apply ed_ty | refine ed_str (by walk_at "strs") ?_
  | apply ed_op | apply ed_un | apply ed_chain | apply ed_if | apply ed_andV | apply ed_orV | apply ed_notV | apply ed_sl | apply ed_append | apply ed_pop | apply ed_trans | apply ed_popAt | apply ed_bm0 | apply ed_bm | apply ed_cb | apply ed_call | apply ed_tup | apply ed_lst
  | apply ea_cons | apply ea_nil | apply eg_cons | apply eg_nil | apply dp_cons | apply dp_nil | apply op_none | apply op_some
  | apply ep_of_ed
  | apply od_add_int | apply od_in_sign | apply od_notin_sign | apply cd_all | apply cd_any | apply ud_neg | apply od_sub | apply od_lt | apply od_le | apply od_gt | apply od_ge
  | refine cd_isa (by with_unfolding_all rfl) (by decide) ?_ | apply cd_len_l | apply cd_len_t | apply cd_mx | apply cd_mn)
local macro_rules | `(tactic| walk_at "dl") => `(tactic| ((try simp only [nox_K, List.replicate, List.cons_append, List.nil_append]); walk_at "nrm"; repeat (walk_at "st"; walk_at "nrm")))

local macro_rules | `(tactic| walk_at "lc") => `(tactic| (refine ⟨(by simp [NoC]), _, _, rfl, ?_, ?_, fun p => ?_⟩))
local macro_rules | `(tactic| walk_at "g1") => `(tactic| (refine ⟨_, gt_name, (by simp), ?_⟩; walk_at "dl"))
local macro_rules | `(tactic| walk_at "g2") => `(tactic| (refine ⟨_, gt_tup rfl (gts_cons gt_name (gts_cons gt_name gts_nil)), (by simp), ?_⟩; walk_at "dl"))
local macro_rules | `(tactic| walk_at "app") => `(tactic| (refine ⟨_, _, rfl, ?_⟩; walk_at "dl"; refine ⟨_, _, rfl, rfl, ?_, ?_⟩))
local macro_rules | `(tactic| walk_at "aug") => `(tactic| (refine sd_augI rfl ?_; walk_at "dl"; refine ⟨_, rfl, rfl, ?_⟩; walk_at "dl"))
local macro_rules | `(tactic| walk_at "call") => `(tactic| refine ⟨rfl, cells_none (by simp [Sl.adr]), ?_⟩)

local macro_rules | `(tactic| walk_at "side") => `(tactic| first | omega | (with_reducible assumption) | (with_reducible rfl) | (with_reducible decide) | (with_reducible apply size1; omega) | (with_reducible apply size2; omega) | (with_reducible apply asc1; first | omega | assumption))
local macro_rules | `(tactic| walk_at "inst") => `(tactic| (first | refine ⟨rfl, ?_⟩ | refine ⟨_, rfl, ?_⟩ | refine ⟨_, _, rfl, ?_⟩ | refine ⟨_, _, _, rfl, ?_⟩ | refine ⟨_, _, _, _, rfl, ?_⟩ | refine ⟨_, _, _, _, _, rfl, ?_⟩ | refine ⟨_, _, _, _, _, _, rfl, ?_⟩ | refine ⟨_, _, _, _, _, _, _, rfl, ?_⟩ | refine ⟨_, _, _, _, _, _, _, _, rfl, ?_⟩))
local macro_rules | `(tactic| walk_at "sides") => `(tactic| repeat (refine ⟨(by walk_at "side"), ?_⟩))
local macro_rules | `(tactic| walk_at "cnd") => `(tactic| (first | ((simp only [cells_c, cells_d, cells_no, cells_nil]); first | exact List.nodup_nil | exact nodup_one | decide) | exact cells_none (by simp [Sl.adr])))
local macro_rules | `(tactic| walk_at "cl") => `(tactic| (refine ⟨rfl, (by walk_at "cnd"), ?_⟩; walk_at "inst"; walk_at "sides"; (try walk_at "dm")))

local macro_rules | `(tactic| walk_at "size") => `(tactic| first | omega | decide | (exact size1 (by omega)) | (simp only [List.length_cons, List.length_nil, List.length_map, List.length_append]; first | done | omega | (exact size1 (by omega)) | decide))
local macro_rules | `(tactic| walk_at "st2") => `(tactic| with_reducible first
  | refine sd_seqH fun _ _ => ?_ | refine sd_dropC rfl ?_ | refine sd_retC rfl ?_ | refine sd_asgC rfl ?_ | walk_at "st" | refine sd_open (by assumption) ?_ | apply sd_par3 | apply cd_tupL | apply cd_tupT | apply cd_lstL | apply cd_lstT | apply od_ne_i | apply od_eq_i | apply od_ne_v | apply od_eq_v | apply od_ne_b | apply od_eq_b | apply md_cnt | apply od_isNB | apply od_notNB | apply ed_mulLL
  | refine And.intro (a := tyD _ = some _) rfl ?_ | refine And.intro (a := _ ≤ _) (by walk_at "size") ?_
  | refine cd_len_s (by walk_at "side") ?_ | refine sld_str (by walk_at "side") ?_ | refine od_eq_s (by walk_at "side") (by walk_at "side") ?_ | refine od_ne_s (by walk_at "side") (by walk_at "side") ?_ | refine od_add_str (by walk_at "side") ?_ | refine od_mod (by walk_at "side") ?_)
local macro_rules | `(tactic| walk_at "d0") => `(tactic| ((try simp only [nox_K, List.replicate, List.cons_append, List.nil_append]); walk_at "nrm"))
local macro_rules | `(tactic| walk_at "nrm2") => `(tactic| (walk_at "nrm"; (try simp only [isaD_dct, String.reduceBEq, if_true, if_false, Bool.false_eq_true, Bool.true_eq_false, sufP_nx, sufP_rt, nonB])))
local macro_rules | `(tactic| walk_at "dm") => `(tactic| ((try simp only [nox_K, List.replicate, List.cons_append, List.nil_append]); walk_at "nrm2"; repeat (walk_at "st2"; walk_at "nrm2")))

local macro_rules | `(tactic| walk_at "szs") => `(tactic| first | omega | decide | (simp only [List.length_cons, List.length_nil, List.length_map, List.length_append]; first | done | omega | decide))
local macro_rules | `(tactic| walk_at "fr") => `(tactic| with_reducible first
  | refine fun (_ : Addr) => ?_ | refine ⟨_, _, _, rfl, rfl, by decide, by decide, (by walk_at "szl"), ?_⟩ | refine md_low (by walk_at "side") (by walk_at "szm") ?_ | refine md_upp (by walk_at "side") (by walk_at "szm") ?_ | refine md_swp (by walk_at "side") (by walk_at "szm") ?_ | refine od_mulC (by omega) (by omega) ?_ | refine ed_dnewK fun _ => ?_ | refine od_pow (by with_unfolding_all exact ⟨by decide, by decide, by decide⟩) ?_
  | refine od_mul_str (by decide) (by decide) (by decide) ?_ | refine od_add_str (size1 (by walk_at "szs")) ?_ | refine od_add_lst (size1 (by walk_at "szs")) ?_ | apply sd_asgTT | apply sd_subD)
local macro_rules | `(tactic| walk_at "dx") => `(tactic| (walk_at "dm"; repeat (walk_at "fr"; walk_at "dm")))
local macro_rules | `(tactic| walk_at "u2") => `(tactic| (refine ⟨_, gt_tup rfl (gts_cons gt_name (gts_cons gt_name gts_nil)), ?_⟩))
local macro_rules | `(tactic| walk_at "u3") => `(tactic| (refine ⟨_, gt_tup rfl (gts_cons gt_name (gts_cons gt_name (gts_cons gt_name gts_nil))), ?_⟩))

local macro_rules | `(tactic| walk_at "szl") => `(tactic| first | decide | (simp only [List.length_cons, List.length_nil, List.length_map, List.length_append]; first | done | decide | omega))
local macro_rules | `(tactic| walk_at "szm") => `(tactic| first | decide | omega | (simp only [List.length_cons, List.length_nil, List.length_map, List.length_append]; first | done | decide | omega))

local macro_rules | `(tactic| walk_at "u22") => `(tactic| (refine ⟨_, gt_tup rfl (gts_cons (gt_tup rfl (gts_cons gt_name (gts_cons gt_name gts_nil))) (gts_cons (gt_tup rfl (gts_cons gt_name (gts_cons gt_name gts_nil))) gts_nil)), ?_⟩))
local macro_rules | `(tactic| walk_at "ml") => `(tactic| (first | (refine od_mulT (by with_reducible assumption) (by with_reducible assumption) (by with_reducible assumption) (by with_reducible assumption) ?_) | refine od_mulC (by omega) (by omega) ?_))
local macro_rules | `(tactic| walk_at "dxm") => `(tactic| (walk_at "dx"; repeat (walk_at "ml"; walk_at "dx")))

section
variable {P : Program} {w : World} {K : PySem.W.Frag} {mg : Str → Option Value} {base : Heap}
def R_law_divisor : DSp := fun ρ post => ∃ (m n : Nat), ρ = [.d (.int (m : Nat)), .d (.int (n : Nat))] ∧ post (.d (.int (Nat.gcd m n : Nat))) ρ
theorem d_law_divisor (T : Txt P K mg) (F : FunAt K mg "_law_divisor" s_law_divisor ["one", "other"])  : DOk P w K mg base "_law_divisor" 1 ["one", "other"] (spD K 2 R_law_divisor) := by
  refine mk_def (k := 0) (n := 2) (m := 0) F sc_law_divisor rfl rfl fun f cdv A outer s H E hr => ?_
  have hu := hr.units
  have hu1 := units65 hr
  have hu2 := hu_of hr
  refine ⟨_, (pss_cons (ps_while PassesOwn.never (pt_cmpR op_gt (pv 1) pe_int (nomark _))
  (pss_one (ps_par (i := 0) (j := 1) rfl sc_law_divisor.nd rfl rfl (by decide) rfl rfl (pa_cons (pv 1) (pa_cons (pe_op op_mod (pv 0) (pv 1)) pa_nil)) (by rfl))))
  (pss_one (ps_ret (pv 0)))), fun ρ post hl h => ?_⟩
  obtain ⟨m, n, rfl, q⟩ := h
  walk_at "dm"
  refine sd_while (fun k ρ => ∃ a b : Nat, ρ = [.d (.int (a : Nat)), .d (.int (b : Nat))] ∧ k = b ∧ Nat.gcd a b = Nat.gcd m n) n ⟨m, n, rfl, rfl, rfl⟩ ?_
  rintro k ρ1 ⟨a, b, rfl, rfl, hg⟩
  walk_at "dm"
  by_cases hb : k = 0
  · subst hb
    rw [if_neg (by omega)]
    walk_at "dm"
    rw [Nat.gcd_zero_right] at hg
    rw [hg]
    exact q
  · have hk : 0 < k := Nat.pos_of_ne_zero hb
    rw [if_pos (by omega)]
    walk_at "dm"
    refine ⟨_, _, rfl, a % k, Nat.mod_lt _ hk, k, a % k, rfl, rfl, ?_⟩
    rw [← hg, Nat.gcd_comm a k, Nat.gcd_rec k a, Nat.gcd_comm]
def R_law_is_even : DSp := fun ρ post => ∃ (p q : Int), ρ = [.d (.str (prW p q))] ∧ PairOk p q ∧ post (.d (.bl true)) ρ
theorem d_law_is_even (T : Txt P K mg) (F : FunAt K mg "_law_is_even" s_law_is_even ["ring"])  : DOk P w K mg base "_law_is_even" 1 ["ring"] (spD K 1 R_law_is_even) := by
  refine mk_def (k := 0) (n := 1) (m := 4) F sc_law_is_even rfl rfl fun f cdv A outer s H E hr => ?_
  have hu := hr.units
  have hu1 := units65 hr
  have hu2 := hu_of hr
  refine ⟨_, (pss_cons (ps_set (i := 1) sc_law_is_even.nd rfl (by first | exact Or.inl rfl | exact Or.inr rfl) (pe_op (k_add (K := K) rfl) (pv 0) (pv 0)))
  (pss_cons (ps_for PassesOwn.never rfl (pi_range2 rfl T.nrange (pa_cons pe_int (pa_cons (pe_callB (k_len (K := K) rfl) (by rfl) T.nlen PySem.boot_len (pa_cons (pv 0) pa_nil)) pa_nil))) (pg_name (i := 2) sc_law_is_even.nd rfl (by first | exact Or.inl rfl | exact Or.inr rfl))
  (pss_cons (ps_setLc (i := 3) (own := [("k", 4)]) (g := (gName 4)) (tt := tYes) (by rfl) sc_law_is_even.nd rfl rfl (sw_true rfl rfl rfl (by decide +kernel)) (pi_range1 rfl T.nrange (pa_cons (pe_callB (k_len (K := K) rfl) (by rfl) T.nlen PySem.boot_len (pa_cons (pv 0) pa_nil)) pa_nil)) (blkOk_by (own := [("k", 4)]) (N := N_law_is_even) (sc := defScope s_law_is_even) (by decide +kernel)) (fun _ _ _ _ _ => (pg_name (i := 4) sc_law_is_even.nd rfl (by first | exact Or.inl rfl | exact Or.inr rfl))) (fun _ _ _ _ _ => pts_nil) (fun _ _ _ _ _ => (k_bm (K := K) rfl PySem.F.plainAttrs_str PySem.F.slot_str_count PySem.F.type_str_count m_cnt (k_bm0 (K := K) rfl PySem.F.plainAttrs_str PySem.F.slot_str_lower PySem.F.type_str_lower m_low (pe_slice (k_sl (K := K) rfl) (pv 1) (po_some (pv 4)) (po_some (pe_op (k_add (K := K) rfl) (pv 4) (pv 2))))) (pa_cons pe_str pa_nil))))
  (pss_one (ps_if (pt_cmpR op_gt (pe_op op_sub (pe_callB (k_max (K := K) rfl rfl hu) (by rfl) T.nmax (by decide +kernel) (pa_cons (pv 3) pa_nil)) (pe_callB (k_min (K := K) rfl rfl hu) (by rfl) T.nmin (by decide +kernel) (pa_cons (pv 3) pa_nil))) pe_int (nomark _)) (pss_one (ps_ret pe_bl)) pss_nil))))
  (pss_one (ps_ret pe_bl)))), fun ρ post hl h => ?_⟩
  obtain ⟨p, q', rfl, hp, q⟩ := h
  have h1 := hp.1
  have h2 := hp.2.1
  have hl := prW_len p q'
  have hasc : ascii (prW p q') := asc_of (prW_alph p q')
  have hz := size1 (show (prW p q').length + (prW p q').length ≤ 100000 by omega)
  walk_at "dm"
  refine sd_for ?_
  refine ei_rng2 ?_
  walk_at "dm"
  refine ⟨_, _, rfl, (by omega), ?_⟩
  refine ⟨fun k ρ => ∃ x2 x3, ρ = [Sl.d (.str (prW p q')), .d (.str (prW p q' ++ prW p q')), x2, x3, .no], ⟨_, _, rfl⟩, ?_, ?_⟩
  · rintro k x ρ2 hx ⟨x2, x3, rfl⟩
    refine ⟨_, gt_name, ?_⟩
    walk_at "dm"
    obtain ⟨m, hm, rfl⟩ : ∃ m : Nat, m < p.natAbs + q'.natAbs ∧ x = .int (m : Nat) := by
      rw [List.getElem?_map] at hx
      obtain ⟨j, hj, e⟩ := Option.map_eq_some_iff.mp hx
      have := List.mem_range.mp (List.mem_of_getElem? hj)
      exact ⟨1 + j, by omega, by rw [← e]; simp⟩
    obtain ⟨d, hd⟩ := prW_even p q' h1 (m := m) (by omega)
    refine ed_map (fun n : Nat => .int (n : Nat)) (fun k : Nat => ((((prW p q' ++ prW p q').drop k).take m).map lowC).count 97) ?_
    refine ei_rngN ?_
    walk_at "dm"
    refine ⟨p.natAbs + q'.natAbs, by rw [hl], by omega, by simp [NoC], List.range (p.natAbs + q'.natAbs), fun k => .int (k : Nat), rfl, by rw [List.length_range]; exact size1 (by omega), fun i hi => ?_, fun pp => ?_⟩
    · walk_at "g1"
      have hi2 : i < p.natAbs + q'.natAbs := List.mem_range.mp hi
      refine sld_mid (by rw [List.length_append]; exact hz) (by omega) (by rw [List.length_append]; omega) ?_
      walk_at "dx"
      rw [show i + m - i = m by omega]
      have asc2 : ascii (((prW p q' ++ prW p q').drop i).take m) := fun c hc => by
        have := List.mem_of_mem_drop (List.mem_of_mem_take hc)
        exact (List.mem_append.mp this).elim (hasc c) (hasc c)
      refine md_low asc2 (by rw [List.length_take]; omega) ?_
      walk_at "dx" 
    walk_at "dm"
    have hne : ((List.range (p.natAbs + q'.natAbs)).map fun k => (((((prW p q' ++ prW p q').drop k).take m).map lowC).count 97 : Int)) ≠ [] := fun e => by
      have := congrArg List.length e
      rw [List.length_map, List.length_range] at this
      simp at this; omega
    have eL : List.map (fun k : Nat => D.int (k : Int)) (List.map (fun k => List.count 97 (List.map lowC (List.take m (List.drop k (prW p q' ++ prW p q'))))) (List.range (p.natAbs + q'.natAbs))) = List.map D.int ((List.range (p.natAbs + q'.natAbs)).map fun k => (((((prW p q' ++ prW p q').drop k).take m).map lowC).count 97 : Int)) := by rw [List.map_map, List.map_map]; rfl
    rw [eL]
    refine cd_max_i hne fun mx hmx _ => ?_
    walk_at "dm"
    refine cd_min_i hne fun mn hmn _ => ?_
    walk_at "dm"
    obtain ⟨k1, hk1, rfl⟩ := List.mem_map.mp hmx
    obtain ⟨k2, hk2, rfl⟩ := List.mem_map.mp hmn
    have d1 := hd k1 (List.mem_range.mp hk1)
    have d2 := hd k2 (List.mem_range.mp hk2)
    rw [if_neg (by omega)]
    walk_at "dm"
    exact ⟨_, _, rfl⟩
  · rintro ρ2 ⟨x2, x3, rfl⟩
    walk_at "dm"
    exact q
def Ris_pair : DSp := fun ρ post => ∃ (p q : Int), ρ = [.d (.tup [.int p, .int q])] ∧ PairOk p q ∧ post (.d (.bl true)) ρ
theorem dis_pair (T : Txt P K mg) (F : FunAt K mg "is_pair" sis_pair ["thing"]) (Gis_integer_value : DOk P w K mg base "is_integer_value" 1 ["thing"] (spD K 1 Ris_integer_value)) : DOk P w K mg base "is_pair" 2 ["thing"] (spD K 1 Ris_pair) := by
  refine mk_def (k := 1) (n := 1) (m := 3) F scis_pair rfl rfl fun f cdv A outer s H E hr => ?_
  have hu := hr.units
  have hu1 := units65 hr
  have hu2 := hu_of hr
  refine ⟨_, (pss_cons (ps_if (PW.pt (pw_or (pt_not (k_tru (K := K) rfl (pe_callB (k_isi (K := K) rfl) (by rfl) T.nisinstance (by decide +kernel) (pa_cons (pv 0) (pa_cons (pe_bltn (v := .ty "tuple") (by rfl) T.ntuple (by decide +kernel) rfl) pa_nil))))) (pw_or (pt_cmpR (k_ne (K := K) rfl hu) (pe_callB (k_len (K := K) rfl) (by rfl) T.nlen PySem.boot_len (pa_cons (pv 0) pa_nil)) pe_int (nomark _)) (pw_or1 (pt_not (k_tru (K := K) rfl (pe_callB (k_all (K := K) rfl rfl) (by rfl) T.nall (by decide +kernel) (pa_cons (pe_lc (own := [("number", 3)]) (g := (gName 3)) (tt := tYes) (by rfl) scis_pair.nd (k_tupI (K := K) rfl (pv 0)) (blkOk_by (own := [("number", 3)]) (N := Nis_pair) (sc := defScope sis_pair) (by decide +kernel)) (fun _ _ _ _ _ => (pg_name (i := 3) scis_pair.nd rfl (by first | exact Or.inl rfl | exact Or.inr rfl))) (fun _ _ _ _ _ => pts_nil) (fun _ _ _ _ _ => (pe_callD Gis_integer_value (hr.mono (by decide)) (pa_cons (pv 3) pa_nil)))) pa_nil)))))))) (pss_one (ps_ret pe_bl)) pss_nil)
  (pss_cons (ps_asg (pv 0) (k_gtup (K := K) rfl rfl (pgs_cons (pg_name (i := 1) scis_pair.nd rfl (by first | exact Or.inl rfl | exact Or.inr rfl)) (pgs_cons (pg_name (i := 2) scis_pair.nd rfl (by first | exact Or.inl rfl | exact Or.inr rfl)) pgs_nil))))
  (pss_one (ps_ret (pe_and (pe_chain op_le op_le pe_int (pe_op (k_add (K := K) rfl) (pe_callB c_abs (by rfl) T.nabs (by decide +kernel) (pa_cons (pv 1) pa_nil)) (pe_callB c_abs (by rfl) T.nabs (by decide +kernel) (pa_cons (pv 2) pa_nil))) (pe_gI T.gMAX_LENGTH)) (pe_one (pe_cmpR (k_eq (K := K) rfl hu) (pe_callBfun cr_gcd (by rfl) T.u_gcd (pa_cons (pv 1) (pa_cons (pv 2) pa_nil))) pe_int (nomark _)))))))), fun ρ post hl h => ?_⟩
  obtain ⟨p, q', rfl, hp, q⟩ := h
  obtain ⟨p1, p2, p3⟩ := hp
  walk_at "dm"
  rw [if_neg (by simp)]
  walk_at "dm"
  refine ed_map .bl (fun _ : D => true) ?_
  refine ei_tup ?_
  walk_at "dm"
  refine ⟨(by simp [NoC]), [.int p, .int q'], id, by simp, size1 (by simp), fun x hx => ?_, fun pp => ?_⟩
  · walk_at "g1"
    walk_at "call"
    refine ⟨x, rfl, ?_, ?_⟩
    · simp only [List.mem_cons, List.not_mem_nil, or_false] at hx
      rcases hx with rfl | rfl <;> exact ⟨rfl, fun s e => by cases e⟩
    have : intB x = true := by
      simp only [List.mem_cons, List.not_mem_nil, or_false] at hx
      rcases hx with rfl | rfl <;> rfl
    rw [this]
    walk_at "dm"
  walk_at "dm"
  refine cd_all (bs := [true, true]) ?_
  simp only [List.all_cons, List.all_nil, Bool.and_self, id]
  walk_at "dx"
  walk_at "u2"
  walk_at "dx"
  refine cd_abs ?_
  walk_at "dx"
  refine cd_abs ?_
  walk_at "dx"
  rw [if_pos (by omega)]
  walk_at "dx"
  rw [if_pos (by omega)]
  walk_at "dx"
  refine cd_gcd ?_
  rw [p3]
  walk_at "dx"
  exact q
def R_law_pair : DSp := fun ρ post => ∃ (p : Addr) (a b c : Int), ρ = [.cell p (.lst [.int a, .int b, .int c])] ∧ 0 ≤ b ∧ b < 2 ^ 38 ∧ ∀ (u v b2 c2 : Int), PairOk u v → b ≤ b2 → b2 ≤ b + 4 → post (.d (.tup [.int u, .int v])) [.cell p (.lst [.int a, .int b2, .int c2])]
theorem d_law_pair (T : Txt P K mg) (F : FunAt K mg "_law_pair" s_law_pair ["source"]) (G_law_next : DOk P w K mg base "_law_next" 1 ["source", "many"] (spD K 2 R_law_next)) (G_law_divisor : DOk P w K mg base "_law_divisor" 1 ["one", "other"] (spD K 2 R_law_divisor)) : DOk P w K mg base "_law_pair" 2 ["source"] (spD K 1 R_law_pair) := by
  refine mk_def (k := 1) (n := 1) (m := 4) F sc_law_pair rfl rfl fun f cdv A outer s H E hr => ?_
  have hu := hr.units
  have hu1 := units65 hr
  have hu2 := hu_of hr
  refine ⟨_, (pss_cons (ps_set (i := 1) sc_law_pair.nd rfl (by first | exact Or.inl rfl | exact Or.inr rfl) (pe_op (k_add (K := K) rfl) pe_int (pe_callD G_law_next (hr.mono (by decide)) (pa_cons (pv 0) (pa_cons pe_int pa_nil)))))
  (pss_cons (ps_set (i := 2) sc_law_pair.nd rfl (by first | exact Or.inl rfl | exact Or.inr rfl) (pe_callD G_law_next (hr.mono (by decide)) (pa_cons (pv 0) (pa_cons (pe_op (k_add (K := K) rfl) (pv 1) pe_int) pa_nil))))
  (pss_cons (ps_set (i := 3) sc_law_pair.nd rfl (by first | exact Or.inl rfl | exact Or.inr rfl) (pe_callD G_law_divisor (hr.mono (by decide)) (pa_cons (pv 2) (pa_cons (pe_op op_sub (pv 1) (pv 2)) pa_nil))))
  (pss_cons (ps_set (i := 4) sc_law_pair.nd rfl (by first | exact Or.inl rfl | exact Or.inr rfl) (pe_lst (pa_cons (pe_op op_sub pe_int (pe_op (k_mul (K := K) rfl) pe_int (pe_callD G_law_next (hr.mono (by decide)) (pa_cons (pv 0) (pa_cons pe_int pa_nil))))) (pa_cons (pe_op op_sub pe_int (pe_op (k_mul (K := K) rfl) pe_int (pe_callD G_law_next (hr.mono (by decide)) (pa_cons (pv 0) (pa_cons pe_int pa_nil))))) pa_nil))))
  (pss_one (ps_ret (pe_tup (pa_cons (pe_op (k_mul (K := K) rfl) (pe_ix (k_ix (K := K) rfl) (pv 4) pe_int (fun _ _ => rfl)) (pe_op op_fdivW (pv 2) (pv 3))) (pa_cons (pe_op (k_mul (K := K) rfl) (pe_ix (k_ix (K := K) rfl) (pv 4) pe_int (fun _ _ => rfl)) (pe_op op_fdivW (pe_op op_sub (pv 1) (pv 2)) (pv 3))) pa_nil))))))))), fun ρ post hl h => ?_⟩
  obtain ⟨p, a, b, c, rfl, hb0, hb1, q⟩ := h
  walk_at "dx"
  walk_at "cl"
  refine fun v1 b1 c1 y1_0 y1_1 z1_0 z1_1 => ?_
  walk_at "dx"
  walk_at "cl"
  refine fun v2 b2 c2 y2_0 y2_1 z2_0 z2_1 => ?_
  walk_at "dx"
  obtain ⟨m, rfl⟩ := Int.eq_ofNat_of_zero_le y1_0
  obtain ⟨n, rfl⟩ := Int.eq_ofNat_of_zero_le y2_0
  walk_at "call"
  refine ⟨n, 1 + m - n, by rw [show (1 : Int) + (m : Int) - (n : Int) = ((1 + m - n : Nat) : Int) by omega], ?_⟩
  walk_at "dx"
  walk_at "cl"
  refine fun v3 b3 c3 y3_0 y3_1 z3_0 z3_1 => ?_
  walk_at "dx"
  walk_at "dx"
  walk_at "cl"
  refine fun v4 b4 c4 y4_0 y4_1 z4_0 z4_1 => ?_
  walk_at "dx"
  have hg : 0 < n.gcd (1 + m - n) := Nat.gcd_pos_iff.mpr (by omega)
  have hgl : n.gcd (1 + m - n) ≤ 1 + m := Nat.le_of_dvd (by omega) (by
    have := Nat.dvd_add (Nat.gcd_dvd_left n (1 + m - n)) (Nat.gcd_dvd_right n (1 + m - n))
    rwa [show n + (1 + m - n) = 1 + m by omega] at this)
  have l1 := Nat.div_le_self n (n.gcd (1 + m - n))
  have l2 := Nat.div_le_self (1 + m - n) (n.gcd (1 + m - n))
  have ok := pair_ok (n := n) (m := 1 + m - n) (by omega) (by omega) (s := 1 - 2 * v3) (t := 1 - 2 * v4) (by omega) (by omega)
  generalize hgg : n.gcd (1 + m - n) = g at *
  generalize hz1 : n / g = z1 at *
  generalize hz2 : (1 + m - n) / g = z2 at *
  refine od_ix_lst (x := .int (1 - 2 * v3)) rfl ?_
  walk_at "dx"
  refine od_div (cdivW (by omega) (by omega)) ?_
  rw [show (n : Int) / (g : Int) = ((z1 : Nat) : Int) by rw [← hz1]; rfl]
  walk_at "dx"
  refine od_ix_lst (x := .int (1 - 2 * v4)) rfl ?_
  walk_at "dx"
  refine od_div (cdivW (by omega) (by omega)) ?_
  rw [show (1 : Int) + (m : Int) - (n : Int) = ((1 + m - n : Nat) : Int) by omega, show ((1 + m - n : Nat) : Int) / (g : Int) = ((z2 : Nat) : Int) by rw [← hz2]; rfl]
  walk_at "dx"
  exact q _ _ _ _ ok (by omega) (by omega)
def Rpair_ring : DSp := fun ρ post => ∃ (p q : Int), ρ = [.d (.tup [.int p, .int q])] ∧ PairOk p q ∧ post (.d (.str (prW p q))) ρ
theorem dpair_ring (T : Txt P K mg) (F : FunAt K mg "pair_ring" spair_ring ["pair"]) (Gring_from : DOk P w K mg base "ring_from" 3 ["word"] (spD K 1 Rring_from)) (Gis_pair : DOk P w K mg base "is_pair" 2 ["thing"] (spD K 1 Ris_pair)) : DOk P w K mg base "pair_ring" 4 ["pair"] (spD K 1 Rpair_ring) := by
  refine mk_def (k := 3) (n := 1) (m := 5) F scpair_ring rfl rfl fun f cdv A outer s H E hr => ?_
  have hu := hr.units
  have hu1 := units65 hr
  have hu2 := hu_of hr
  refine ⟨_, (pss_cons (ps_if (pt_not (k_tru (K := K) rfl (pe_callD Gis_pair (hr.mono (by decide)) (pa_cons (pv 0) pa_nil)))) (pss_one ps_never) pss_nil)
  (pss_cons (ps_set (i := 1) scpair_ring.nd rfl (by first | exact Or.inl rfl | exact Or.inr rfl) (pe_callB c_abs (by rfl) T.nabs (by decide +kernel) (pa_cons (pe_ix (k_ix (K := K) rfl) (pv 0) pe_int (fun _ _ => rfl)) pa_nil)))
  (pss_cons (ps_set (i := 2) scpair_ring.nd rfl (by first | exact Or.inl rfl | exact Or.inr rfl) (pe_op (k_add (K := K) rfl) (pv 1) (pe_callB c_abs (by rfl) T.nabs (by decide +kernel) (pa_cons (pe_ix (k_ix (K := K) rfl) (pv 0) pe_int (fun _ _ => rfl)) pa_nil))))
  (pss_cons (ps_set (i := 3) scpair_ring.nd rfl (by first | exact Or.inl rfl | exact Or.inr rfl) (pe_ifExp (pt_cmpR op_gt (pe_ix (k_ix (K := K) rfl) (pv 0) pe_int (fun _ _ => rfl)) pe_int (nomark _)) pe_str pe_str))
  (pss_cons (ps_set (i := 4) scpair_ring.nd rfl (by first | exact Or.inl rfl | exact Or.inr rfl) (pe_ifExp (pt_cmpR op_gt (pe_ix (k_ix (K := K) rfl) (pv 0) pe_int (fun _ _ => rfl)) pe_int (nomark _)) pe_str pe_str))
  (pss_one (ps_ret (pe_callD Gring_from (hr.mono (by decide)) (pa_cons (k_bm (K := K) rfl PySem.F.plainAttrs_str PySem.F.slot_str_join PySem.F.type_str_join (k_join (K := K) rfl) pe_str (pa_cons (pe_lc (own := [("i", 5)]) (g := (gName 5)) (tt := tYes) (by rfl) scpair_ring.nd (pi_range1 rfl T.nrange (pa_cons (pv 2) pa_nil)) (blkOk_by (own := [("i", 5)]) (N := Npair_ring) (sc := defScope spair_ring) (by decide +kernel)) (fun _ _ _ _ _ => (pg_name (i := 5) scpair_ring.nd rfl (by first | exact Or.inl rfl | exact Or.inr rfl))) (fun _ _ _ _ _ => pts_nil) (fun _ _ _ _ _ => (pe_ifExp (pt_cmpR op_gt (pe_op op_fdivW (pe_op (k_mul (K := K) rfl) (pe_op (k_add (K := K) rfl) (pv 5) pe_int) (pv 1)) (pv 2)) (pe_op op_fdivW (pe_op (k_mul (K := K) rfl) (pv 5) (pv 1)) (pv 2)) (nomark _)) (pv 3) (pv 4)))) pa_nil)) pa_nil))))))))), fun ρ post hl h => ?_⟩
  obtain ⟨p, q', rfl, hp, q⟩ := h
  have h1 := hp.1
  have h2 := hp.2.1
  walk_at "dm"
  walk_at "call"
  refine ⟨p, q', rfl, hp, ?_⟩
  walk_at "dm"
  refine od_ix_tup (x := .int p) rfl ?_
  walk_at "dm"
  refine cd_abs ?_
  walk_at "dm"
  refine od_ix_tup (x := .int q') rfl ?_
  walk_at "dm"
  refine cd_abs ?_
  walk_at "dm"
  refine od_ix_tup (x := .int p) rfl ?_
  walk_at "dm"
  refine ed_ifS (a := 97) (b := 65) (by walk_at "strs") (by walk_at "strs") ?_
  walk_at "dm"
  refine od_ix_tup (x := .int q') rfl ?_
  walk_at "dm"
  refine ed_ifS (a := 98) (b := 66) (by walk_at "strs") (by walk_at "strs") ?_
  rw [show (if (0 : Int) < p then 97 else 65) = xP p from rfl, show (if (0 : Int) < q' then 98 else 66) = yP q' from rfl]
  walk_at "dm"
  refine ed_map (fun c : Nat => .str [c]) (fun i : Nat => if incB p.natAbs (p.natAbs + q'.natAbs) i then xP p else yP q') ?_
  refine ei_rngN ?_
  walk_at "dm"
  refine ⟨p.natAbs + q'.natAbs, by simp, by omega, by simp [NoC], List.range (p.natAbs + q'.natAbs), fun k => .int (k : Nat), rfl, by rw [List.length_range]; exact size1 (by omega), fun i hi => ?_, fun pp => ?_⟩
  · walk_at "g1"
    have hi2 : i < p.natAbs + q'.natAbs := List.mem_range.mp hi
    walk_at "dx"
    refine od_div (cdivW (by omega) (by omega)) ?_
    walk_at "dx"
    refine od_div (cdivW (by omega) (by omega)) ?_
    walk_at "dx"
    have hii := inc_int (P := p.natAbs) (n := p.natAbs + q'.natAbs) (i := i)
    rw [Int.natCast_add] at hii
    by_cases hc : incB p.natAbs (p.natAbs + q'.natAbs) i = true
    · rw [if_pos (hii.mpr hc), if_pos hc]
      walk_at "dx"
    · rw [if_neg (fun e => hc (hii.mp e)), if_neg hc]
      walk_at "dx"
  walk_at "dm"
  refine md_join1 (by rw [List.length_map, List.length_range]; exact size1 (by omega)) ?_
  walk_at "dm"
  walk_at "call"
  have hn0 : prC p q' ≠ [] := fun e => by have := pr_len p q'; rw [e] at this; simp at this; omega
  refine ⟨prC p q', rfl, (cw_crr (xyP p q')).1, by rw [pr_len]; omega, by rw [pr_len]; omega, cw_al (xyP p q'), ?_⟩
  rw [show ringW (prC p q') = prW p q' by unfold prW ringO; rw [if_neg hn0]]
  walk_at "dm"
  exact q
def R_law_crossed : DSp := fun ρ post => ∃ (p q : Int), ρ = [.d (.tup [.int p, .int q])] ∧ PairOk p q ∧ post (.d (.str (prW p q))) ρ
theorem d_law_crossed (T : Txt P K mg) (F : FunAt K mg "_law_crossed" s_law_crossed ["pair"]) (G_law_round : DOk P w K mg base "_law_round" 3 ["text"] (spD K 1 R_law_round)) : DOk P w K mg base "_law_crossed" 4 ["pair"] (spD K 1 R_law_crossed) := by
  refine mk_def (k := 3) (n := 1) (m := 5) F sc_law_crossed rfl rfl fun f cdv A outer s H E hr => ?_
  have hu := hr.units
  have hu1 := units65 hr
  have hu2 := hu_of hr
  refine ⟨_, (pss_cons (ps_par (i := 1) (j := 2) rfl sc_law_crossed.nd rfl rfl (by decide) rfl rfl (pa_cons (pe_callB c_abs (by rfl) T.nabs (by decide +kernel) (pa_cons (pe_ix (k_ix (K := K) rfl) (pv 0) pe_int (fun _ _ => rfl)) pa_nil)) (pa_cons (pe_callB c_abs (by rfl) T.nabs (by decide +kernel) (pa_cons (pe_ix (k_ix (K := K) rfl) (pv 0) pe_int (fun _ _ => rfl)) pa_nil)) pa_nil)) (by rfl))
  (pss_cons (ps_asg (pe_tup (pa_cons pe_str (pa_cons pe_int pa_nil))) (k_gtup (K := K) rfl rfl (pgs_cons (pg_name (i := 3) sc_law_crossed.nd rfl (by first | exact Or.inl rfl | exact Or.inr rfl)) (pgs_cons (pg_name (i := 4) sc_law_crossed.nd rfl (by first | exact Or.inl rfl | exact Or.inr rfl)) pgs_nil))))
  (pss_cons (ps_for PassesOwn.never rfl (pi_range1 rfl T.nrange (pa_cons (pe_op (k_add (K := K) rfl) (pv 1) (pv 2)) pa_nil)) (pg_name (i := 5) sc_law_crossed.nd rfl (by first | exact Or.inl rfl | exact Or.inr rfl))
  (pss_cons (ps_set (i := 4) sc_law_crossed.nd rfl (by first | exact Or.inl rfl | exact Or.inr rfl) (pe_op (k_add (K := K) rfl) (pv 4) (pv 1)))
  (pss_one (ps_if (pt_cmpR op_ge (pv 4) (pe_op (k_add (K := K) rfl) (pv 1) (pv 2)) (nomark _)) (pss_one (ps_par (i := 3) (j := 4) rfl sc_law_crossed.nd rfl rfl (by decide) rfl rfl (pa_cons (pe_op (k_add (K := K) rfl) (pv 3) (pe_ifExp (pt_cmpR op_gt (pe_ix (k_ix (K := K) rfl) (pv 0) pe_int (fun _ _ => rfl)) pe_int (nomark _)) pe_str pe_str)) (pa_cons (pe_op op_sub (pe_op op_sub (pv 4) (pv 1)) (pv 2)) pa_nil)) (by rfl))) (pss_one (ps_set (i := 3) sc_law_crossed.nd rfl (by first | exact Or.inl rfl | exact Or.inr rfl) (pe_op (k_add (K := K) rfl) (pv 3) (pe_ifExp (pt_cmpR op_gt (pe_ix (k_ix (K := K) rfl) (pv 0) pe_int (fun _ _ => rfl)) pe_int (nomark _)) pe_str pe_str))))))))
  (pss_one (ps_ret (pe_callD G_law_round (hr.mono (by decide)) (pa_cons (pv 3) pa_nil))))))), fun ρ post hl h => ?_⟩
  obtain ⟨p, q', rfl, hp, q⟩ := h
  have h1 := hp.1
  have h2 := hp.2.1
  walk_at "dm"
  refine od_ix_tup (x := .int p) rfl ?_
  walk_at "dm"
  refine cd_abs ?_
  walk_at "dm"
  refine od_ix_tup (x := .int q') rfl ?_
  walk_at "dm"
  refine cd_abs ?_
  walk_at "dm"
  refine ⟨_, _, rfl, ?_⟩
  walk_at "dx"
  walk_at "u2"
  walk_at "dx"
  refine sd_for ?_
  refine ei_rngN ?_
  walk_at "dx"
  refine ⟨p.natAbs + q'.natAbs, by simp, by omega, ?_⟩
  refine ⟨fun k ρ => ∃ x5, ρ = [Sl.d (.tup [.int p, .int q']), .d (.int p.natAbs), .d (.int q'.natAbs), .d (.str ((List.range k).map fun i => if incB p.natAbs (p.natAbs + q'.natAbs) i then xP p else yP q')), .d (.int ((k * p.natAbs % (p.natAbs + q'.natAbs) : Nat))), x5], ⟨.no, by simp⟩, ?_, ?_⟩
  · rintro k x ρ2 hx ⟨x5, rfl⟩
    refine ⟨_, gt_name, ?_⟩
    obtain ⟨hk, rfl⟩ := map_rng hx
    have hmod := Nat.mod_lt (k * p.natAbs) h1
    have hst := held_step (P := p.natAbs) (n := p.natAbs + q'.natAbs) (k := k) h1 (by omega)
    have hinc := inc_mod (P := p.natAbs) (n := p.natAbs + q'.natAbs) (i := k) h1
    walk_at "dx"
    by_cases hc : p.natAbs + q'.natAbs ≤ k * p.natAbs % (p.natAbs + q'.natAbs) + p.natAbs
    · rw [if_pos hc] at hst
      rw [decide_eq_true hc] at hinc
      rw [if_pos (by omega)]
      walk_at "dx"
      refine od_ix_tup (x := .int p) rfl ?_
      walk_at "dx"
      refine ed_ifS (a := 97) (b := 65) (by walk_at "strs") (by walk_at "strs") ?_
      walk_at "dx"
      refine od_add_str (by rw [List.length_map, List.length_range]; exact size1 (by simp; omega)) ?_
      walk_at "dx"
      refine ⟨_, _, rfl, .d (.int (k : Nat)), ?_⟩
      rw [List.range_succ, List.map_append, List.map_cons, List.map_nil, hinc, hst, show ((k * p.natAbs % (p.natAbs + q'.natAbs) + p.natAbs - (p.natAbs + q'.natAbs) : Nat) : Int) = ((k * p.natAbs % (p.natAbs + q'.natAbs) : Nat) : Int) + (p.natAbs : Int) - (p.natAbs : Int) - (q'.natAbs : Int) by omega]
      rfl
    · rw [if_neg hc] at hst
      rw [decide_eq_false hc] at hinc
      rw [if_neg (by omega)]
      walk_at "dx"
      refine od_ix_tup (x := .int q') rfl ?_
      walk_at "dx"
      refine ed_ifS (a := 98) (b := 66) (by walk_at "strs") (by walk_at "strs") ?_
      walk_at "dx"
      refine od_add_str (by rw [List.length_map, List.length_range]; exact size1 (by simp; omega)) ?_
      walk_at "dx"
      refine ⟨.d (.int (k : Nat)), ?_⟩
      rw [List.range_succ, List.map_append, List.map_cons, List.map_nil, hinc, hst, Int.natCast_add]
      rfl
  · rintro ρ2 ⟨x5, rfl⟩
    rw [List.length_map, List.length_range]
    walk_at "dx"
    walk_at "call"
    refine ⟨prC p q', rfl, by rw [pr_len]; omega, cw_al (xyP p q'), ?_⟩
    rw [show freeW (prC p q') = prC p q' from free_of_red (cw_crr (xyP p q')).1]
    walk_at "dx"
    exact q
def Rlaw : DSp := fun ρ post => ∃ ns : List Int, ρ = [.d (.lst (ns.map .int))] ∧ ns.length ≤ 63 ∧ ∀ ρ2, post (.d (.bl true)) ρ2
theorem dlaw {f : Addr} {fd : FuncData} (T : Txt P K mg) (F : Fun K "law" "law" slaw f fd) (G_law_source : DOk P w K mg base "_law_source" 1 ["script", "k"] (spD K 2 R_law_source)) (G_law_pair : DOk P w K mg base "_law_pair" 2 ["source"] (spD K 1 R_law_pair)) (Gpair_ring : DOk P w K mg base "pair_ring" 4 ["pair"] (spD K 1 Rpair_ring)) (G_law_round : DOk P w K mg base "_law_round" 3 ["text"] (spD K 1 R_law_round)) (Gis_ring : DOk P w K mg base "is_ring" 5 ["rank", "thing"] (spD K 2 Ris_ring)) (G_law_sums : DOk P w K mg base "_law_sums" 1 ["rank", "text"] (spD K 2 R_law_sums)) (G_law_is_even : DOk P w K mg base "_law_is_even" 1 ["ring"] (spD K 1 R_law_is_even)) (G_law_back : DOk P w K mg base "_law_back" 2 ["text"] (spD K 1 R_law_back)) (G_law_crossed : DOk P w K mg base "_law_crossed" 4 ["pair"] (spD K 1 R_law_crossed)) : RunG P w K mg base CX0 6 f fd ["script"] (spD K 1 Rlaw) := by
  refine mk_fnG (k := 5) (n := 1) (m := 6) F sclaw rfl rfl fun f cdv A outer s H E gu hr => ?_
  have hu := hr.units
  have hu1 := units65 hr
  have hu2 := hu_of hr
  have hg : (A.deeper (envOfC "law" (defScope slaw) s.heap.objs.size f cdv)).guards = some [] := gu
  refine ⟨_, (pss_cons (ps_for PassesOwn.never rfl (pi_range1 rfl T.nrange (pa_cons (pe_callB (c_max2 rfl) (by rfl) T.nmax (by decide +kernel) (pa_cons pe_int (pa_cons (pe_callB (c_min2 rfl) (by rfl) T.nmin (by decide +kernel) (pa_cons pe_int (pa_cons (pe_callB (k_len (K := K) rfl) (by rfl) T.nlen PySem.boot_len (pa_cons (pv 0) pa_nil)) pa_nil))) pa_nil))) pa_nil)) (pg_name (i := 1) sclaw.nd rfl (by first | exact Or.inl rfl | exact Or.inr rfl))
  (pss_setT (i := 2) sclaw.nd rfl rfl (pe_callD G_law_source (hr.mono (by decide)) (pa_cons (pv 0) (pa_cons (pv 1) pa_nil)))
  (psst_cons (PST.of (ps_set (i := 3) sclaw.nd rfl (by first | exact Or.inl rfl | exact Or.inr rfl) (pe_callD G_law_pair (hr.mono (by decide)) (pa_cons (pv 2) pa_nil))))
  (psst_cons (PST.of (ps_set (i := 4) sclaw.nd rfl (by first | exact Or.inl rfl | exact Or.inr rfl) (pe_callD Gpair_ring (hr.mono (by decide)) (pa_cons (pv 3) pa_nil))))
  (psst_cons (PST.of (ps_if (PW.pt (pw_or (pt_cmpR op_ne (pe_callB (k_repr (K := K) rfl hg hu) (by rfl) T.nrepr (by decide +kernel) (pa_cons (pv 4) pa_nil)) (pe_callB (k_repr (K := K) rfl hg hu) (by rfl) T.nrepr (by decide +kernel) (pa_cons (pe_callD G_law_crossed (hr.mono (by decide)) (pa_cons (pv 3) pa_nil)) pa_nil)) (nomark _)) (pw_or (pt_not (k_tru (K := K) rfl (pe_callD Gis_ring (hr.mono (by decide)) (pa_cons pe_int (pa_cons (pv 4) pa_nil))))) (pw_or1 (pt_cmpR (k_ne (K := K) rfl hu) (pe_callD G_law_sums (hr.mono (by decide)) (pa_cons pe_int (pa_cons (pv 4) pa_nil))) (pv 3) (nomark _)))))) (pss_one (ps_ret pe_bl)) pss_nil))
  (psst_cons (PST.of (ps_if (PW.pt (pw_and (pt_cmpR op_lt (pe_callB (k_len (K := K) rfl) (by rfl) T.nlen PySem.boot_len (pa_cons (pv 4) pa_nil)) pe_int (nomark _)) (pw_and1 (pt_not (k_tru (K := K) rfl (pe_callD G_law_is_even (hr.mono (by decide)) (pa_cons (pv 4) pa_nil))))))) (pss_one (ps_ret pe_bl)) pss_nil))
  (psst_cons (pst_set (i := 5) sclaw.nd rfl (by first | exact Or.inl rfl | exact Or.inr rfl) (CwR.pet_replT (CwR.pet_replT (CwR.pet_replT (CwR.pet_replC (pv 4))))))
  (psst_cons (pst_ifT (ptt_cmpR (k_ne (K := K) rfl hu) (CwR.PET.of (pe_callD Gpair_ring (hr.mono (by decide)) (pa_cons (pe_tup (pa_cons (pe_ix (k_ix (K := K) rfl) (pv 3) pe_int (fun _ _ => rfl)) (pa_cons (pe_ix (k_ix (K := K) rfl) (pv 3) pe_int (fun _ _ => rfl)) pa_nil))) pa_nil))) (pet_callD G_law_round (hr.mono (by decide)) (pat_cons (CwR.pet_replT (CwR.pet_replC (pv 5))) pat_nil)) (nomark _)) (CwR.psst_one (PST.of (ps_ret pe_bl))) CwR.psst_nil)
  (CwR.psst_one (PST.of (ps_if (pt_cmpR (k_ne (K := K) rfl hu) (pe_callD Gpair_ring (hr.mono (by decide)) (pa_cons (pe_tup (pa_cons (pe_op op_sub pe_int (pe_ix (k_ix (K := K) rfl) (pv 3) pe_int (fun _ _ => rfl))) (pa_cons (pe_op op_sub pe_int (pe_ix (k_ix (K := K) rfl) (pv 3) pe_int (fun _ _ => rfl))) pa_nil))) pa_nil)) (pe_callD G_law_round (hr.mono (by decide)) (pa_cons (pe_callD G_law_back (hr.mono (by decide)) (pa_cons (pv 4) pa_nil)) pa_nil)) (nomark _)) (pss_one (ps_ret pe_bl)) pss_nil)))))))))))
  (pss_cons (ps_setLc (i := 6) (own := [("pair", 3)]) (g := (gName 3)) (tt := tYes) (by rfl) sclaw.nd rfl rfl (sw_true rfl rfl rfl (by decide +kernel)) (k_tupI (K := K) rfl (pe_tup (pa_cons (pe_tup (pa_cons pe_int (pa_cons pe_int pa_nil))) (pa_cons (pe_tup (pa_cons pe_int (pa_cons pe_int pa_nil))) (pa_cons (pe_tup (pa_cons (pe_op op_sub pe_int pe_int) (pa_cons pe_int pa_nil))) (pa_cons (pe_tup (pa_cons pe_int (pa_cons (pe_op op_sub pe_int pe_int) pa_nil))) (pa_cons (pe_tup (pa_cons pe_int (pa_cons pe_int pa_nil))) (pa_cons (pe_tup (pa_cons (pe_op op_sub pe_int pe_int) (pa_cons pe_int pa_nil))) (pa_cons (pe_tup (pa_cons pe_int (pa_cons pe_int pa_nil))) pa_nil))))))))) (blkOk_by (own := [("pair", 3)]) (N := Nlaw) (sc := defScope slaw) (by decide +kernel)) (fun _ _ _ _ _ => (pg_name (i := 3) sclaw.nd rfl (by first | exact Or.inl rfl | exact Or.inr rfl))) (fun _ _ _ _ _ => pts_nil) (fun _ _ _ _ _ => (pe_callD Gpair_ring (hr.mono (by decide)) (pa_cons (pv 3) pa_nil))))
  (pss_one (ps_ret (pe_and (pe_cmpR (k_eq (K := K) rfl hu) (pv 6) (pe_lst (pa_cons pe_str (pa_cons pe_str (pa_cons pe_str (pa_cons pe_str (pa_cons pe_str (pa_cons pe_str (pa_cons pe_str pa_nil)))))))) (nomark _)) (pe_one (pe_cmpR (k_eq (K := K) rfl hu) (pe_callB (k_len (K := K) rfl) (by rfl) T.nlen PySem.boot_len (pa_cons (pe_callD Gpair_ring (hr.mono (by decide)) (pa_cons (pe_tup (pa_cons pe_int (pa_cons (pe_op op_sub pe_int pe_int) pa_nil))) pa_nil)) pa_nil)) pe_int (nomark _)))))))), fun ρ post hl h => ?_⟩
  obtain ⟨ns, rfl, hns, q⟩ := h
  walk_at "dm"
  refine sd_for ?_
  refine ei_rng1 ?_
  walk_at "dm"
  refine ⟨_, rfl, ?_, ?_, fun k ρ => ∃ x1 x2 x3 x4 x5 x6, ρ = [.d (.lst (ns.map .int)), x1, x2, x3, x4, x5, x6] ∧ x3.adr = none, ⟨_, _, _, _, _, _, rfl, rfl⟩, ?_, ?_⟩
  · split <;> split <;> omega
  · split <;> split <;> omega
  · rintro k x ρ2 hx ⟨x1, x2, x3, x4, x5, x6, rfl, a3⟩
    have hkx := mapI hx
    subst hkx
    have hk := (List.getElem?_eq_some_iff.mp hx).1
    refine ⟨_, gt_name, ?_⟩
    refine sd_forget 2 ?_
    refine sd_forget 3 ?_
    refine sd_forget 4 ?_
    refine sd_forget 5 ?_
    refine sd_forget 6 ?_
    walk_at "dl"
    have hk2 : k < 6 := by
      simp only [List.length_map, List.length_range] at hk
      split at hk <;> split at hk <;> omega
    refine ⟨rfl, cells_none (by simp [Sl.adr]), ns, k, by rw [Int.zero_add], by omega, by omega, fun a c p => ?_⟩
    walk_at "dm"
    refine ⟨rfl, by walk_at "cnd", p, a, _, c, rfl, by omega, by omega, fun u v b2 c2 hok z0 z1 => ?_⟩
    have h1 := hok.1
    have h2 := hok.2.1
    have hl := prW_len u v
    have hasc : ascii (prW u v) := asc_of (prW_alph u v)
    have hal : ∀ c ∈ prW u v, c ∈ al := fun c hc => alph_al (prW_alph u v c hc)
    have hsw : shwD (.str (prW u v)) := (pl_str (w := 60) hasc (by omega)).shw (by decide) (by decide)
    have hpl : Pl 1 130 (.tup [.int u, .int v]) := pl_tup (n := 0) (w := 64) (m := 2) (fun d hd => by
      simp only [List.mem_cons, List.not_mem_nil, or_false] at hd
      rcases hd with rfl | rfl
      · exact pl_int (by omega)
      · exact pl_int (by omega)) (by simp)
    have hvu : PairOk v u := ⟨by omega, by omega, by rw [Nat.gcd_comm]; exact hok.2.2⟩
    have hnn : PairOk (0 - u) (0 - v) := ⟨by omega, by omega, by rw [show (0 - u).natAbs = u.natAbs by omega, show (0 - v).natAbs = v.natAbs by omega]; exact hok.2.2⟩
    walk_at "dx"
    walk_at "call"
    refine ⟨u, v, rfl, hok, ?_⟩
    walk_at "dx"
    refine cd_repr hsw ?_
    walk_at "dx"
    walk_at "call"
    refine ⟨u, v, rfl, hok, ?_⟩
    walk_at "dx"
    refine cd_repr hsw ?_
    walk_at "dx"
    walk_at "call"
    refine ⟨2, _, rfl, ⟨by decide, by decide⟩, okT_str (by omega), ?_⟩
    rw [prW_ring hok]
    walk_at "dx"
    walk_at "call"
    refine ⟨2, _, rfl, ⟨by decide, by decide⟩, prW_alph u v, ?_⟩
    rw [prW_sums hok]
    walk_at "dx"
    refine od_ne_same hpl (by decide) ?_
    walk_at "dx"
    by_cases hs31 : ((prW u v).length : Int) < 31
    case' pos =>
      rw [if_pos hs31]
      walk_at "dx"
      walk_at "call"
      refine ⟨u, v, rfl, hok, ?_⟩
      walk_at "dx"
    case' neg =>
      rw [if_neg hs31]
      walk_at "dx"
    all_goals
      refine ed_repl ?_
      refine ed_repl ?_
      refine ed_repl ?_
      refine ed_repl ?_
      walk_at "dx"
      have lz : ∀ {w : List Nat}, w.length ≤ 60 → ∀ (z : Str) (n : Nat), z = S [n] → w.length + (w.length + 1) * z.length ≤ 16777216 := fun h z n e => by rw [e, S_len]; simp; omega
      refine ⟨_, rfl, lz (by omega) _ 120 (by walk_at "strs"), _, rfl, ?_⟩
      rw [show (Str.ofString "a") = S [97] by walk_at "strs", show (Str.ofString "x") = S [120] by walk_at "strs", repl_one]
      refine ⟨lz (by rw [List.length_map]; omega) _ 88 (by walk_at "strs"), _, rfl, ?_⟩
      rw [show (Str.ofString "A") = S [65] by walk_at "strs", show (Str.ofString "X") = S [88] by walk_at "strs", repl_one]
      refine ⟨lz (by simp only [List.length_map]; omega) _ 97 rfl, _, rfl, ?_⟩
      rw [show (Str.ofString "b") = S [98] by walk_at "strs", repl_one]
      refine ⟨lz (by simp only [List.length_map]; omega) _ 65 rfl, ?_⟩
      rw [show (Str.ofString "B") = S [66] by walk_at "strs", repl_one]
      walk_at "dx"
      refine od_ix_tup (x := .int v) rfl ?_
      walk_at "dx"
      refine od_ix_tup (x := .int u) rfl ?_
      walk_at "dx"
      walk_at "call"
      refine ⟨v, u, rfl, hvu, ?_⟩
      walk_at "dx"
      refine ed_repl ?_
      refine ed_repl ?_
      walk_at "dx"
      refine ⟨_, rfl, lz (by simp only [List.length_map]; omega) _ 98 (by walk_at "strs"), _, rfl, ?_⟩
      rw [show (Str.ofString "x") = S [120] by walk_at "strs", show (Str.ofString "b") = S [98] by walk_at "strs", repl_one]
      refine ⟨lz (by simp only [List.length_map]; omega) _ 66 (by walk_at "strs"), ?_⟩
      rw [show (Str.ofString "X") = S [88] by walk_at "strs", show (Str.ofString "B") = S [66] by walk_at "strs", repl_one]
      walk_at "dx"
      have e6 : List.map (swC 88 66) (List.map (swC 120 98) (List.map (swC 66 65) (List.map (swC 98 97) (List.map (swC 65 88) (List.map (swC 97 120) (prW u v)))))) = (prW u v).map exC := by
        simp only [List.map_map]; rfl
      rw [e6]
      have rr : IsRot (prC v u) ((prW u v).map exC) := prW_exr hok
      have exa : ∀ c ∈ (prW u v).map exC, c ∈ al := fun c hc => cw_al (xyP v u) c (rr.mem.mp hc)
      have exr : Red ((prW u v).map exC) := ((cw_crr (xyP v u)).rot rr).1
      walk_at "call"
      refine ⟨_, rfl, by rw [List.length_map]; omega, exa, ?_⟩
      rw [free_of_red exr, prW_ex hok]
      walk_at "dx"
      have ascp : ∀ p q, ascii (prW p q) := fun p q => asc_of (prW_alph p q)
      refine od_ne_s (ascp v u) (ascp v u) ?_
      simp only [decide_true, Bool.not_true]
      walk_at "dx"
      refine od_ix_tup (x := .int u) rfl ?_
      walk_at "dx"
      refine od_ix_tup (x := .int v) rfl ?_
      walk_at "dx"
      walk_at "call"
      refine ⟨0 - u, 0 - v, rfl, hnn, ?_⟩
      walk_at "dx"
      walk_at "call"
      refine ⟨_, rfl, by omega, hal, ?_⟩
      walk_at "dx"
      walk_at "call"
      have ir := prW_invr hok
      refine ⟨_, rfl, by rw [inv_len]; omega, inv_al hal, ?_⟩
      rw [free_of_red ((cw_crr (xyP (-u) (-v))).rot ir).1, prW_inv hok, show -u = 0 - u by omega, show -v = 0 - v by omega]
      walk_at "dx"
      refine od_ne_s (ascp (0 - u) (0 - v)) (ascp (0 - u) (0 - v)) ?_
      simp only [decide_true, Bool.not_true]
      walk_at "dx"
      exact ⟨_, _, _, _, _, _, rfl, rfl⟩
  · rintro ρ2 ⟨x1, x2, x3, x4, x5, x6, rfl, a3⟩
    walk_at "dm"
    refine ed_map .str (fun z : Int × Int => prW z.1 z.2) ?_
    refine ei_tup ?_
    walk_at "dx"
    refine ⟨noC1 (z := x3) rfl a3, [(1, 0), (0, 1), (-1, 0), (0, -1), (1, 1), (-1, 1), (5, 3)], fun z => .tup [.int z.1, .int z.2], rfl, size1 (by simp), fun x hx => ?_, fun pp => ?_⟩
    · walk_at "g1"
      walk_at "call"
      refine ⟨x.1, x.2, rfl, ?_, ?_⟩
      · simp only [List.mem_cons, List.not_mem_nil, or_false] at hx
        rcases hx with rfl | rfl | rfl | rfl | rfl | rfl | rfl <;> exact ⟨by decide, by decide, by decide⟩
      walk_at "dx"
    walk_at "dx"
    refine od_eq_ls (ns := [prW 1 0, prW 0 1, prW (-1) 0, prW 0 (-1), prW 1 1, prW (-1) 1, prW 5 3]) (ms := [[97], [98], [65], [66], [97, 98], [65, 98], [97, 97, 98, 97, 97, 98, 97, 98]]) (fun a ha => by
        simp only [List.mem_cons, List.not_mem_nil, or_false] at ha
        rcases ha with rfl | rfl | rfl | rfl | rfl | rfl | rfl <;> exact asc_of (prW_alph _ _)) (fun a ha => by
        simp only [List.mem_cons, List.not_mem_nil, or_false] at ha
        rcases ha with rfl | rfl | rfl | rfl | rfl | rfl | rfl <;> (unfold ascii; decide)) ?_
    rw [decide_eq_true (by decide +kernel)]
    walk_at "dx"
    walk_at "call"
    have hl60 := prW_len 59 (-1)
    have hl61 : (prW 59 (-1)).length ≤ sizeLine := by rw [hl60]; exact size1 (by decide)
    refine ⟨59, -1, rfl, ⟨by decide, by decide, by decide⟩, ?_⟩
    walk_at "dx"
    rw [hl60]
    exact q _
end
end My
namespace My
open PySem PySem.Spec PyProof.Rows L2 DL LamX
section
variable [HasT]
set_option maxHeartbeats 0 in
theorem all_mk {l : PySem.W.OpenLaw} {w : World} {K : PySem.W.Frag} {h : Heap} {mg : Str → Option Value} {fa fl : Addr} (X : K.In h) (G : h.Ns mainGlobals mg) (hfa : mg "law" = some (.ref fa))
    {od an : Option Addr} {sl : Array (Option Value)} {oc kV dc pm cd ct : Value} {C_BadRank C_BadPair : Addr}
    (al : PySem.W.nsIn K mainGlobals "law" = some (some (.ref fl))) (ll : K.lookup fl = some ⟨oc, od, .func (PySem.W.fnOf "law" "law" (defArgs slaw) (defBody slaw) (defScope slaw) .none kV dc pm an cd ct), sl⟩) (cl : PySem.W.codeIn K cd "law" = true) (kl : PySem.W.keepIn K (.ref fl) = true)
    (d_check_rank : DefAt K "check_rank" scheck_rank)
    (d_letters : DefAt K "letters" sletters)
    (d_has_letters_only : DefAt K "has_letters_only" shas_letters_only)
    (d_is_reduced : DefAt K "is_reduced" sis_reduced)
    (d_is_word : DefAt K "is_word" sis_word)
    (d_order_marks : DefAt K "order_marks" sorder_marks)
    (d_without_inverse_ends : DefAt K "without_inverse_ends" swithout_inverse_ends)
    (d_first_rotation : DefAt K "first_rotation" sfirst_rotation)
    (d_ring_from : DefAt K "ring_from" sring_from)
    (d_is_ring : DefAt K "is_ring" sis_ring)
    (d_is_integer_value : DefAt K "is_integer_value" sis_integer_value)
    (d_is_pair : DefAt K "is_pair" sis_pair)
    (d_pair_ring : DefAt K "pair_ring" spair_ring)
    (d__law_source : DefAt K "_law_source" s_law_source)
    (d__law_next : DefAt K "_law_next" s_law_next)
    (d__law_other : DefAt K "_law_other" s_law_other)
    (d__law_back : DefAt K "_law_back" s_law_back)
    (d__law_short : DefAt K "_law_short" s_law_short)
    (d__law_key : DefAt K "_law_key" s_law_key)
    (d__law_round : DefAt K "_law_round" s_law_round)
    (d__law_sums : DefAt K "_law_sums" s_law_sums)
    (d__law_divisor : DefAt K "_law_divisor" s_law_divisor)
    (d__law_pair : DefAt K "_law_pair" s_law_pair)
    (d__law_crossed : DefAt K "_law_crossed" s_law_crossed)
    (d__law_is_even : DefAt K "_law_is_even" s_law_is_even)
    (b_isinstance : PySem.W.nsIn K mainGlobals "isinstance" = some none) (b_int : PySem.W.nsIn K mainGlobals "int" = some none) (b_bool : PySem.W.nsIn K mainGlobals "bool" = some none) (b_str : PySem.W.nsIn K mainGlobals "str" = some none) (b_all : PySem.W.nsIn K mainGlobals "all" = some none) (b_any : PySem.W.nsIn K mainGlobals "any" = some none) (b_zip : PySem.W.nsIn K mainGlobals "zip" = some none) (b_len : PySem.W.nsIn K mainGlobals "len" = some none) (b_range : PySem.W.nsIn K mainGlobals "range" = some none) (b_min : PySem.W.nsIn K mainGlobals "min" = some none) (b_tuple : PySem.W.nsIn K mainGlobals "tuple" = some none) (b_abs : PySem.W.nsIn K mainGlobals "abs" = some none) (b_max : PySem.W.nsIn K mainGlobals "max" = some none) (b_repr : PySem.W.nsIn K mainGlobals "repr" = some none) (c_MAX_RANK : ∃ t, PySem.W.nsIn K mainGlobals "MAX_RANK" = some (some (.int 4 t))) (c_LETTER_ORDER : ∃ t, PySem.W.nsIn K mainGlobals "LETTER_ORDER" = some (some (.str "aAbBcCdD" t))) (c_MAX_WORD : ∃ t, PySem.W.nsIn K mainGlobals "MAX_WORD" = some (some (.int 100 t))) (c_MAX_LENGTH : ∃ t, PySem.W.nsIn K mainGlobals "MAX_LENGTH" = some (some (.int 60 t)))
    (q_BadRank : PySem.W.nsIn K mainGlobals "BadRank" = some (some (.ref C_BadRank)))
    (q_BadPair : PySem.W.nsIn K mainGlobals "BadPair" = some (some (.ref C_BadPair)))
    (hu_gcd : PySem.W.nsIn K mainGlobals "gcd" = some (some (.builtin "math.gcd")))   :
    ∃ fd : FuncData, (∀ (s : Shared) (v : Value), BindsTo s fd ⟨[v], []⟩ [("script", v)]) ∧ ∀ base : Heap, K.In base → base.Ns mainGlobals mg → RunG l.prog w K mg base CX0 6 fa fd ["script"] (spD K 1 Rlaw) := by
  have e := hfa.symm.trans (PySem.W.mg_of X G al)
  cases e
  have Fl := fun_mk (st := slaw) ll cl kl
  have T : Txt l.prog K mg := ⟨PySem.W.mg_none_of X G b_isinstance, PySem.W.mg_none_of X G b_int, PySem.W.mg_none_of X G b_bool, PySem.W.mg_none_of X G b_str, PySem.W.mg_none_of X G b_all, PySem.W.mg_none_of X G b_any, PySem.W.mg_none_of X G b_zip, PySem.W.mg_none_of X G b_len, PySem.W.mg_none_of X G b_range, PySem.W.mg_none_of X G b_min, PySem.W.mg_none_of X G b_tuple, PySem.W.mg_none_of X G b_abs, PySem.W.mg_none_of X G b_max, PySem.W.mg_none_of X G b_repr, constI_of X G c_MAX_RANK, constS_of X G c_LETTER_ORDER, constI_of X G c_MAX_WORD, constI_of X G c_MAX_LENGTH, mgC_mk X G q_BadRank, mgC_mk X G q_BadPair, PySem.W.mg_of X G hu_gcd⟩
  have Fcheck_rank : FunAt K mg "check_rank" scheck_rank ["rank"] := funAt_of X G d_check_rank fun _ _ _ _ _ _ us hl => match us, hl with | [_], _ => rfl
  have Fletters : FunAt K mg "letters" sletters ["rank"] := funAt_of X G d_letters fun _ _ _ _ _ _ us hl => match us, hl with | [_], _ => rfl
  have Fhas_letters_only : FunAt K mg "has_letters_only" shas_letters_only ["rank", "thing"] := funAt_of X G d_has_letters_only fun _ _ _ _ _ _ us hl => match us, hl with | [_, _], _ => rfl
  have Fis_reduced : FunAt K mg "is_reduced" sis_reduced ["text"] := funAt_of X G d_is_reduced fun _ _ _ _ _ _ us hl => match us, hl with | [_], _ => rfl
  have Fis_word : FunAt K mg "is_word" sis_word ["rank", "thing"] := funAt_of X G d_is_word fun _ _ _ _ _ _ us hl => match us, hl with | [_, _], _ => rfl
  have Forder_marks : FunAt K mg "order_marks" sorder_marks ["text"] := funAt_of X G d_order_marks fun _ _ _ _ _ _ us hl => match us, hl with | [_], _ => rfl
  have Fwithout_inverse_ends : FunAt K mg "without_inverse_ends" swithout_inverse_ends ["word"] := funAt_of X G d_without_inverse_ends fun _ _ _ _ _ _ us hl => match us, hl with | [_], _ => rfl
  have Ffirst_rotation : FunAt K mg "first_rotation" sfirst_rotation ["word"] := funAt_of X G d_first_rotation fun _ _ _ _ _ _ us hl => match us, hl with | [_], _ => rfl
  have Fring_from : FunAt K mg "ring_from" sring_from ["word"] := funAt_of X G d_ring_from fun _ _ _ _ _ _ us hl => match us, hl with | [_], _ => rfl
  have Fis_ring : FunAt K mg "is_ring" sis_ring ["rank", "thing"] := funAt_of X G d_is_ring fun _ _ _ _ _ _ us hl => match us, hl with | [_, _], _ => rfl
  have Fis_integer_value : FunAt K mg "is_integer_value" sis_integer_value ["thing"] := funAt_of X G d_is_integer_value fun _ _ _ _ _ _ us hl => match us, hl with | [_], _ => rfl
  have Fis_pair : FunAt K mg "is_pair" sis_pair ["thing"] := funAt_of X G d_is_pair fun _ _ _ _ _ _ us hl => match us, hl with | [_], _ => rfl
  have Fpair_ring : FunAt K mg "pair_ring" spair_ring ["pair"] := funAt_of X G d_pair_ring fun _ _ _ _ _ _ us hl => match us, hl with | [_], _ => rfl
  have F_law_source : FunAt K mg "_law_source" s_law_source ["script", "k"] := funAt_of X G d__law_source fun _ _ _ _ _ _ us hl => match us, hl with | [_, _], _ => rfl
  have F_law_next : FunAt K mg "_law_next" s_law_next ["source", "many"] := funAt_of X G d__law_next fun _ _ _ _ _ _ us hl => match us, hl with | [_, _], _ => rfl
  have F_law_other : FunAt K mg "_law_other" s_law_other ["letter"] := funAt_of X G d__law_other fun _ _ _ _ _ _ us hl => match us, hl with | [_], _ => rfl
  have F_law_back : FunAt K mg "_law_back" s_law_back ["text"] := funAt_of X G d__law_back fun _ _ _ _ _ _ us hl => match us, hl with | [_], _ => rfl
  have F_law_short : FunAt K mg "_law_short" s_law_short ["text"] := funAt_of X G d__law_short fun _ _ _ _ _ _ us hl => match us, hl with | [_], _ => rfl
  have F_law_key : FunAt K mg "_law_key" s_law_key ["text"] := funAt_of X G d__law_key fun _ _ _ _ _ _ us hl => match us, hl with | [_], _ => rfl
  have F_law_round : FunAt K mg "_law_round" s_law_round ["text"] := funAt_of X G d__law_round fun _ _ _ _ _ _ us hl => match us, hl with | [_], _ => rfl
  have F_law_sums : FunAt K mg "_law_sums" s_law_sums ["rank", "text"] := funAt_of X G d__law_sums fun _ _ _ _ _ _ us hl => match us, hl with | [_, _], _ => rfl
  have F_law_divisor : FunAt K mg "_law_divisor" s_law_divisor ["one", "other"] := funAt_of X G d__law_divisor fun _ _ _ _ _ _ us hl => match us, hl with | [_, _], _ => rfl
  have F_law_pair : FunAt K mg "_law_pair" s_law_pair ["source"] := funAt_of X G d__law_pair fun _ _ _ _ _ _ us hl => match us, hl with | [_], _ => rfl
  have F_law_crossed : FunAt K mg "_law_crossed" s_law_crossed ["pair"] := funAt_of X G d__law_crossed fun _ _ _ _ _ _ us hl => match us, hl with | [_], _ => rfl
  have F_law_is_even : FunAt K mg "_law_is_even" s_law_is_even ["ring"] := funAt_of X G d__law_is_even fun _ _ _ _ _ _ us hl => match us, hl with | [_], _ => rfl
  refine ⟨PySem.W.fnOf "law" "law" (defArgs slaw) (defBody slaw) (defScope slaw) .none kV dc pm an cd ct, fun s v => .of_eq rfl, fun base _ _  => ?_⟩
  have Gcheck_rank : DOk l.prog w K mg base "check_rank" 1 ["rank"] (spD K 1 Rcheck_rank) := dcheck_rank T Fcheck_rank  
  have Gis_reduced : DOk l.prog w K mg base "is_reduced" 1 ["text"] (spD K 1 Ris_reduced) := dis_reduced T Fis_reduced  
  have Gorder_marks : DOk l.prog w K mg base "order_marks" 1 ["text"] (spD K 1 Rorder_marks) := dorder_marks T Forder_marks  
  have Gwithout_inverse_ends : DOk l.prog w K mg base "without_inverse_ends" 1 ["word"] (spD K 1 Rwithout_inverse_ends) := dwithout_inverse_ends T Fwithout_inverse_ends  
  have Gis_integer_value : DOk l.prog w K mg base "is_integer_value" 1 ["thing"] (spD K 1 Ris_integer_value) := dis_integer_value T Fis_integer_value  
  have G_law_source : DOk l.prog w K mg base "_law_source" 1 ["script", "k"] (spD K 2 R_law_source) := d_law_source T F_law_source  
  have G_law_next : DOk l.prog w K mg base "_law_next" 1 ["source", "many"] (spD K 2 R_law_next) := d_law_next T F_law_next  
  have G_law_other : DOk l.prog w K mg base "_law_other" 1 ["letter"] (spD K 1 R_law_other) := d_law_other T F_law_other  
  have G_law_key : DOk l.prog w K mg base "_law_key" 1 ["text"] (spD K 1 R_law_key) := d_law_key T F_law_key  
  have G_law_sums : DOk l.prog w K mg base "_law_sums" 1 ["rank", "text"] (spD K 2 R_law_sums) := d_law_sums T F_law_sums  
  have G_law_divisor : DOk l.prog w K mg base "_law_divisor" 1 ["one", "other"] (spD K 2 R_law_divisor) := d_law_divisor T F_law_divisor  
  have G_law_is_even : DOk l.prog w K mg base "_law_is_even" 1 ["ring"] (spD K 1 R_law_is_even) := d_law_is_even T F_law_is_even  
  have Gletters : DOk l.prog w K mg base "letters" 2 ["rank"] (spD K 1 Rletters) := dletters T Fletters  Gcheck_rank
  have Gfirst_rotation : DOk l.prog w K mg base "first_rotation" 2 ["word"] (spD K 1 Rfirst_rotation) := dfirst_rotation T Ffirst_rotation  Gorder_marks
  have Gis_pair : DOk l.prog w K mg base "is_pair" 2 ["thing"] (spD K 1 Ris_pair) := dis_pair T Fis_pair  Gis_integer_value
  have G_law_back : DOk l.prog w K mg base "_law_back" 2 ["text"] (spD K 1 R_law_back) := d_law_back T F_law_back  G_law_other
  have G_law_short : DOk l.prog w K mg base "_law_short" 2 ["text"] (spD K 1 R_law_short) := d_law_short T F_law_short  G_law_other
  have G_law_pair : DOk l.prog w K mg base "_law_pair" 2 ["source"] (spD K 1 R_law_pair) := d_law_pair T F_law_pair  G_law_next G_law_divisor
  have Ghas_letters_only : DOk l.prog w K mg base "has_letters_only" 3 ["rank", "thing"] (spD K 2 Rhas_letters_only) := dhas_letters_only T Fhas_letters_only  Gletters
  have Gring_from : DOk l.prog w K mg base "ring_from" 3 ["word"] (spD K 1 Rring_from) := dring_from T Fring_from  Gfirst_rotation Gwithout_inverse_ends
  have G_law_round : DOk l.prog w K mg base "_law_round" 3 ["text"] (spD K 1 R_law_round) := d_law_round T F_law_round  G_law_short G_law_other G_law_key
  have Gis_word : DOk l.prog w K mg base "is_word" 4 ["rank", "thing"] (spD K 2 Ris_word) := dis_word T Fis_word  Ghas_letters_only Gis_reduced
  have Gpair_ring : DOk l.prog w K mg base "pair_ring" 4 ["pair"] (spD K 1 Rpair_ring) := dpair_ring T Fpair_ring  Gring_from Gis_pair
  have G_law_crossed : DOk l.prog w K mg base "_law_crossed" 4 ["pair"] (spD K 1 R_law_crossed) := d_law_crossed T F_law_crossed  G_law_round
  have Gis_ring : DOk l.prog w K mg base "is_ring" 5 ["rank", "thing"] (spD K 2 Ris_ring) := dis_ring T Fis_ring  Gis_word Gring_from
  exact dlaw T Fl  G_law_source G_law_pair Gpair_ring G_law_round Gis_ring G_law_sums G_law_is_even G_law_back G_law_crossed
end
end My
open PySem PySem.W PyProof.Rows
set_option maxHeartbeats 0 in
theorem PySem.Challenge.cw_ringleast_k58_rings_of_pairs_holds : PySem.Challenge.rw_ringleast_k58_rings_of_pairs.Holds := by
  w_on; o_law; k_head; (case hw => w_witness2)
  k_fill
  letI : DL.HasT := ⟨[]⟩
  refine DL.walk_G (l := PySem.Challenge.rw_ringleast_k58_rings_of_pairs) (n := 63) (k := 6) (x := "script") (X := fun _ => L2.CX0) (sp := fun w => DL.spD _ 1 My.Rlaw) rfl (by decide) rfl ⟨rfl, by decide, by decide⟩ (fun w h Y => PySem.W.kIn_of Y) ?F (fun _ _ a ns hl _ hS => DL.law_in hS (fun p hp => by cases hp) (fun post h => ⟨ns, rfl, hl, h⟩) fun _ => rfl) (fun _ _ _ _ _ h => h)
  case F =>
    intro w mg fa h KX G hmg
    refine' My.all_mk KX G hmg ?al ?ll ?cl ?kl (DL.defAt_mk ?acheck_rank ?lcheck_rank ?ccheck_rank ?kcheck_rank) (DL.defAt_mk ?aletters ?lletters ?cletters ?kletters) (DL.defAt_mk ?ahas_letters_only ?lhas_letters_only ?chas_letters_only ?khas_letters_only) (DL.defAt_mk ?ais_reduced ?lis_reduced ?cis_reduced ?kis_reduced) (DL.defAt_mk ?ais_word ?lis_word ?cis_word ?kis_word) (DL.defAt_mk ?aorder_marks ?lorder_marks ?corder_marks ?korder_marks) (DL.defAt_mk ?awithout_inverse_ends ?lwithout_inverse_ends ?cwithout_inverse_ends ?kwithout_inverse_ends) (DL.defAt_mk ?afirst_rotation ?lfirst_rotation ?cfirst_rotation ?kfirst_rotation) (DL.defAt_mk ?aring_from ?lring_from ?cring_from ?kring_from) (DL.defAt_mk ?ais_ring ?lis_ring ?cis_ring ?kis_ring) (DL.defAt_mk ?ais_integer_value ?lis_integer_value ?cis_integer_value ?kis_integer_value) (DL.defAt_mk ?ais_pair ?lis_pair ?cis_pair ?kis_pair) (DL.defAt_mk ?apair_ring ?lpair_ring ?cpair_ring ?kpair_ring) (DL.defAt_mk ?a_law_source ?l_law_source ?c_law_source ?k_law_source) (DL.defAt_mk ?a_law_next ?l_law_next ?c_law_next ?k_law_next) (DL.defAt_mk ?a_law_other ?l_law_other ?c_law_other ?k_law_other) (DL.defAt_mk ?a_law_back ?l_law_back ?c_law_back ?k_law_back) (DL.defAt_mk ?a_law_short ?l_law_short ?c_law_short ?k_law_short) (DL.defAt_mk ?a_law_key ?l_law_key ?c_law_key ?k_law_key) (DL.defAt_mk ?a_law_round ?l_law_round ?c_law_round ?k_law_round) (DL.defAt_mk ?a_law_sums ?l_law_sums ?c_law_sums ?k_law_sums) (DL.defAt_mk ?a_law_divisor ?l_law_divisor ?c_law_divisor ?k_law_divisor) (DL.defAt_mk ?a_law_pair ?l_law_pair ?c_law_pair ?k_law_pair) (DL.defAt_mk ?a_law_crossed ?l_law_crossed ?c_law_crossed ?k_law_crossed) (DL.defAt_mk ?a_law_is_even ?l_law_is_even ?c_law_is_even ?k_law_is_even) ?bisinstance ?bint ?bbool ?bstr ?ball ?bany ?bzip ?blen ?brange ?bmin ?btuple ?babs ?bmax ?brepr (DL.constI_mk ?vMAX_RANK) (DL.constS_mk ?vLETTER_ORDER) (DL.constI_mk ?vMAX_WORD) (DL.constI_mk ?vMAX_LENGTH) ?zq_BadRank ?zq_BadPair ?zhu_gcd
    (case al => first | k_is | kernel_rfl | rfl | decide +kernel | decide); (case ll => first | k_is | kernel_rfl | rfl | decide +kernel | decide); (case cl => first | k_is | kernel_rfl | rfl | decide +kernel | decide); (case kl => first | k_is | kernel_rfl | rfl | decide +kernel | decide); (case acheck_rank => first | k_is | kernel_rfl | rfl | decide +kernel | decide); (case lcheck_rank => first | k_is | kernel_rfl | rfl | decide +kernel | decide); (case ccheck_rank => first | k_is | kernel_rfl | rfl | decide +kernel | decide); (case kcheck_rank => first | k_is | kernel_rfl | rfl | decide +kernel | decide); (case aletters => first | k_is | kernel_rfl | rfl | decide +kernel | decide); (case lletters => first | k_is | kernel_rfl | rfl | decide +kernel | decide); (case cletters => first | k_is | kernel_rfl | rfl | decide +kernel | decide); (case kletters => first | k_is | kernel_rfl | rfl | decide +kernel | decide); (case ahas_letters_only => first | k_is | kernel_rfl | rfl | decide +kernel | decide); (case lhas_letters_only => first | k_is | kernel_rfl | rfl | decide +kernel | decide); (case chas_letters_only => first | k_is | kernel_rfl | rfl | decide +kernel | decide); (case khas_letters_only => first | k_is | kernel_rfl | rfl | decide +kernel | decide); (case ais_reduced => first | k_is | kernel_rfl | rfl | decide +kernel | decide); (case lis_reduced => first | k_is | kernel_rfl | rfl | decide +kernel | decide); (case cis_reduced => first | k_is | kernel_rfl | rfl | decide +kernel | decide); (case kis_reduced => first | k_is | kernel_rfl | rfl | decide +kernel | decide); (case ais_word => first | k_is | kernel_rfl | rfl | decide +kernel | decide); (case lis_word => first | k_is | kernel_rfl | rfl | decide +kernel | decide); (case cis_word => first | k_is | kernel_rfl | rfl | decide +kernel | decide); (case kis_word => first | k_is | kernel_rfl | rfl | decide +kernel | decide); (case aorder_marks => first | k_is | kernel_rfl | rfl | decide +kernel | decide); (case lorder_marks => first | k_is | kernel_rfl | rfl | decide +kernel | decide); (case corder_marks => first | k_is | kernel_rfl | rfl | decide +kernel | decide); (case korder_marks => first | k_is | kernel_rfl | rfl | decide +kernel | decide); (case awithout_inverse_ends => first | k_is | kernel_rfl | rfl | decide +kernel | decide); (case lwithout_inverse_ends => first | k_is | kernel_rfl | rfl | decide +kernel | decide); (case cwithout_inverse_ends => first | k_is | kernel_rfl | rfl | decide +kernel | decide); (case kwithout_inverse_ends => first | k_is | kernel_rfl | rfl | decide +kernel | decide); (case afirst_rotation => first | k_is | kernel_rfl | rfl | decide +kernel | decide); (case lfirst_rotation => first | k_is | kernel_rfl | rfl | decide +kernel | decide); (case cfirst_rotation => first | k_is | kernel_rfl | rfl | decide +kernel | decide); (case kfirst_rotation => first | k_is | kernel_rfl | rfl | decide +kernel | decide); (case aring_from => first | k_is | kernel_rfl | rfl | decide +kernel | decide); (case lring_from => first | k_is | kernel_rfl | rfl | decide +kernel | decide); (case cring_from => first | k_is | kernel_rfl | rfl | decide +kernel | decide); (case kring_from => first | k_is | kernel_rfl | rfl | decide +kernel | decide); (case ais_ring => first | k_is | kernel_rfl | rfl | decide +kernel | decide); (case lis_ring => first | k_is | kernel_rfl | rfl | decide +kernel | decide); (case cis_ring => first | k_is | kernel_rfl | rfl | decide +kernel | decide); (case kis_ring => first | k_is | kernel_rfl | rfl | decide +kernel | decide); (case ais_integer_value => first | k_is | kernel_rfl | rfl | decide +kernel | decide); (case lis_integer_value => first | k_is | kernel_rfl | rfl | decide +kernel | decide); (case cis_integer_value => first | k_is | kernel_rfl | rfl | decide +kernel | decide); (case kis_integer_value => first | k_is | kernel_rfl | rfl | decide +kernel | decide); (case ais_pair => first | k_is | kernel_rfl | rfl | decide +kernel | decide); (case lis_pair => first | k_is | kernel_rfl | rfl | decide +kernel | decide); (case cis_pair => first | k_is | kernel_rfl | rfl | decide +kernel | decide); (case kis_pair => first | k_is | kernel_rfl | rfl | decide +kernel | decide); (case apair_ring => first | k_is | kernel_rfl | rfl | decide +kernel | decide); (case lpair_ring => first | k_is | kernel_rfl | rfl | decide +kernel | decide); (case cpair_ring => first | k_is | kernel_rfl | rfl | decide +kernel | decide); (case kpair_ring => first | k_is | kernel_rfl | rfl | decide +kernel | decide); (case a_law_source => first | k_is | kernel_rfl | rfl | decide +kernel | decide); (case l_law_source => first | k_is | kernel_rfl | rfl | decide +kernel | decide); (case c_law_source => first | k_is | kernel_rfl | rfl | decide +kernel | decide); (case k_law_source => first | k_is | kernel_rfl | rfl | decide +kernel | decide); (case a_law_next => first | k_is | kernel_rfl | rfl | decide +kernel | decide); (case l_law_next => first | k_is | kernel_rfl | rfl | decide +kernel | decide); (case c_law_next => first | k_is | kernel_rfl | rfl | decide +kernel | decide); (case k_law_next => first | k_is | kernel_rfl | rfl | decide +kernel | decide); (case a_law_other => first | k_is | kernel_rfl | rfl | decide +kernel | decide); (case l_law_other => first | k_is | kernel_rfl | rfl | decide +kernel | decide); (case c_law_other => first | k_is | kernel_rfl | rfl | decide +kernel | decide); (case k_law_other => first | k_is | kernel_rfl | rfl | decide +kernel | decide); (case a_law_back => first | k_is | kernel_rfl | rfl | decide +kernel | decide); (case l_law_back => first | k_is | kernel_rfl | rfl | decide +kernel | decide); (case c_law_back => first | k_is | kernel_rfl | rfl | decide +kernel | decide); (case k_law_back => first | k_is | kernel_rfl | rfl | decide +kernel | decide); (case a_law_short => first | k_is | kernel_rfl | rfl | decide +kernel | decide); (case l_law_short => first | k_is | kernel_rfl | rfl | decide +kernel | decide); (case c_law_short => first | k_is | kernel_rfl | rfl | decide +kernel | decide); (case k_law_short => first | k_is | kernel_rfl | rfl | decide +kernel | decide); (case a_law_key => first | k_is | kernel_rfl | rfl | decide +kernel | decide); (case l_law_key => first | k_is | kernel_rfl | rfl | decide +kernel | decide); (case c_law_key => first | k_is | kernel_rfl | rfl | decide +kernel | decide); (case k_law_key => first | k_is | kernel_rfl | rfl | decide +kernel | decide); (case a_law_round => first | k_is | kernel_rfl | rfl | decide +kernel | decide); (case l_law_round => first | k_is | kernel_rfl | rfl | decide +kernel | decide); (case c_law_round => first | k_is | kernel_rfl | rfl | decide +kernel | decide); (case k_law_round => first | k_is | kernel_rfl | rfl | decide +kernel | decide); (case a_law_sums => first | k_is | kernel_rfl | rfl | decide +kernel | decide); (case l_law_sums => first | k_is | kernel_rfl | rfl | decide +kernel | decide); (case c_law_sums => first | k_is | kernel_rfl | rfl | decide +kernel | decide); (case k_law_sums => first | k_is | kernel_rfl | rfl | decide +kernel | decide); (case a_law_divisor => first | k_is | kernel_rfl | rfl | decide +kernel | decide); (case l_law_divisor => first | k_is | kernel_rfl | rfl | decide +kernel | decide); (case c_law_divisor => first | k_is | kernel_rfl | rfl | decide +kernel | decide); (case k_law_divisor => first | k_is | kernel_rfl | rfl | decide +kernel | decide); (case a_law_pair => first | k_is | kernel_rfl | rfl | decide +kernel | decide); (case l_law_pair => first | k_is | kernel_rfl | rfl | decide +kernel | decide); (case c_law_pair => first | k_is | kernel_rfl | rfl | decide +kernel | decide); (case k_law_pair => first | k_is | kernel_rfl | rfl | decide +kernel | decide); (case a_law_crossed => first | k_is | kernel_rfl | rfl | decide +kernel | decide); (case l_law_crossed => first | k_is | kernel_rfl | rfl | decide +kernel | decide); (case c_law_crossed => first | k_is | kernel_rfl | rfl | decide +kernel | decide); (case k_law_crossed => first | k_is | kernel_rfl | rfl | decide +kernel | decide); (case a_law_is_even => first | k_is | kernel_rfl | rfl | decide +kernel | decide); (case l_law_is_even => first | k_is | kernel_rfl | rfl | decide +kernel | decide); (case c_law_is_even => first | k_is | kernel_rfl | rfl | decide +kernel | decide); (case k_law_is_even => first | k_is | kernel_rfl | rfl | decide +kernel | decide); (case bisinstance => first | k_is | kernel_rfl | rfl | decide +kernel | decide); (case bint => first | k_is | kernel_rfl | rfl | decide +kernel | decide); (case bbool => first | k_is | kernel_rfl | rfl | decide +kernel | decide); (case bstr => first | k_is | kernel_rfl | rfl | decide +kernel | decide); (case ball => first | k_is | kernel_rfl | rfl | decide +kernel | decide); (case bany => first | k_is | kernel_rfl | rfl | decide +kernel | decide); (case bzip => first | k_is | kernel_rfl | rfl | decide +kernel | decide); (case blen => first | k_is | kernel_rfl | rfl | decide +kernel | decide); (case brange => first | k_is | kernel_rfl | rfl | decide +kernel | decide); (case bmin => first | k_is | kernel_rfl | rfl | decide +kernel | decide); (case btuple => first | k_is | kernel_rfl | rfl | decide +kernel | decide); (case babs => first | k_is | kernel_rfl | rfl | decide +kernel | decide); (case bmax => first | k_is | kernel_rfl | rfl | decide +kernel | decide); (case brepr => first | k_is | kernel_rfl | rfl | decide +kernel | decide); (case vMAX_RANK => first | k_is | kernel_rfl | rfl | decide +kernel | decide); (case vLETTER_ORDER => first | k_is | kernel_rfl | rfl | decide +kernel | decide); (case vMAX_WORD => first | k_is | kernel_rfl | rfl | decide +kernel | decide); (case vMAX_LENGTH => first | k_is | kernel_rfl | rfl | decide +kernel | decide); (case zq_BadRank => first | k_is | kernel_rfl | rfl | decide +kernel | decide); (case zq_BadPair => first | k_is | kernel_rfl | rfl | decide +kernel | decide); (case zhu_gcd => first | k_is | kernel_rfl | rfl | decide +kernel | decide)
